/- The document's own log: as it lies there; Open. -/
import Derived.Test.YtdmllfjeofiddaaRef8
import Derived.Test.YtdmllfjeofiddaaLsf6
namespace Go.Proofs.Ytdmllfjeofiddaa
open Go.RowKit

/-- The blocks of frames. -/
def FB (A : Option Addr) (xs : List FrV) : Nat → Prop := fun k => (∃ ad, A = some ad ∧ xs ≠ [] ∧ ad.block = k) ∨ ∃ x ∈ xs, ∃ ad, x.A = some ad ∧ x.ws ≠ [] ∧ ad.block = k
theorem flat_ne {xs : List FrV} (h : xs.flatMap FrV.cells ≠ []) : xs ≠ [] := by rintro rfl; exact h rfl
theorem Frs.frS {S : Nat → Prop} {w w' : World} {A : Option Addr} {xs : List FrV} (h : Frs w A xs) (hf : Fr S w w') (hs : ∀ k, FB A xs k → ¬ S k) : Frs w' A xs :=
  ⟨(h.sl.fr hf (Nat.le_refl _) (fun ad e hn => hs _ (.inl ⟨ad, e, flat_ne hn, rfl⟩))).more hf.size, fun x hx => by
    have q := h.fit x hx
    exact ⟨q.k1, q.k2, (q.sl.fr hf (Nat.le_refl _) (fun ad e hn => hs _ (.inr ⟨x, hx, ad, e, u64s_ne hn, rfl⟩))).more hf.size, q.lt, q.cap, q.cap2⟩⟩
theorem Frs.lt {w : World} {A : Option Addr} {xs : List FrV} (h : Frs w A xs) : ∀ k, FB A xs k → k < w.heap.size := by
  rintro k (⟨ad, e, hn, rfl⟩ | ⟨x, hx, ad, e, hn, rfl⟩)
  · obtain ⟨ad', e', hb, _⟩ := h.sl (by
      intro h0
      cases xs with
      | nil => exact hn rfl
      | cons x r => simp [FrV.cells] at h0)
    rw [e] at e'
    injection e' with e'
    rw [e']
    exact hb
  · obtain ⟨ad', e', hb, _⟩ := (h.fit x hx).sl (by
      intro h0
      apply hn
      simpa [u64s] using h0)
    rw [e] at e'
    injection e' with e'
    rw [e']
    exact hb
/-- A log of the document's own lies at lg; B are the blocks that it is read from. -/
structure RL (w : World) (B : Nat → Prop) (lg r : Nat) (M : Lg) : Prop where
  lies : ∃ (A : Option Addr) (c : Nat) (xs : List FrV), Bk w lg 69 #[.pointer (some ⟨r, 0, none⟩), .int .i64 M.q, .int .i64 M.n, .int .i64 M.ep, .slice A xs.length c] ∧ Frs w A xs ∧ xs.map FrV.f = M.L ∧ xs.length ≤ c ∧ c ≤ maxLen ∧ (∀ k, B k ↔ k = lg ∨ FB A xs k) ∧ ¬ FB A xs lg
theorem RL.fr {S B : Nat → Prop} {w w' : World} {lg r : Nat} {M : Lg} (h : RL w B lg r M) (hf : Fr S w w') (hs : ∀ k, B k → ¬ S k) : RL w' B lg r M := by
  obtain ⟨A, c, xs, h1, h2, h3, h4, h5, h6, h7⟩ := h.lies
  exact ⟨A, c, xs, h1.fr hf (hs _ ((h6 _).2 (.inl rfl))), h2.frS hf (fun k hk => hs k ((h6 k).2 (.inr hk))), h3, h4, h5, h6, h7⟩
theorem RL.lt {B : Nat → Prop} {w : World} {lg r : Nat} {M : Lg} (h : RL w B lg r M) : ∀ k, B k → k < w.heap.size := by
  obtain ⟨A, c, xs, h1, h2, h3, h4, h5, h6, h7⟩ := h.lies
  intro k hk
  rcases (h6 k).1 hk with rfl | hk
  · exact h1.lt
  · exact h2.lt k hk

/-- The first k words of the sector i cleared. -/
def clrK (i e k : Nat) (s : List Nat) : List Nat := (List.range 8).map fun j => if j < k ∧ e ≤ 8 * i + j then 0 else s.getD j 0
theorem clrK_zero {s : List Nat} (h : Sec s) (i e : Nat) : clrK i e 0 s = s := by
  conv => rhs; rw [sec_of_words h]
  unfold clrK
  exact List.map_congr_left fun j _ => by rw [if_neg (by omega)]
theorem clrK_all (i e : Nat) (s : List Nat) : clrK i e 8 s = clrS i e s := by
  unfold clrK clrS
  refine List.map_congr_left fun j hj => ?_
  simp only [List.mem_range] at hj
  simp [hj]
theorem clrK_at (i e k : Nat) (s : List Nat) (j : Nat) (hj : j < 8) : (clrK i e k s)[j]? = some (if j < k ∧ e ≤ 8 * i + j then 0 else s.getD j 0) := by simp [clrK, hj]
theorem clrK_skip (i e k : Nat) (s : List Nat) (h : ¬ e ≤ 8 * i + k) : clrK i e (k + 1) s = clrK i e k s := by
  unfold clrK
  refine List.map_congr_left fun j _ => ?_
  by_cases hj : j = k
  · subst hj
    rw [if_neg (by omega), if_neg (by omega)]
  · have : (j < k + 1 ∧ e ≤ 8 * i + j) ↔ (j < k ∧ e ≤ 8 * i + j) := by omega
    simp only [this]
theorem clrK_zero_word (i e k : Nat) (s : List Nat) (h : s.getD k 0 = 0) : clrK i e (k + 1) s = clrK i e k s := by
  unfold clrK
  refine List.map_congr_left fun j _ => ?_
  by_cases hj : j = k
  · subst hj
    rw [if_neg (show ¬ (j < j ∧ e ≤ 8 * i + j) by omega), h]
    split <;> rfl
  · have : (j < k + 1 ∧ e ≤ 8 * i + j) ↔ (j < k ∧ e ≤ 8 * i + j) := by omega
    simp only [this]
theorem clrK_put (i e k : Nat) (s : List Nat) (hk : k < 8) (h : e ≤ 8 * i + k) : (secA (clrK i e k s)).setIfInBounds k (.int .u64 0) = secA (clrK i e (k + 1) s) := by
  refine Array.ext_getElem? fun j => ?_
  have hz : (secA (clrK i e k s)).size = 8 := by simp [secA, u64s, clrK]
  rw [Array.getElem?_setIfInBounds, hz]
  have e1 : ∀ k, (secA (clrK i e k s))[j]? = ((clrK i e k s)[j]?).map fun (u : Nat) => Value.int .u64 (u : Int) := fun k => by simp [secA, u64s]
  by_cases hj : k = j
  · subst hj
    rw [if_pos rfl, if_pos hk, e1, clrK_at _ _ _ _ _ hk, if_pos ⟨by omega, h⟩]
    rfl
  · rw [if_neg hj, e1, e1]
    by_cases hj8 : j < 8
    · rw [clrK_at _ _ _ _ _ hj8, clrK_at _ _ _ _ _ hj8]
      have : (j < k + 1 ∧ e ≤ 8 * i + j) ↔ (j < k ∧ e ≤ 8 * i + j) := by omega
      simp only [this]
    · rw [List.getElem?_eq_none (by simp [clrK]; omega), List.getElem?_eq_none (by simp [clrK]; omega)]
theorem clrK_ne (i e k : Nat) (s : List Nat) (hk : k < 8) (h : e ≤ 8 * i + k) (hn : s.getD k 0 ≠ 0) : clrK i e (k + 1) s ≠ s := by
  intro he
  have h1 := clrK_at i e (k + 1) s k hk
  rw [he, if_pos ⟨by omega, h⟩] at h1
  apply hn
  rw [List.getD, h1]
  rfl
theorem clrK_word {w : World} {bx : Nat} {t : TypeId} {i e k : Nat} {s : List Nat} (h : Bk w bx t (secA (clrK i e k s))) (hk : k < 8) : w.cell? ⟨bx, k, none⟩ = some (.int .u64 (s.getD k 0 : Nat)) := by
  rw [h.cell]
  have e1 : (secA (clrK i e k s))[k]? = ((clrK i e k s)[k]?).map fun (u : Nat) => Value.int .u64 (u : Int) := by simp [secA, u64s]
  rw [e1, clrK_at _ _ _ _ _ hk, if_neg (by omega)]
  rfl
theorem clrD_ok {D : Dv} (h : D.Ok) (q m e : Nat) : (clrD D q m e).Ok := by
  refine ⟨h.la, fun i hi => ?_, fun i hi hd => ?_⟩
  · show Sec (if q ≤ i ∧ i < q + m then clrS (i - q) e (D.rd i) else D.rd i)
    split
    · exact clrS_sec (h.rd i hi) _ _
    · exact h.rd i hi
  · have hd' : (if (q ≤ i ∧ i < q + m) ∧ clrS (i - q) e (D.rd i) ≠ D.rd i then true else D.di i) = false := hd
    show (if q ≤ i ∧ i < q + m then clrS (i - q) e (D.rd i) else D.rd i) = D.la i
    split at hd'
    · cases hd'
    · next hc =>
      rw [← h.same i hi hd']
      split
      · next h1 => exact Classical.not_not.1 (fun h2 => hc ⟨h1, h2⟩)
      · rfl
end Go.Proofs.Ytdmllfjeofiddaa
