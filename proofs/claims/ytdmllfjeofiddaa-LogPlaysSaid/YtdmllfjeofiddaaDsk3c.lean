/- A device of package disk: what was written is settled. -/
import Derived.Test.YtdmllfjeofiddaaDsk3a
import Derived.Deep.RegionHeld3
namespace Go.Proofs.Ytdmllfjeofiddaa
open Go.RowKit

/-- What lasts, once what f tells has been settled. -/
def settled (fk : Nat → Option Value) (left : Nat → Bool) (s f : Nat → List Nat) (i : Nat) : List Nat := if (fk i).isSome = true ∧ left i = false then s i else f i
theorem settled_start (fk : Nat → Option Value) (s f : Nat → List Nat) (n i : Nat) (hi : i < n) : f i = settled fk (fun i => decide (i < n) && (fk i).isSome) s f i := by
  unfold settled
  rw [if_neg]
  rintro ⟨h1, h2⟩
  simp [hi, h1] at h2
theorem settled_step {fk : Nat → Option Value} {left : Nat → Bool} {s f : Nat → List Nat} {i : Nat} (h : (fk i).isSome = true) (k : Nat) : upd (settled fk left s f) i (s i) k = settled fk (upd left i false) s f k := by
  unfold settled
  by_cases e : k = i
  · subst e
    rw [upd_same, upd_same, if_pos ⟨h, rfl⟩]
  · rw [upd_other _ _ _ _ e, upd_other _ _ _ _ e]
theorem settled_sec {fk : Nat → Option Value} {left : Nat → Bool} {s f : Nat → List Nat} {i : Nat} (hs : (fk i).isSome = true → Sec (s i)) (hf : Sec (f i)) : Sec (settled fk left s f i) := by
  unfold settled
  split
  · next h => exact hs h.1
  · exact hf
section
variable {d L m mk c n : Nat} {g fk : Nat → Option Value} {s f : Nat → List Nat} {x y : Value}
set_option maxRecDepth 100000 in
set_option maxHeartbeats 4000000 in
theorem dSettle (w : World) (hself : Bk w d 73 #[.slice (some ⟨L, 0, none⟩) n c, .map (some m), x, y]) (hla : Lb w L n c f) (hm : MI Try.prog 3 w m n g) (hk : MI Try.prog 3 w mk n fk)
    (hfk : ∀ i v, i < n → fk i = some v → v = secV (s i) ∧ Sec (s i)) (hf8 : ∀ i, i < n → Sec (f i)) (_hn : n ≤ 4096) :
    Calls Try.prog 43 #[.pointer (some ⟨d, 0, none⟩), .map (some mk)] w fun e w' => e = .returned (.tuple #[]) ∧ Lb w' L n c (settled fk (fun _ => false) s f) ∧ MI Try.prog 3 w' m n (fun _ => none) ∧ Fr (fun k => k = L ∨ k = m) w w' := by
  obtain ⟨w1, cnt, hrun, hMR, hf1, hsz⟩ := hk.range int_k map_t
  have hdL : d ≠ L := by
    obtain ⟨cur, hb, _⟩ := hla
    exact hself.apart hb (by decide)
  have hmL : m ≠ L := by
    obtain ⟨cur, hb, _⟩ := hla
    exact hm.apart hb
  have hmkL : mk ≠ L := by
    obtain ⟨cur, hb, _⟩ := hla
    exact hk.apart hb
  have hLlt := hla.lt
  have hnc : n ≤ c := by
    obtain ⟨_, _, _, h, _⟩ := hla
    exact h
  have Hm := Lib.hid hm
  have Hla := Lib.hid (hla.fr hf1 (fun e => e))
  have Hf1 : Hid (Fr (fun k => k = L) w w1) := Lib.hid (hf1.weak (fun _ _ e => e.elim))
  clear hk hm hla hf1
  go_enter Try.func43, Try.ntmps43
  go_wp2
  go_loopw [4] (fun _ wr => ∃ left cnt, MR Try.prog 3 wr mk w.heap.size n fk left cnt ∧ Lb wr L n c (settled fk left s f) ∧ Fr (fun k => k = L) w wr) (fun _ wr => wr.rangeLeft mk w.heap.size)
  case atStart => exact ⟨_, _, hMR, Hla.out.congr (fun i hi => settled_start fk s f n i hi), Hf1.out⟩
  case round =>
    clear hMR hrun hsz
    obtain ⟨left, cnt, hMR, hL, hfr⟩ := hrel
    have hmeas := hMR.left_eq
    have hrL : w.heap.size ≠ L := by omega
    rcases hMR.next int_k 0 with ⟨h0, hno, hnx⟩ | ⟨i, v, w2, cnt', hi, hli, hv, hnx, hMR', hlt, hf2, hsz2, hen⟩
    · have hself' : Bk wr d 73 #[.slice (some ⟨L, 0, none⟩) n c, .map (some m), x, y] := hself.fr hfr hdL
      have c1 : wr.cell? ⟨d, 1, none⟩ = some (.map (some m)) := hself'.cell 1
      obtain ⟨w3, hcl, hm3, hf3⟩ := (Hm.out.fr hfr hmL).clear (ty := 0) map_t
      have e0 : left = fun _ => false := funext hno
      subst e0
      have HL := Lib.hid (hL.fr hf3 (fun e => hmL e.symm))
      have Hm3 := Lib.hid hm3
      have Hfr : Hid (Fr (fun k => k = L ∨ k = m) w w3) := Lib.hid ((hfr.weak (S' := fun k => k = L ∨ k = m) (fun _ _ e => .inl e)).trans' hf3 (fun _ _ e => .inr e))
      clear hMR hL hfr hself hself' hm3 hf3 Hm Hla
      go_wp2
      go_end0
      exact ⟨rfl, HL.out, Hm3.out, Hfr.out⟩
    · obtain ⟨rfl, hsi⟩ := hfk i v hi hv
      obtain ⟨x0, x1, x2, x3, x4, x5, x6, x7, hx⟩ := sec_lit hsi
      rw [hx] at hnx hen
      simp only [secV, secA, u64s, List.map_cons, List.map_nil] at hnx hen
      have hfw2 : Fr (fun k => k = L) w w2 := hfr.trans' hf2 (fun k hk e => by omega)
      have hself' := fun o => (hself.fr hfw2 hdL).alloc o
      have c0 : ∀ o, (w2.alloc o).cell? ⟨d, 0, none⟩ = some (.slice (some ⟨L, 0, none⟩) n c) := fun o => (hself' o).cell 0
      have hL2 := hL.fr hf2 (fun e => hrL e.symm)
      obtain ⟨y0, y1, y2, y3, y4, y5, y6, y7, hy⟩ := sec_lit (settled_sec (fk := fk) (left := left) (s := s) (f := f) (i := i) (fun h => (hfk i _ hi hv).2) (hf8 i hi))
      have hc := fun o => (hL2.alloc o).sec8 hi hy
      have e0 := fun o => (hc o).1
      have e1 := fun o => (hc o).2.1
      have e2 := fun o => (hc o).2.2.1
      have e3 := fun o => (hc o).2.2.2.1
      have e4 := fun o => (hc o).2.2.2.2.1
      have e5 := fun o => (hc o).2.2.2.2.2.1
      have e6 := fun o => (hc o).2.2.2.2.2.2.1
      have e7 := fun o => (hc o).2.2.2.2.2.2.2
      have hfz := fun o k => (hL2.alloc o).frozen k
      have Hx := Lib.hid hx
      have HL := Lib.hid hL2
      have HM := Lib.hid hMR'
      have Hself := Lib.hid hself
      have Hfw := Lib.hid hfw2
      have Hv := Lib.hid hv
      clear hc hy hx hL hL2 hMR hMR' hself hself' hfr hfw2 hv hfk hf8 Hm Hla
      go_wp2
      go_region
      all_goals
        go_wp2
        have hfF : Fr (fun k => k = L) w2 (((w2.alloc (.cells (secA [x0, x1, x2, x3, x4, x5, x6, x7]) 41)).setCells L (i * 8) (u64s [x0, x1, x2, x3, x4, x5, x6, x7])).drew) := (((Fr.refl (fun k => k = L) w2).alloc _).setCells (g := L) _ (i * 8) (.inl rfl)).drew
        have hM := HM.out.fr hfF hmkL hrL
        have hLb := (HL.out.alloc (.cells (secA [x0, x1, x2, x3, x4, x5, x6, x7]) 41)).put hi (s := [x0, x1, x2, x3, x4, x5, x6, x7]) rfl
        exact ⟨⟨_, _, hM, (hLb.fr (S := No) (Fr.refl _ _).drew (fun e => e)).congr (fun k _ => by rw [← Hx.out]; exact settled_step (by rw [Hv.out]; rfl) k), Hfw.out.trans' hfF (fun _ _ e => e)⟩, by rw [hmeas]; exact Nat.lt_of_le_of_lt (Nat.le_of_eq hM.left_eq) hlt⟩
end
end Go.Proofs.Ytdmllfjeofiddaa
