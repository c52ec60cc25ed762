/- More plain words for memory: rows of words and of bytes, read; rows just made; a store into what is owned. -/
import Derived.Test.YtnlmhcfkipkegaaLib
namespace Go.Proofs.Ytnlmhcfkipkegaa
open Go.RowKit

theorem u64s_at (xs : List Nat) (k : Nat) (hk : k < xs.length) : (u64s xs)[k]? = some (.int .u64 xs[k]) := by simp [u64s, hk]
theorem Sl.word {w : World} {B : Nat} {A : Option Addr} {xs : List Nat} (h : Sl w B A (u64s xs)) {k : Nat} (hk : k < xs.length) : ∃ ad, A = some ad ∧ w.cell? (ad.add k) = some (.int .u64 xs[k]) := by
  obtain ⟨ad, e, _, hc⟩ := h (by intro e; simp [u64s] at e; subst e; simp at hk)
  exact ⟨ad, e, hc k _ (u64s_at xs k hk)⟩

theorem Sl.wordB {w : World} {B : Nat} {A : Option Addr} {xs : List Nat} (h : Sl w B A (u64s xs)) {k : Nat} (hk : k < xs.length) : ∃ ad, A = some ad ∧ ad.block < B ∧ w.cell? (ad.add k) = some (.int .u64 xs[k]) := by
  obtain ⟨ad, e, hb, hc⟩ := h (by intro e; simp [u64s] at e; subst e; simp at hk)
  exact ⟨ad, e, hb, hc k _ (u64s_at xs k hk)⟩

theorem u8s_one (xs : List Nat) : ∀ u ∈ u8s xs, u.oneCell' = true := by
  intro u hu
  obtain ⟨_, _, rfl⟩ := List.mem_map.1 hu
  rfl
theorem u8s_at (xs : List Nat) (k : Nat) (hk : k < xs.length) : (u8s xs)[k]? = some (.int .u8 xs[k]) := by simp [u8s, hk]
theorem u8s_flat (xs : List Nat) : (xs.flatMap fun n : Nat => [Value.int .u8 (n : Int)]) = u8s xs := by
  induction xs with
  | nil => rfl
  | cons x r ih => rw [List.flatMap_cons, ih]; rfl
theorem Sl.byteB {w : World} {B : Nat} {A : Option Addr} {xs : List Nat} (h : Sl w B A (u8s xs)) {k : Nat} (hk : k < xs.length) : ∃ ad, A = some ad ∧ ad.block < B ∧ w.cell? (ad.add k) = some (.int .u8 xs[k]) := by
  obtain ⟨ad, e, hb, hc⟩ := h (by intro e; simp [u8s] at e; subst e; simp at hk)
  exact ⟨ad, e, hb, hc k _ (u8s_at xs k hk)⟩

theorem Sl.madeF (w : World) (t : TypeId) (cs : Array Value) (fr : Nat × Nat) : Sl (w.alloc (.cells cs t fr)) (w.heap.size + 1) (some ⟨w.heap.size, 0, none⟩) cs.toList := by
  intro _
  refine ⟨_, rfl, by simp, fun j u hu => ?_⟩
  have e : (⟨w.heap.size, 0, none⟩ : Addr).add j = ⟨w.heap.size, j, none⟩ := by cases j <;> simp [Addr.add]
  rw [e, cell_of_row (w.alloc (.cells cs t fr)) w.heap.size j cs t fr (heap_alloc_new w _)]
  simpa using hu
theorem Sl.made (w : World) (t : TypeId) (cs : Array Value) : Sl (w.alloc (.cells cs t)) (w.heap.size + 1) (some ⟨w.heap.size, 0, none⟩) cs.toList := Sl.madeF w t cs (0, 0)

/-- A store into what is owned. -/
theorem own_set {w : World} {base size n c g : Nat} {e : TypeId} {xs : List Value} (h : w.ownsRow base e size (.slice (some ⟨g, 0, none⟩) n c) n xs) (i : Nat) (u : Value) :
    (w.setCell ⟨g, i, none⟩ u).ownsRow base e size (.slice (some ⟨g, 0, none⟩) n c) n (xs.set i u) := by
  refine ⟨by rw [List.length_set]; exact h.1, ?_⟩
  rcases h.2 with ⟨hv, _⟩ | ⟨g', cap, cur, hv, hb, hg, h1, h2, h3, h4⟩
  · cases hv
  · obtain ⟨rfl, rfl⟩ : g = g' ∧ c = cap := by simpa using hv
    refine .inr ⟨g, c, cur.setIfInBounds i u, rfl, hb, heap_setCell_same w g i cur e u hg, h1, h2, by simpa using h3, ?_⟩
    rw [Array.toList_setIfInBounds, List.take_set, h4]

/-- A list of words that came in, and how far the world has gone since. -/
theorem Sl.since {w W : World} {A : Option Addr} {xs : List Value} (h : Sl w w.heap.size A xs) (hf : Fr No w W) : Sl W W.heap.size A xs := (h.fr hf (Nat.le_refl _) (fun _ _ _ e => e)).more hf.size


/-- One new element of several cells behind what is owned, as one step of the walk. -/
theorem wpList_append_elem {P : Program} {w : World} {ops : Array Oper} {rest : List Oper} {o : Oper} {a : Act} {Q : Exit → Act → World → Prop} (hgd : o.guard = none) (s x : Operand) (t : TypeId)
    (ho : o.op = .call { callee := .builtin .append, args := #[s, x], argTypes := #[t, t] })
    (base : Nat) (e : TypeId) (z : Value) (size bytes : Nat) (ht : P.underlying t = some (.slice e)) (hinfo : (P.info? e).map (fun i => (i.zero, i.size, i.bytes)) = some (some z, size, bytes)) (hzs : z.cells.size = size) (hsz : 0 < size)
    (v : Value) (n : Nat) (xs : List Value) (us : Array Value) (hus : us.size = size) (hu : ∀ u ∈ us.toList, u.oneCell' = true) (hs : a.eval s = v) (H : Nat) (hH : w.heap.size = H) (hx : a.eval x = .slice (some ⟨H, 0, none⟩) 1 1) (hown : w.ownsRow base e size v n xs)
    (h63 : n + 1 ≤ maxLen) (hbytes : (n + 1) * bytes ≤ 140737488355328) (hbase : base ≤ w.heap.size)
    (h : ∀ A' c' w', w'.ownsRow base e size (.slice A' (n + 1) c') (n + 1) (xs ++ us.toList) → Fr (fun k => v.ownBlock = some k) w w' →
      ((Value.slice A' (n + 1) c').ownBlock = v.ownBlock ∨ ∃ k, (Value.slice A' (n + 1) c').ownBlock = some k ∧ w.heap.size ≤ k) → wpList P ops Q rest (a.put o.dst (.slice A' (n + 1) c')) w') :
    wpList P ops Q (o :: rest) a (w.alloc (.cells us e)) := by
  subst hH
  obtain ⟨i, hi, hz, hz1, hz2⟩ := info_parts hinfo
  refine wpList_append_src _ hgd s x t ho base e i z size bytes ht hi hz hz1 hz2 hzs hsz v n xs hs (hown.alloc _) (w.heap.size + 1) _ 1 1 us.toList hx (by simp [hus]) (Sl.made w e us) hu h63 hbytes (by simp; omega) ?_
  intro v' w' q1 q2 q3
  obtain ⟨A', c', rfl, -, -, -⟩ := own_shape q1
  refine h A' c' w' q1 (((Fr.refl _ w).alloc _).grown q2 (fun k hk => .inl hk)) ?_
  rcases q3 with q3 | q3
  · exact .inl q3
  · exact .inr ⟨_, q3, by simp⟩
end Go.Proofs.Ytnlmhcfkipkegaa
/- Two answers that are the same. No program is spoken of. -/
namespace Go.Proofs.Ytnlmhcfkipkegaa
open Go.RowKit

theorem val_bool {a b : Bool} (h : a = true ↔ b = true) : Ending.returned (Value.bool a) = Ending.returned (Value.bool b) := by rw [Bool.eq_iff_iff.2 h]
end Go.Proofs.Ytnlmhcfkipkegaa
/- The cells of small blocks, one by one. No program is spoken of. -/
namespace Go.Proofs.Ytnlmhcfkipkegaa
open Go.RowKit

theorem w64_lt {u : Nat} (h : u < 9223372036854775808) : wrap64 (u : Int) = (u : Int) := by unfold wrap64; omega
theorem w64_I (u : Int) : -9223372036854775808 ≤ wrap64 u ∧ wrap64 u < 9223372036854775808 := by unfold wrap64; omega
theorem w64_pos {u : Nat} (h2 : u < 18446744073709551616) (h : 0 ≤ wrap64 (u : Int)) : wrap64 (u : Int) = (u : Int) := by unfold wrap64 at *; omega
section
variable {w : World} {g : Nat} {t : TypeId} {c0 c1 c2 c3 c4 c5 c6 c7 : Value}
theorem bk8 (h : Bk w g t #[c0, c1, c2, c3, c4, c5, c6, c7]) :
    w.cell? ⟨g, 0, none⟩ = some c0 ∧ w.cell? ⟨g, 1, none⟩ = some c1 ∧ w.cell? ⟨g, 2, none⟩ = some c2 ∧ w.cell? ⟨g, 3, none⟩ = some c3 ∧ w.cell? ⟨g, 4, none⟩ = some c4 ∧ w.cell? ⟨g, 5, none⟩ = some c5 ∧ w.cell? ⟨g, 6, none⟩ = some c6 ∧ w.cell? ⟨g, 7, none⟩ = some c7 :=
  ⟨h.cell 0, h.cell 1, h.cell 2, h.cell 3, h.cell 4, h.cell 5, h.cell 6, h.cell 7⟩
theorem bk4 (h : Bk w g t #[c0, c1, c2, c3]) : w.cell? ⟨g, 0, none⟩ = some c0 ∧ w.cell? ⟨g, 1, none⟩ = some c1 ∧ w.cell? ⟨g, 2, none⟩ = some c2 ∧ w.cell? ⟨g, 3, none⟩ = some c3 := ⟨h.cell 0, h.cell 1, h.cell 2, h.cell 3⟩
theorem fz4 (h : Bk w g t #[c0, c1, c2, c3]) : w.frozen? ⟨g, 0, none⟩ = false ∧ w.frozen? ⟨g, 1, none⟩ = false ∧ w.frozen? ⟨g, 2, none⟩ = false ∧ w.frozen? ⟨g, 3, none⟩ = false := ⟨h.frozen 0, h.frozen 1, h.frozen 2, h.frozen 3⟩
end
end Go.Proofs.Ytnlmhcfkipkegaa
