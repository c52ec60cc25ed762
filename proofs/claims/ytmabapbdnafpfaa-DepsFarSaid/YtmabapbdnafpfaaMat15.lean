/- A relation as it lies: rows of flags, each in a block of its own. -/
import Derived.Test.YtmabapbdnafpfaaDep15
import Derived.Test.YtmabapbdnafpfaaRef4
namespace Go.Proofs.Ytmabapbdnafpfaa
open Go.RowKit

/-- The rows' list: the first i of n are there. -/
def rowsA (n i : Nat) (g : Nat → Nat) : Array Value := ((List.range n).map fun j => if j < i then Value.slice (some ⟨g j, 0, none⟩) n n else Value.slice none 0 0).toArray
theorem rowsA_size (n i : Nat) (g : Nat → Nat) : (rowsA n i g).size = n := by simp [rowsA]
theorem rowsA_at {n i : Nat} (g : Nat → Nat) {j : Nat} (hj : j < n) : (rowsA n i g)[j]? = some (if j < i then Value.slice (some ⟨g j, 0, none⟩) n n else Value.slice none 0 0) := by simp [rowsA, hj]
theorem rowsA_made (n : Nat) (g : Nat → Nat) : madeCells #[Value.slice none 0 0] n = rowsA n 0 g := by
  refine Array.ext (by rw [size_madeCells, rowsA_size]) fun j h1 h2 => ?_
  simp [madeCells, rowsA, Nat.mod_one]
def updN (g : Nat → Nat) (i q : Nat) (j : Nat) : Nat := if j = i then q else g j
theorem rowsA_put {n i : Nat} (g : Nat → Nat) (q : Nat) : (rowsA n i g).setIfInBounds i (.slice (some ⟨q, 0, none⟩) n n) = rowsA n (i + 1) (updN g i q) := by
  refine Array.ext_getElem? fun j => ?_
  rw [Array.getElem?_setIfInBounds, rowsA_size]
  by_cases hj : j < n
  · rw [rowsA_at _ hj, rowsA_at _ hj]
    by_cases e : i = j
    · subst e
      rw [if_pos rfl, if_pos hj, if_pos (by omega)]
      simp [updN]
    · rw [if_neg e]
      by_cases h : j < i
      · rw [if_pos h, if_pos (by omega)]
        simp [updN, show ¬ j = i by omega]
      · rw [if_neg h, if_neg (by omega)]
  · rw [Array.getElem?_eq_none (by rw [rowsA_size]; omega), Array.getElem?_eq_none (by rw [rowsA_size]; omega)]
    by_cases e : i = j
    · rw [if_pos e, if_neg (by omega)]
    · rw [if_neg e]
/-- The first i rows of a relation of n; tr, tb: what rows and flags are. -/
structure MatB (w : World) (B : Nat) (tr tb : TypeId) (G n i : Nat) (g : Nat → Nat) (f : Nat → Nat → Bool) : Prop where
  rows : Bk w G tr (rowsA n i g)
  row : ∀ j, j < i → Bk w (g j) tb (flags n (f j))
  inj : ∀ j k, j < i → k < i → g j = g k → j = k
  new : B ≤ G ∧ ∀ j, j < i → B ≤ g j
section
variable {w w' : World} {B : Nat} {tr tb : TypeId} {G n i : Nat} {g : Nat → Nat} {f f' : Nat → Nat → Bool}
theorem MatB.since (h : MatB w B tr tb G n i g f) (hf : Fr No w w') : MatB w' B tr tb G n i g f := ⟨h.rows.fr hf (fun e => e), fun j hj => (h.row j hj).fr hf (fun e => e), h.inj, h.new⟩
theorem MatB.fr {S : Nat → Prop} (h : MatB w B tr tb G n i g f) (hf : Fr S w w') (h1 : ¬ S G) (h2 : ∀ j, j < i → ¬ S (g j)) : MatB w' B tr tb G n i g f := ⟨h.rows.fr hf h1, fun j hj => (h.row j hj).fr hf (h2 j hj), h.inj, h.new⟩
theorem MatB.congr (h : MatB w B tr tb G n i g f) (he : ∀ j k, j < i → k < n → f j k = f' j k) : MatB w B tr tb G n i g f' := ⟨h.rows, fun j hj => by rw [← flags_congr n (f j) (f' j) (fun k hk => he j k hj hk)]; exact h.row j hj, h.inj, h.new⟩
theorem MatB.apart (h : MatB w B tr tb G n i g f) (ht : tr ≠ tb) {j : Nat} (hj : j < i) : g j ≠ G := fun e => Bk.apart h.rows (h.row j hj) ht e.symm
/-- What lies in the rows' list, and in a row. -/
theorem MatB.cellR (h : MatB w B tr tb G n i g f) {j : Nat} (hj : j < i) (hn : i ≤ n) : w.cell? ⟨G, j, none⟩ = some (.slice (some ⟨g j, 0, none⟩) n n) := by
  rw [h.rows.cell j, rowsA_at g (by omega), if_pos hj]
theorem MatB.cellB (h : MatB w B tr tb G n i g f) {j k : Nat} (hj : j < i) (hk : k < n) : w.cell? ⟨g j, k, none⟩ = some (.bool (f j k)) := by
  rw [(h.row j hj).cell k, flags_at n _ k hk]
/-- None is there yet. -/
theorem MatB.start (w : World) (B : Nat) (tr tb : TypeId) (n : Nat) (hB : B ≤ w.heap.size) : MatB (w.alloc (.cells (rowsA n 0 fun _ => 0) tr)) B tr tb w.heap.size n 0 (fun _ => 0) fun _ _ => false :=
  ⟨Bk.made w tr _, fun j hj => by omega, fun j k hj => by omega, hB, fun j hj => by omega⟩
/-- One row more, made just now. -/
theorem MatB.more (h : MatB w B tr tb G n i g f) (ht : tr ≠ tb) (q : Nat) {W : World} (hW : Fr No w W) (hq : Bk W q tb (flags n (f' i))) (hqn : w.heap.size ≤ q) (hBw : B ≤ w.heap.size) (hff : ∀ j, j < i → ∀ k, k < n → f j k = f' j k) :
    MatB (W.setCell ⟨G, i, none⟩ (.slice (some ⟨q, 0, none⟩) n n)) B tr tb G n (i + 1) (updN g i q) f' := by
  have h0 := h.since hW
  have hX : Fr (fun k => k = G) W (W.setCell ⟨G, i, none⟩ (.slice (some ⟨q, 0, none⟩) n n)) := (Fr.refl (fun k => k = G) W).setCell (.inl rfl) _
  have hlt : ∀ j, j < i → g j < w.heap.size := fun j hj => (h.row j hj).lt
  refine ⟨?_, fun j hj => ?_, fun j k hj hk e => ?_, h.new.1, fun j hj => ?_⟩
  · rw [← rowsA_put]
    exact h0.rows.put i _
  · by_cases e : j = i
    · subst e
      rw [show updN g j q j = q by simp [updN]]
      exact hq.fr hX (fun e => Bk.apart h0.rows hq ht (show G = q from (show q = G from e).symm))
    · rw [show updN g i q j = g j by simp [updN, e], ← flags_congr n (f j) (f' j) (fun k hk => hff j (by omega) k hk)]
      exact (h0.row j (by omega)).fr hX (fun e2 => h0.apart ht (show j < i by omega) e2)
  · by_cases e1 : j = i
    · by_cases e2 : k = i
      · omega
      · rw [e1, show updN g i q i = q by simp [updN], show updN g i q k = g k by simp [updN, e2]] at e
        have := hlt k (by omega)
        omega
    · by_cases e2 : k = i
      · rw [e2, show updN g i q i = q by simp [updN], show updN g i q j = g j by simp [updN, e1]] at e
        have := hlt j (by omega)
        omega
      · rw [show updN g i q j = g j by simp [updN, e1], show updN g i q k = g k by simp [updN, e2]] at e
        exact h.inj j k (by omega) (by omega) e
  · by_cases e : j = i
    · rw [e, show updN g i q i = q by simp [updN]]
      omega
    · rw [show updN g i q j = g j by simp [updN, e]]
      exact h.new.2 j (by omega)
/-- One flag is set. -/
theorem MatB.put (h : MatB w B tr tb G n i g f) (ht : tr ≠ tb) {a k : Nat} (ha : a < i) (b : Bool) : MatB (w.setCell ⟨g a, k, none⟩ (.bool b)) B tr tb G n i g (fun j => if j = a then upd (f a) k b else f j) := by
  have hX : Fr (fun j => j = g a) w (w.setCell ⟨g a, k, none⟩ (.bool b)) := (Fr.refl (fun j => j = g a) w).setCell (.inl rfl) _
  refine ⟨h.rows.fr hX (fun e => h.apart ht ha (show G = g a from e).symm), fun j hj => ?_, h.inj, h.new⟩
  by_cases e : j = a
  · subst e
    rw [if_pos rfl, ← flags_put]
    exact (h.row j hj).put k (.bool b)
  · rw [if_neg e]
    exact (h.row j hj).fr hX (fun e2 => e (h.inj j a hj ha e2))
/-- From the beginning to there: what is new alone has turned. -/
theorem MatB.frame {a : World} (h : MatB w a.heap.size tr tb G n i g f) (hf : Fr No a w) {k : Nat} {j : Nat} (hj : j < i) (u : Value) : Fr No a (w.setCell ⟨g j, k, none⟩ u) := hf.setCell (.inr (h.new.2 j hj)) u
end
end Go.Proofs.Ytmabapbdnafpfaa
