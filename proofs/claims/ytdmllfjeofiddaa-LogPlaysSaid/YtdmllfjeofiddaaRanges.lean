/- Several cells at once, out of and into a block that is known whole. -/
import Derived.Test.YtdmllfjeofiddaaLib
import Derived.Deep.MidRow
import Derived.Deep.RegionHeld3
namespace Go.Proofs.Ytdmllfjeofiddaa
open Go.RowKit

/-- Cells from o on, put into a row. -/
def putMany (cs : Array Value) : Nat → List Value → Array Value
  | _, [] => cs
  | o, v :: r => putMany (cs.setIfInBounds o v) (o + 1) r
theorem putMany_size (vs : List Value) : ∀ (cs : Array Value) (o : Nat), (putMany cs o vs).size = cs.size := by
  induction vs with
  | nil => intro cs o; rfl
  | cons v r ih => intro cs o; rw [putMany, ih]; simp
theorem putMany_at (vs : List Value) : ∀ (cs : Array Value) (o j : Nat), o + vs.length ≤ cs.size → (putMany cs o vs)[j]? = if o ≤ j ∧ j < o + vs.length then vs[j - o]? else cs[j]? := by
  induction vs with
  | nil => intro cs o j _; rw [if_neg (by simp)]; rfl
  | cons v r ih =>
    intro cs o j h
    rw [List.length_cons] at h
    rw [putMany, ih _ _ _ (by simp; omega), List.length_cons]
    by_cases h1 : o + 1 ≤ j ∧ j < o + 1 + r.length
    · rw [if_pos h1, if_pos (by omega)]
      obtain ⟨k, hk⟩ : ∃ k, j - o = k + 1 := ⟨j - o - 1, by omega⟩
      rw [hk, show j - (o + 1) = k by omega]
      rfl
    · rw [if_neg h1]
      by_cases h2 : j = o
      · subst h2
        rw [if_pos (by omega), Nat.sub_self, Array.getElem?_setIfInBounds, if_pos rfl, if_pos (by omega)]
        rfl
      · rw [if_neg (by omega), Array.getElem?_setIfInBounds, if_neg (fun e => h2 e.symm)]
section
variable {w w' : World} {g : Nat} {t : TypeId} {cs : Array Value} {S : Nat → Prop}
theorem Bk.putMany (vs : List Value) : ∀ {w : World} {cs : Array Value} (o : Nat), Bk w g t cs → Bk (w.setCells g o vs) g t (Ytdmllfjeofiddaa.putMany cs o vs) := by
  induction vs with
  | nil => intro w cs o h; exact h
  | cons v r ih => intro w cs o h; exact ih (o + 1) (h.put o v)
theorem Bk.range (h : Bk w g t cs) (o : Nat) (vs : List Value) (hv : ∀ j u, vs[j]? = some u → cs[o + j]? = some u) : w.rangeAt g o vs := fun j u hu => by
  rw [h.cell (o + j)]
  exact hv j u hu
theorem Bk.there (h : Bk w g t cs) (o n : Nat) (hn : o + n ≤ cs.size) : w.there g o n := fun j hj => by
  refine ⟨?_, h.frozen _⟩
  rw [h.cell (o + j), Array.getElem?_eq_getElem (by omega)]
  rfl
theorem Fr.setCells (vs : List Value) : ∀ {w : World} (o : Nat), Fr S w' w → (S g ∨ w'.heap.size ≤ g) → Fr S w' (w.setCells g o vs) := by
  induction vs with
  | nil => intro w o h _; exact h
  | cons v r ih => intro w o h hg; exact ih (o + 1) (h.setCell (p := ⟨g, o, none⟩) hg v) hg
theorem size_setCells (vs : List Value) : ∀ (w : World) (o : Nat), (w.setCells g o vs).heap.size = w.heap.size := by
  induction vs with
  | nil => intro w o; rfl
  | cons v r ih => intro w o; rw [World.setCells, ih]; simp [World.setCell]
theorem heap_setCells_other (vs : List Value) (k : Nat) (h : k ≠ g) : ∀ (w : World) (o : Nat), (w.setCells g o vs).heap[k]? = w.heap[k]? := by
  induction vs with
  | nil => intro w o; rfl
  | cons v r ih => intro w o; rw [World.setCells, ih, heap_setCell_other _ _ _ _ h]
theorem Bk.setCells_other {g' : Nat} (vs : List Value) (o : Nat) (h : Bk w g t cs) (hne : g ≠ g') : Bk (w.setCells g' o vs) g t cs := (heap_setCells_other vs g hne w o).trans h
theorem Bk.drew (h : Bk w g t cs) : Bk w.drew g t cs := h
theorem Bk.alloc (h : Bk w g t cs) (o : Obj) : Bk (w.alloc o) g t cs := (Below.heap_alloc w o g h.lt).trans h
theorem Bk.setCell_other {g' i : Nat} (h : Bk w g t cs) (hne : g ≠ g') (u : Value) : Bk (w.setCell ⟨g', i, none⟩ u) g t cs := (heap_setCell_other w _ _ _ hne).trans h
end
end Go.Proofs.Ytdmllfjeofiddaa
