/- Tables: a row of n values, told by a function. -/
import Derived.Test.YtdmllfjeofiddaaLib
namespace Go.Proofs.Ytdmllfjeofiddaa
open Go.RowKit

/-- A table of n values, as cells. -/
def tab (n : Nat) (f : Nat → Value) : Array Value := ((List.range n).map f).toArray
theorem tab_size (n : Nat) (f : Nat → Value) : (tab n f).size = n := by simp [tab]
theorem tab_at (n : Nat) (f : Nat → Value) (i : Nat) (hi : i < n) : (tab n f)[i]? = some (f i) := by simp [tab, hi]
theorem tab_congr (n : Nat) (f g : Nat → Value) (h : ∀ i, i < n → f i = g i) : tab n f = tab n g := by
  unfold tab
  congr 1
  exact List.map_congr_left (fun i hi => h i (by simpa using hi))
theorem tab_put (n : Nat) (f : Nat → Value) (i : Nat) (u : Value) : (tab n f).setIfInBounds i u = tab n (fun k => if k = i then u else f k) := by
  refine Array.ext_getElem? fun j => ?_
  rw [Array.getElem?_setIfInBounds, tab_size]
  by_cases hj : j < n
  · rw [tab_at n _ j hj, tab_at n _ j hj]
    by_cases h : i = j
    · subst h
      rw [if_pos rfl, if_pos hj, if_pos rfl]
    · rw [if_neg h, if_neg (fun e => h e.symm)]
  · rw [Array.getElem?_eq_none (by rw [tab_size]; omega), Array.getElem?_eq_none (by rw [tab_size]; omega)]
    split
    · rw [if_neg (by omega)]
    · rfl
theorem tab_one (n : Nat) (f : Nat → Value) (h : ∀ i, i < n → (f i).oneCell' = true) : (tab n f).all (·.oneCell') = true := by
  rw [Array.all_eq_true_iff_forall_mem]
  intro v hv
  simp [tab] at hv
  obtain ⟨i, hi, rfl⟩ := hv
  exact h i hi
end Go.Proofs.Ytdmllfjeofiddaa
