/- Lists of lists of numbers as they lie. -/
import Derived.Test.YtmabapbdnafpfaaDep15
import Derived.Test.YtmabapbdnafpfaaRef4
namespace Go.Proofs.Ytmabapbdnafpfaa
open Go.RowKit

/-- A list of numbers: where it lies, what stands in it, its room. -/
structure IL where
  A : Option Addr
  l : List Nat
  c : Nat
def IL.cell (x : IL) : Value := .slice x.A x.l.length x.c
def nums (l : List Nat) : List Value := l.map fun (k : Nat) => Value.int .i64 (k : Int)
theorem nums_len (l : List Nat) : (nums l).length = l.length := by simp [nums]
theorem nums_at (l : List Nat) {k : Nat} (hk : k < l.length) : (nums l)[k]? = some (.int .i64 ((l[k] : Nat) : Int)) := by simp [nums, hk]
theorem Sl.num {w : World} {B : Nat} {A : Option Addr} {l : List Nat} (h : Sl w B A (nums l)) {k : Nat} (hk : k < l.length) : ∃ ad, A = some ad ∧ ad.block < B ∧ w.cell? (ad.add k) = some (.int .i64 ((l[k] : Nat) : Int)) := by
  obtain ⟨ad, e, hb, hc⟩ := h (by intro e; simp [nums] at e; subst e; simp at hk)
  exact ⟨ad, e, hb, hc k _ (nums_at l hk)⟩
structure Ils (w : World) (A : Option Addr) (ls : List IL) : Prop where
  sl : Sl w w.heap.size A (ls.map IL.cell)
  all : ∀ x ∈ ls, Sl w w.heap.size x.A (nums x.l)
theorem Ils.since {w W : World} {A : Option Addr} {ls : List IL} (h : Ils w A ls) (hf : Fr No w W) : Ils W A ls := ⟨h.sl.since hf, fun x hx => (h.all x hx).since hf⟩
theorem Sl.il {w : World} {B : Nat} {A : Option Addr} {ls : List IL} (h : Sl w B A (ls.map IL.cell)) {k : Nat} (hk : k < ls.length) : ∃ ad, A = some ad ∧ ad.block < B ∧ w.cell? (ad.add k) = some (.slice ls[k].A ls[k].l.length ls[k].c) := by
  obtain ⟨ad, e, hb, hc⟩ := h (by intro e; simp at e; subst e; simp at hk)
  exact ⟨ad, e, hb, hc k _ (by simp [hk, IL.cell])⟩
/-- What Of tells of a history, as it lies. -/
def OfL (h : List Nd) (ls : List IL) : Prop := ls.map IL.l = (List.range h.length).map (depL h)
theorem OfL.len {h : List Nd} {ls : List IL} (e : OfL h ls) : ls.length = h.length := by
  have := congrArg List.length e
  simpa using this
theorem OfL.at {h : List Nd} {ls : List IL} (e : OfL h ls) {k : Nat} (hk : k < ls.length) : ls[k].l = depL h k := by
  have h1 : (ls.map IL.l)[k]? = ((List.range h.length).map (depL h))[k]? := by rw [e]
  have hl := e.len
  simpa [hk, show k < h.length by omega] using h1
/-- How many of the first are there; the next one of a rising list. -/
theorem filt_cnt (p : Nat → Bool) (n : Nat) : ((List.range n).filter p).length = cntB p n := by
  induction n with
  | zero => rfl
  | succ n ih =>
    rw [List.range_succ, List.filter_append, List.length_append, ih, cntB]
    by_cases e : p n = true
    · simp [e]
    · simp [e]
theorem filt_at (p : Nat → Bool) {n k : Nat} (hk : k < n) (hp : p k = true) : ((List.range n).filter p)[cntB p k]? = some k := by
  induction n with
  | zero => omega
  | succ n ih =>
    rw [List.range_succ, List.filter_append]
    by_cases e : k = n
    · subst e
      rw [List.getElem?_append_right (by rw [filt_cnt]; exact Nat.le_refl _), filt_cnt, Nat.sub_self]
      simp [hp]
    · have h1 := ih (by omega)
      have hlt := (List.getElem?_eq_some_iff.1 h1).1
      rw [List.getElem?_append_left hlt]
      exact h1
end Go.Proofs.Ytmabapbdnafpfaa
