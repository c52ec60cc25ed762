/- Package keys: the keys that a plain list hasn't. -/
import Derived.Test.YtnlmhcfkipkegaaMay4
namespace Go.Proofs.Ytnlmhcfkipkegaa
open Go.RowKit

/-- Under way: the list so far lies behind block O, the next key in block N. -/
structure GapSt (w0 w : World) (O N B : Nat) (A : Option Addr) (m c : Nat) (next : Int) (out : List Span) : Prop where
  box : Bk w O 39 #[.slice A m c]
  own : w.ownsRow B 77 2 (.slice A m c) m (sps out)
  len : out.length = m
  nx : Bk w N 3 #[.int .i64 next]
  fr : Fr No w0 w
  sz : B ≤ w.heap.size
  o : w0.heap.size ≤ O ∧ O < B
  n : w0.heap.size ≤ N ∧ N < B
  ne : O ≠ N
def addL (out : List Span) (next hi : Int) : List Span := if mayB next hi = true then out ++ [(next, hi)] else out
theorem addL_len (out : List Span) (next hi : Int) : (addL out next hi).length ≤ out.length + 1 := by
  unfold addL
  split
  · simp
  · omega
theorem mayB_gap {next hi : Int} (h0 : 0 ≤ next) (h1 : hi ≤ 999) : mayB next hi = true ↔ next ≤ hi := by
  simp only [mayB, decide_eq_true_eq]
  omega
theorem Gaps.round {p rest out : List Span} {s : Span} {next : Int} (h : Gaps p (s :: rest) next out) : Gaps (p ++ [s]) rest (s.2 + 1) (addL out next (s.1 - 1)) := by
  have h0 := h.lo
  have h1 := (h.tl.cons.1)
  unfold okSp at h1
  unfold addL
  by_cases hc : next ≤ s.1 - 1
  · rw [if_pos ((mayB_gap h0 (by omega)).2 hc)]
    exact h.step.1 hc
  · rw [if_neg (fun e => hc ((mayB_gap h0 (by omega)).1 e))]
    exact h.step.2 hc
theorem Gaps.end_ {p out : List Span} {next : Int} (h : Gaps p [] next out) : addL out next 999 = plainOf fun k => !keysOf p k := by
  have h0 := h.lo
  unfold addL
  by_cases hc : next ≤ 999
  · rw [if_pos ((mayB_gap h0 (by omega)).2 hc)]
    exact h.done.1 hc
  · rw [if_neg (fun e => hc ((mayB_gap h0 (by omega)).1 e))]
    exact h.done.2 hc
end Go.Proofs.Ytnlmhcfkipkegaa
