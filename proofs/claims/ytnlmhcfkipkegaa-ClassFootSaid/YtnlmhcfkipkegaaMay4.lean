/- Package keys: whether a span may be; the closures that are handed to the library. -/
import Derived.Test.YtnlmhcfkipkegaaRef4
import Derived.Test.YtnlmhcfkipkegaaPln4
namespace Go.Proofs.Ytnlmhcfkipkegaa
open Go.RowKit

def mayB (a b : Int) : Bool := decide (0 ≤ a ∧ b ≤ 999 ∧ a ≤ b)
def hasB (l : List Span) (k : Int) : Bool := decide (0 ≤ k) && keysOf l k.toNat
def insB (s t : Nat → Bool) : Bool := !meets s (fun k => !t k)
def oneL (k : Int) : List Span := if 0 ≤ k ∧ k ≤ 999 then [(k, k)] else []
structure In4 (w : World) (A : Option Addr) (n : Nat) (l : List Span) : Prop where
  sl : Sl w w.heap.size A (sps l)
  len : l.length = n
  le : n ≤ 1048576
theorem kMay_any (a b : Int) (w : World) : Calls Try.prog 95 #[.agg #[.int .i64 a, .int .i64 b]] w fun e w' => e = .returned (.bool (mayB a b)) ∧ Fr No w w' := by
  by_cases h0 : 0 ≤ a
  · by_cases h1 : a ≤ b
    · by_cases h2 : b ≤ 999
      · have e : mayB a b = true := by simp only [mayB, decide_eq_true_eq]; exact ⟨h0, h2, h1⟩
        rw [e]
        go_enter Try.func95, Try.ntmps95
        go_wp2
        go_ret
        exact ⟨rfl, (Fr.refl _ _).alloc _⟩
      · have e : mayB a b = false := by simp only [mayB, decide_eq_false_iff_not]; omega
        rw [e]
        go_enter Try.func95, Try.ntmps95
        go_wp2
        go_ret
        exact ⟨rfl, (Fr.refl _ _).alloc _⟩
    · have e : mayB a b = false := by simp only [mayB, decide_eq_false_iff_not]; omega
      rw [e]
      go_enter Try.func95, Try.ntmps95
      go_wp2
      go_ret
      exact ⟨rfl, (Fr.refl _ _).alloc _⟩
  · have e : mayB a b = false := by simp only [mayB, decide_eq_false_iff_not]; omega
    rw [e]
    go_enter Try.func95, Try.ntmps95
    go_wp2
    go_ret
    exact ⟨rfl, (Fr.refl _ _).alloc _⟩
theorem mayB_ok (p : Span) : mayB p.1 p.2 = true ↔ okSp p := by
  simp only [mayB, decide_eq_true_eq, okSp]
  omega
theorem valid_snoc_yes (l : List Span) (p : Span) (h : mayB p.1 p.2 = true) : valid (l ++ [p]) = valid l ++ [p] := by
  have h2 := (mayB_ok p).1 h
  simp [valid, valid.mayB', h2.1, h2.2.1, h2.2.2]
theorem valid_snoc_no (l : List Span) (p : Span) (h : mayB p.1 p.2 = false) : valid (l ++ [p]) = valid l := by
  have h2 : ¬ okSp p := fun h3 => by rw [(mayB_ok p).2 h3] at h; cases h
  unfold okSp at h2
  simp [valid, valid.mayB']
  omega
theorem valid_app (l m : List Span) : valid (l ++ m) = valid l ++ valid m := by simp [valid]
theorem valid_le (l : List Span) : (valid l).length ≤ l.length := List.length_filter_le _ _
theorem sps_one (p : Span) : sps [p] = [.int .i64 p.1, .int .i64 p.2] := rfl
theorem sps_at (l : List Span) (i : Nat) (hi : i < l.length) : (sps l)[i * 2]? = some (.int .i64 l[i].1) ∧ (sps l)[i * 2 + 1]? = some (.int .i64 l[i].2) := by
  have h0 := flat_at spC 2 spC_len l i 0 hi (by omega)
  have h1 := flat_at spC 2 spC_len l i 1 hi (by omega)
  exact ⟨h0.trans rfl, h1.trans rfl⟩
/-- A new list of spans, in a row of its own. -/
def NewO (w : World) (zs : List Span) (e : Ending) (w' : World) : Prop :=
  ∃ A c, e = .returned (.slice A zs.length c) ∧ w'.ownsRow w.heap.size 77 2 (.slice A zs.length c) zs.length (sps zs) ∧ Fr No w w'
theorem own_cap {w : World} {B : Nat} {t : TypeId} {n c k : Nat} {A : Option Addr} {xs : List Value} (h : w.ownsRow B t k (.slice A n c) n xs) : n ≤ c := by
  obtain ⟨A3, c3, hv3, hc3, -⟩ := own_shape h
  injection hv3 with _ _ h3
  omega
theorem own_base {w : World} {B B' : Nat} {t : TypeId} {n k : Nat} {v : Value} {xs : List Value} (h : w.ownsRow B t k v n xs) (hB : B' ≤ B) : w.ownsRow B' t k v n xs := by
  refine ⟨h.1, ?_⟩
  rcases h.2 with h0 | ⟨g, cap, cur, hv, hb, r⟩
  · exact .inl h0
  · exact .inr ⟨g, cap, cur, hv, Nat.le_trans hB hb, r⟩
theorem NewO.s {w w' : World} {zs : List Span} {e : Ending} (h : NewO w zs e w') : NewS w zs e w' := by
  obtain ⟨A, c, h1, h2, h3⟩ := h
  exact ⟨A, c, h1, Sl.ofOwn h2, h3⟩
theorem own_cells {w : World} {B g n c : Nat} {l : List Span} {i : Nat} (h : w.ownsRow B 77 2 (.slice (some ⟨g, 0, none⟩) n c) n (sps l)) (hi : i < l.length) :
    w.cell? ⟨g, i * 2, none⟩ = some (.int .i64 l[i].1) ∧ w.cell? ⟨g, i * 2 + 1, none⟩ = some (.int .i64 l[i].2) ∧ w.frozen? ⟨g, i * 2 + 1, none⟩ = false := by
  have hl : l.length = n := by have := h.1; rw [sps_len] at this; omega
  obtain ⟨s0, s1⟩ := sps_at l i hi
  refine ⟨(h.cellAt _ (by omega)).trans s0, (h.cellAt _ (by omega)).trans s1, ?_⟩
  rcases h.2 with ⟨hv, _⟩ | ⟨g', cap', cur, hv, _, hgg, _⟩
  · cases hv
  · obtain ⟨rfl, -⟩ : g = g' ∧ True := by simp at hv; exact ⟨hv.1, trivial⟩
    exact Bk.frozen (t := 77) hgg _
end Go.Proofs.Ytnlmhcfkipkegaa
