/- What is read as spans. -/
import Derived.Test.YthincpklokgjhaaArgs
import Derived.Test.YthincpklokgjhaaLaw4
namespace Go.Proofs.Ythincpklokgjhaa
open Go.ChangeShapes Go.WideShapes Go.ChangeAt Go.RowKit

section
variable {H : Type} {enc : TypeId × Value → H} {w : World}
theorem rd_span : Rd enc Try.prog w 63 spC (fun _ => True) := by
  intro fuel cs y h
  have hs := rd_size Try.underlying63 h
  obtain ⟨a, e0, q0⟩ := rd_field Try.underlying63 h 0 0 1 (by kernel_rfl) (by kernel_rfl) (rd_i64 Try.underlying3)
  obtain ⟨b, e1, q1⟩ := rd_field Try.underlying63 h 1 1 1 (by kernel_rfl) (by kernel_rfl) (rd_i64 Try.underlying3)
  have hC : Try.prog.cellsOf 63 = 2 := by kernel_rfl
  rw [hC] at hs
  match cs, hs with
  | [c0, c1], _ =>
    simp at e0 e1
    subst e0 e1
    exact ⟨(a, b), rfl, trivial⟩
set_option maxRecDepth 100000 in
theorem arg_span {v : Value} {d : DataW H} {p : List MemPlace} {r : Reach} {b : Nat} (hv : Value.okWide Try.prog w r b 63 v) (h : DataW.Trod enc Try.prog w 0 (fun _ => true) true 63 v d p) :
    ∃ x y : Int, v = .agg #[.int .i64 x, .int .i64 y] ∧ (-9223372036854775808 ≤ x ∧ x < 9223372036854775808) ∧ (-9223372036854775808 ≤ y ∧ y < 9223372036854775808) := by
  obtain ⟨cs, rfl, _⟩ := okWide_struct Try.underlying63 hv
  obtain ⟨fuel, hf⟩ := h
  have hs := rd_size Try.underlying63 hf
  obtain ⟨a, e0, q0⟩ := rd_field Try.underlying63 hf 0 0 1 (by kernel_rfl) (by kernel_rfl) (rd_i64 Try.underlying3)
  obtain ⟨b, e1, q1⟩ := rd_field Try.underlying63 hf 1 1 1 (by kernel_rfl) (by kernel_rfl) (rd_i64 Try.underlying3)
  have hC : Try.prog.cellsOf 63 = 2 := by kernel_rfl
  rw [hC] at hs
  obtain ⟨l⟩ := cs
  have hl : (Value.agg ⟨l⟩).cells.toList = l := rfl
  rw [hl] at hs e0 e1
  match l, hs with
  | [c0, c1], _ =>
    simp at e0 e1
    subst e0 e1
    exact ⟨a, b, rfl, q0, q1⟩
end
theorem sps_flat (l : List Span) : l.flatMap spC = sps l := rfl
end Go.Proofs.Ythincpklokgjhaa
