/- What is read as a pair, and as what is done to a store. -/
import Derived.Test.YtenmiociinogeaaArgs
import Derived.Test.YtenmiociinogeaaFem5
namespace Go.Proofs.Ytenmiociinogeaa
open Go.ChangeShapes Go.WideShapes Go.ChangeAt Go.RowKit

section
variable {H : Type} {enc : TypeId × Value → H} {w : World}
theorem rd_pair5 : Rd enc Try.prog w 50 pr2 (fun x => -9223372036854775808 ≤ x.2 ∧ x.2 < 9223372036854775808) := by
  intro fuel cs y h
  have hs := rd_size Try.underlying50 h
  obtain ⟨a, e0, q0⟩ := rd_field Try.underlying50 h 0 0 1 (by kernel_rfl) (by kernel_rfl) (rd_i64 Try.underlying3)
  obtain ⟨b, e1, q1⟩ := rd_field Try.underlying50 h 1 1 1 (by kernel_rfl) (by kernel_rfl) (rd_i64 Try.underlying2)
  have hC : Try.prog.cellsOf 50 = 2 := by kernel_rfl
  rw [hC] at hs
  match cs, hs with
  | [c0, c1], _ =>
    simp at e0 e1
    subst e0 e1
    exact ⟨(a, b), rfl, q1⟩
theorem arg_pair5 {v : Value} {d : DataW H} {p : List MemPlace} {r : Reach} {b : Nat} (hv : Value.okWide Try.prog w r b 50 v) (h : DataW.Trod enc Try.prog w 0 (fun _ => true) true 50 v d p) :
    ∃ x y : Int, v = .agg #[.int .i64 x, .int .i64 y] ∧ (-9223372036854775808 ≤ y ∧ y < 9223372036854775808) := by
  obtain ⟨cs, rfl, _⟩ := okWide_struct Try.underlying50 hv
  obtain ⟨fuel, hf⟩ := h
  have hs := rd_size Try.underlying50 hf
  obtain ⟨a, e0, q0⟩ := rd_field Try.underlying50 hf 0 0 1 (by kernel_rfl) (by kernel_rfl) (rd_i64 Try.underlying3)
  obtain ⟨b, e1, q1⟩ := rd_field Try.underlying50 hf 1 1 1 (by kernel_rfl) (by kernel_rfl) (rd_i64 Try.underlying2)
  have hC : Try.prog.cellsOf 50 = 2 := by kernel_rfl
  rw [hC] at hs
  obtain ⟨l⟩ := cs
  have hl : (Value.agg ⟨l⟩).cells.toList = l := rfl
  rw [hl] at hs e0 e1
  match l, hs with
  | [c0, c1], _ =>
    simp at e0 e1
    subst e0 e1
    exact ⟨a, b, rfl, q1⟩
theorem rd_op5 : Rd enc Try.prog w 34 Op5.cells Op5.Fit := by
  intro fuel cs y h
  have hs := rd_size Try.underlying34 h
  obtain ⟨k, e0, q0⟩ := rd_field Try.underlying34 h 0 0 1 (by kernel_rfl) (by kernel_rfl) (rd_u8 Try.underlying5)
  obtain ⟨a, e1, q1⟩ := rd_field Try.underlying34 h 1 1 1 (by kernel_rfl) (by kernel_rfl) (rd_i64 Try.underlying3)
  obtain ⟨b, e2, q2⟩ := rd_field Try.underlying34 h 2 2 1 (by kernel_rfl) (by kernel_rfl) (rd_i64 Try.underlying2)
  have hC : Try.prog.cellsOf 34 = 3 := by kernel_rfl
  rw [hC] at hs
  match cs, hs with
  | [c0, c1, c2], _ =>
    simp at e0 e1 e2
    subst e0 e1 e2
    exact ⟨⟨k, a, b⟩, rfl, by constructor <;> first | exact q0 | exact q1 | exact q2⟩
end
theorem prs2_flat (l : List (Int × Int)) : l.flatMap pr2 = prs2 l := rfl
end Go.Proofs.Ytenmiociinogeaa
