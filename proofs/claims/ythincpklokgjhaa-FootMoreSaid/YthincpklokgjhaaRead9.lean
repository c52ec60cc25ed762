/- What is read as a template, as an instruction, as arguments. -/
import Derived.Test.YthincpklokgjhaaArgs
import Derived.Test.YthincpklokgjhaaPrg9
namespace Go.Proofs.Ythincpklokgjhaa
open Go.ChangeShapes Go.WideShapes Go.ChangeAt Go.RowKit

def kc2 (k : Int × Int) : List Value := [.int .i64 k.1, .int .i64 k.2]
section
variable {H : Type} {enc : TypeId × Value → H} {w : World}
set_option maxRecDepth 100000 in
theorem rd_key9 : Rd enc Try.prog w 58 kc2 (fun k => I64 k.1 ∧ I64 k.2) := by
  intro fuel cs y h
  have hs := rd_size Try.underlying58 h
  obtain ⟨a, e0, q0⟩ := rd_field Try.underlying58 h 0 0 1 (by kernel_rfl) (by kernel_rfl) (rd_i64 Try.underlying3)
  obtain ⟨b, e1, q1⟩ := rd_field Try.underlying58 h 1 1 1 (by kernel_rfl) (by kernel_rfl) (rd_i64 Try.underlying3)
  have hC : Try.prog.cellsOf 58 = 2 := by kernel_rfl
  rw [hC] at hs
  match cs, hs with
  | [c0, c1], _ =>
    simp at e0 e1
    subst e0 e1
    exact ⟨(a, b), rfl, q0, q1⟩
set_option maxRecDepth 100000 in
theorem arg_key9 {v : Value} {d : DataW H} {p : List MemPlace} {r : Reach} {b : Nat} (hv : Value.okWide Try.prog w r b 58 v) (h : DataW.Trod enc Try.prog w 0 (fun _ => true) true 58 v d p) :
    ∃ x y : Int, v = .agg #[.int .i64 x, .int .i64 y] ∧ I64 x ∧ I64 y := by
  obtain ⟨cs, rfl, _⟩ := okWide_struct Try.underlying58 hv
  obtain ⟨fuel, hf⟩ := h
  have hs := rd_size Try.underlying58 hf
  obtain ⟨a, e0, q0⟩ := rd_field Try.underlying58 hf 0 0 1 (by kernel_rfl) (by kernel_rfl) (rd_i64 Try.underlying3)
  obtain ⟨b, e1, q1⟩ := rd_field Try.underlying58 hf 1 1 1 (by kernel_rfl) (by kernel_rfl) (rd_i64 Try.underlying3)
  have hC : Try.prog.cellsOf 58 = 2 := by kernel_rfl
  rw [hC] at hs
  obtain ⟨l⟩ := cs
  have hl : (Value.agg ⟨l⟩).cells.toList = l := rfl
  rw [hl] at hs e0 e1
  match l, hs with
  | [c0, c1], _ =>
    simp at e0 e1
    subst e0 e1
    exact ⟨a, b, rfl, q0, q1⟩
end
end Go.Proofs.Ythincpklokgjhaa
