/- What is read as an anchor. -/
import Derived.Test.YtcjbdoppphjpjaaRd8
import Derived.Test.YtcjbdoppphjpjaaAnp7
namespace Go.Proofs.Ytcjbdoppphjpjaa
open Go.ChangeShapes Go.WideShapes Go.ChangeAt Go.RowKit

section
variable {H : Type} {enc : TypeId × Value → H} {w : World}
set_option maxRecDepth 100000 in
theorem arg_anc7 {v : Value} {d : DataW H} {p : List MemPlace} {r : Reach} {b : Nat} (hv : Value.okWide Try.prog w r b 23 v) (h : DataW.Trod enc Try.prog w 0 (fun _ => true) true 23 v d p) :
    ∃ x : Anc, v = x.val ∧ x.I := by
  obtain ⟨cs, rfl, _⟩ := okWide_struct Try.underlying23 hv
  obtain ⟨fuel, hf⟩ := h
  have hs := rd_size Try.underlying23 hf
  obtain ⟨x1, e1, q1⟩ := rd_field Try.underlying23 hf 0 0 1 (by kernel_rfl) (by kernel_rfl) (rd_i64 Try.underlying3)
  obtain ⟨x2, e2, q2⟩ := rd_field Try.underlying23 hf 1 1 1 (by kernel_rfl) (by kernel_rfl) (rd_i64 Try.underlying3)
  obtain ⟨x3, e3, q3⟩ := rd_field Try.underlying23 hf 2 2 1 (by kernel_rfl) (by kernel_rfl) (rd_i64 Try.underlying3)
  obtain ⟨x4, e4, q4⟩ := rd_field Try.underlying23 hf 3 3 1 (by kernel_rfl) (by kernel_rfl) (rd_i64 Try.underlying3)
  have hC : Try.prog.cellsOf 23 = 4 := by kernel_rfl
  rw [hC] at hs
  obtain ⟨l⟩ := cs
  have hl : (Value.agg ⟨l⟩).cells.toList = l := rfl
  rw [hl] at hs e1 e2 e3 e4
  match l, hs with
  | [c0, c1, c2, c3], _ =>
    simp at e1 e2 e3 e4
    subst e1 e2 e3 e4
    exact ⟨⟨x1, x2, x3, x4⟩, rfl, ⟨q1, q2, q3, q4⟩⟩
end
end Go.Proofs.Ytcjbdoppphjpjaa
