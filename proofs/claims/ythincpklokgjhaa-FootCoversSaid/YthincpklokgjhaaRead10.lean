/- What is read as a span of templates. -/
import Derived.Test.YthincpklokgjhaaRead9
import Derived.Test.YthincpklokgjhaaPrg10
namespace Go.Proofs.Ythincpklokgjhaa
open Go.ChangeShapes Go.WideShapes Go.ChangeAt Go.RowKit

section
variable {H : Type} {enc : TypeId × Value → H} {w : World}
set_option maxRecDepth 100000 in
theorem rd_fsp10 : Rd enc Try.prog w 60 Fsp.cells Fsp.I := by
  intro fuel cs y h
  have hs := rd_size Try.underlying60 h
  obtain ⟨k, e0, q0⟩ := rd_field Try.underlying60 h 0 0 2 (by kernel_rfl) (by kernel_rfl) rd_key9
  obtain ⟨l, e1, q1⟩ := rd_field Try.underlying60 h 1 2 2 (by kernel_rfl) (by kernel_rfl) rd_key9
  obtain ⟨b, e2, -⟩ := rd_field Try.underlying60 h 2 4 1 (by kernel_rfl) (by kernel_rfl) (rd_bool Try.underlying4)
  have hC : Try.prog.cellsOf 60 = 5 := by kernel_rfl
  rw [hC] at hs
  obtain ⟨k1, k2⟩ := k
  obtain ⟨l1, l2⟩ := l
  match cs, hs with
  | [c0, c1, c2, c3, c4], _ =>
    simp [kc2] at e0 e1 e2
    obtain ⟨rfl, rfl⟩ := e0
    obtain ⟨rfl, rfl⟩ := e1
    subst e2
    exact ⟨⟨k1, k2, l1, l2, b⟩, rfl, ⟨q0.1, q0.2, q1.1, q1.2⟩⟩
set_option maxRecDepth 100000 in
theorem arg_fsp10 {v : Value} {d : DataW H} {p : List MemPlace} {r : Reach} {b : Nat} (hv : Value.okWide Try.prog w r b 60 v) (h : DataW.Trod enc Try.prog w 0 (fun _ => true) true 60 v d p) :
    ∃ f : Fsp, v = f.agg ∧ f.I := by
  obtain ⟨cs, rfl, _⟩ := okWide_struct Try.underlying60 hv
  obtain ⟨fuel, hf⟩ := h
  obtain ⟨f, e, q⟩ := rd_fsp10 fuel _ _ hf
  refine ⟨f, ?_, q⟩
  obtain ⟨l⟩ := cs
  have hl : (Value.agg ⟨l⟩).cells.toList = l := rfl
  rw [hl] at e
  subst e
  rfl
end
end Go.Proofs.Ythincpklokgjhaa
