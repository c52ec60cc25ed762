/- What is read as a history's node that was handed in. -/
import Derived.Test.YtmabapbdnafpfaaRead12
import Derived.Test.YtmabapbdnafpfaaUnt14
namespace Go.Proofs.Ytmabapbdnafpfaa
open Go.ChangeShapes Go.WideShapes Go.ChangeAt Go.RowKit

section
variable {H : Type} {enc : TypeId × Value → H} {w : World}
set_option maxRecDepth 100000 in
theorem rd_span14 : Rd enc Try.prog w 41 spC (fun _ => True) := by
  intro fuel cs y h
  have hs := rd_size Try.underlying41 h
  obtain ⟨a, e0, q0⟩ := rd_field Try.underlying41 h 0 0 1 (by kernel_rfl) (by kernel_rfl) (rd_i64 Try.underlying3)
  obtain ⟨b, e1, q1⟩ := rd_field Try.underlying41 h 1 1 1 (by kernel_rfl) (by kernel_rfl) (rd_i64 Try.underlying3)
  have hC : Try.prog.cellsOf 41 = 2 := by kernel_rfl
  rw [hC] at hs
  match cs, hs with
  | [c0, c1], _ =>
    simp at e0 e1
    subst e0 e1
    exact ⟨(a, b), rfl, trivial⟩
set_option maxRecDepth 100000 in
theorem rd_nd14 : Rd enc Try.prog w 27 Ndl.cells (fun x => x.Full w) := by
  intro fuel cs y h
  have hs := rd_size Try.underlying27 h
  obtain ⟨a, e0, q0⟩ := rd_field Try.underlying27 h 0 0 1 (by kernel_rfl) (by kernel_rfl) (rd_i64 Try.underlying3)
  obtain ⟨b, e1, q1⟩ := rd_field Try.underlying27 h 1 1 1 (by kernel_rfl) (by kernel_rfl) (rd_i64 Try.underlying3)
  obtain ⟨c, e2, q2⟩ := rd_field Try.underlying27 h 2 2 1 (by kernel_rfl) (by kernel_rfl) (rd_i64 Try.underlying3)
  obtain ⟨k, e3, -⟩ := rd_field Try.underlying27 h 3 3 1 (by kernel_rfl) (by kernel_rfl) (rd_bool Try.underlying4)
  obtain ⟨l, e4, q4⟩ := rd_field Try.underlying27 h 4 4 1 (by kernel_rfl) (by kernel_rfl) (rd_slice Try.underlying25 (m := 2) (by kernel_rfl) (by omega) spC_len rd_span14)
  obtain ⟨m, e5, q5⟩ := rd_field Try.underlying27 h 5 5 1 (by kernel_rfl) (by kernel_rfl) (rd_slice Try.underlying25 (m := 2) (by kernel_rfl) (by omega) spC_len rd_span14)
  have hC : Try.prog.cellsOf 27 = 6 := by kernel_rfl
  rw [hC] at hs
  match cs, hs with
  | [c0, c1, c2, c3, c4, c5], _ =>
    simp [Lst.cell] at e0 e1 e2 e3 e4 e5
    subst e0 e1 e2 e3 e4 e5
    exact ⟨⟨⟨a, b, c, k, l.l, m.l⟩, l.A, l.c, m.A, m.c⟩, rfl, ⟨⟨q4.sl, q5.sl⟩, ⟨q0, q1, q2⟩, q4.cap, q5.cap⟩⟩
set_option maxRecDepth 100000 in
theorem arg_nd14 {v : Value} {d : DataW H} {p : List MemPlace} {r : Reach} {b : Nat} (hv : Value.okWide Try.prog w r b 27 v) (h : DataW.Trod enc Try.prog w 0 (fun _ => true) true 27 v d p) :
    ∃ x : Ndl, v = x.agg ∧ x.Full w := by
  obtain ⟨cs, rfl, _⟩ := okWide_struct Try.underlying27 hv
  obtain ⟨fuel, hf⟩ := h
  obtain ⟨x, e, q⟩ := rd_nd14 fuel _ _ hf
  refine ⟨x, ?_, q⟩
  obtain ⟨l⟩ := cs
  have hl : (Value.agg ⟨l⟩).cells.toList = l := rfl
  rw [hl] at e
  subst e
  rfl
end
end Go.Proofs.Ytmabapbdnafpfaa
