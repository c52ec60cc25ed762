/- What is read as what is done to a log. -/
import Derived.Test.YtdmllfjeofiddaaArgs
import Derived.Test.YtdmllfjeofiddaaRead6
import Derived.Test.YtdmllfjeofiddaaRd8
import Derived.Test.YtdmllfjeofiddaaOp8
namespace Go.Proofs.Ytdmllfjeofiddaa
open Go.ChangeShapes Go.WideShapes Go.ChangeAt Go.RowKit

section
variable {H : Type} {enc : TypeId × Value → H} {w : World}
set_option maxRecDepth 100000 in
theorem rd_op8 : Rd enc Try.prog w 43 Op8.cells (Op8.Fit w w.heap.size) := by
  intro fuel cs y h
  have hs := rd_size Try.underlying43 h
  obtain ⟨k, e0, q0⟩ := rd_field Try.underlying43 h 0 0 1 (by kernel_rfl) (by kernel_rfl) (rd_u8 Try.underlying5)
  obtain ⟨f, e1, q1⟩ := rd_field (f := FrV.cells) (Q := fun x => x.Fit w w.heap.size) Try.underlying43 h 1 1 2 (by kernel_rfl) (by kernel_rfl) rd_frame6
  obtain ⟨L, e2, q2⟩ := rd_field Try.underlying43 h 2 3 1 (by kernel_rfl) (by kernel_rfl) (rd_slice (m := 1) Try.underlying39 (by kernel_rfl) (by omega) (fun _ => rfl) (rd_bool Try.underlying4))
  obtain ⟨n, e3, q3⟩ := rd_field Try.underlying43 h 3 4 1 (by kernel_rfl) (by kernel_rfl) (rd_i64 Try.underlying3)
  obtain ⟨s, e4, q4⟩ := rd_field (f := u64s) (Q := Sec) Try.underlying43 h 4 5 8 (by kernel_rfl) (by kernel_rfl) (fun fuel cs y h => by
    obtain ⟨s0, s1, s2, s3, s4, s5, s6, s7, e, q⟩ := arr8_cells Try.underlying41 Try.underlying40 (by kernel_rfl) (by kernel_rfl) h
    exact ⟨_, e, q⟩)
  have hC : Try.prog.cellsOf 43 = 13 := by kernel_rfl
  rw [hC] at hs
  obtain ⟨s0, s1, s2, s3, s4, s5, s6, s7, rfl⟩ := sec_lit q4
  obtain ⟨fk, fA, fw, fc⟩ := f
  match cs, hs with
  | [c0, c1, c2, c3, c4, c5, c6, c7, c8, c9, c10, c11, c12], _ =>
    simp [Lst.cell, u64s, FrV.cells] at e0 e1 e2 e3 e4
    obtain ⟨rfl, rfl⟩ := e1
    obtain ⟨rfl, rfl, rfl, rfl, rfl, rfl, rfl, rfl⟩ := e4
    subst e0 e2 e3
    refine ⟨⟨k, fk, fA, fw, fc, L.l, L.A, L.c, n, s0, s1, s2, s3, s4, s5, s6, s7⟩, rfl, ⟨q0, q1, ?_, q2.cap, q3, q4⟩⟩
    have h6 := q2.sl
    rw [bools_flat] at h6
    exact h6
end
end Go.Proofs.Ytdmllfjeofiddaa
