/- What is read as items. -/
import Derived.Test.YteakdcnbjcnpnaaRead
import Derived.Test.YteakdcnbjcnpnaaLaw1W
namespace Go.Proofs.Yteakdcnbjcnpnaa
open Go.ChangeShapes Go.WideShapes Go.ChangeAt Go.RowKit

section
variable {H : Type} {enc : TypeId × Value → H} {w : World}
theorem rd_item : Rd enc Try.prog w 31 It.cells (It.Fit w w.heap.size) := by
  intro fuel cs y h
  have hs := rd_size Try.underlying31 h
  obtain ⟨k, e0, q0⟩ := rd_field Try.underlying31 h 0 0 1 (by kernel_rfl) (by kernel_rfl) (rd_i64 Try.underlying3)
  obtain ⟨n, e1, q1⟩ := rd_field Try.underlying31 h 1 1 1 (by kernel_rfl) (by kernel_rfl) (rd_i64 Try.underlying3)
  obtain ⟨m, e2, q2⟩ := rd_field Try.underlying31 h 2 2 1 (by kernel_rfl) (by kernel_rfl) (rd_i64 Try.underlying3)
  obtain ⟨x, e3, q3⟩ := rd_field Try.underlying31 h 3 3 1 (by kernel_rfl) (by kernel_rfl) (rd_i64 Try.underlying2)
  obtain ⟨s, e4, q4⟩ := rd_field Try.underlying31 h 4 4 1 (by kernel_rfl) (by kernel_rfl) (rd_string Try.underlying9)
  obtain ⟨L, e5, q5⟩ := rd_field Try.underlying31 h 5 5 1 (by kernel_rfl) (by kernel_rfl) (rd_slice (m := 1) Try.underlying25 (by kernel_rfl) (by omega) (fun _ => rfl) (rd_u64 Try.underlying43))
  have hC : Try.prog.cellsOf 31 = 6 := by kernel_rfl
  rw [hC] at hs
  match cs, hs with
  | [c0, c1, c2, c3, c4, c5], _ =>
    simp [Lst.cell] at e0 e1 e2 e3 e4 e5
    subst e0 e1 e2 e3 e4 e5
    refine ⟨⟨k, n, m, x, s, L.l, L.A, L.c⟩, rfl, ⟨q0, q1, q2, q3, q4, q5.all, q5.cap, q5.nil, ?_⟩⟩
    have h6 := q5.sl
    rw [u64s_flat] at h6
    exact h6
end

theorem own_knob : ownKnob Try.prog.godebug = none := by kernel_rfl
theorem laid_out : laidOutB Try.prog = true := by kernel_rfl

end Go.Proofs.Yteakdcnbjcnpnaa
