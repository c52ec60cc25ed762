/- What is read as a frame. -/
import Derived.Test.YtdmllfjeofiddaaArgs
import Derived.Test.YtdmllfjeofiddaaRef6
namespace Go.Proofs.Ytdmllfjeofiddaa
open Go.ChangeShapes Go.WideShapes Go.ChangeAt Go.RowKit

section
variable {H : Type} {enc : TypeId × Value → H} {w : World}
theorem fit_of {k : Int} (q0 : -9223372036854775808 ≤ k ∧ k < 9223372036854775808) {s : Lst Nat} (q1 : s.Ok w (fun n : Nat => [Value.int .u64 (n : Int)]) (fun n => n < 18446744073709551616)) : (⟨k, s.A, s.l, s.c⟩ : FrV).Fit w w.heap.size := by
  have hs := q1.sl
  rw [u64s_flat] at hs
  exact ⟨q0.1, q0.2, hs, q1.all, q1.cap.1, q1.cap.2⟩
set_option maxRecDepth 100000 in
theorem rd_frame6 : Rd enc Try.prog w 38 FrV.cells (fun x => x.Fit w w.heap.size) := by
  intro fuel cs y h
  have hs := rd_size Try.underlying38 h
  obtain ⟨a, e0, q0⟩ := rd_field Try.underlying38 h 0 0 1 (by kernel_rfl) (by kernel_rfl) (rd_i64 Try.underlying3)
  obtain ⟨b, e1, q1⟩ := rd_field Try.underlying38 h 1 1 1 (by kernel_rfl) (by kernel_rfl) (rd_slice Try.underlying36 (m := 1) (by kernel_rfl) (by omega) (fun _ => rfl) (rd_u64 Try.underlying40))
  have hC : Try.prog.cellsOf 38 = 2 := by kernel_rfl
  rw [hC] at hs
  match cs, hs with
  | [c0, c1], _ =>
    simp [Lst.cell] at e0 e1
    subst e0 e1
    exact ⟨⟨a, b.A, b.l, b.c⟩, rfl, fit_of q0 q1⟩
set_option maxRecDepth 100000 in
theorem arg_frame6 {v : Value} {d : DataW H} {p : List MemPlace} {r : Reach} {b : Nat} (hv : Value.okWide Try.prog w r b 38 v) (h : DataW.Trod enc Try.prog w 0 (fun _ => true) true 38 v d p) :
    ∃ x : FrV, v = x.agg ∧ x.Fit w w.heap.size := by
  obtain ⟨cs, rfl, _⟩ := okWide_struct Try.underlying38 hv
  obtain ⟨fuel, hf⟩ := h
  have hs := rd_size Try.underlying38 hf
  obtain ⟨a, e0, q0⟩ := rd_field Try.underlying38 hf 0 0 1 (by kernel_rfl) (by kernel_rfl) (rd_i64 Try.underlying3)
  obtain ⟨b, e1, q1⟩ := rd_field Try.underlying38 hf 1 1 1 (by kernel_rfl) (by kernel_rfl) (rd_slice Try.underlying36 (m := 1) (by kernel_rfl) (by omega) (fun _ => rfl) (rd_u64 Try.underlying40))
  have hC : Try.prog.cellsOf 38 = 2 := by kernel_rfl
  rw [hC] at hs
  obtain ⟨l⟩ := cs
  have hl : (Value.agg ⟨l⟩).cells.toList = l := rfl
  rw [hl] at hs e0 e1
  match l, hs with
  | [c0, c1], _ =>
    simp [Lst.cell] at e0 e1
    subst e0 e1
    exact ⟨⟨a, b.A, b.l, b.c⟩, rfl, fit_of q0 q1⟩
end
end Go.Proofs.Ytdmllfjeofiddaa
