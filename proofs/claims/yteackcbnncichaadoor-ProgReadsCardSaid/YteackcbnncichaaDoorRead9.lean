/- What is read as a template, as an instruction, as arguments. -/
import Derived.Test.YteackcbnncichaaDoorArgs
import Derived.Test.YteackcbnncichaaDoorPrg9
namespace Go.Proofs.YteackcbnncichaaDoor
open Go.ChangeShapes Go.WideShapes Go.ChangeAt Go.RowKit

def kc2 (k : Int × Int) : List Value := [.int .i64 k.1, .int .i64 k.2]
section
variable {H : Type} {enc : TypeId × Value → H} {w : World}
set_option maxRecDepth 100000 in
theorem rd_key9 : Rd enc Tryd.prog w 24 kc2 (fun k => I64 k.1 ∧ I64 k.2) := by
  intro fuel cs y h
  have hs := rd_size Tryd.underlying24 h
  obtain ⟨a, e0, q0⟩ := rd_field Tryd.underlying24 h 0 0 1 (by kernel_rfl) (by kernel_rfl) (rd_i64 Tryd.underlying3)
  obtain ⟨b, e1, q1⟩ := rd_field Tryd.underlying24 h 1 1 1 (by kernel_rfl) (by kernel_rfl) (rd_i64 Tryd.underlying3)
  have hC : Tryd.prog.cellsOf 24 = 2 := by kernel_rfl
  rw [hC] at hs
  match cs, hs with
  | [c0, c1], _ =>
    simp at e0 e1
    subst e0 e1
    exact ⟨(a, b), rfl, q0, q1⟩
set_option maxRecDepth 100000 in
theorem arg_key9 {v : Value} {d : DataW H} {p : List MemPlace} {r : Reach} {b : Nat} (hv : Value.okWide Tryd.prog w r b 24 v) (h : DataW.Trod enc Tryd.prog w 0 (fun _ => true) true 24 v d p) :
    ∃ x y : Int, v = .agg #[.int .i64 x, .int .i64 y] ∧ I64 x ∧ I64 y := by
  obtain ⟨cs, rfl, _⟩ := okWide_struct Tryd.underlying24 hv
  obtain ⟨fuel, hf⟩ := h
  have hs := rd_size Tryd.underlying24 hf
  obtain ⟨a, e0, q0⟩ := rd_field Tryd.underlying24 hf 0 0 1 (by kernel_rfl) (by kernel_rfl) (rd_i64 Tryd.underlying3)
  obtain ⟨b, e1, q1⟩ := rd_field Tryd.underlying24 hf 1 1 1 (by kernel_rfl) (by kernel_rfl) (rd_i64 Tryd.underlying3)
  have hC : Tryd.prog.cellsOf 24 = 2 := by kernel_rfl
  rw [hC] at hs
  obtain ⟨l⟩ := cs
  have hl : (Value.agg ⟨l⟩).cells.toList = l := rfl
  rw [hl] at hs e0 e1
  match l, hs with
  | [c0, c1], _ =>
    simp at e0 e1
    subst e0 e1
    exact ⟨a, b, rfl, q0, q1⟩
set_option maxRecDepth 100000 in
theorem rd_ins9 : Rd enc Tryd.prog w 28 Ins.cells Ins.I := by
  intro fuel cs y h
  have hs := rd_size Tryd.underlying28 h
  obtain ⟨o, e0, q0⟩ := rd_field Tryd.underlying28 h 0 0 1 (by kernel_rfl) (by kernel_rfl) (rd_i64 Tryd.underlying3)
  obtain ⟨a, e1, q1⟩ := rd_field Tryd.underlying28 h 1 1 1 (by kernel_rfl) (by kernel_rfl) (rd_i64 Tryd.underlying3)
  obtain ⟨b, e2, q2⟩ := rd_field Tryd.underlying28 h 2 2 1 (by kernel_rfl) (by kernel_rfl) (rd_i64 Tryd.underlying3)
  obtain ⟨c, e3, q3⟩ := rd_field Tryd.underlying28 h 3 3 1 (by kernel_rfl) (by kernel_rfl) (rd_i64 Tryd.underlying3)
  obtain ⟨k, e4, q4⟩ := rd_field Tryd.underlying28 h 4 4 2 (by kernel_rfl) (by kernel_rfl) rd_key9
  obtain ⟨l, e5, q5⟩ := rd_field Tryd.underlying28 h 5 6 2 (by kernel_rfl) (by kernel_rfl) rd_key9
  obtain ⟨x, e6, q6⟩ := rd_field Tryd.underlying28 h 6 8 1 (by kernel_rfl) (by kernel_rfl) (rd_i64 Tryd.underlying2)
  have hC : Tryd.prog.cellsOf 28 = 9 := by kernel_rfl
  rw [hC] at hs
  obtain ⟨k1, k2⟩ := k
  obtain ⟨l1, l2⟩ := l
  match cs, hs with
  | [c0, c1, c2, c3, c4, c5, c6, c7, c8], _ =>
    simp [kc2] at e0 e1 e2 e3 e4 e5 e6
    obtain ⟨rfl, rfl⟩ := e4
    obtain ⟨rfl, rfl⟩ := e5
    subst e0 e1 e2 e3 e6
    exact ⟨⟨o, a, b, c, k1, k2, l1, l2, x⟩, rfl, ⟨q0, q1, q2, q3, q4.1, q4.2, q5.1, q5.2, q6⟩⟩
end
end Go.Proofs.YteackcbnncichaaDoor
