/- What is read as a step, as registers, as pairs, as changes, as an outcome. -/
import Derived.Test.YthenadijiepmnaaGreatArgs
import Derived.Test.YthenadijiepmnaaGreatAlv13
namespace Go.Proofs.YthenadijiepmnaaGreat
open Go.ChangeShapes Go.WideShapes Go.ChangeAt Go.RowKit

def kc2 (k : Int × Int) : List Value := [.int .i64 k.1, .int .i64 k.2]
section
variable {H : Type} {enc : TypeId × Value → H} {w : World}
set_option maxRecDepth 100000 in
theorem rd_key9 : Rd enc Tryz.prog w 64 kc2 (fun k => I64 k.1 ∧ I64 k.2) := by
  intro fuel cs y h
  have hs := rd_size Tryz.underlying64 h
  obtain ⟨a, e0, q0⟩ := rd_field Tryz.underlying64 h 0 0 1 (by kernel_rfl) (by kernel_rfl) (rd_i64 Tryz.underlying3)
  obtain ⟨b, e1, q1⟩ := rd_field Tryz.underlying64 h 1 1 1 (by kernel_rfl) (by kernel_rfl) (rd_i64 Tryz.underlying3)
  have hC : Tryz.prog.cellsOf 64 = 2 := by kernel_rfl
  rw [hC] at hs
  match cs, hs with
  | [c0, c1], _ =>
    simp at e0 e1
    subst e0 e1
    exact ⟨(a, b), rfl, q0, q1⟩
set_option maxRecDepth 100000 in
theorem rd_ins9 : Rd enc Tryz.prog w 66 Ins.cells Ins.I := by
  intro fuel cs y h
  have hs := rd_size Tryz.underlying66 h
  obtain ⟨o, e0, q0⟩ := rd_field Tryz.underlying66 h 0 0 1 (by kernel_rfl) (by kernel_rfl) (rd_i64 Tryz.underlying3)
  obtain ⟨a, e1, q1⟩ := rd_field Tryz.underlying66 h 1 1 1 (by kernel_rfl) (by kernel_rfl) (rd_i64 Tryz.underlying3)
  obtain ⟨b, e2, q2⟩ := rd_field Tryz.underlying66 h 2 2 1 (by kernel_rfl) (by kernel_rfl) (rd_i64 Tryz.underlying3)
  obtain ⟨c, e3, q3⟩ := rd_field Tryz.underlying66 h 3 3 1 (by kernel_rfl) (by kernel_rfl) (rd_i64 Tryz.underlying3)
  obtain ⟨k, e4, q4⟩ := rd_field Tryz.underlying66 h 4 4 2 (by kernel_rfl) (by kernel_rfl) rd_key9
  obtain ⟨l, e5, q5⟩ := rd_field Tryz.underlying66 h 5 6 2 (by kernel_rfl) (by kernel_rfl) rd_key9
  obtain ⟨x, e6, q6⟩ := rd_field Tryz.underlying66 h 6 8 1 (by kernel_rfl) (by kernel_rfl) (rd_i64 Tryz.underlying2)
  have hC : Tryz.prog.cellsOf 66 = 9 := by kernel_rfl
  rw [hC] at hs
  obtain ⟨k1, k2⟩ := k
  obtain ⟨l1, l2⟩ := l
  match cs, hs with
  | [c0, c1, c2, c3, c4, c5, c6, c7, c8], _ =>
    simp [kc2] at e0 e1 e2 e3 e4 e5 e6
    obtain ⟨rfl, rfl⟩ := e4
    obtain ⟨rfl, rfl⟩ := e5
    subst e0 e1 e2 e3 e6
    exact ⟨⟨o, a, b, c, k1, k2, l1, l2, x⟩, rfl, ⟨q0, q1, q2, q3, q4.1, q4.2, q5.1, q5.2, q6⟩⟩
set_option maxRecDepth 100000 in
theorem rd_fsp10 : Rd enc Tryz.prog w 99 Fsp.cells Fsp.I := by
  intro fuel cs y h
  have hs := rd_size Tryz.underlying99 h
  obtain ⟨k, e0, q0⟩ := rd_field Tryz.underlying99 h 0 0 2 (by kernel_rfl) (by kernel_rfl) rd_key9
  obtain ⟨l, e1, q1⟩ := rd_field Tryz.underlying99 h 1 2 2 (by kernel_rfl) (by kernel_rfl) rd_key9
  obtain ⟨b, e2, -⟩ := rd_field Tryz.underlying99 h 2 4 1 (by kernel_rfl) (by kernel_rfl) (rd_bool Tryz.underlying4)
  have hC : Tryz.prog.cellsOf 99 = 5 := by kernel_rfl
  rw [hC] at hs
  obtain ⟨k1, k2⟩ := k
  obtain ⟨l1, l2⟩ := l
  match cs, hs with
  | [c0, c1, c2, c3, c4], _ =>
    simp [kc2] at e0 e1 e2
    obtain ⟨rfl, rfl⟩ := e0
    obtain ⟨rfl, rfl⟩ := e1
    subst e2
    exact ⟨⟨k1, k2, l1, l2, b⟩, rfl, ⟨q0.1, q0.2, q1.1, q1.2⟩⟩
set_option maxRecDepth 100000 in
theorem rd_pair5 : Rd enc Tryz.prog w 54 pr2 (fun x => -9223372036854775808 ≤ x.2 ∧ x.2 < 9223372036854775808) := by
  intro fuel cs y h
  have hs := rd_size Tryz.underlying54 h
  obtain ⟨a, e0, q0⟩ := rd_field Tryz.underlying54 h 0 0 1 (by kernel_rfl) (by kernel_rfl) (rd_i64 Tryz.underlying3)
  obtain ⟨b, e1, q1⟩ := rd_field Tryz.underlying54 h 1 1 1 (by kernel_rfl) (by kernel_rfl) (rd_i64 Tryz.underlying2)
  have hC : Tryz.prog.cellsOf 54 = 2 := by kernel_rfl
  rw [hC] at hs
  match cs, hs with
  | [c0, c1], _ =>
    simp at e0 e1
    subst e0 e1
    exact ⟨(a, b), rfl, q1⟩
set_option maxRecDepth 100000 in
theorem arg_pair5 {v : Value} {d : DataW H} {p : List MemPlace} {r : Reach} {b : Nat} (hv : Value.okWide Tryz.prog w r b 54 v) (h : DataW.Trod enc Tryz.prog w 0 (fun _ => true) true 54 v d p) :
    ∃ x y : Int, v = .agg #[.int .i64 x, .int .i64 y] ∧ (-9223372036854775808 ≤ y ∧ y < 9223372036854775808) := by
  obtain ⟨cs, rfl, _⟩ := okWide_struct Tryz.underlying54 hv
  obtain ⟨fuel, hf⟩ := h
  have hs := rd_size Tryz.underlying54 hf
  obtain ⟨a, e0, q0⟩ := rd_field Tryz.underlying54 hf 0 0 1 (by kernel_rfl) (by kernel_rfl) (rd_i64 Tryz.underlying3)
  obtain ⟨b, e1, q1⟩ := rd_field Tryz.underlying54 hf 1 1 1 (by kernel_rfl) (by kernel_rfl) (rd_i64 Tryz.underlying2)
  have hC : Tryz.prog.cellsOf 54 = 2 := by kernel_rfl
  rw [hC] at hs
  obtain ⟨l⟩ := cs
  have hl : (Value.agg ⟨l⟩).cells.toList = l := rfl
  rw [hl] at hs e0 e1
  match l, hs with
  | [c0, c1], _ =>
    simp at e0 e1
    subst e0 e1
    exact ⟨a, b, rfl, q1⟩
set_option maxRecDepth 100000 in
theorem rd_span : Rd enc Tryz.prog w 72 spC (fun _ => True) := by
  intro fuel cs y h
  have hs := rd_size Tryz.underlying72 h
  obtain ⟨a, e0, q0⟩ := rd_field Tryz.underlying72 h 0 0 1 (by kernel_rfl) (by kernel_rfl) (rd_i64 Tryz.underlying3)
  obtain ⟨b, e1, q1⟩ := rd_field Tryz.underlying72 h 1 1 1 (by kernel_rfl) (by kernel_rfl) (rd_i64 Tryz.underlying3)
  have hC : Tryz.prog.cellsOf 72 = 2 := by kernel_rfl
  rw [hC] at hs
  match cs, hs with
  | [c0, c1], _ =>
    simp at e0 e1
    subst e0 e1
    exact ⟨(a, b), rfl, trivial⟩
set_option maxRecDepth 100000 in
theorem rd_arr4 {α : Type} {P : Program} {t e : TypeId} {f : α → List Value} {Q : α → Prop} {m : Nat} (ht : P.underlying t = some (.array 4 e)) (hm : P.cellsOf e = m) (hct : P.cellsOf t = 4 * m) (hr : Rd enc P w e f Q) :
    Rd enc P w t (fun x : α × α × α × α => f x.1 ++ (f x.2.1 ++ (f x.2.2.1 ++ f x.2.2.2))) (fun x => Q x.1 ∧ Q x.2.1 ∧ Q x.2.2.1 ∧ Q x.2.2.2) := by
  intro fuel cs y h
  obtain ⟨xs, k, -, -, hl, hx, hg⟩ := DataW.trod_array ht h
  rw [hct] at hl
  rw [hm] at hg
  have each : ∀ i, i < 4 → ∃ x : α, (cs.drop (i * m)).take m = f x ∧ Q x := by
    intro i hi
    have h1 := hg i hi
    rw [List.getElem?_eq_getElem (by omega)] at h1
    exact hr _ _ _ h1
  obtain ⟨x0, e0, q0⟩ := each 0 (by omega)
  obtain ⟨x1, e1, q1⟩ := each 1 (by omega)
  obtain ⟨x2, e2, q2⟩ := each 2 (by omega)
  obtain ⟨x3, e3, q3⟩ := each 3 (by omega)
  refine ⟨(x0, x1, x2, x3), ?_, q0, q1, q2, q3⟩
  show cs = f x0 ++ (f x1 ++ (f x2 ++ f x3))
  rw [← e0, ← e1, ← e2, ← e3]
  have a3 : (cs.drop (3 * m)).take m = cs.drop (3 * m) := List.take_of_length_le (by rw [List.length_drop]; omega)
  have a2 : (cs.drop (2 * m)).take m ++ cs.drop (3 * m) = cs.drop (2 * m) := by
    rw [show 3 * m = 2 * m + m by omega, ← List.drop_drop]
    exact List.take_append_drop _ _
  have a1 : (cs.drop (1 * m)).take m ++ cs.drop (2 * m) = cs.drop (1 * m) := by
    rw [show 2 * m = 1 * m + m by omega, ← List.drop_drop]
    exact List.take_append_drop _ _
  rw [a3, a2, a1, Nat.zero_mul, Nat.one_mul, List.drop_zero]
  exact (List.take_append_drop _ _).symm
theorem prs2_flat (l : List (Int × Int)) : l.flatMap pr2 = prs2 l := rfl
theorem sps_flat (l : List Span) : l.flatMap spC = sps l := rfl
set_option maxRecDepth 100000 in
theorem rd_chg13 : Rd enc Tryz.prog w 57 Chg.cells (fun _ => True) := by
  intro fuel cs y h
  have hs := rd_size Tryz.underlying57 h
  obtain ⟨a, e0, -⟩ := rd_field Tryz.underlying57 h 0 0 1 (by kernel_rfl) (by kernel_rfl) (rd_i64 Tryz.underlying3)
  obtain ⟨b, e1, -⟩ := rd_field Tryz.underlying57 h 1 1 1 (by kernel_rfl) (by kernel_rfl) (rd_bool Tryz.underlying4)
  obtain ⟨c, e2, -⟩ := rd_field Tryz.underlying57 h 2 2 1 (by kernel_rfl) (by kernel_rfl) (rd_i64 Tryz.underlying2)
  have hC : Tryz.prog.cellsOf 57 = 3 := by kernel_rfl
  rw [hC] at hs
  match cs, hs with
  | [c0, c1, c2], _ =>
    simp at e0 e1 e2
    subst e0 e1 e2
    exact ⟨⟨a, b, c⟩, rfl, trivial⟩
set_option maxRecDepth 100000 in
theorem arg_stp13 {v : Value} {d : DataW H} {p : List MemPlace} {r : Reach} {b : Nat} (hv : Value.okWide Tryz.prog w r b 25 v) (h : DataW.Trod enc Tryz.prog w 0 (fun _ => true) true 25 v d p) :
    ∃ (x : Lst Ins) (y : Lst Fsp), v = .agg #[.slice x.A x.l.length x.c, .slice y.A y.l.length y.c] ∧ x.Ok w Ins.cells Ins.I ∧ y.Ok w Fsp.cells Fsp.I := by
  obtain ⟨cs, rfl, _⟩ := okWide_struct Tryz.underlying25 hv
  obtain ⟨fuel, hf⟩ := h
  have hs := rd_size Tryz.underlying25 hf
  obtain ⟨x, e0, q0⟩ := rd_field Tryz.underlying25 hf 0 0 1 (by kernel_rfl) (by kernel_rfl) (rd_slice Tryz.underlying22 (m := 9) (by kernel_rfl) (by omega) Ins.cells_len rd_ins9)
  obtain ⟨y, e1, q1⟩ := rd_field Tryz.underlying25 hf 1 1 1 (by kernel_rfl) (by kernel_rfl) (rd_slice Tryz.underlying23 (m := 5) (by kernel_rfl) (by omega) Fsp.cells_len rd_fsp10)
  have hC : Tryz.prog.cellsOf 25 = 2 := by kernel_rfl
  rw [hC] at hs
  obtain ⟨l⟩ := cs
  have hl : (Value.agg ⟨l⟩).cells.toList = l := rfl
  rw [hl] at hs e0 e1
  match l, hs with
  | [c0, c1], _ =>
    simp [Lst.cell] at e0 e1
    subst e0 e1
    exact ⟨x, y, rfl, q0, q1⟩
/-- Four registers. -/
def regs4 (r0 r1 r2 r3 : Int) (i : Nat) : Int := if i = 0 then r0 else if i = 1 then r1 else if i = 2 then r2 else r3
theorem regs4_fit {r0 r1 r2 r3 : Int} (h0 : I64 r0) (h1 : I64 r1) (h2 : I64 r2) (h3 : I64 r3) (i : Nat) : I64 (regs4 r0 r1 r2 r3 i) := by
  unfold regs4
  split
  · exact h0
  · split
    · exact h1
    · split
      · exact h2
      · exact h3
set_option maxRecDepth 100000 in
theorem arg_regs13 {v : Value} {d : DataW H} {p : List MemPlace} {r : Reach} {b : Nat} (hv : Value.okWide Tryz.prog w r b 27 v) (h : DataW.Trod enc Tryz.prog w 0 (fun _ => true) true 27 v d p) :
    ∃ q : Nat → Int, v = .agg #[.int .i64 (q 0), .int .i64 (q 1), .int .i64 (q 2), .int .i64 (q 3)] ∧ ∀ i, i < 4 → I64 (q i) := by
  simp only [Value.okWide, Tryz.underlying27] at hv
  obtain ⟨cs, rfl, _, _⟩ := hv
  obtain ⟨fuel, hf⟩ := h
  obtain ⟨⟨r0, r1, r2, r3⟩, e1, q0, q1, q2, q3⟩ := rd_arr4 Tryz.underlying27 (m := 1) (by kernel_rfl) (by kernel_rfl) (rd_i64 Tryz.underlying2) fuel _ _ hf
  refine ⟨regs4 r0 r1 r2 r3, ?_, fun i _ => regs4_fit q0 q1 q2 q3 i⟩
  obtain ⟨l⟩ := cs
  have hl : (Value.agg ⟨l⟩).cells.toList = l := rfl
  rw [hl] at e1
  subst e1
  rfl
set_option maxRecDepth 100000 in
set_option maxHeartbeats 1000000 in
theorem arg_out13 {v : Value} {d : DataW H} {p : List MemPlace} {r : Reach} {b : Nat} (hv : Value.okWide Tryz.prog w r b 39 v) (h : DataW.Trod enc Tryz.prog w 0 (fun _ => true) true 39 v d p) :
    ∃ o : Otc, v = o.agg ∧ Otcs w w.heap.size o := by
  obtain ⟨cs, rfl, _⟩ := okWide_struct Tryz.underlying39 hv
  obtain ⟨fuel, hf⟩ := h
  have hs := rd_size Tryz.underlying39 hf
  obtain ⟨c, e0, -⟩ := rd_field Tryz.underlying39 hf 0 0 1 (by kernel_rfl) (by kernel_rfl) (rd_i64 Tryz.underlying35)
  obtain ⟨a, e1, -⟩ := rd_field Tryz.underlying39 hf 1 1 1 (by kernel_rfl) (by kernel_rfl) (rd_i64 Tryz.underlying3)
  obtain ⟨⟨r0, r1, r2, r3⟩, e2, -⟩ := rd_field Tryz.underlying39 hf 2 2 4 (by kernel_rfl) (by kernel_rfl) (rd_arr4 Tryz.underlying27 (m := 1) (by kernel_rfl) (by kernel_rfl) (rd_i64 Tryz.underlying2))
  obtain ⟨x, e3, q3⟩ := rd_field Tryz.underlying39 hf 3 6 1 (by kernel_rfl) (by kernel_rfl) (rd_slice Tryz.underlying36 (m := 2) (by kernel_rfl) (by omega) spC_len rd_span)
  obtain ⟨y, e4, q4⟩ := rd_field Tryz.underlying39 hf 4 7 1 (by kernel_rfl) (by kernel_rfl) (rd_slice Tryz.underlying36 (m := 2) (by kernel_rfl) (by omega) spC_len rd_span)
  obtain ⟨z, e5, q5⟩ := rd_field Tryz.underlying39 hf 5 8 1 (by kernel_rfl) (by kernel_rfl) (rd_slice Tryz.underlying37 (m := 3) (by kernel_rfl) (by omega) Chg.cells_len rd_chg13)
  have hC : Tryz.prog.cellsOf 39 = 9 := by kernel_rfl
  rw [hC] at hs
  obtain ⟨l⟩ := cs
  have hl : (Value.agg ⟨l⟩).cells.toList = l := rfl
  rw [hl] at hs e0 e1 e2 e3 e4 e5
  match l, hs with
  | [c0, c1, c2, c3, c4, c5, c6, c7, c8], _ =>
    simp [Lst.cell] at e0 e1 e2 e3 e4 e5
    obtain ⟨rfl, rfl, rfl, rfl⟩ := e2
    subst e0 e1 e3 e4 e5
    exact ⟨⟨⟨c, a, regs4 r0 r1 r2 r3, x.l, y.l, z.l⟩, x.A, x.c, y.A, y.c, z.A, z.c⟩, rfl, ⟨q3.sl, q4.sl, q5.sl⟩⟩
end
end Go.Proofs.YthenadijiepmnaaGreat
