/- What is read as a template, as an instruction, as arguments. -/
import Derived.Test.YtmeimhpllemjfaaGreatRead
import Derived.Test.YtmeimhpllemjfaaGreatIdx9
import Derived.Test.YtmeimhpllemjfaaGreatRgt10
import Derived.Test.YtmeimhpllemjfaaGreatCls11
import Derived.Test.YtmeimhpllemjfaaGreatCtp12
import Derived.Test.YtmeimhpllemjfaaGreatUnt14
namespace Go.Proofs.YtmeimhpllemjfaaGreat
open Go.ChangeShapes Go.WideShapes Go.ChangeAt Go.RowKit

def kc2 (k : Int × Int) : List Value := [.int .i64 k.1, .int .i64 k.2]
section
variable {H : Type} {enc : TypeId × Value → H} {w : World}
set_option maxRecDepth 100000 in
theorem rd_key9 : Rd enc Tryz.prog w 40 kc2 (fun k => I64 k.1 ∧ I64 k.2) := by
 intro fuel cs y h
 have hs := rd_size Tryz.underlying40 h
 obtain ⟨a, e0, q0⟩ := rd_field Tryz.underlying40 h 0 0 1 (by kernel_rfl) (by kernel_rfl) (rd_i64 Tryz.underlying3)
 obtain ⟨b, e1, q1⟩ := rd_field Tryz.underlying40 h 1 1 1 (by kernel_rfl) (by kernel_rfl) (rd_i64 Tryz.underlying3)
 have hC : Tryz.prog.cellsOf 40 = 2 := by kernel_rfl
 rw [hC] at hs
 match cs, hs with
 | [c0, c1], _ =>
  simp at e0 e1
  subst e0 e1
  exact ⟨(a, b), rfl, q0, q1⟩
set_option maxRecDepth 100000 in
theorem rd_ins9 : Rd enc Tryz.prog w 42 Ins.cells Ins.I := by
 intro fuel cs y h
 have hs := rd_size Tryz.underlying42 h
 obtain ⟨o, e0, q0⟩ := rd_field Tryz.underlying42 h 0 0 1 (by kernel_rfl) (by kernel_rfl) (rd_i64 Tryz.underlying3)
 obtain ⟨a, e1, q1⟩ := rd_field Tryz.underlying42 h 1 1 1 (by kernel_rfl) (by kernel_rfl) (rd_i64 Tryz.underlying3)
 obtain ⟨b, e2, q2⟩ := rd_field Tryz.underlying42 h 2 2 1 (by kernel_rfl) (by kernel_rfl) (rd_i64 Tryz.underlying3)
 obtain ⟨c, e3, q3⟩ := rd_field Tryz.underlying42 h 3 3 1 (by kernel_rfl) (by kernel_rfl) (rd_i64 Tryz.underlying3)
 obtain ⟨k, e4, q4⟩ := rd_field Tryz.underlying42 h 4 4 2 (by kernel_rfl) (by kernel_rfl) rd_key9
 obtain ⟨l, e5, q5⟩ := rd_field Tryz.underlying42 h 5 6 2 (by kernel_rfl) (by kernel_rfl) rd_key9
 obtain ⟨x, e6, q6⟩ := rd_field Tryz.underlying42 h 6 8 1 (by kernel_rfl) (by kernel_rfl) (rd_i64 Tryz.underlying2)
 have hC : Tryz.prog.cellsOf 42 = 9 := by kernel_rfl
 rw [hC] at hs
 obtain ⟨k1, k2⟩ := k
 obtain ⟨l1, l2⟩ := l
 match cs, hs with
 | [c0, c1, c2, c3, c4, c5, c6, c7, c8], _ =>
  simp [kc2] at e0 e1 e2 e3 e4 e5 e6
  obtain ⟨rfl, rfl⟩ := e4
  obtain ⟨rfl, rfl⟩ := e5
  subst e0 e1 e2 e3 e6
  exact ⟨⟨o, a, b, c, k1, k2, l1, l2, x⟩, rfl, ⟨q0, q1, q2, q3, q4.1, q4.2, q5.1, q5.2, q6⟩⟩
end
end Go.Proofs.YtmeimhpllemjfaaGreat
/- What is read as a span of templates. -/
namespace Go.Proofs.YtmeimhpllemjfaaGreat
open Go.ChangeShapes Go.WideShapes Go.ChangeAt Go.RowKit

section
variable {H : Type} {enc : TypeId × Value → H} {w : World}
set_option maxRecDepth 100000 in
theorem rd_fsp10 : Rd enc Tryz.prog w 128 Fsp.cells Fsp.I := by
 intro fuel cs y h
 have hs := rd_size Tryz.underlying128 h
 obtain ⟨k, e0, q0⟩ := rd_field Tryz.underlying128 h 0 0 2 (by kernel_rfl) (by kernel_rfl) rd_key9
 obtain ⟨l, e1, q1⟩ := rd_field Tryz.underlying128 h 1 2 2 (by kernel_rfl) (by kernel_rfl) rd_key9
 obtain ⟨b, e2, -⟩ := rd_field Tryz.underlying128 h 2 4 1 (by kernel_rfl) (by kernel_rfl) (rd_bool Tryz.underlying4)
 have hC : Tryz.prog.cellsOf 128 = 5 := by kernel_rfl
 rw [hC] at hs
 obtain ⟨k1, k2⟩ := k
 obtain ⟨l1, l2⟩ := l
 match cs, hs with
 | [c0, c1, c2, c3, c4], _ =>
  simp [kc2] at e0 e1 e2
  obtain ⟨rfl, rfl⟩ := e0
  obtain ⟨rfl, rfl⟩ := e1
  subst e2
  exact ⟨⟨k1, k2, l1, l2, b⟩, rfl, ⟨q0.1, q0.2, q1.1, q1.2⟩⟩
end
end Go.Proofs.YtmeimhpllemjfaaGreat
/- What is read as a class. -/
namespace Go.Proofs.YtmeimhpllemjfaaGreat
open Go.ChangeShapes Go.WideShapes Go.ChangeAt Go.RowKit

section
variable {H : Type} {enc : TypeId × Value → H} {w : World}
structure Stp.Full (w : World) (s : Stp) : Prop where
 ok : s.Ok w w.heap.size
 fit : s.I
 cc : s.code.length ≤ s.cc ∧ s.cc ≤ maxLen
 fc : s.foot.length ≤ s.fc ∧ s.fc ≤ maxLen
set_option maxRecDepth 100000 in
theorem rd_stp11 : Rd enc Tryz.prog w 46 Stp.cells (fun s => s.Full w) := by
 intro fuel cs y h
 have hs := rd_size Tryz.underlying46 h
 obtain ⟨a, e0, q0⟩ := rd_field Tryz.underlying46 h 0 0 1 (by kernel_rfl) (by kernel_rfl) (rd_slice Tryz.underlying43 (m := 9) (by kernel_rfl) (by omega) Ins.cells_len rd_ins9)
 obtain ⟨b, e1, q1⟩ := rd_field Tryz.underlying46 h 1 1 1 (by kernel_rfl) (by kernel_rfl) (rd_slice Tryz.underlying44 (m := 5) (by kernel_rfl) (by omega) Fsp.cells_len rd_fsp10)
 have hC : Tryz.prog.cellsOf 46 = 2 := by kernel_rfl
 rw [hC] at hs
 match cs, hs with
 | [c0, c1], _ =>
  simp [Lst.cell] at e0 e1
  subst e0 e1
  exact ⟨⟨a.A, a.l, a.c, b.A, b.l, b.c⟩, rfl, ⟨⟨q0.sl, q1.sl⟩, ⟨q0.all, q1.all⟩, q0.cap, q1.cap⟩⟩
structure Cls.Full (w : World) (c : Cls) : Prop where
 ok : c.Ok w
 args : I64 c.args
 steps : ∀ s ∈ c.steps, s.Full w
 comps : ∀ s ∈ c.comps, s.Full w
 sc : c.steps.length ≤ c.sc ∧ c.sc ≤ maxLen
 uc : c.comps.length ≤ c.uc ∧ c.uc ≤ maxLen
end
end Go.Proofs.YtmeimhpllemjfaaGreat
/- What is read as a catalogue that was handed in. -/
namespace Go.Proofs.YtmeimhpllemjfaaGreat
open Go.ChangeShapes Go.WideShapes Go.ChangeAt Go.RowKit

section
variable {H : Type} {enc : TypeId × Value → H} {w : World}
theorem rd_arr4 {α : Type} {P : Program} {t e : TypeId} {f : α → List Value} {Q : α → Prop} {m : Nat} (ht : P.underlying t = some (.array 4 e)) (hm : P.cellsOf e = m) (hct : P.cellsOf t = 4 * m) (hr : Rd enc P w e f Q) :
  Rd enc P w t (fun x : α × α × α × α => f x.1 ++ (f x.2.1 ++ (f x.2.2.1 ++ f x.2.2.2))) (fun x => Q x.1 ∧ Q x.2.1 ∧ Q x.2.2.1 ∧ Q x.2.2.2) := by
 intro fuel cs y h
 obtain ⟨xs, k, -, -, hl, hx, hg⟩ := DataW.trod_array ht h
 rw [hct] at hl
 rw [hm] at hg
 have each : ∀ i, i < 4 → ∃ x : α, (cs.drop (i * m)).take m = f x ∧ Q x := by
  intro i hi
  have h1 := hg i hi
  rw [List.getElem?_eq_getElem (by omega)] at h1
  exact hr _ _ _ h1
 obtain ⟨x0, e0, q0⟩ := each 0 (by omega)
 obtain ⟨x1, e1, q1⟩ := each 1 (by omega)
 obtain ⟨x2, e2, q2⟩ := each 2 (by omega)
 obtain ⟨x3, e3, q3⟩ := each 3 (by omega)
 refine ⟨(x0, x1, x2, x3), ?_, q0, q1, q2, q3⟩
 show cs = f x0 ++ (f x1 ++ (f x2 ++ f x3))
 rw [← e0, ← e1, ← e2, ← e3]
 have a3 : (cs.drop (3 * m)).take m = cs.drop (3 * m) := List.take_of_length_le (by rw [List.length_drop]; omega)
 have a2 : (cs.drop (2 * m)).take m ++ cs.drop (3 * m) = cs.drop (2 * m) := by
  rw [show 3 * m = 2 * m + m by omega, ← List.drop_drop]
  exact List.take_append_drop _ _
 have a1 : (cs.drop (1 * m)).take m ++ cs.drop (2 * m) = cs.drop (1 * m) := by
  rw [show 2 * m = 1 * m + m by omega, ← List.drop_drop]
  exact List.take_append_drop _ _
 rw [a3, a2, a1, Nat.zero_mul, Nat.one_mul, List.drop_zero]
 exact (List.take_append_drop _ _).symm
set_option maxRecDepth 100000 in
theorem rd_cls12 : Rd enc Tryz.prog w 49 Cls.cells (fun c => c.Full w) := by
 intro fuel cs y h
 have hs := rd_size Tryz.underlying49 h
 obtain ⟨s, e0, -⟩ := rd_field Tryz.underlying49 h 0 0 1 (by kernel_rfl) (by kernel_rfl) (rd_string Tryz.underlying9)
 obtain ⟨a, e1, q1⟩ := rd_field Tryz.underlying49 h 1 1 1 (by kernel_rfl) (by kernel_rfl) (rd_i64 Tryz.underlying3)
 obtain ⟨l, e2, q2⟩ := rd_field Tryz.underlying49 h 2 2 1 (by kernel_rfl) (by kernel_rfl) (rd_slice Tryz.underlying47 (m := 2) (by kernel_rfl) (by omega) Stp.cells_len rd_stp11)
 obtain ⟨m, e3, q3⟩ := rd_field Tryz.underlying49 h 3 3 1 (by kernel_rfl) (by kernel_rfl) (rd_slice Tryz.underlying47 (m := 2) (by kernel_rfl) (by omega) Stp.cells_len rd_stp11)
 obtain ⟨x, e4, -⟩ := rd_field Tryz.underlying49 h 4 4 1 (by kernel_rfl) (by kernel_rfl) (rd_bool Tryz.underlying4)
 have hC : Tryz.prog.cellsOf 49 = 5 := by kernel_rfl
 rw [hC] at hs
 match cs, hs with
 | [c0, c1, c2, c3, c4], _ =>
  simp [Lst.cell] at e0 e1 e2 e3 e4
  subst e0 e1 e2 e3 e4
  exact ⟨⟨s, a, l.A, l.l, l.c, m.A, m.l, m.c, x⟩, rfl, ⟨⟨⟨q2.sl, fun y hy => (q2.all y hy).ok⟩, ⟨q3.sl, fun y hy => (q3.all y hy).ok⟩⟩, q1, q2.all, q3.all, q2.cap, q3.cap⟩⟩
structure Ctl.Full (w : World) (x : Ctl) : Prop where
 ok : Clss w x.cA x.cls
 cls : ∀ c ∈ x.cls, c.Full w
 br : ∀ j, j < 16 → I64 (x.b j)
 cc : x.cls.length ≤ x.cc ∧ x.cc ≤ maxLen
set_option maxRecDepth 100000 in
set_option maxHeartbeats 1000000 in
theorem arg_cat12 {v : Value} {d : DataW H} {p : List MemPlace} {r : Reach} {b : Nat} (hv : Value.okWide Tryz.prog w r b 26 v) (h : DataW.Trod enc Tryz.prog w 0 (fun _ => true) true 26 v d p) :
  ∃ x : Ctl, v = x.agg ∧ x.Full w := by
 obtain ⟨cs, rfl, _⟩ := okWide_struct Tryz.underlying26 hv
 obtain ⟨fuel, hf⟩ := h
 have hs := rd_size Tryz.underlying26 hf
 obtain ⟨l, e0, q0⟩ := rd_field Tryz.underlying26 hf 0 0 1 (by kernel_rfl) (by kernel_rfl) (rd_slice Tryz.underlying22 (m := 5) (by kernel_rfl) (by omega) Cls.cells_len rd_cls12)
 obtain ⟨a, e1, q1⟩ := rd_field Tryz.underlying26 hf 1 1 16 (by kernel_rfl) (by kernel_rfl) (rd_arr4 Tryz.underlying24 (m := 4) (by kernel_rfl) (by kernel_rfl) (rd_arr4 Tryz.underlying23 (m := 1) (by kernel_rfl) (by kernel_rfl) (rd_i64 Tryz.underlying3)))
 have hC : Tryz.prog.cellsOf 26 = 17 := by kernel_rfl
 rw [hC] at hs
 obtain ⟨⟨a0, a1, a2, a3⟩, ⟨a4, a5, a6, a7⟩, ⟨a8, a9, a10, a11⟩, ⟨a12, a13, a14, a15⟩⟩ := a
 obtain ⟨⟨q10, q11, q12, q13⟩, ⟨q14, q15, q16, q17⟩, ⟨q18, q19, q110, q111⟩, ⟨q112, q113, q114, q115⟩⟩ := q1
 obtain ⟨ls⟩ := cs
 have hl : (Value.agg ⟨ls⟩).cells.toList = ls := rfl
 rw [hl] at hs e0 e1
 match ls, hs with
 | [c0, c1, c2, c3, c4, c5, c6, c7, c8, c9, c10, c11, c12, c13, c14, c15, c16], _ =>
  simp [Lst.cell] at e0 e1
  obtain ⟨rfl, rfl, rfl, rfl, rfl, rfl, rfl, rfl, rfl, rfl, rfl, rfl, rfl, rfl, rfl, rfl⟩ := e1
  subst e0
  refine ⟨⟨l.A, l.l, l.c, fun j => [a0, a1, a2, a3, a4, a5, a6, a7, a8, a9, a10, a11, a12, a13, a14, a15].getD j 0⟩, rfl, ⟨⟨q0.sl, fun c hc => (q0.all c hc).ok⟩, q0.all, fun j hj => ?_, q0.cap⟩⟩
  have h : j = 0 ∨ j = 1 ∨ j = 2 ∨ j = 3 ∨ j = 4 ∨ j = 5 ∨ j = 6 ∨ j = 7 ∨ j = 8 ∨ j = 9 ∨ j = 10 ∨ j = 11 ∨ j = 12 ∨ j = 13 ∨ j = 14 ∨ j = 15 := by omega
  rcases h with rfl | rfl | rfl | rfl | rfl | rfl | rfl | rfl | rfl | rfl | rfl | rfl | rfl | rfl | rfl | rfl <;> assumption
end
end Go.Proofs.YtmeimhpllemjfaaGreat
/- What is read as a history's node that was handed in. -/
namespace Go.Proofs.YtmeimhpllemjfaaGreat
open Go.ChangeShapes Go.WideShapes Go.ChangeAt Go.RowKit

section
variable {H : Type} {enc : TypeId × Value → H} {w : World}
set_option maxRecDepth 100000 in
theorem rd_span14 : Rd enc Tryz.prog w 51 spC (fun _ => True) := by
 intro fuel cs y h
 have hs := rd_size Tryz.underlying51 h
 obtain ⟨a, e0, q0⟩ := rd_field Tryz.underlying51 h 0 0 1 (by kernel_rfl) (by kernel_rfl) (rd_i64 Tryz.underlying3)
 obtain ⟨b, e1, q1⟩ := rd_field Tryz.underlying51 h 1 1 1 (by kernel_rfl) (by kernel_rfl) (rd_i64 Tryz.underlying3)
 have hC : Tryz.prog.cellsOf 51 = 2 := by kernel_rfl
 rw [hC] at hs
 match cs, hs with
 | [c0, c1], _ =>
  simp at e0 e1
  subst e0 e1
  exact ⟨(a, b), rfl, trivial⟩
set_option maxRecDepth 100000 in
theorem rd_nd14 : Rd enc Tryz.prog w 37 Ndl.cells (fun x => x.Full w) := by
 intro fuel cs y h
 have hs := rd_size Tryz.underlying37 h
 obtain ⟨a, e0, q0⟩ := rd_field Tryz.underlying37 h 0 0 1 (by kernel_rfl) (by kernel_rfl) (rd_i64 Tryz.underlying3)
 obtain ⟨b, e1, q1⟩ := rd_field Tryz.underlying37 h 1 1 1 (by kernel_rfl) (by kernel_rfl) (rd_i64 Tryz.underlying3)
 obtain ⟨c, e2, q2⟩ := rd_field Tryz.underlying37 h 2 2 1 (by kernel_rfl) (by kernel_rfl) (rd_i64 Tryz.underlying3)
 obtain ⟨k, e3, -⟩ := rd_field Tryz.underlying37 h 3 3 1 (by kernel_rfl) (by kernel_rfl) (rd_bool Tryz.underlying4)
 obtain ⟨l, e4, q4⟩ := rd_field Tryz.underlying37 h 4 4 1 (by kernel_rfl) (by kernel_rfl) (rd_slice Tryz.underlying35 (m := 2) (by kernel_rfl) (by omega) spC_len rd_span14)
 obtain ⟨m, e5, q5⟩ := rd_field Tryz.underlying37 h 5 5 1 (by kernel_rfl) (by kernel_rfl) (rd_slice Tryz.underlying35 (m := 2) (by kernel_rfl) (by omega) spC_len rd_span14)
 have hC : Tryz.prog.cellsOf 37 = 6 := by kernel_rfl
 rw [hC] at hs
 match cs, hs with
 | [c0, c1, c2, c3, c4, c5], _ =>
  simp [Lst.cell] at e0 e1 e2 e3 e4 e5
  subst e0 e1 e2 e3 e4 e5
  exact ⟨⟨⟨a, b, c, k, l.l, m.l⟩, l.A, l.c, m.A, m.c⟩, rfl, ⟨⟨q4.sl, q5.sl⟩, ⟨q0, q1, q2⟩, q4.cap, q5.cap⟩⟩
end
end Go.Proofs.YtmeimhpllemjfaaGreat
