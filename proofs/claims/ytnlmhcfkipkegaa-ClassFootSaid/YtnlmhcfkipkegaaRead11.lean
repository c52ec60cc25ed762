/- What is read as a template, as an instruction, as arguments. -/
import Derived.Test.YtnlmhcfkipkegaaArgs
import Derived.Test.YtnlmhcfkipkegaaPrg9
import Derived.Test.YtnlmhcfkipkegaaPrg10
import Derived.Test.YtnlmhcfkipkegaaCls11
namespace Go.Proofs.Ytnlmhcfkipkegaa
open Go.ChangeShapes Go.WideShapes Go.ChangeAt Go.RowKit

def kc2 (k : Int × Int) : List Value := [.int .i64 k.1, .int .i64 k.2]
section
variable {H : Type} {enc : TypeId × Value → H} {w : World}
set_option maxRecDepth 100000 in
theorem rd_key9 : Rd enc Try.prog w 49 kc2 (fun k => I64 k.1 ∧ I64 k.2) := by
  intro fuel cs y h
  have hs := rd_size Try.underlying49 h
  obtain ⟨a, e0, q0⟩ := rd_field Try.underlying49 h 0 0 1 (by kernel_rfl) (by kernel_rfl) (rd_i64 Try.underlying3)
  obtain ⟨b, e1, q1⟩ := rd_field Try.underlying49 h 1 1 1 (by kernel_rfl) (by kernel_rfl) (rd_i64 Try.underlying3)
  have hC : Try.prog.cellsOf 49 = 2 := by kernel_rfl
  rw [hC] at hs
  match cs, hs with
  | [c0, c1], _ =>
    simp at e0 e1
    subst e0 e1
    exact ⟨(a, b), rfl, q0, q1⟩
set_option maxRecDepth 100000 in
theorem arg_key9 {v : Value} {d : DataW H} {p : List MemPlace} {r : Reach} {b : Nat} (hv : Value.okWide Try.prog w r b 49 v) (h : DataW.Trod enc Try.prog w 0 (fun _ => true) true 49 v d p) :
    ∃ x y : Int, v = .agg #[.int .i64 x, .int .i64 y] ∧ I64 x ∧ I64 y := by
  obtain ⟨cs, rfl, _⟩ := okWide_struct Try.underlying49 hv
  obtain ⟨fuel, hf⟩ := h
  have hs := rd_size Try.underlying49 hf
  obtain ⟨a, e0, q0⟩ := rd_field Try.underlying49 hf 0 0 1 (by kernel_rfl) (by kernel_rfl) (rd_i64 Try.underlying3)
  obtain ⟨b, e1, q1⟩ := rd_field Try.underlying49 hf 1 1 1 (by kernel_rfl) (by kernel_rfl) (rd_i64 Try.underlying3)
  have hC : Try.prog.cellsOf 49 = 2 := by kernel_rfl
  rw [hC] at hs
  obtain ⟨l⟩ := cs
  have hl : (Value.agg ⟨l⟩).cells.toList = l := rfl
  rw [hl] at hs e0 e1
  match l, hs with
  | [c0, c1], _ =>
    simp at e0 e1
    subst e0 e1
    exact ⟨a, b, rfl, q0, q1⟩
set_option maxRecDepth 100000 in
theorem rd_ins9 : Rd enc Try.prog w 51 Ins.cells Ins.I := by
  intro fuel cs y h
  have hs := rd_size Try.underlying51 h
  obtain ⟨o, e0, q0⟩ := rd_field Try.underlying51 h 0 0 1 (by kernel_rfl) (by kernel_rfl) (rd_i64 Try.underlying3)
  obtain ⟨a, e1, q1⟩ := rd_field Try.underlying51 h 1 1 1 (by kernel_rfl) (by kernel_rfl) (rd_i64 Try.underlying3)
  obtain ⟨b, e2, q2⟩ := rd_field Try.underlying51 h 2 2 1 (by kernel_rfl) (by kernel_rfl) (rd_i64 Try.underlying3)
  obtain ⟨c, e3, q3⟩ := rd_field Try.underlying51 h 3 3 1 (by kernel_rfl) (by kernel_rfl) (rd_i64 Try.underlying3)
  obtain ⟨k, e4, q4⟩ := rd_field Try.underlying51 h 4 4 2 (by kernel_rfl) (by kernel_rfl) rd_key9
  obtain ⟨l, e5, q5⟩ := rd_field Try.underlying51 h 5 6 2 (by kernel_rfl) (by kernel_rfl) rd_key9
  obtain ⟨x, e6, q6⟩ := rd_field Try.underlying51 h 6 8 1 (by kernel_rfl) (by kernel_rfl) (rd_i64 Try.underlying2)
  have hC : Try.prog.cellsOf 51 = 9 := by kernel_rfl
  rw [hC] at hs
  obtain ⟨k1, k2⟩ := k
  obtain ⟨l1, l2⟩ := l
  match cs, hs with
  | [c0, c1, c2, c3, c4, c5, c6, c7, c8], _ =>
    simp [kc2] at e0 e1 e2 e3 e4 e5 e6
    obtain ⟨rfl, rfl⟩ := e4
    obtain ⟨rfl, rfl⟩ := e5
    subst e0 e1 e2 e3 e6
    exact ⟨⟨o, a, b, c, k1, k2, l1, l2, x⟩, rfl, ⟨q0, q1, q2, q3, q4.1, q4.2, q5.1, q5.2, q6⟩⟩
end
end Go.Proofs.Ytnlmhcfkipkegaa
/- What is read as a span of templates. -/
namespace Go.Proofs.Ytnlmhcfkipkegaa
open Go.ChangeShapes Go.WideShapes Go.ChangeAt Go.RowKit

section
variable {H : Type} {enc : TypeId × Value → H} {w : World}
set_option maxRecDepth 100000 in
theorem rd_fsp10 : Rd enc Try.prog w 97 Fsp.cells Fsp.I := by
  intro fuel cs y h
  have hs := rd_size Try.underlying97 h
  obtain ⟨k, e0, q0⟩ := rd_field Try.underlying97 h 0 0 2 (by kernel_rfl) (by kernel_rfl) rd_key9
  obtain ⟨l, e1, q1⟩ := rd_field Try.underlying97 h 1 2 2 (by kernel_rfl) (by kernel_rfl) rd_key9
  obtain ⟨b, e2, -⟩ := rd_field Try.underlying97 h 2 4 1 (by kernel_rfl) (by kernel_rfl) (rd_bool Try.underlying4)
  have hC : Try.prog.cellsOf 97 = 5 := by kernel_rfl
  rw [hC] at hs
  obtain ⟨k1, k2⟩ := k
  obtain ⟨l1, l2⟩ := l
  match cs, hs with
  | [c0, c1, c2, c3, c4], _ =>
    simp [kc2] at e0 e1 e2
    obtain ⟨rfl, rfl⟩ := e0
    obtain ⟨rfl, rfl⟩ := e1
    subst e2
    exact ⟨⟨k1, k2, l1, l2, b⟩, rfl, ⟨q0.1, q0.2, q1.1, q1.2⟩⟩
set_option maxRecDepth 100000 in
theorem arg_fsp10 {v : Value} {d : DataW H} {p : List MemPlace} {r : Reach} {b : Nat} (hv : Value.okWide Try.prog w r b 97 v) (h : DataW.Trod enc Try.prog w 0 (fun _ => true) true 97 v d p) :
    ∃ f : Fsp, v = f.agg ∧ f.I := by
  obtain ⟨cs, rfl, _⟩ := okWide_struct Try.underlying97 hv
  obtain ⟨fuel, hf⟩ := h
  obtain ⟨f, e, q⟩ := rd_fsp10 fuel _ _ hf
  refine ⟨f, ?_, q⟩
  obtain ⟨l⟩ := cs
  have hl : (Value.agg ⟨l⟩).cells.toList = l := rfl
  rw [hl] at e
  subst e
  rfl
end
end Go.Proofs.Ytnlmhcfkipkegaa
/- What is read as a class. -/
namespace Go.Proofs.Ytnlmhcfkipkegaa
open Go.ChangeShapes Go.WideShapes Go.ChangeAt Go.RowKit

section
variable {H : Type} {enc : TypeId × Value → H} {w : World}
/-- A step that was handed in: it lies there, its numbers fit, its lists have the room that they say. -/
structure Stp.Full (w : World) (s : Stp) : Prop where
  ok : s.Ok w w.heap.size
  fit : s.I
  cc : s.code.length ≤ s.cc ∧ s.cc ≤ maxLen
  fc : s.foot.length ≤ s.fc ∧ s.fc ≤ maxLen
set_option maxRecDepth 100000 in
theorem rd_stp11 : Rd enc Try.prog w 55 Stp.cells (fun s => s.Full w) := by
  intro fuel cs y h
  have hs := rd_size Try.underlying55 h
  obtain ⟨a, e0, q0⟩ := rd_field Try.underlying55 h 0 0 1 (by kernel_rfl) (by kernel_rfl) (rd_slice Try.underlying52 (m := 9) (by kernel_rfl) (by omega) Ins.cells_len rd_ins9)
  obtain ⟨b, e1, q1⟩ := rd_field Try.underlying55 h 1 1 1 (by kernel_rfl) (by kernel_rfl) (rd_slice Try.underlying53 (m := 5) (by kernel_rfl) (by omega) Fsp.cells_len rd_fsp10)
  have hC : Try.prog.cellsOf 55 = 2 := by kernel_rfl
  rw [hC] at hs
  match cs, hs with
  | [c0, c1], _ =>
    simp [Lst.cell] at e0 e1
    subst e0 e1
    exact ⟨⟨a.A, a.l, a.c, b.A, b.l, b.c⟩, rfl, ⟨⟨q0.sl, q1.sl⟩, ⟨q0.all, q1.all⟩, q0.cap, q1.cap⟩⟩
/-- A class that was handed in. -/
structure Cls.Full (w : World) (c : Cls) : Prop where
  ok : c.Ok w
  args : I64 c.args
  steps : ∀ s ∈ c.steps, s.Full w
  comps : ∀ s ∈ c.comps, s.Full w
  sc : c.steps.length ≤ c.sc ∧ c.sc ≤ maxLen
  uc : c.comps.length ≤ c.uc ∧ c.uc ≤ maxLen
set_option maxRecDepth 100000 in
theorem arg_cls11 {v : Value} {d : DataW H} {p : List MemPlace} {r : Reach} {b : Nat} (hv : Value.okWide Try.prog w r b 31 v) (h : DataW.Trod enc Try.prog w 0 (fun _ => true) true 31 v d p) :
    ∃ c : Cls, v = c.agg ∧ c.Full w := by
  obtain ⟨cs, rfl, _⟩ := okWide_struct Try.underlying31 hv
  obtain ⟨fuel, hf⟩ := h
  have hs := rd_size Try.underlying31 hf
  obtain ⟨s, e0, -⟩ := rd_field Try.underlying31 hf 0 0 1 (by kernel_rfl) (by kernel_rfl) (rd_string Try.underlying9)
  obtain ⟨a, e1, q1⟩ := rd_field Try.underlying31 hf 1 1 1 (by kernel_rfl) (by kernel_rfl) (rd_i64 Try.underlying3)
  obtain ⟨l, e2, q2⟩ := rd_field Try.underlying31 hf 2 2 1 (by kernel_rfl) (by kernel_rfl) (rd_slice Try.underlying29 (m := 2) (by kernel_rfl) (by omega) Stp.cells_len rd_stp11)
  obtain ⟨m, e3, q3⟩ := rd_field Try.underlying31 hf 3 3 1 (by kernel_rfl) (by kernel_rfl) (rd_slice Try.underlying29 (m := 2) (by kernel_rfl) (by omega) Stp.cells_len rd_stp11)
  obtain ⟨x, e4, -⟩ := rd_field Try.underlying31 hf 4 4 1 (by kernel_rfl) (by kernel_rfl) (rd_bool Try.underlying4)
  have hC : Try.prog.cellsOf 31 = 5 := by kernel_rfl
  rw [hC] at hs
  obtain ⟨ls⟩ := cs
  have hl : (Value.agg ⟨ls⟩).cells.toList = ls := rfl
  rw [hl] at hs e0 e1 e2 e3 e4
  match ls, hs with
  | [c0, c1, c2, c3, c4], _ =>
    simp [Lst.cell] at e0 e1 e2 e3 e4
    subst e0 e1 e2 e3 e4
    exact ⟨⟨s, a, l.A, l.l, l.c, m.A, m.l, m.c, x⟩, rfl, ⟨⟨⟨q2.sl, fun y hy => (q2.all y hy).ok⟩, ⟨q3.sl, fun y hy => (q3.all y hy).ok⟩⟩, q1, q2.all, q3.all, q2.cap, q3.cap⟩⟩
end
end Go.Proofs.Ytnlmhcfkipkegaa
