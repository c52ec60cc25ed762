/- Which footprints may be, as the document has it; sets that lie inside one another; footprints that are the same. -/
import Derived.Test.YtmabapbdnafpfaaRgt10
import Derived.Test.YtmabapbdnafpfaaMay9
import Derived.Test.YtmabapbdnafpfaaRef4
import Derived.Deep.QuietTactic
import Derived.BigQuiet
import Derived.Laws.StructEq
namespace Go.Proofs.Ytmabapbdnafpfaa
open Go.RowKit

end Go.Proofs.Ytmabapbdnafpfaa
/- Whether two programs, and two footprints, are the same, as the document has it. -/
namespace Go.Proofs.Ytmabapbdnafpfaa
open Go.RowKit

instance decIns : DecidableEq Ins := fun a b => decidable_of_iff (a.op = b.op ∧ a.a = b.a ∧ a.b = b.b ∧ a.c = b.c ∧ a.ka = b.ka ∧ a.kb = b.kb ∧ a.la = b.la ∧ a.lb = b.lb ∧ a.x = b.x) ⟨fun h => by
  obtain ⟨o, a1, b1, c1, ka, kb, la, lb, x⟩ := a
  obtain ⟨o', a1', b1', c1', ka', kb', la', lb', x'⟩ := b
  obtain ⟨rfl, rfl, rfl, rfl, rfl, rfl, rfl, rfl, rfl⟩ := h
  rfl, fun h => by subst h; exact ⟨rfl, rfl, rfl, rfl, rfl, rfl, rfl, rfl, rfl⟩⟩
instance decFsp : DecidableEq Fsp := fun a b => decidable_of_iff (a.la = b.la ∧ a.lb = b.lb ∧ a.ha = b.ha ∧ a.hb = b.hb ∧ a.wr = b.wr) ⟨fun h => by
  obtain ⟨la, lb, ha, hb, wt⟩ := a
  obtain ⟨la', lb', ha', hb', wt'⟩ := b
  obtain ⟨rfl, rfl, rfl, rfl, rfl⟩ := h
  rfl, fun h => by subst h; exact ⟨rfl, rfl, rfl, rfl, rfl⟩⟩
theorem take_eq_step {α : Type} [DecidableEq α] {a b : List α} {k : Nat} (ha : k < a.length) (hb : k < b.length) (h : a.take k = b.take k) (hk : a[k] = b[k]) : a.take (k + 1) = b.take (k + 1) := by
  rw [List.take_succ_eq_append_getElem ha, List.take_succ_eq_append_getElem hb, h, hk]
theorem take_eq_not {α : Type} {a b : List α} {k : Nat} (ha : k < a.length) (hb : k < b.length) (hk : a[k] ≠ b[k]) : a ≠ b := by
  rintro rfl
  exact hk rfl
theorem ins_ne {o a b cc ka kb la lb x o' a' b' cc' ka' kb' la' lb' x' : Int} (h : (⟨o, a, b, cc, ka, kb, la, lb, x⟩ : Ins) ≠ ⟨o', a', b', cc', ka', kb', la', lb', x'⟩) :
    (o == o' && (a == a' && (b == b' && (cc == cc' && ((ka == ka' && kb == kb') && ((la == la' && lb == lb') && x == x')))))) = false := by
  rw [Bool.eq_false_iff]
  intro e
  simp only [Bool.and_eq_true, beq_iff_eq] at e
  obtain ⟨rfl, rfl, rfl, rfl, ⟨rfl, rfl⟩, ⟨rfl, rfl⟩, rfl⟩ := e
  exact h rfl

theorem fsp_ne {la lb ha hb la' lb' ha' hb' : Int} {wt wt' : Bool} (h : (⟨la, lb, ha, hb, wt⟩ : Fsp) ≠ ⟨la', lb', ha', hb', wt'⟩) : ((la == la' && lb == lb') && ((ha == ha' && hb == hb') && wt == wt')) = false := by
  rw [Bool.eq_false_iff]
  intro e
  simp only [Bool.and_eq_true, beq_iff_eq] at e
  obtain ⟨⟨rfl, rfl⟩, ⟨rfl, rfl⟩, rfl⟩ := e
  exact h rfl

end Go.Proofs.Ytmabapbdnafpfaa
/- Classes: as they lie there, and purely. -/
namespace Go.Proofs.Ytmabapbdnafpfaa
open Go.RowKit

/-- A step: its program and its footprint, as slices. -/
structure Stp where
  cA : Option Addr
  code : List Ins
  cc : Nat
  fA : Option Addr
  foot : List Fsp
  fc : Nat
def Stp.cells (s : Stp) : List Value := [.slice s.cA s.code.length s.cc, .slice s.fA s.foot.length s.fc]
theorem Stp.cells_len (s : Stp) : s.cells.length = 2 := rfl
def Stp.agg (s : Stp) : Value := .agg #[.slice s.cA s.code.length s.cc, .slice s.fA s.foot.length s.fc]
structure Stp.Ok (w : World) (B : Nat) (s : Stp) : Prop where
  code : Sl w B s.cA (s.code.flatMap Ins.cells)
  foot : Sl w B s.fA (s.foot.flatMap Fsp.cells)
/-- Its numbers fit. -/
structure Stp.I (s : Stp) : Prop where
  ci : ∀ i ∈ s.code, i.I
  fi : ∀ f ∈ s.foot, f.I
theorem Stp.Ok.since {w W : World} {s : Stp} (h : s.Ok w w.heap.size) (hf : Fr No w W) : s.Ok W W.heap.size := ⟨h.code.since hf, h.foot.since hf⟩
/-- Steps that lie there. -/
structure Sts (w : World) (A : Option Addr) (l : List Stp) : Prop where
  sl : Sl w w.heap.size A (l.flatMap Stp.cells)
  all : ∀ s ∈ l, s.Ok w w.heap.size
theorem Sts.since {w W : World} {A : Option Addr} {l : List Stp} (h : Sts w A l) (hf : Fr No w W) : Sts W A l := ⟨h.sl.since hf, fun s hs => (h.all s hs).since hf⟩
theorem Sl.stp {w : World} {B : Nat} {A : Option Addr} {l : List Stp} (h : Sl w B A (l.flatMap Stp.cells)) {k : Nat} (hk : k < l.length) :
    ∃ ad, A = some ad ∧ ad.block < B ∧ w.cell? (ad.add (k * 2)) = some (.slice l[k].cA l[k].code.length l[k].cc) ∧ w.cell? ⟨(ad.add (k * 2)).block, (ad.add (k * 2)).off + 1, none⟩ = some (.slice l[k].fA l[k].foot.length l[k].fc) := by
  obtain ⟨ad, e, hb, hc⟩ := h.row 2 Stp.cells_len hk (by omega)
  exact ⟨ad, e, hb, hc 0 _ rfl, hc 1 _ rfl⟩
def Stp.p (s : Stp) : List Ins × List Fsp := (s.code, s.foot)
structure Cls where
  name : ByteArray
  args : Int
  sA : Option Addr
  steps : List Stp
  sc : Nat
  uA : Option Addr
  comps : List Stp
  uc : Nat
  res : Bool
def Cls.cells (c : Cls) : List Value := [.string c.name, .int .i64 c.args, .slice c.sA c.steps.length c.sc, .slice c.uA c.comps.length c.uc, .bool c.res]
theorem Cls.cells_len (c : Cls) : c.cells.length = 5 := rfl
def Cls.agg (c : Cls) : Value := .agg #[.string c.name, .int .i64 c.args, .slice c.sA c.steps.length c.sc, .slice c.uA c.comps.length c.uc, .bool c.res]
structure Cls.Ok (w : World) (c : Cls) : Prop where
  steps : Sts w c.sA c.steps
  comps : Sts w c.uA c.comps
theorem Cls.Ok.since {w W : World} {c : Cls} (h : c.Ok w) (hf : Fr No w W) : c.Ok W := ⟨h.steps.since hf, h.comps.since hf⟩
/-- A class, purely. -/
structure PC where
  name : ByteArray
  args : Int
  steps : List (List Ins × List Fsp)
  comps : List (List Ins × List Fsp)
  res : Bool
def Cls.p (c : Cls) : PC := ⟨c.name, c.args, c.steps.map Stp.p, c.comps.map Stp.p, c.res⟩
/-- May a Comp's Code be? -/
def compOk (c : List Ins) (n : Int) : Bool := (decide (c.length = 0) || progOk c n) && c.all fun i => decide (i.op < 6)
/-- May a step and its Comp be? -/
def pairOk (n : Int) (q : (List Ins × List Fsp) × (List Ins × List Fsp)) : Bool := progOk q.1.1 n && (footOk q.1.2 n && (footOk q.2.2 n && compOk q.2.1 n))
/-- May a class be? -/
def PC.ok (c : PC) : Bool := decide (1 ≤ c.name.size ∧ c.name.size ≤ 16) && (decide (0 ≤ c.args ∧ c.args ≤ 3) && (decide (1 ≤ c.steps.length ∧ c.steps.length ≤ 4) && (decide (c.comps.length = c.steps.length) && (c.steps.zip c.comps).all (pairOk c.args))))
/-- Are two classes the same? -/
def PC.same (a b : PC) : Bool := a.name.toList == b.name.toList && (a.args == b.args && (a.res == b.res && (decide (a.steps = b.steps) && decide (a.comps = b.comps))))
theorem stp_ne_code {a b : List Stp} {k : Nat} (ha : k < a.length) (hb : k < b.length) (h : a[k].p ≠ b[k].p) : decide (a.map Stp.p = b.map Stp.p) = false := by
  rw [decide_eq_false_iff_not]
  intro e
  have h1 : (a.map Stp.p)[k]'(by simpa using ha) = (b.map Stp.p)[k]'(by simpa using hb) := by simp only [e]
  simp only [List.getElem_map] at h1
  exact h h1
theorem stp_step {a b : List Stp} {k : Nat} (ha : k < a.length) (hb : k < b.length) (h : (a.take k).map Stp.p = (b.take k).map Stp.p) (hk : a[k].p = b[k].p) : (a.take (k + 1)).map Stp.p = (b.take (k + 1)).map Stp.p := by
  rw [List.take_succ_eq_append_getElem ha, List.take_succ_eq_append_getElem hb, List.map_append, List.map_append, h]
  simp [hk]
end Go.Proofs.Ytmabapbdnafpfaa
