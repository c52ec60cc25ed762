/- Programs, purely: which templates, instructions and programs may be; their words. No program is spoken of. -/
import Derived.Test.YtmabapbdnafpfaaLib
import Derived.Test.YtmabapbdnafpfaaRows
import Derived.Laws.StructEq
namespace Go.Proofs.Ytmabapbdnafpfaa
open Go.RowKit

/-- An instruction. -/
structure Ins where
  op : Int
  a : Int
  b : Int
  c : Int
  ka : Int
  kb : Int
  la : Int
  lb : Int
  x : Int
def Ins.cells (i : Ins) : List Value := [.int .i64 i.op, .int .i64 i.a, .int .i64 i.b, .int .i64 i.c, .int .i64 i.ka, .int .i64 i.kb, .int .i64 i.la, .int .i64 i.lb, .int .i64 i.x]
theorem Ins.cells_len (i : Ins) : i.cells.length = 9 := rfl
def Ins.agg (i : Ins) : Value := .agg #[.int .i64 i.op, .int .i64 i.a, .int .i64 i.b, .int .i64 i.c, .int .i64 i.ka, .int .i64 i.kb, .int .i64 i.la, .int .i64 i.lb, .int .i64 i.x]
/-- A number that fits. -/
def I64 (n : Int) : Prop := -9223372036854775808 ≤ n ∧ n < 9223372036854775808
structure Ins.I (i : Ins) : Prop where
  op : I64 i.op
  a : I64 i.a
  b : I64 i.b
  c : I64 i.c
  ka : I64 i.ka
  kb : I64 i.kb
  la : I64 i.la
  lb : I64 i.lb
  x : I64 i.x
/-- May a template be, for so many arguments? -/
def keyOk (arg base n : Int) : Bool := decide (-1 ≤ arg ∧ arg < n ∧ 0 ≤ base ∧ base ≤ 900)
theorem keyOk_iff (arg base n : Int) : keyOk arg base n = true ↔ -1 ≤ arg ∧ arg < n ∧ 0 ≤ base ∧ base ≤ 900 := by simp [keyOk]
/-- May an instruction be? -/
def InsOk (i : Ins) (n : Int) : Prop :=
  (1 ≤ i.op ∧ i.op ≤ 8) ∧ (0 ≤ i.a ∧ i.a ≤ 3) ∧ (i.op = 3 → i.a = 0) ∧ (i.op ≠ 5 → i.op ≠ 8 → i.x = 0) ∧ (i.op ≠ 6 → i.op ≠ 7 → i.b = 0 ∧ i.c = 0) ∧ (4 < i.op → i.ka = 0 ∧ i.kb = 0) ∧ (i.op ≠ 4 → i.la = 0 ∧ i.lb = 0) ∧
  (i.op = 6 ∨ i.op = 7 → (0 ≤ i.b ∧ i.b ≤ 3) ∧ (0 ≤ i.c ∧ i.c ≤ 3)) ∧ (i.op ≤ 4 → -1 ≤ i.ka ∧ i.ka < n ∧ 0 ≤ i.kb ∧ i.kb ≤ 900) ∧ (i.op = 4 → -1 ≤ i.la ∧ i.la < n ∧ 0 ≤ i.lb ∧ i.lb ≤ 900)
instance (i : Ins) (n : Int) : Decidable (InsOk i n) := by unfold InsOk; infer_instance
def insOk (i : Ins) (n : Int) : Bool := decide (InsOk i n)
theorem insOk_iff (i : Ins) (n : Int) : insOk i n = true ↔ InsOk i n := by simp [insOk]
theorem insOk_more {i : Ins} {n : Int} (h : insOk i n = true) : insOk i (n + 1) = true := by
  rw [insOk_iff] at *
  unfold InsOk at *
  refine ⟨h.1, h.2.1, h.2.2.1, h.2.2.2.1, h.2.2.2.2.1, h.2.2.2.2.2.1, h.2.2.2.2.2.2.1, h.2.2.2.2.2.2.2.1, fun hc => ?_, fun hc => ?_⟩
  · have := h.2.2.2.2.2.2.2.2.1 hc
    omega
  · have := h.2.2.2.2.2.2.2.2.2 hc
    omega
/-- May a program be? -/
def progOk (l : List Ins) (n : Int) : Bool := decide (0 ≤ n ∧ n ≤ 3) && (decide (1 ≤ l.length ∧ l.length ≤ 8) && l.all fun i => insOk i n)
theorem progOk_more {l : List Ins} {n : Int} (h : progOk l n = true) (hn : n < 3) : progOk l (n + 1) = true := by
  unfold progOk at *
  simp only [Bool.and_eq_true, decide_eq_true_eq, List.all_eq_true] at *
  exact ⟨by omega, h.2.1, fun i hi => insOk_more (h.2.2 i hi)⟩
/-- Can't it fail? -/
def insSure (i : Ins) : Bool := decide (i.op ≠ 6 ∧ i.op ≠ 7 ∧ i.op ≠ 8)
def progSure (l : List Ins) : Bool := l.all insSure
theorem progSure_take {l : List Ins} (h : progSure l = true) (k : Nat) : progSure (l.take k) = true := by
  unfold progSure at *
  rw [List.all_eq_true] at *
  exact fun i hi => h i (List.mem_of_mem_take hi)
theorem progSure_one {l : List Ins} (h : progSure l = true) {k : Nat} (hk : k < l.length) : progSure [l[k]] = true := by
  unfold progSure at *
  rw [List.all_eq_true] at h
  simpa using h _ (List.getElem_mem hk)
/-- May arguments be? -/
def argsOk (l : List Int) : Bool := (l.all fun a => decide (0 ≤ a ∧ a ≤ 99)) && decide (l.length ≤ 3)
/-- A template's key. -/
def keyOf (arg base : Int) (l : List Int) : Int := if arg < 0 then base else base + l.getD arg.toNat 0
theorem keyOf_range {arg base : Int} {l : List Int} (hk : keyOk arg base l.length = true) (ha : argsOk l = true) : 0 ≤ keyOf arg base l ∧ keyOf arg base l ≤ 999 := by
  rw [keyOk_iff] at hk
  unfold argsOk at ha
  rw [Bool.and_eq_true, List.all_eq_true] at ha
  unfold keyOf
  split
  · omega
  · next h =>
    have hl : arg.toNat < l.length := by omega
    have := ha.1 _ (List.getElem_mem hl)
    rw [decide_eq_true_eq] at this
    rw [List.getD, List.getElem?_eq_getElem hl]
    simp only [Option.getD_some]
    omega
end Go.Proofs.Ytmabapbdnafpfaa
/- Whether a list has an element that a function tells: slices.ContainsFunc, of numbers, of templates, of instructions. -/
namespace Go.Proofs.Ytmabapbdnafpfaa
open Go.RowKit

/-- What is told of whether some element is such. -/
def Has (w : World) (b : Bool) (e : Ending) (w' : World) : Prop := e = .returned (.bool b) ∧ Fr No w w'
def ints (l : List Int) : List Value := l.map fun x => Value.int .i64 x
theorem ints_flat (l : List Int) : (l.flatMap fun n : Int => [Value.int .i64 n]) = ints l := by
  induction l with
  | nil => rfl
  | cons a r ih => simpa [ints] using ih
theorem any_step {α : Type} (p : α → Bool) (l : List α) (k : Nat) (hk : k < l.length) (h : (l.take k).any p = false) : (l.take (k + 1)).any p = p l[k] := by
  rw [List.take_succ_eq_append_getElem hk, List.any_append, h]
  simp
theorem any_found {α : Type} (p : α → Bool) (l : List α) (k : Nat) (hk : k < l.length) (h : p l[k] = true) : l.any p = true := by
  rw [List.any_eq_true]
  exact ⟨l[k], List.getElem_mem hk, h⟩
/-- Where the first such element stands; -1: there is none. -/
def At (w : World) (b : Bool) (e : Ending) (w' : World) : Prop := Fr No w w' ∧ ∃ r : Int, e = .returned (.int .i64 r) ∧ decide (0 ≤ r) = b
def kcell (k : Int × Int) : Value := .agg #[.int .i64 k.1, .int .i64 k.2]
def kflat (k : Int × Int) : List Value := [.int .i64 k.1, .int .i64 k.2]

theorem Sl.key9 {w : World} {B : Nat} {A : Option Addr} {l : List (Int × Int)} (h : Sl w B A (l.flatMap kflat)) {k : Nat} (hk : k < l.length) :
    ∃ ad, A = some ad ∧ ad.block < B ∧ w.cell? (ad.add (k * 2)) = some (.int .i64 l[k].1) ∧ w.cell? ⟨(ad.add (k * 2)).block, (ad.add (k * 2)).off + 1, none⟩ = some (.int .i64 l[k].2) := by
  obtain ⟨ad, e, hb, hc⟩ := h.row 2 (fun _ => rfl) hk (by omega)
  exact ⟨ad, e, hb, hc 0 _ rfl, hc 1 _ rfl⟩
theorem Sl.ins9 {w : World} {B : Nat} {A : Option Addr} {l : List Ins} (h : Sl w B A (l.flatMap Ins.cells)) {k : Nat} (hk : k < l.length) :
    ∃ ad, A = some ad ∧ ad.block < B ∧ w.cell? (ad.add (k * 9)) = some (.int .i64 l[k].op) ∧ w.cell? ⟨(ad.add (k * 9)).block, (ad.add (k * 9)).off + 1, none⟩ = some (.int .i64 l[k].a) ∧ w.cell? ⟨(ad.add (k * 9)).block, (ad.add (k * 9)).off + 2, none⟩ = some (.int .i64 l[k].b) ∧ w.cell? ⟨(ad.add (k * 9)).block, (ad.add (k * 9)).off + 3, none⟩ = some (.int .i64 l[k].c) ∧ w.cell? ⟨(ad.add (k * 9)).block, (ad.add (k * 9)).off + 4, none⟩ = some (.int .i64 l[k].ka) ∧ w.cell? ⟨(ad.add (k * 9)).block, (ad.add (k * 9)).off + 5, none⟩ = some (.int .i64 l[k].kb) ∧ w.cell? ⟨(ad.add (k * 9)).block, (ad.add (k * 9)).off + 6, none⟩ = some (.int .i64 l[k].la) ∧ w.cell? ⟨(ad.add (k * 9)).block, (ad.add (k * 9)).off + 7, none⟩ = some (.int .i64 l[k].lb) ∧ w.cell? ⟨(ad.add (k * 9)).block, (ad.add (k * 9)).off + 8, none⟩ = some (.int .i64 l[k].x) := by
  obtain ⟨ad, e, hb, hc⟩ := h.row 9 Ins.cells_len hk (by omega)
  exact ⟨ad, e, hb, hc 0 _ rfl, hc 1 _ rfl, hc 2 _ rfl, hc 3 _ rfl, hc 4 _ rfl, hc 5 _ rfl, hc 6 _ rfl, hc 7 _ rfl, hc 8 _ rfl⟩

end Go.Proofs.Ytmabapbdnafpfaa
/- When two templates, and two instructions, are the same. -/
namespace Go.Proofs.Ytmabapbdnafpfaa
open Go.RowKit

end Go.Proofs.Ytmabapbdnafpfaa
