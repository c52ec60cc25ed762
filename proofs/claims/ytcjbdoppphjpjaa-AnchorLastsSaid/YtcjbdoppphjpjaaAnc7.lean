/- Anchors, purely: which may be, their sectors, what a sector tells, what two sectors tell. -/
import Derived.Test.YtcjbdoppphjpjaaRef2
import Derived.Test.YtcjbdoppphjpjaaDev3
namespace Go.Proofs.Ytcjbdoppphjpjaa
open Go.RowKit

/-- An anchor: its number, its epoch, its area, its words. -/
structure Anc where
  n : Int
  e : Int
  a : Int
  w : Int
def Anc.cells (x : Anc) : List Value := [.int .i64 x.n, .int .i64 x.e, .int .i64 x.a, .int .i64 x.w]
def Anc.val (x : Anc) : Value := .agg #[.int .i64 x.n, .int .i64 x.e, .int .i64 x.a, .int .i64 x.w]
def anc0 : Anc := ⟨0, 0, 0, 0⟩
def ancOk (x : Anc) : Bool := decide (1 ≤ x.n ∧ x.n < 4294967296 ∧ 0 ≤ x.e ∧ x.e < 4294967296 ∧ (x.a = 0 ∨ x.a = 1) ∧ 0 ≤ x.w ∧ x.w ≤ 1048576)
theorem ancOk_iff (x : Anc) : ancOk x = true ↔ 1 ≤ x.n ∧ x.n < 4294967296 ∧ 0 ≤ x.e ∧ x.e < 4294967296 ∧ (x.a = 0 ∨ x.a = 1) ∧ 0 ≤ x.w ∧ x.w ≤ 1048576 := by simp [ancOk]
/-- The words of a sector that a mark is of, and the mark. -/
def ancL (x : Anc) : List Nat := [x.n.toNat, x.e.toNat, x.a.toNat, x.w.toNat]
def ancM (x : Anc) : Nat := mkW 9 (x.n % 16777216) (ancL x)
theorem ancM_lt (x : Anc) : ancM x < 18446744073709551616 := mkW_lt _ _ _
def ancS (x : Anc) : List Nat := [ancM x, x.n.toNat, x.e.toNat, x.a.toNat, x.w.toNat, 0, 0, 0]
/-- The anchor whose sector this is. -/
def ofSec (s : List Nat) : Anc := ⟨(s.getD 1 0 : Nat), (s.getD 2 0 : Nat), (s.getD 3 0 : Nat), (s.getD 4 0 : Nat)⟩
def readOk (s : List Nat) : Prop := ancOk (ofSec s) = true ∧ ancS (ofSec s) = s
instance (s : List Nat) : Decidable (readOk s) := by unfold readOk; infer_instance
def readA (s : List Nat) : Option Anc := if readOk s then some (ofSec s) else none
theorem ofSec_sec {x : Anc} (h : ancOk x = true) : ofSec (ancS x) = x := by
  obtain ⟨n, e, a, w⟩ := x
  obtain ⟨h1, h2, h3, h4, h5, h6, h7⟩ := (ancOk_iff _).1 h
  simp only at h1 h2 h3 h4 h5 h6 h7
  simp only [ofSec, ancS, List.getD_cons_zero, List.getD_cons_succ, Anc.mk.injEq]
  omega
/-- What is written is read. -/
theorem readA_sec {x : Anc} (h : ancOk x = true) : readA (ancS x) = some x := by
  have e := ofSec_sec h
  unfold readA
  rw [if_pos ⟨by rw [e]; exact h, by rw [e]⟩, e]
theorem readA_some {s : List Nat} {x : Anc} (h : readA s = some x) : ancOk x = true ∧ ancS x = s := by
  unfold readA at h
  split at h
  · next c => cases h; exact c
  · cases h
/-- Words of 2^32 and more are in no anchor's sector. -/
theorem readA_great {s : List Nat} {i : Nat} (hi : 1 ≤ i ∧ i < 5) (h : 4294967296 ≤ s.getD i 0) : readA s = none := by
  cases hr : readA s with
  | none => rfl
  | some x =>
    obtain ⟨h1, rfl⟩ := readA_some hr
    obtain ⟨a1, a2, a3, a4, a5, a6, a7⟩ := (ancOk_iff _).1 h1
    have : i = 1 ∨ i = 2 ∨ i = 3 ∨ i = 4 := by omega
    rcases this with rfl | rfl | rfl | rfl <;> simp only [ancS, List.getD_cons_zero, List.getD_cons_succ] at h <;> omega
/-- The anchor that two sectors tell: of those that stand in their ownP sector the one with the greater number. -/
def ownP (b : Int) (x : Option Anc) : Option Anc := x.filter fun y => decide (y.n % 2 = b)
def findA (s t : List Nat) : Option Anc :=
  match ownP 0 (readA s), ownP 1 (readA t) with
  | some x, some y => if y.n < x.n then some x else some y
  | some x, none => some x
  | none, y => y
/-- What an anchor of number n turns: the sector n modulo 2. -/
theorem findA_write {t : List Nat} {x : Anc} (h : ancOk x = true) (hp : x.n % 2 = 0) : findA (ancS x) t = match ownP 1 (readA t) with | some y => if y.n < x.n then some x else some y | none => some x := by
  unfold findA
  rw [readA_sec h]
  have : ownP 0 (some x) = some x := by simp [ownP, hp]
  rw [this]
  cases ownP 1 (readA t) <;> rfl
end Go.Proofs.Ytcjbdoppphjpjaa
