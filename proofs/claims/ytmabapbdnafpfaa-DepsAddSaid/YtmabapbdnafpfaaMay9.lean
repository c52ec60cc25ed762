/- Which templates, instructions, programs and arguments may be, as the document has it. -/
import Derived.Test.YtmabapbdnafpfaaIdx9
import Derived.Deep.RegionHeld3
namespace Go.Proofs.Ytmabapbdnafpfaa
open Go.RowKit

theorem Sl.int9 {w : World} {B : Nat} {A : Option Addr} {l : List Int} (h : Sl w B A (ints l)) {k : Nat} (hk : k < l.length) : ∃ ad, A = some ad ∧ ad.block < B ∧ w.cell? (ad.add k) = some (.int .i64 l[k]) := by
  obtain ⟨ad, e, hb, hc⟩ := h.at (k := k) (by simpa [ints] using hk)
  exact ⟨ad, e, hb, by rw [hc]; simp [ints]⟩

end Go.Proofs.Ytmabapbdnafpfaa
/- Which templates, instructions and programs package prog says may be. -/
namespace Go.Proofs.Ytmabapbdnafpfaa
open Go.RowKit

theorem Sl.int1 (w : World) (x : Int) (t : TypeId) (H : Nat) (hH : H = w.heap.size) : Sl (w.alloc (.cells #[.int .i64 x] t)) (w.alloc (.cells #[.int .i64 x] t)).heap.size (some ⟨H, 0, none⟩) (ints [x]) := by
  subst hH
  have h := Sl.made w t #[.int .i64 x]
  rw [show (w.alloc (.cells #[.int .i64 x] t)).heap.size = w.heap.size + 1 by simp]
  exact h

/-- The templates that an instruction has. -/
def tmpls (i : Ins) : List (Int × Int) := if i.op = 1 ∨ i.op = 2 ∨ i.op = 3 then [(i.ka, i.kb)] else if i.op = 4 then [(i.ka, i.kb), (i.la, i.lb)] else []
theorem tmpls_len (i : Ins) : (tmpls i).length ≤ 2 := by
  unfold tmpls
  split
  · simp
  · split <;> simp
theorem slMade (w : World) (t : TypeId) (cs : Array Value) (xs : List Value) (H : Nat) (hH : H = w.heap.size) (hl : cs.toList = xs) : Sl (w.alloc (.cells cs t)) (w.alloc (.cells cs t)).heap.size (some ⟨H, 0, none⟩) xs := by
  subst hH hl
  have h := Sl.made w t cs
  rw [show (w.alloc (.cells cs t)).heap.size = w.heap.size + 1 by simp]
  exact h
/-- What tells templates. -/
def Tells9 (w : World) (l : List (Int × Int)) (e : Ending) (w' : World) : Prop := ∃ A c, e = .returned (.slice A l.length c) ∧ Sl w' w'.heap.size A (l.flatMap kflat) ∧ Fr No w w'
/-- An instruction with nothing but what its Op has. -/
def ownI (i : Ins) : Ins :=
  if i.op = 1 ∨ i.op = 2 then ⟨i.op, i.a, 0, 0, i.ka, i.kb, 0, 0, 0⟩ else if i.op = 3 then ⟨i.op, 0, 0, 0, i.ka, i.kb, 0, 0, 0⟩ else if i.op = 4 then ⟨i.op, i.a, 0, 0, i.ka, i.kb, i.la, i.lb, 0⟩
  else if i.op = 6 ∨ i.op = 7 then ⟨i.op, i.a, i.b, i.c, 0, 0, 0, 0, 0⟩ else if i.op = 5 ∨ i.op = 8 then ⟨i.op, i.a, 0, 0, 0, 0, 0, 0, i.x⟩ else ⟨0, 0, 0, 0, 0, 0, 0, 0, 0⟩
end Go.Proofs.Ytmabapbdnafpfaa
/- Which instructions and programs package prog says may be, and which can't fail; a template's key. -/
namespace Go.Proofs.Ytmabapbdnafpfaa
open Go.RowKit

/-- Whether an instruction has nothing but what its Op has. -/
def sameI (i j : Ins) : Bool := i.op == j.op && (i.a == j.a && (i.b == j.b && (i.c == j.c && ((i.ka == j.ka && i.kb == j.kb) && ((i.la == j.la && i.lb == j.lb) && i.x == j.x)))))
theorem insOk_parts (i : Ins) (n : Int) : insOk i n = (decide (1 ≤ i.op ∧ i.op ≤ 8) && (sameI i (ownI i) && ([i.a, i.b, i.c].all (fun x => decide (0 ≤ x ∧ x ≤ 3)) && (tmpls i).all fun k => keyOk k.1 k.2 n))) := by
  obtain ⟨o, a, b, c, ka, kb, la, lb, x⟩ := i
  rw [Bool.eq_iff_iff, insOk_iff]
  by_cases h : 1 ≤ o ∧ o ≤ 8
  · rcases (show o = 1 ∨ o = 2 ∨ o = 3 ∨ o = 4 ∨ o = 5 ∨ o = 6 ∨ o = 7 ∨ o = 8 by omega) with rfl | rfl | rfl | rfl | rfl | rfl | rfl | rfl
    all_goals
      clear h
      simp [InsOk, ownI, sameI, tmpls, keyOk]
      omega
  · simp only [InsOk]
    simp [h]

theorem Has.since {a w : World} {b : Bool} {e : Ending} {w' : World} (ha : Fr No a w) (h : Has w b e w') : Has a b e w' := ⟨h.1, ha.then0 h.2 (fun _ h => h.elim)⟩

end Go.Proofs.Ytmabapbdnafpfaa
/- A template's key, as package prog has it. -/
namespace Go.Proofs.Ytmabapbdnafpfaa
open Go.RowKit

/-- A template's key for arguments, and whether there is one. -/
def keyV (x y : Int) (l : List Int) : Int × Bool := if (argsOk l && keyOk x y l.length) = true then (keyOf x y l, true) else (0, false)
def KeyGot (w : World) (r : Int × Bool) (e : Ending) (w' : World) : Prop := e = .returned (.tuple #[.int .i64 r.1, .bool r.2]) ∧ Fr No w w'
end Go.Proofs.Ytmabapbdnafpfaa
