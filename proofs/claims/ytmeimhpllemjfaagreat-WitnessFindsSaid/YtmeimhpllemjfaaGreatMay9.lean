/- Which templates, instructions, programs and arguments may be, as the document has it. -/
import Derived.Test.YtmeimhpllemjfaaGreatIdx9
import Derived.Deep.RegionHeld3
namespace Go.Proofs.YtmeimhpllemjfaaGreat
open Go.RowKit

set_option maxHeartbeats 400000 in
theorem refMayKey_any (k : Int × Int) (n : Int) (w : World) : Calls Tryz.prog 81 #[kcell k, .int .i64 n] w (Has w (keyOk k.1 k.2 n)) := by
 obtain ⟨x, y⟩ := k
 simp only [kcell]
 by_cases h1 : -1 ≤ x
 ·by_cases h2 : x < n
  ·by_cases h3 : 0 ≤ y
   ·have Hb : Hid (keyOk x y n = decide (y ≤ 900)) := Lib.hid (by rw [Bool.eq_iff_iff, keyOk_iff, decide_eq_true_eq]; omega)
    have d1 : decide (-1 ≤ x) = true := by simpa using h1
    have d2 : decide (x < n) = true := by simpa using h2
    have d3 : decide (0 ≤ y) = true := by simpa using h3
    go_enter Tryz.func81, Tryz.ntmps81
    go_wp2
    go_ret
    exact ⟨by rw [Hb.out]; rfl, (Fr.refl _ _).alloc _⟩
   ·have Hb : Hid (keyOk x y n = false) := Lib.hid (by rw [Bool.eq_false_iff]; intro e; rw [keyOk_iff] at e; omega)
    have d1 : decide (-1 ≤ x) = true := by simpa using h1
    have d2 : decide (x < n) = true := by simpa using h2
    have d3 : decide (0 ≤ y) = false := by simpa using h3
    go_enter Tryz.func81, Tryz.ntmps81
    go_wp2
    go_ret
    exact ⟨by rw [Hb.out]; rfl, (Fr.refl _ _).alloc _⟩
  ·have Hb : Hid (keyOk x y n = false) := Lib.hid (by rw [Bool.eq_false_iff]; intro e; rw [keyOk_iff] at e; omega)
   have d1 : decide (-1 ≤ x) = true := by simpa using h1
   have d2 : decide (x < n) = false := by simpa using h2
   go_enter Tryz.func81, Tryz.ntmps81
   go_wp2
   go_ret
   exact ⟨by rw [Hb.out]; rfl, (Fr.refl _ _).alloc _⟩
 ·have Hb : Hid (keyOk x y n = false) := Lib.hid (by rw [Bool.eq_false_iff]; intro e; rw [keyOk_iff] at e; omega)
  have d1 : decide (-1 ≤ x) = false := by simpa using h1
  go_enter Tryz.func81, Tryz.ntmps81
  go_wp2
  go_ret
  exact ⟨by rw [Hb.out]; rfl, (Fr.refl _ _).alloc _⟩

theorem Sl.int9 {w : World} {B : Nat} {A : Option Addr} {l : List Int} (h : Sl w B A (ints l)) {k : Nat} (hk : k < l.length) : ∃ ad, A = some ad ∧ ad.block < B ∧ w.cell? (ad.add k) = some (.int .i64 l[k]) := by
 obtain ⟨ad, e, hb, hc⟩ := h.at (k := k) (by simpa [ints] using hk)
 exact ⟨ad, e, hb, by rw [hc]; simp [ints]⟩

end Go.Proofs.YtmeimhpllemjfaaGreat
/- Which templates, instructions and programs package prog says may be. -/
namespace Go.Proofs.YtmeimhpllemjfaaGreat
open Go.RowKit

theorem Sl.int1 (w : World) (x : Int) (t : TypeId) (H : Nat) (hH : H = w.heap.size) : Sl (w.alloc (.cells #[.int .i64 x] t)) (w.alloc (.cells #[.int .i64 x] t)).heap.size (some ⟨H, 0, none⟩) (ints [x]) := by
 subst hH
 have h := Sl.made w t #[.int .i64 x]
 rw [show (w.alloc (.cells #[.int .i64 x] t)).heap.size = w.heap.size + 1 by simp]
 exact h

set_option maxHeartbeats 400000 in
theorem in1_any (x lo hi : Int) (p q : Addr) (w : World) (hp : w.cell? p = some (.int .i64 lo)) (hq : w.cell? q = some (.int .i64 hi)) :
  Calls Tryz.prog 161 #[.int .i64 x, .pointer (some p), .pointer (some q)] w (Has w (decide (x < lo ∨ hi < x))) := by
 by_cases h : x < lo
 ·have h1 : decide (x < lo) = true := by simpa using h
  go_enter Tryz.func161, Tryz.ntmps161
  go_wp2
  go_ret
  exact ⟨by simp [h], Fr.refl _ _⟩
 ·have h1 : decide (x < lo) = false := by simpa using h
  go_enter Tryz.func161, Tryz.ntmps161
  go_wp2
  go_ret
  exact ⟨by simp, Fr.refl _ _⟩

set_option maxHeartbeats 400000 in
theorem within_any (lo hi : Int) (l : List Int) (A : Option Addr) (n c : Nat) (w : World) (hsl : Sl w w.heap.size A (ints l)) (hn : l.length = n) (hnm : n ≤ 1099511627776) :
  Calls Tryz.prog 139 #[.int .i64 lo, .int .i64 hi, .slice A n c] w (Has w (l.all fun x => decide (lo ≤ x ∧ x ≤ hi))) := by
 have Hb : Hid ((!l.any fun x => decide (x < lo ∨ hi < x)) = l.all fun x => decide (lo ≤ x ∧ x ≤ hi)) := Lib.hid (by
  rw [List.not_any_eq_all_not]
  congr 1
  funext x
  rw [Bool.eq_iff_iff]
  simp)
 have hf2 : Fr No w ((w.alloc (.cells #[.int .i64 lo] 3)).alloc (.cells #[.int .i64 hi] 3)) := ((Fr.refl _ _).alloc _).alloc _
 have Hc := Lib.hid (hasInt l A n c ⟨w.heap.size, 0, none⟩ ⟨w.heap.size + 1, 0, none⟩ (fun x => decide (x < lo ∨ hi < x)) _ (hsl.since hf2) hn hnm (fun x _ W hW => (in1_any x lo hi _ _ W ((hW.cell (by simp; omega) (fun e => e)).trans (by simp)) ((hW.cell (by simp) (fun e => e)).trans (by simp)))))
 generalize (l.any fun x => decide (x < lo ∨ hi < x)) = b at *
 clear hsl hn
 go_enter Tryz.func139, Tryz.ntmps139
 go_wp2_with fail
 refine (Hc.out).mono ?_
 rintro e w1 ⟨rfl, hf1⟩
 go_wp2
 go_ret
 exact ⟨by rw [← Hb.out]; rfl, hf2.then0 hf1 (fun _ h => h.elim)⟩

set_option maxHeartbeats 400000 in
theorem mayArgs_any (n : Int) (w : World) : Calls Tryz.prog 138 #[.int .i64 n] w (Has w (decide (0 ≤ n ∧ n ≤ 3))) := by
 have Hc := Lib.hid (within_any 0 3 [n] _ 1 1 _ (Sl.int1 w n 3 _ rfl) rfl (by omega))
 go_enter Tryz.func138, Tryz.ntmps138
 go_wp2_with fail
 refine (Hc.out).mono ?_
 rintro e w1 ⟨rfl, hf1⟩
 go_wp2
 go_ret
 exact ⟨by simp, ((Fr.refl _ _).alloc _).then0 hf1 (fun _ h => h.elim)⟩

set_option maxHeartbeats 1000000 in
theorem key1_any (k : Int × Int) (n : Int) (p : Addr) (w : World) (hp : w.cell? p = some (.int .i64 n)) (hpb : p.block < w.heap.size) (hn : 0 ≤ n ∧ n ≤ 3) :
  Calls Tryz.prog 182 #[kcell k, .pointer (some p)] w (Has w (!keyOk k.1 k.2 n)) := by
 obtain ⟨x, y⟩ := k
 have hp1 : (w.alloc (.cells #[.int .i64 x, .int .i64 y] 40)).cell? p = some (.int .i64 n) := (World.cell?_alloc_lt w _ p hpb).trans hp
 simp only [kcell]
 by_cases h : -1 ≤ x ∧ x ≤ n - 1
 ·have C1 := fun (W : World) (hW : Sl W W.heap.size _ _) => (within_any (-1) (n - 1) [x] (some ⟨w.heap.size + 1, 0, none⟩) 1 1 W hW rfl (by omega))
  have hv : ([x].all fun x => decide (-1 ≤ x ∧ x ≤ n - 1)) = true := by simpa using h
  rw [hv] at C1
  have C2 := fun (W : World) (q : Nat) (hW : Sl W W.heap.size _ _) => (within_any 0 900 [y] (some ⟨q, 0, none⟩) 1 1 W hW rfl (by omega))
  have Hb : Hid ((![y].all fun x => decide (0 ≤ x ∧ x ≤ 900)) = !keyOk x y n) := Lib.hid (by
   rw [Bool.eq_iff_iff]
   simp [keyOk]
   omega)
  generalize ([y].all fun x => decide (0 ≤ x ∧ x ≤ 900)) = b at *
  go_enter Tryz.func182, Tryz.ntmps182
  go_wp2_with fail
  refine (C1 _ (Sl.int1 _ x _ _ (by simp))).mono ?_
  rintro e w1 ⟨rfl, hf1⟩
  have hc1 : w1.cell? ⟨w.heap.size, 1, none⟩ = some (.int .i64 y) := (hf1.cell (by simp; omega) (fun e => e)).trans (by simp)
  go_wp2_with fail
  refine (C2 _ _ (Sl.int1 _ y _ _ (by simp))).mono ?_
  rintro e w2 ⟨rfl, hf2⟩
  go_wp2
  go_ret
  exact ⟨by rw [← Hb.out]; rfl, ((((((Fr.refl No w).alloc _).alloc _).then0 hf1 (fun _ h => h.elim)).alloc _).then0 hf2 (fun _ h => h.elim))⟩
 ·have C1 := fun (W : World) (hW : Sl W W.heap.size _ _) => (within_any (-1) (n - 1) [x] (some ⟨w.heap.size + 1, 0, none⟩) 1 1 W hW rfl (by omega))
  have hv : ([x].all fun x => decide (-1 ≤ x ∧ x ≤ n - 1)) = false := by simp; omega
  rw [hv] at C1
  have Hb : Hid (keyOk x y n = false) := Lib.hid (by simp [keyOk]; omega)
  go_enter Tryz.func182, Tryz.ntmps182
  go_wp2_with fail
  refine (C1 _ (Sl.int1 _ x _ _ (by simp))).mono ?_
  rintro e w1 ⟨rfl, hf1⟩
  go_wp2
  go_ret
  exact ⟨by rw [Hb.out]; rfl, (((Fr.refl No w).alloc _).alloc _).then0 hf1 (fun _ h => h.elim)⟩

set_option maxHeartbeats 400000 in
theorem mayKeys_any (n : Int) (l : List (Int × Int)) (A : Option Addr) (m c : Nat) (w : World) (hn : 0 ≤ n ∧ n ≤ 3) (hsl : Sl w w.heap.size A (l.flatMap kflat)) (hm : l.length = m) (hmm : m ≤ 1099511627776) :
  Calls Tryz.prog 164 #[.int .i64 n, .slice A m c] w (Has w (l.all fun k => keyOk k.1 k.2 n)) := by
 have Hb : Hid ((!l.any fun k => !keyOk k.1 k.2 n) = l.all fun k => keyOk k.1 k.2 n) := Lib.hid (by
  rw [List.not_any_eq_all_not]
  congr 1
  funext x
  simp)
 have hf2 : Fr No w (w.alloc (.cells #[.int .i64 n] 3)) := (Fr.refl _ _).alloc _
 have Hc := Lib.hid (hasKey l A m c ⟨w.heap.size, 0, none⟩ (fun k => !keyOk k.1 k.2 n) _ (hsl.since hf2) hm hmm (fun x _ W hW => (key1_any x n _ W ((hW.cell (by simp) (fun e => e)).trans (by simp)) (by have := hW.size; simp at this; simp; omega) hn)))
 generalize (l.any fun k => !keyOk k.1 k.2 n) = b at *
 clear hsl hm
 go_enter Tryz.func164, Tryz.ntmps164
 go_wp2_with fail
 refine (Hc.out).mono ?_
 rintro e w1 ⟨rfl, hf1⟩
 go_wp2
 go_ret
 exact ⟨by rw [← Hb.out]; rfl, hf2.then0 hf1 (fun _ h => h.elim)⟩

def tmpls (i : Ins) : List (Int × Int) := if i.op = 1 ∨ i.op = 2 ∨ i.op = 3 then [(i.ka, i.kb)] else if i.op = 4 then [(i.ka, i.kb), (i.la, i.lb)] else []
theorem tmpls_len (i : Ins) : (tmpls i).length ≤ 2 := by
 unfold tmpls
 split
 ·simp
 ·split <;> simp
theorem slMade (w : World) (t : TypeId) (cs : Array Value) (xs : List Value) (H : Nat) (hH : H = w.heap.size) (hl : cs.toList = xs) : Sl (w.alloc (.cells cs t)) (w.alloc (.cells cs t)).heap.size (some ⟨H, 0, none⟩) xs := by
 subst hH hl
 have h := Sl.made w t cs
 rw [show (w.alloc (.cells cs t)).heap.size = w.heap.size + 1 by simp]
 exact h
def Tells9 (w : World) (l : List (Int × Int)) (e : Ending) (w' : World) : Prop := ∃ A c, e = .returned (.slice A l.length c) ∧ Sl w' w'.heap.size A (l.flatMap kflat) ∧ Fr No w w'
set_option maxHeartbeats 1000000 in
theorem templates_any (i : Ins) (w : World) : Calls Tryz.prog 165 #[i.agg] w (Tells9 w (tmpls i)) := by
 obtain ⟨o, a, b, c, ka, kb, la, lb, x⟩ := i
 simp only [Ins.agg]
 by_cases h1 : o = 1 ∨ o = 2 ∨ o = 3
 ·have Ht : Hid (tmpls ⟨o, a, b, c, ka, kb, la, lb, x⟩ = [(ka, kb)]) := Lib.hid (by simp [tmpls, h1])
  rcases h1 with rfl | rfl | rfl
  all_goals
   go_enter Tryz.func165, Tryz.ntmps165
   go_wp2
   go_ret
   refine ⟨some ⟨w.heap.size + 1, 0, none⟩, 1, by rw [Ht.out]; rfl, ?_, ((Fr.refl _ _).alloc _).alloc _⟩
   rw [Ht.out]
   exact slMade _ _ _ _ _ (by simp) rfl
 ·by_cases h4 : o = 4
  ·have Ht : Hid (tmpls ⟨o, a, b, c, ka, kb, la, lb, x⟩ = [(ka, kb), (la, lb)]) := Lib.hid (by simp [tmpls, h4])
   clear h1
   subst h4
   go_enter Tryz.func165, Tryz.ntmps165
   go_wp2
   go_ret
   refine ⟨some ⟨w.heap.size + 1, 0, none⟩, 2, by rw [Ht.out]; rfl, ?_, ((Fr.refl _ _).alloc _).alloc _⟩
   rw [Ht.out]
   exact slMade _ _ _ _ _ (by simp) rfl
  ·have Ht : Hid (tmpls ⟨o, a, b, c, ka, kb, la, lb, x⟩ = []) := Lib.hid (by simp only [tmpls]; rw [if_neg h1, if_neg h4])
   have q1 : (o == 1) = false := by simp; omega
   have q2 : (o == 2) = false := by simp; omega
   have q3 : (o == 3) = false := by simp; omega
   have q4 : (o == 4) = false := by simp; omega
   clear h1 h4
   go_enter Tryz.func165, Tryz.ntmps165
   go_wp2
   go_ret
   refine ⟨none, 0, by rw [Ht.out]; rfl, ?_, (Fr.refl _ _).alloc _⟩
   rw [Ht.out]
   exact Sl.nil _ _ _

def ownI (i : Ins) : Ins :=
 if i.op = 1 ∨ i.op = 2 then ⟨i.op, i.a, 0, 0, i.ka, i.kb, 0, 0, 0⟩ else if i.op = 3 then ⟨i.op, 0, 0, 0, i.ka, i.kb, 0, 0, 0⟩ else if i.op = 4 then ⟨i.op, i.a, 0, 0, i.ka, i.kb, i.la, i.lb, 0⟩
 else if i.op = 6 ∨ i.op = 7 then ⟨i.op, i.a, i.b, i.c, 0, 0, 0, 0, 0⟩ else if i.op = 5 ∨ i.op = 8 then ⟨i.op, i.a, 0, 0, 0, 0, 0, 0, i.x⟩ else ⟨0, 0, 0, 0, 0, 0, 0, 0, 0⟩
set_option maxHeartbeats 1000000 in
theorem own_any (i : Ins) (w : World) : Calls Tryz.prog 163 #[i.agg] w fun e w' => e = .returned (.tuple #[(ownI i).agg, .bool (decide (1 ≤ i.op ∧ i.op ≤ 8))]) ∧ Fr No w w' := by
 obtain ⟨o, a, b, c, ka, kb, la, lb, x⟩ := i
 by_cases h : 1 ≤ o ∧ o ≤ 8
 ·have Hd : Hid (decide (1 ≤ o ∧ o ≤ 8) = true) := Lib.hid (by simpa using h)
  rcases (show o = 1 ∨ o = 2 ∨ o = 3 ∨ o = 4 ∨ o = 5 ∨ o = 6 ∨ o = 7 ∨ o = 8 by omega) with rfl | rfl | rfl | rfl | rfl | rfl | rfl | rfl
  all_goals
   clear h
   simp only [Ins.agg, Hd.out]
   simp only [ownI]
   go_simp
   go_enter Tryz.func163, Tryz.ntmps163
   go_wp2
   exact bodyPost_ret (v := .tuple #[_, _]) (by simp [results, Tryz.results163, go_sem]) rfl ⟨rfl, ((Fr.refl _ _).alloc _).alloc _⟩
 ·have Hd : Hid (decide (1 ≤ o ∧ o ≤ 8) = false) := Lib.hid (by simpa using h)
  have Ho : Hid (ownI ⟨o, a, b, c, ka, kb, la, lb, x⟩ = ⟨0, 0, 0, 0, 0, 0, 0, 0, 0⟩) := Lib.hid (by
   simp only [ownI]
   rw [if_neg (by omega), if_neg (by omega), if_neg (by omega), if_neg (by omega), if_neg (by omega)])
  have q1 : (o == 1) = false := by simp; omega
  have q2 : (o == 2) = false := by simp; omega
  have q3 : (o == 3) = false := by simp; omega
  have q4 : (o == 4) = false := by simp; omega
  have q5 : (o == 5) = false := by simp; omega
  have q6 : (o == 6) = false := by simp; omega
  have q7 : (o == 7) = false := by simp; omega
  have q8 : (o == 8) = false := by simp; omega
  clear h
  simp only [Hd.out, Ho.out]
  simp only [Ins.agg]
  go_enter Tryz.func163, Tryz.ntmps163
  go_wp2
  exact bodyPost_ret (v := .tuple #[_, _]) (by simp [results, Tryz.results163, go_sem]) rfl ⟨rfl, ((Fr.refl _ _).alloc _).alloc _⟩

end Go.Proofs.YtmeimhpllemjfaaGreat
/- Which instructions and programs package prog says may be, and which can't fail; a template's key. -/
namespace Go.Proofs.YtmeimhpllemjfaaGreat
open Go.RowKit

def sameI (i j : Ins) : Bool := i.op == j.op && (i.a == j.a && (i.b == j.b && (i.c == j.c && ((i.ka == j.ka && i.kb == j.kb) && ((i.la == j.la && i.lb == j.lb) && i.x == j.x)))))
theorem insOk_parts (i : Ins) (n : Int) : insOk i n = (decide (1 ≤ i.op ∧ i.op ≤ 8) && (sameI i (ownI i) && ([i.a, i.b, i.c].all (fun x => decide (0 ≤ x ∧ x ≤ 3)) && (tmpls i).all fun k => keyOk k.1 k.2 n))) := by
 obtain ⟨o, a, b, c, ka, kb, la, lb, x⟩ := i
 rw [Bool.eq_iff_iff, insOk_iff]
 by_cases h : 1 ≤ o ∧ o ≤ 8
 ·rcases (show o = 1 ∨ o = 2 ∨ o = 3 ∨ o = 4 ∨ o = 5 ∨ o = 6 ∨ o = 7 ∨ o = 8 by omega) with rfl | rfl | rfl | rfl | rfl | rfl | rfl | rfl
  all_goals
   clear h
   simp [InsOk, ownI, sameI, tmpls, keyOk]
   omega
 ·simp only [InsOk]
  simp [h]

set_option maxHeartbeats 1000000 in
theorem mayInstr_any (i : Ins) (n : Int) (w : World) (hn : 0 ≤ n ∧ n ≤ 3) : Calls Tryz.prog 142 #[i.agg, .int .i64 n] w (Has w (insOk i n)) := by
 have Hp := Lib.hid (insOk_parts i n)
 have Ht := tmpls_len i
 have C0 := own_any i
 have C1 := fun (W : World) (A : Option Addr) (hW : Sl W W.heap.size A _) => (within_any 0 3 [i.a, i.b, i.c] A 3 3 W hW rfl (by omega))
 have C2 := templates_any i
 have C3 := fun (W : World) (A : Option Addr) (c : Nat) (hW : Sl W W.heap.size A _) => (mayKeys_any n (tmpls i) A (tmpls i).length c W hn hW rfl (by omega))
 generalize insOk i n = res at *
 generalize (tmpls i).all (fun k => keyOk k.1 k.2 n) = r3 at *
 generalize [i.a, i.b, i.c].all (fun x => decide (0 ≤ x ∧ x ≤ 3)) = r1 at *
 generalize hsm : sameI i (ownI i) = r0 at *
 generalize decide (1 ≤ i.op ∧ i.op ≤ 8) = rb at *
 generalize tmpls i = tl at *
 generalize hj : ownI i = j at *
 clear hj
 obtain ⟨o, a, b, c, ka, kb, la, lb, x⟩ := i
 obtain ⟨p0, p1, p2, p3, p4, p5, p6, p7, p8⟩ := j
 simp only [Ins.agg, sameI] at *
 have q := eqIns9 o a b c ka kb la lb x p0 p1 p2 p3 p4 p5 p6 p7 p8
 rw [hsm] at q
 clear hsm
 have HC0 := Lib.hid C0
 have HC1 := Lib.hid C1
 have HC2 := Lib.hid C2
 have HC3 := Lib.hid C3
 have hq := Lib.hid q
 clear C0 C1 C2 C3
 go_enter Tryz.func142, Tryz.ntmps142
 go_wp2_with fail
 refine (HC0.out _).mono ?_
 rintro e w1 ⟨rfl, hf1⟩
 have hb1 : Bk w1 w.heap.size 42 #[.int .i64 o, .int .i64 a, .int .i64 b, .int .i64 c, .int .i64 ka, .int .i64 kb, .int .i64 la, .int .i64 lb, .int .i64 x] := (Bk.made w _ _).fr hf1 (fun e => e)
 have hlt1 := hb1.lt
 have g0 := hb1.cell 0
 have g1 := hb1.cell 1
 have g2 := hb1.cell 2
 have g3 := hb1.cell 3
 have g4 := hb1.cell 4
 have g5 := hb1.cell 5
 have g6 := hb1.cell 6
 have g7 := hb1.cell 7
 have g8 := hb1.cell 8
 simp at g0 g1 g2 g3 g4 g5 g6 g7 g8
 cases rb
 ·go_wp2
  go_ret
  exact ⟨by rw [Hp.out]; rfl, (((Fr.refl No w).alloc _).then0 hf1 (fun _ h => h.elim)).alloc _⟩
 ·have hq1 := fun W => hq.out W
  cases r0
  ·go_wp2
   go_ret
   exact ⟨by rw [Hp.out]; rfl, (((Fr.refl No w).alloc _).then0 hf1 (fun _ h => h.elim)).alloc _⟩
  ·go_wp2_with fail
   refine (HC1.out _ _ (slMade _ _ _ _ _ (by simp) rfl)).mono ?_
   rintro e w2 ⟨rfl, hf2⟩
   have hf12 : Fr No w1 w2 := (((Fr.refl No w1).alloc _).alloc _).then0 hf2 (fun _ h => h.elim)
   have hb2 := hb1.fr hf12 (fun e => e)
   have hlt2 := hb2.lt
   have k0 := hb2.cell 0
   have k1 := hb2.cell 1
   have k2 := hb2.cell 2
   have k3 := hb2.cell 3
   have k4 := hb2.cell 4
   have k5 := hb2.cell 5
   have k6 := hb2.cell 6
   have k7 := hb2.cell 7
   have k8 := hb2.cell 8
   simp at k0 k1 k2 k3 k4 k5 k6 k7 k8
   have hfw := ((Fr.refl No w).alloc (.cells #[.int .i64 o, .int .i64 a, .int .i64 b, .int .i64 c, .int .i64 ka, .int .i64 kb, .int .i64 la, .int .i64 lb, .int .i64 x] 42)).then0 hf1 (fun _ h => h.elim)
   clear g0 g1 g2 g3 g4 g5 g6 g7 g8 hq hq1
   cases r1
   ·go_wp2
    go_ret
    exact ⟨by rw [Hp.out]; rfl, hfw.then0 hf12 (fun _ h => h.elim)⟩
   ·go_wp2_with fail
    refine (HC2.out _).mono ?_
    rintro e w3 ⟨A3, c3, rfl, hs3, hf3⟩
    go_wp2_with fail
    refine (HC3.out _ _ _ hs3).mono ?_
    rintro e w4 ⟨rfl, hf4⟩
    go_wp2
    go_ret
    exact ⟨by rw [Hp.out]; rfl, ((hfw.then0 hf12 (fun _ h => h.elim)).then0 hf3 (fun _ h => h.elim)).then0 hf4 (fun _ h => h.elim)⟩

set_option maxHeartbeats 400000 in
theorem canFail_any (i : Ins) (w : World) : Calls Tryz.prog 144 #[i.agg] w (Has w (!insSure i)) := by
 obtain ⟨o, a, b, c, ka, kb, la, lb, x⟩ := i
 simp only [Ins.agg]
 by_cases h : o = 6 ∨ o = 7 ∨ o = 8
 ·have Hb : Hid (insSure ⟨o, a, b, c, ka, kb, la, lb, x⟩ = false) := Lib.hid (by simp [insSure]; omega)
  rcases h with rfl | rfl | rfl
  all_goals
   go_enter Tryz.func144, Tryz.ntmps144
   go_wp2
   go_ret
   exact ⟨by rw [Hb.out]; rfl, (Fr.refl _ _).alloc _⟩
 ·have Hb : Hid (insSure ⟨o, a, b, c, ka, kb, la, lb, x⟩ = true) := Lib.hid (by simp [insSure]; omega)
  have q6 : (o == 6) = false := by simp; omega
  have q7 : (o == 7) = false := by simp; omega
  have q8 : (o == 8) = false := by simp; omega
  clear h
  go_enter Tryz.func144, Tryz.ntmps144
  go_wp2
  go_ret
  exact ⟨by rw [Hb.out]; rfl, (Fr.refl _ _).alloc _⟩
set_option maxHeartbeats 400000 in
theorem sure_any (l : List Ins) (A : Option Addr) (n c : Nat) (w : World) (hsl : Sl w w.heap.size A (l.flatMap Ins.cells)) (hn : l.length = n) (hnm : n ≤ 1099511627776) :
  Calls Tryz.prog 114 #[.slice A n c] w (Has w (progSure l)) := by
 have Hb : Hid ((!l.any fun i => !insSure i) = progSure l) := Lib.hid (by
  rw [List.not_any_eq_all_not, progSure]
  congr 1
  funext x
  simp)
 have Hc := Lib.hid (hasIns0 l A n c (fun i => !insSure i) w hsl hn hnm (fun x _ W _ => canFail_any x W))
 generalize (l.any fun i => !insSure i) = b at *
 clear hsl hn
 go_enter Tryz.func114, Tryz.ntmps114
 go_wp2_with fail
 refine (Hc.out).mono ?_
 rintro e w1 ⟨rfl, hf1⟩
 go_wp2
 go_ret
 exact ⟨by rw [← Hb.out]; rfl, hf1⟩

set_option maxHeartbeats 400000 in
theorem may1_any (i : Ins) (n : Int) (p : Addr) (w : World) (hp : w.cell? p = some (.int .i64 n)) (hpb : p.block < w.heap.size) (hn : 0 ≤ n ∧ n ≤ 3) : Calls Tryz.prog 141 #[i.agg, .pointer (some p)] w (Has w (!insOk i n)) := by
 obtain ⟨o, a, b, c, ka, kb, la, lb, x⟩ := i
 have C := fun W => mayInstr_any ⟨o, a, b, c, ka, kb, la, lb, x⟩ n W hn
 generalize insOk ⟨o, a, b, c, ka, kb, la, lb, x⟩ n = r at *
 simp only [Ins.agg] at *
 go_enter Tryz.func141, Tryz.ntmps141
 go_wp2_with fail
 refine (C _).mono ?_
 rintro e w1 ⟨rfl, hf1⟩
 go_wp2
 go_ret
 exact ⟨rfl, ((Fr.refl _ _).alloc _).then0 hf1 (fun _ h => h.elim)⟩

set_option maxHeartbeats 1000000 in
theorem may_any (l : List Ins) (n : Int) (A : Option Addr) (m c : Nat) (w : World) (hsl : Sl w w.heap.size A (l.flatMap Ins.cells)) (hm : l.length = m) (hmm : m ≤ 1099511627776) :
  Calls Tryz.prog 112 #[.slice A m c, .int .i64 n] w (Has w (progOk l n)) := by
 have hf0 : Fr No w (w.alloc (.cells #[.int .i64 n] 3)) := (Fr.refl _ _).alloc _
 have C0 := fun W => mayArgs_any n W
 have C1 := fun (W : World) (B : Option Addr) (hW : Sl W W.heap.size B _) => within_any 1 8 [(m : Int)] B 1 1 W hW rfl (by omega)
 have Hb1 : Hid (([(m : Int)].all fun x => decide (1 ≤ x ∧ x ≤ 8)) = decide (1 ≤ l.length ∧ l.length ≤ 8)) := Lib.hid (by rw [hm, Bool.eq_iff_iff]; simp; omega)
 by_cases h : 0 ≤ n ∧ n ≤ 3
 ·have h1 : decide (0 ≤ n ∧ n ≤ 3) = true := by simpa using h
  have Hp : Hid (progOk l n = (decide (1 ≤ l.length ∧ l.length ≤ 8) && l.all fun i => insOk i n)) := Lib.hid (by rw [progOk, h1]; rfl)
  have C2 := fun (W : World) (p : Nat) (hs : Sl W W.heap.size A (l.flatMap Ins.cells)) (hp : W.cell? ⟨p, 0, none⟩ = some (.int .i64 n)) (hpb : p < W.heap.size) => hasIns1 l A m c ⟨p, 0, none⟩ (fun i => !insOk i n) W hs hm hmm (fun x _ W' hW => may1_any x n _ W' ((hW.cell hpb (fun e => e)).trans hp) (Nat.lt_of_lt_of_le hpb hW.size) h)
  have Hb2 : Hid ((!l.any fun i => !insOk i n) = l.all fun i => insOk i n) := Lib.hid (by
   rw [List.not_any_eq_all_not]
   congr 1
   funext x
   simp)
  rw [h1] at C0
  generalize (l.any fun i => !insOk i n) = b2 at *
  generalize (l.all fun i => insOk i n) = a2 at *
  generalize ([(m : Int)].all fun x => decide (1 ≤ x ∧ x ≤ 8)) = b1 at *
  generalize decide (1 ≤ l.length ∧ l.length ≤ 8) = a1 at *
  generalize progOk l n = r at *
  have Hsl := Lib.hid hsl
  have HC2 := Lib.hid C2
  clear hsl hm h1 C2
  go_enter Tryz.func112, Tryz.ntmps112
  go_wp2_with fail
  refine (C0 _).mono ?_
  rintro e w1 ⟨rfl, hf1⟩
  go_wp2_with fail
  refine (C1 _ _ (slMade _ _ _ _ _ (by simp) rfl)).mono ?_
  rintro e w2 ⟨rfl, hf2⟩
  have hfw := (((hf0.then0 hf1 (fun _ h => h.elim)).alloc (.cells #[.int .i64 m] 3)).then0 hf2 (fun _ h => h.elim))
  have hc2 : w2.cell? ⟨w.heap.size, 0, none⟩ = some (.int .i64 n) := ((((hf1.alloc (.cells #[.int .i64 m] 3)).then0 hf2 (fun _ h => h.elim)).cell (by simp) (fun e => e)).trans (by simp))
  cases b1
  ·go_wp2
   go_ret
   exact ⟨by rw [Hp.out, ← Hb1.out]; rfl, hfw⟩
  ·have hlt2 : w.heap.size < w2.heap.size := by have h1 := hf1.size; have h2 := hf2.size; simp at h1 h2; omega
   go_wp2_with fail
   refine (HC2.out _ _ (Hsl.out.since hfw) hc2 hlt2).mono ?_
   rintro e w3 ⟨rfl, hf3⟩
   go_wp2
   go_ret
   exact ⟨by rw [Hp.out, ← Hb1.out, ← Hb2.out]; rfl, hfw.then0 hf3 (fun _ h => h.elim)⟩
 ·have h1 : decide (0 ≤ n ∧ n ≤ 3) = false := by simpa using h
  have Hp : Hid (progOk l n = false) := Lib.hid (by rw [progOk, h1]; rfl)
  rw [h1] at C0
  clear hsl hm h1 C1 Hb1
  go_enter Tryz.func112, Tryz.ntmps112
  go_wp2_with fail
  refine (C0 _).mono ?_
  rintro e w1 ⟨rfl, hf1⟩
  go_wp2
  go_ret
  exact ⟨by rw [Hp.out]; rfl, hf0.then0 hf1 (fun _ h => h.elim)⟩
end Go.Proofs.YtmeimhpllemjfaaGreat
/- A template's key, as package prog has it. -/
namespace Go.Proofs.YtmeimhpllemjfaaGreat
open Go.RowKit

def keyV (x y : Int) (l : List Int) : Int × Bool := if (argsOk l && keyOk x y l.length) = true then (keyOf x y l, true) else (0, false)
def KeyGot (w : World) (r : Int × Bool) (e : Ending) (w' : World) : Prop := e = .returned (.tuple #[.int .i64 r.1, .bool r.2]) ∧ Fr No w w'
set_option maxHeartbeats 1000000 in
theorem key_any (x y : Int) (l : List Int) (A : Option Addr) (n c : Nat) (w : World) (hsl : Sl w w.heap.size A (ints l)) (hn : l.length = n) (hnm : n ≤ 1099511627776) :
  Calls Tryz.prog 184 #[kcell (x, y), .slice A n c] w (KeyGot w (keyV x y l)) := by
 have C0 := fun W => mayArgs_any (n : Int) W
 simp only [kcell]
 have hf0 : Fr No w (w.alloc (.cells #[.int .i64 x, .int .i64 y] 40)) := (Fr.refl _ _).alloc _
 have Hn := Lib.hid hn
 by_cases h3 : n ≤ 3
 ·have e1 : decide (0 ≤ (n : Int) ∧ (n : Int) ≤ 3) = true := by simp; omega
  rw [e1] at C0
  have C1 := fun (W : World) (B : Option Addr) (hW : Sl W W.heap.size B _) => mayKeys_any (n : Int) [(x, y)] B 1 1 W (by omega) hW rfl (by omega)
  have hk1 : ([(x, y)].all fun k => keyOk k.1 k.2 n) = keyOk x y n := by simp
  rw [hk1] at C1
  have C2 := fun (W : World) (hW : Sl W W.heap.size A (ints l)) => within_any 0 99 l A n c W hW hn hnm
  have ha : argsOk l = l.all fun a => decide (0 ≤ a ∧ a ≤ 99) := by
   rw [argsOk, hn, show decide (n ≤ 3) = true by simpa using h3, Bool.and_true]
  rw [← ha] at C2
  have Hv : Hid (keyV x y l = if (argsOk l && keyOk x y n) = true then (keyOf x y l, true) else (0, false)) := Lib.hid (by rw [keyV, hn])
  have Hrg := Lib.hid (fun (h1 : keyOk x y n = true) (h2 : argsOk l = true) => keyOf_range (l := l) (by rw [hn]; exact h1) h2)
  have Hki := Lib.hid (fun (h1 : keyOk x y n = true) => (keyOk_iff x y n).1 h1)
  generalize keyOk x y n = rk at *
  generalize argsOk l = ra at *
  have HC2 := Lib.hid C2
  have Hsl := Lib.hid hsl
  clear hsl hn ha hk1 C2 e1
  go_enter Tryz.func184, Tryz.ntmps184
  go_wp2_with fail
  refine (C0 _).mono ?_
  rintro e w1 ⟨rfl, hf1⟩
  have hb1 : Bk w1 w.heap.size 40 #[.int .i64 x, .int .i64 y] := (Bk.made w _ _).fr hf1 (fun e => e)
  have hl1 := hb1.lt
  have g0 := hb1.cell 0
  have g1 := hb1.cell 1
  simp at g0 g1
  go_wp2_with fail
  refine (C1 _ _ (slMade _ _ _ _ _ (by simp) rfl)).mono ?_
  rintro e w2 ⟨rfl, hf2⟩
  have hf12 : Fr No w1 w2 := ((Fr.refl No w1).alloc _).then0 hf2 (fun _ h => h.elim)
  have hb2 := hb1.fr hf12 (fun e => e)
  have hl2 := hb2.lt
  have k0 := hb2.cell 0
  have k1 := hb2.cell 1
  simp at k0 k1
  have hfw := (hf0.then0 hf1 (fun _ h => h.elim)).then0 hf12 (fun _ h => h.elim)
  clear g0 g1
  cases rk
  ·go_wp2
   exact bodyPost_ret (v := .tuple #[.int .i64 0, .bool false]) (by simp [results, Tryz.results184, go_sem]) rfl ⟨by rw [Hv.out]; cases ra <;> rfl, hfw⟩
  ·go_wp2_with fail
   refine (HC2.out _ (Hsl.out.since hfw)).mono ?_
   rintro e w3 ⟨rfl, hf3⟩
   have hb3 := hb2.fr hf3 (fun e => e)
   have hl3 := hb3.lt
   have m0 := hb3.cell 0
   have m1 := hb3.cell 1
   simp at m0 m1
   have hfw3 := hfw.then0 hf3 (fun _ h => h.elim)
   have Hs3 := Lib.hid (Hsl.out.since hfw3)
   clear k0 k1
   cases ra
   ·go_wp2
    exact bodyPost_ret (v := .tuple #[.int .i64 0, .bool false]) (by simp [results, Tryz.results184, go_sem]) rfl ⟨by rw [Hv.out]; rfl, hfw3⟩
   ·have hrg := Hrg.out (by simp) (by simp)
    obtain ⟨q1, q2, q3, q4⟩ := Hki.out (by simp)
    by_cases hx : x < 0
    ·obtain rfl : x = -1 := by omega
     have hk : keyOf (-1) y l = y := by simp [keyOf]
     have Hv2 : Hid (keyV (-1) y l = (y, true)) := Lib.hid (by rw [Hv.out, hk]; rfl)
     clear hrg q1 q2 q3 q4
     go_wp2
     exact bodyPost_ret (v := .tuple #[.int .i64 y, .bool true]) (by simp [results, Tryz.results184, go_sem]) rfl ⟨by rw [Hv2.out], hfw3⟩
    ·obtain ⟨j, rfl⟩ : ∃ j : Nat, x = j := ⟨x.toNat, by omega⟩
     have hjn : j < n := by omega
     have hjl : j < l.length := by rw [Hn.out]; exact hjn
     obtain ⟨ad, rfl, hab, hc⟩ := Hs3.out.int9 hjl
     have hk : keyOf j y l = y + l[j] := by simp [keyOf, hx, hjl]
     rw [hk] at hrg
     have Hv2 : Hid (keyV j y l = (y + l[j], true)) := Lib.hid (by rw [Hv.out, hk]; rfl)
     generalize l[j] = a at *
     have hw : wrap64 (y + a) = y + a := by unfold wrap64; omega
     have hne : ((j : Int) == -1) = false := by rw [beq_eq_false_iff_ne]; omega
     clear q1 q2 q3 q4 hk hx
     go_wp2
     go_region
     go_wp2
     exact bodyPost_ret (v := .tuple #[.int .i64 (y + a), .bool true]) (by simp [results, Tryz.results184, go_sem]) rfl ⟨by rw [Hv2.out], hfw3.drew⟩
 ·have e1 : decide (0 ≤ (n : Int) ∧ (n : Int) ≤ 3) = false := by simp; omega
  rw [e1] at C0
  have Hv : Hid (keyV x y l = (0, false)) := Lib.hid (by
   have : argsOk l = false := by rw [argsOk, hn, show decide (n ≤ 3) = false by simpa using h3, Bool.and_false]
   rw [keyV, this]
   rfl)
  clear hsl hn
  go_enter Tryz.func184, Tryz.ntmps184
  go_wp2_with fail
  refine (C0 _).mono ?_
  rintro e w1 ⟨rfl, hf1⟩
  go_wp2
  exact bodyPost_ret (v := .tuple #[.int .i64 0, .bool false]) (by simp [results, Tryz.results184, go_sem]) rfl ⟨by rw [Hv.out], hf0.then0 hf1 (fun _ h => h.elim)⟩
end Go.Proofs.YtmeimhpllemjfaaGreat
