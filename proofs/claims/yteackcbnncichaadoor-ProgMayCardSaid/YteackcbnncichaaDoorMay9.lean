/- Which templates, instructions and programs package prog says may be. -/
import Derived.Test.YteackcbnncichaaDoorIdx9
import Derived.Test.YteackcbnncichaaDoorEq9
import Derived.Deep.RegionHeld3
namespace Go.Proofs.YteackcbnncichaaDoor
open Go.RowKit

theorem Sl.int1 (w : World) (x : Int) (t : TypeId) (H : Nat) (hH : H = w.heap.size) : Sl (w.alloc (.cells #[.int .i64 x] t)) (w.alloc (.cells #[.int .i64 x] t)).heap.size (some ⟨H, 0, none⟩) (ints [x]) := by
  subst hH
  have h := Sl.made w t #[.int .i64 x]
  rw [show (w.alloc (.cells #[.int .i64 x] t)).heap.size = w.heap.size + 1 by simp]
  exact h

set_option maxHeartbeats 400000 in
theorem in1_any (x lo hi : Int) (p q : Addr) (w : World) (hp : w.cell? p = some (.int .i64 lo)) (hq : w.cell? q = some (.int .i64 hi)) :
    Calls Tryd.prog 51 #[.int .i64 x, .pointer (some p), .pointer (some q)] w (Has w (decide (x < lo ∨ hi < x))) := by
  by_cases h : x < lo
  · have h1 : decide (x < lo) = true := by simpa using h
    go_enter Tryd.func51, Tryd.ntmps51
    go_wp2
    go_ret
    exact ⟨by simp [h], Fr.refl _ _⟩
  · have h1 : decide (x < lo) = false := by simpa using h
    go_enter Tryd.func51, Tryd.ntmps51
    go_wp2
    go_ret
    exact ⟨by simp [h], Fr.refl _ _⟩

set_option maxHeartbeats 400000 in
theorem within_any (lo hi : Int) (l : List Int) (A : Option Addr) (n c : Nat) (w : World) (hsl : Sl w w.heap.size A (ints l)) (hn : l.length = n) (hnm : n ≤ 1099511627776) :
    Calls Tryd.prog 29 #[.int .i64 lo, .int .i64 hi, .slice A n c] w (Has w (l.all fun x => decide (lo ≤ x ∧ x ≤ hi))) := by
  have Hb : Hid ((!l.any fun x => decide (x < lo ∨ hi < x)) = l.all fun x => decide (lo ≤ x ∧ x ≤ hi)) := Lib.hid (by
    rw [List.not_any_eq_all_not]
    congr 1
    funext x
    rw [Bool.eq_iff_iff]
    simp)
  have hf2 : Fr No w ((w.alloc (.cells #[.int .i64 lo] 3)).alloc (.cells #[.int .i64 hi] 3)) := ((Fr.refl _ _).alloc _).alloc _
  have Hc := Lib.hid (hasInt l A n c ⟨w.heap.size, 0, none⟩ ⟨w.heap.size + 1, 0, none⟩ (fun x => decide (x < lo ∨ hi < x)) _ (hsl.since hf2) hn hnm (fun x _ W hW => (in1_any x lo hi _ _ W ((hW.cell (by simp; omega) (fun e => e)).trans (by simp)) ((hW.cell (by simp) (fun e => e)).trans (by simp)))))
  generalize (l.any fun x => decide (x < lo ∨ hi < x)) = b at *
  clear hsl hn
  go_enter Tryd.func29, Tryd.ntmps29
  go_wp2_with fail
  refine (Hc.out).mono ?_
  rintro e w1 ⟨rfl, hf1⟩
  go_wp2
  go_ret
  exact ⟨by rw [← Hb.out]; rfl, hf2.then0 hf1 (fun _ h => h.elim)⟩

set_option maxHeartbeats 400000 in
theorem mayArgs_any (n : Int) (w : World) : Calls Tryd.prog 27 #[.int .i64 n] w (Has w (decide (0 ≤ n ∧ n ≤ 3))) := by
  have Hc := Lib.hid (within_any 0 3 [n] _ 1 1 _ (Sl.int1 w n 3 _ rfl) rfl (by omega))
  go_enter Tryd.func27, Tryd.ntmps27
  go_wp2_with fail
  refine (Hc.out).mono ?_
  rintro e w1 ⟨rfl, hf1⟩
  go_wp2
  go_ret
  exact ⟨by simp, ((Fr.refl _ _).alloc _).then0 hf1 (fun _ h => h.elim)⟩

set_option maxHeartbeats 1000000 in
theorem key1_any (k : Int × Int) (n : Int) (p : Addr) (w : World) (hp : w.cell? p = some (.int .i64 n)) (hpb : p.block < w.heap.size) (hn : 0 ≤ n ∧ n ≤ 3) :
    Calls Tryd.prog 49 #[kcell k, .pointer (some p)] w (Has w (!keyOk k.1 k.2 n)) := by
  obtain ⟨x, y⟩ := k
  have hp1 : (w.alloc (.cells #[.int .i64 x, .int .i64 y] 24)).cell? p = some (.int .i64 n) := (World.cell?_alloc_lt w _ p hpb).trans hp
  simp only [kcell]
  by_cases h : -1 ≤ x ∧ x ≤ n - 1
  · have C1 := fun (W : World) (hW : Sl W W.heap.size _ _) => (within_any (-1) (n - 1) [x] (some ⟨w.heap.size + 1, 0, none⟩) 1 1 W hW rfl (by omega))
    have hv : ([x].all fun x => decide (-1 ≤ x ∧ x ≤ n - 1)) = true := by simpa using h
    rw [hv] at C1
    have C2 := fun (W : World) (q : Nat) (hW : Sl W W.heap.size _ _) => (within_any 0 900 [y] (some ⟨q, 0, none⟩) 1 1 W hW rfl (by omega))
    have Hb : Hid ((![y].all fun x => decide (0 ≤ x ∧ x ≤ 900)) = !keyOk x y n) := Lib.hid (by
      rw [Bool.eq_iff_iff]
      simp [keyOk]
      omega)
    generalize ([y].all fun x => decide (0 ≤ x ∧ x ≤ 900)) = b at *
    go_enter Tryd.func49, Tryd.ntmps49
    go_wp2_with fail
    refine (C1 _ (Sl.int1 _ x _ _ (by simp))).mono ?_
    rintro e w1 ⟨rfl, hf1⟩
    have hc1 : w1.cell? ⟨w.heap.size, 1, none⟩ = some (.int .i64 y) := (hf1.cell (by simp; omega) (fun e => e)).trans (by simp)
    go_wp2_with fail
    refine (C2 _ _ (Sl.int1 _ y _ _ (by simp))).mono ?_
    rintro e w2 ⟨rfl, hf2⟩
    go_wp2
    go_ret
    exact ⟨by rw [← Hb.out]; rfl, ((((((Fr.refl No w).alloc _).alloc _).then0 hf1 (fun _ h => h.elim)).alloc _).then0 hf2 (fun _ h => h.elim))⟩
  · have C1 := fun (W : World) (hW : Sl W W.heap.size _ _) => (within_any (-1) (n - 1) [x] (some ⟨w.heap.size + 1, 0, none⟩) 1 1 W hW rfl (by omega))
    have hv : ([x].all fun x => decide (-1 ≤ x ∧ x ≤ n - 1)) = false := by simp; omega
    rw [hv] at C1
    have Hb : Hid (keyOk x y n = false) := Lib.hid (by simp [keyOk]; omega)
    go_enter Tryd.func49, Tryd.ntmps49
    go_wp2_with fail
    refine (C1 _ (Sl.int1 _ x _ _ (by simp))).mono ?_
    rintro e w1 ⟨rfl, hf1⟩
    go_wp2
    go_ret
    exact ⟨by rw [Hb.out]; rfl, (((Fr.refl No w).alloc _).alloc _).then0 hf1 (fun _ h => h.elim)⟩

set_option maxHeartbeats 400000 in
theorem mayKeys_any (n : Int) (l : List (Int × Int)) (A : Option Addr) (m c : Nat) (w : World) (hn : 0 ≤ n ∧ n ≤ 3) (hsl : Sl w w.heap.size A (l.flatMap kflat)) (hm : l.length = m) (hmm : m ≤ 1099511627776) :
    Calls Tryd.prog 28 #[.int .i64 n, .slice A m c] w (Has w (l.all fun k => keyOk k.1 k.2 n)) := by
  have Hb : Hid ((!l.any fun k => !keyOk k.1 k.2 n) = l.all fun k => keyOk k.1 k.2 n) := Lib.hid (by
    rw [List.not_any_eq_all_not]
    congr 1
    funext x
    simp)
  have hf2 : Fr No w (w.alloc (.cells #[.int .i64 n] 3)) := (Fr.refl _ _).alloc _
  have Hc := Lib.hid (hasKey l A m c ⟨w.heap.size, 0, none⟩ (fun k => !keyOk k.1 k.2 n) _ (hsl.since hf2) hm hmm (fun x _ W hW => (key1_any x n _ W ((hW.cell (by simp) (fun e => e)).trans (by simp)) (by have := hW.size; simp at this; simp; omega) hn)))
  generalize (l.any fun k => !keyOk k.1 k.2 n) = b at *
  clear hsl hm
  go_enter Tryd.func28, Tryd.ntmps28
  go_wp2_with fail
  refine (Hc.out).mono ?_
  rintro e w1 ⟨rfl, hf1⟩
  go_wp2
  go_ret
  exact ⟨by rw [← Hb.out]; rfl, hf2.then0 hf1 (fun _ h => h.elim)⟩

/-- The templates that an instruction has. -/
def tmpls (i : Ins) : List (Int × Int) := if i.op = 1 ∨ i.op = 2 ∨ i.op = 3 then [(i.ka, i.kb)] else if i.op = 4 then [(i.ka, i.kb), (i.la, i.lb)] else []
theorem tmpls_len (i : Ins) : (tmpls i).length ≤ 2 := by
  unfold tmpls
  split
  · simp
  · split <;> simp
theorem slMade (w : World) (t : TypeId) (cs : Array Value) (xs : List Value) (H : Nat) (hH : H = w.heap.size) (hl : cs.toList = xs) : Sl (w.alloc (.cells cs t)) (w.alloc (.cells cs t)).heap.size (some ⟨H, 0, none⟩) xs := by
  subst hH hl
  have h := Sl.made w t cs
  rw [show (w.alloc (.cells cs t)).heap.size = w.heap.size + 1 by simp]
  exact h
/-- What tells templates. -/
def Tells9 (w : World) (l : List (Int × Int)) (e : Ending) (w' : World) : Prop := ∃ A c, e = .returned (.slice A l.length c) ∧ Sl w' w'.heap.size A (l.flatMap kflat) ∧ Fr No w w'
set_option maxHeartbeats 1000000 in
theorem templates_any (i : Ins) (w : World) : Calls Tryd.prog 54 #[i.agg] w (Tells9 w (tmpls i)) := by
  obtain ⟨o, a, b, c, ka, kb, la, lb, x⟩ := i
  simp only [Ins.agg]
  by_cases h1 : o = 1 ∨ o = 2 ∨ o = 3
  · have Ht : Hid (tmpls ⟨o, a, b, c, ka, kb, la, lb, x⟩ = [(ka, kb)]) := Lib.hid (by simp [tmpls, h1])
    rcases h1 with rfl | rfl | rfl
    all_goals
      go_enter Tryd.func54, Tryd.ntmps54
      go_wp2
      go_ret
      refine ⟨some ⟨w.heap.size + 1, 0, none⟩, 1, by rw [Ht.out]; rfl, ?_, ((Fr.refl _ _).alloc _).alloc _⟩
      rw [Ht.out]
      exact slMade _ _ _ _ _ (by simp) rfl
  · by_cases h4 : o = 4
    · have Ht : Hid (tmpls ⟨o, a, b, c, ka, kb, la, lb, x⟩ = [(ka, kb), (la, lb)]) := Lib.hid (by simp [tmpls, h4])
      clear h1
      subst h4
      go_enter Tryd.func54, Tryd.ntmps54
      go_wp2
      go_ret
      refine ⟨some ⟨w.heap.size + 1, 0, none⟩, 2, by rw [Ht.out]; rfl, ?_, ((Fr.refl _ _).alloc _).alloc _⟩
      rw [Ht.out]
      exact slMade _ _ _ _ _ (by simp) rfl
    · have Ht : Hid (tmpls ⟨o, a, b, c, ka, kb, la, lb, x⟩ = []) := Lib.hid (by simp only [tmpls]; rw [if_neg h1, if_neg h4])
      have q1 : (o == 1) = false := by simp; omega
      have q2 : (o == 2) = false := by simp; omega
      have q3 : (o == 3) = false := by simp; omega
      have q4 : (o == 4) = false := by simp; omega
      clear h1 h4
      go_enter Tryd.func54, Tryd.ntmps54
      go_wp2
      go_ret
      refine ⟨none, 0, by rw [Ht.out]; rfl, ?_, (Fr.refl _ _).alloc _⟩
      rw [Ht.out]
      exact Sl.nil _ _ _

/-- An instruction with nothing but what its Op has. -/
def ownI (i : Ins) : Ins :=
  if i.op = 1 ∨ i.op = 2 then ⟨i.op, i.a, 0, 0, i.ka, i.kb, 0, 0, 0⟩ else if i.op = 3 then ⟨i.op, 0, 0, 0, i.ka, i.kb, 0, 0, 0⟩ else if i.op = 4 then ⟨i.op, i.a, 0, 0, i.ka, i.kb, i.la, i.lb, 0⟩
  else if i.op = 6 ∨ i.op = 7 then ⟨i.op, i.a, i.b, i.c, 0, 0, 0, 0, 0⟩ else if i.op = 5 ∨ i.op = 8 then ⟨i.op, i.a, 0, 0, 0, 0, 0, 0, i.x⟩ else ⟨0, 0, 0, 0, 0, 0, 0, 0, 0⟩
set_option maxHeartbeats 1000000 in
theorem own_any (i : Ins) (w : World) : Calls Tryd.prog 53 #[i.agg] w fun e w' => e = .returned (.tuple #[(ownI i).agg, .bool (decide (1 ≤ i.op ∧ i.op ≤ 8))]) ∧ Fr No w w' := by
  obtain ⟨o, a, b, c, ka, kb, la, lb, x⟩ := i
  by_cases h : 1 ≤ o ∧ o ≤ 8
  · have Hd : Hid (decide (1 ≤ o ∧ o ≤ 8) = true) := Lib.hid (by simpa using h)
    rcases (show o = 1 ∨ o = 2 ∨ o = 3 ∨ o = 4 ∨ o = 5 ∨ o = 6 ∨ o = 7 ∨ o = 8 by omega) with rfl | rfl | rfl | rfl | rfl | rfl | rfl | rfl
    all_goals
      clear h
      simp only [Ins.agg, Hd.out]
      simp only [ownI]
      go_simp
      go_enter Tryd.func53, Tryd.ntmps53
      go_wp2
      exact bodyPost_ret (v := .tuple #[_, _]) (by simp [results, Tryd.results53, go_sem]) rfl ⟨rfl, ((Fr.refl _ _).alloc _).alloc _⟩
  · have Hd : Hid (decide (1 ≤ o ∧ o ≤ 8) = false) := Lib.hid (by simpa using h)
    have Ho : Hid (ownI ⟨o, a, b, c, ka, kb, la, lb, x⟩ = ⟨0, 0, 0, 0, 0, 0, 0, 0, 0⟩) := Lib.hid (by
      simp only [ownI]
      rw [if_neg (by omega), if_neg (by omega), if_neg (by omega), if_neg (by omega), if_neg (by omega)])
    have q1 : (o == 1) = false := by simp; omega
    have q2 : (o == 2) = false := by simp; omega
    have q3 : (o == 3) = false := by simp; omega
    have q4 : (o == 4) = false := by simp; omega
    have q5 : (o == 5) = false := by simp; omega
    have q6 : (o == 6) = false := by simp; omega
    have q7 : (o == 7) = false := by simp; omega
    have q8 : (o == 8) = false := by simp; omega
    clear h
    simp only [Hd.out, Ho.out]
    simp only [Ins.agg]
    go_enter Tryd.func53, Tryd.ntmps53
    go_wp2
    exact bodyPost_ret (v := .tuple #[_, _]) (by simp [results, Tryd.results53, go_sem]) rfl ⟨rfl, ((Fr.refl _ _).alloc _).alloc _⟩

end Go.Proofs.YteackcbnncichaaDoor
