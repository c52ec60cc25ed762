/- Which instructions and programs package prog says may be, and which can't fail; a template's key. -/
import Derived.Test.YteackcbnncichaaDoorMay9
namespace Go.Proofs.YteackcbnncichaaDoor
open Go.RowKit

/-- Whether an instruction has nothing but what its Op has. -/
def sameI (i j : Ins) : Bool := i.op == j.op && (i.a == j.a && (i.b == j.b && (i.c == j.c && ((i.ka == j.ka && i.kb == j.kb) && ((i.la == j.la && i.lb == j.lb) && i.x == j.x)))))
theorem insOk_parts (i : Ins) (n : Int) : insOk i n = (decide (1 ≤ i.op ∧ i.op ≤ 8) && (sameI i (ownI i) && ([i.a, i.b, i.c].all (fun x => decide (0 ≤ x ∧ x ≤ 3)) && (tmpls i).all fun k => keyOk k.1 k.2 n))) := by
  obtain ⟨o, a, b, c, ka, kb, la, lb, x⟩ := i
  rw [Bool.eq_iff_iff, insOk_iff]
  by_cases h : 1 ≤ o ∧ o ≤ 8
  · rcases (show o = 1 ∨ o = 2 ∨ o = 3 ∨ o = 4 ∨ o = 5 ∨ o = 6 ∨ o = 7 ∨ o = 8 by omega) with rfl | rfl | rfl | rfl | rfl | rfl | rfl | rfl
    all_goals
      clear h
      simp [InsOk, ownI, sameI, tmpls, keyOk]
      omega
  · simp only [InsOk]
    simp [h]

set_option maxHeartbeats 1000000 in
theorem mayInstr_any (i : Ins) (n : Int) (w : World) (hn : 0 ≤ n ∧ n ≤ 3) : Calls Tryd.prog 32 #[i.agg, .int .i64 n] w (Has w (insOk i n)) := by
  have Hp := Lib.hid (insOk_parts i n)
  have Ht := tmpls_len i
  have C0 := own_any i
  have C1 := fun (W : World) (A : Option Addr) (hW : Sl W W.heap.size A _) => (within_any 0 3 [i.a, i.b, i.c] A 3 3 W hW rfl (by omega))
  have C2 := templates_any i
  have C3 := fun (W : World) (A : Option Addr) (c : Nat) (hW : Sl W W.heap.size A _) => (mayKeys_any n (tmpls i) A (tmpls i).length c W hn hW rfl (by omega))
  generalize insOk i n = res at *
  generalize (tmpls i).all (fun k => keyOk k.1 k.2 n) = r3 at *
  generalize [i.a, i.b, i.c].all (fun x => decide (0 ≤ x ∧ x ≤ 3)) = r1 at *
  generalize hsm : sameI i (ownI i) = r0 at *
  generalize decide (1 ≤ i.op ∧ i.op ≤ 8) = rb at *
  generalize tmpls i = tl at *
  generalize hj : ownI i = j at *
  clear hj
  obtain ⟨o, a, b, c, ka, kb, la, lb, x⟩ := i
  obtain ⟨p0, p1, p2, p3, p4, p5, p6, p7, p8⟩ := j
  simp only [Ins.agg, sameI] at *
  have q := eqIns9 o a b c ka kb la lb x p0 p1 p2 p3 p4 p5 p6 p7 p8
  rw [hsm] at q
  clear hsm
  have HC0 := Lib.hid C0
  have HC1 := Lib.hid C1
  have HC2 := Lib.hid C2
  have HC3 := Lib.hid C3
  have hq := Lib.hid q
  clear C0 C1 C2 C3
  go_enter Tryd.func32, Tryd.ntmps32
  go_wp2_with fail
  refine (HC0.out _).mono ?_
  rintro e w1 ⟨rfl, hf1⟩
  have hb1 : Bk w1 w.heap.size 28 #[.int .i64 o, .int .i64 a, .int .i64 b, .int .i64 c, .int .i64 ka, .int .i64 kb, .int .i64 la, .int .i64 lb, .int .i64 x] := (Bk.made w _ _).fr hf1 (fun e => e)
  have hlt1 := hb1.lt
  have g0 := hb1.cell 0
  have g1 := hb1.cell 1
  have g2 := hb1.cell 2
  have g3 := hb1.cell 3
  have g4 := hb1.cell 4
  have g5 := hb1.cell 5
  have g6 := hb1.cell 6
  have g7 := hb1.cell 7
  have g8 := hb1.cell 8
  simp at g0 g1 g2 g3 g4 g5 g6 g7 g8
  cases rb
  · go_wp2
    go_ret
    exact ⟨by rw [Hp.out]; rfl, (((Fr.refl No w).alloc _).then0 hf1 (fun _ h => h.elim)).alloc _⟩
  · have hq1 := fun W => hq.out W
    cases r0
    · go_wp2
      go_ret
      exact ⟨by rw [Hp.out]; rfl, (((Fr.refl No w).alloc _).then0 hf1 (fun _ h => h.elim)).alloc _⟩
    · go_wp2_with fail
      refine (HC1.out _ _ (slMade _ _ _ _ _ (by simp) rfl)).mono ?_
      rintro e w2 ⟨rfl, hf2⟩
      have hf12 : Fr No w1 w2 := (((Fr.refl No w1).alloc _).alloc _).then0 hf2 (fun _ h => h.elim)
      have hb2 := hb1.fr hf12 (fun e => e)
      have hlt2 := hb2.lt
      have k0 := hb2.cell 0
      have k1 := hb2.cell 1
      have k2 := hb2.cell 2
      have k3 := hb2.cell 3
      have k4 := hb2.cell 4
      have k5 := hb2.cell 5
      have k6 := hb2.cell 6
      have k7 := hb2.cell 7
      have k8 := hb2.cell 8
      simp at k0 k1 k2 k3 k4 k5 k6 k7 k8
      have hfw := ((Fr.refl No w).alloc (.cells #[.int .i64 o, .int .i64 a, .int .i64 b, .int .i64 c, .int .i64 ka, .int .i64 kb, .int .i64 la, .int .i64 lb, .int .i64 x] 28)).then0 hf1 (fun _ h => h.elim)
      clear g0 g1 g2 g3 g4 g5 g6 g7 g8 hq hq1
      cases r1
      · go_wp2
        go_ret
        exact ⟨by rw [Hp.out]; rfl, hfw.then0 hf12 (fun _ h => h.elim)⟩
      · go_wp2_with fail
        refine (HC2.out _).mono ?_
        rintro e w3 ⟨A3, c3, rfl, hs3, hf3⟩
        go_wp2_with fail
        refine (HC3.out _ _ _ hs3).mono ?_
        rintro e w4 ⟨rfl, hf4⟩
        go_wp2
        go_ret
        exact ⟨by rw [Hp.out]; rfl, ((hfw.then0 hf12 (fun _ h => h.elim)).then0 hf3 (fun _ h => h.elim)).then0 hf4 (fun _ h => h.elim)⟩

set_option maxHeartbeats 400000 in
theorem canFail_any (i : Ins) (w : World) : Calls Tryd.prog 34 #[i.agg] w (Has w (!insSure i)) := by
  obtain ⟨o, a, b, c, ka, kb, la, lb, x⟩ := i
  simp only [Ins.agg]
  by_cases h : o = 6 ∨ o = 7 ∨ o = 8
  · have Hb : Hid (insSure ⟨o, a, b, c, ka, kb, la, lb, x⟩ = false) := Lib.hid (by simp [insSure]; omega)
    rcases h with rfl | rfl | rfl
    all_goals
      go_enter Tryd.func34, Tryd.ntmps34
      go_wp2
      go_ret
      exact ⟨by rw [Hb.out]; rfl, (Fr.refl _ _).alloc _⟩
  · have Hb : Hid (insSure ⟨o, a, b, c, ka, kb, la, lb, x⟩ = true) := Lib.hid (by simp [insSure]; omega)
    have q6 : (o == 6) = false := by simp; omega
    have q7 : (o == 7) = false := by simp; omega
    have q8 : (o == 8) = false := by simp; omega
    clear h
    go_enter Tryd.func34, Tryd.ntmps34
    go_wp2
    go_ret
    exact ⟨by rw [Hb.out]; rfl, (Fr.refl _ _).alloc _⟩
theorem Has.since {a w : World} {b : Bool} {e : Ending} {w' : World} (ha : Fr No a w) (h : Has w b e w') : Has a b e w' := ⟨h.1, ha.then0 h.2 (fun _ h => h.elim)⟩

set_option maxHeartbeats 400000 in
theorem sure_any (l : List Ins) (A : Option Addr) (n c : Nat) (w : World) (hsl : Sl w w.heap.size A (l.flatMap Ins.cells)) (hn : l.length = n) (hnm : n ≤ 1099511627776) :
    Calls Tryd.prog 13 #[.slice A n c] w (Has w (progSure l)) := by
  have Hb : Hid ((!l.any fun i => !insSure i) = progSure l) := Lib.hid (by
    rw [List.not_any_eq_all_not, progSure]
    congr 1
    funext x
    simp)
  have Hc := Lib.hid (hasIns0 l A n c (fun i => !insSure i) w hsl hn hnm (fun x _ W _ => canFail_any x W))
  generalize (l.any fun i => !insSure i) = b at *
  clear hsl hn
  go_enter Tryd.func13, Tryd.ntmps13
  go_wp2_with fail
  refine (Hc.out).mono ?_
  rintro e w1 ⟨rfl, hf1⟩
  go_wp2
  go_ret
  exact ⟨by rw [← Hb.out]; rfl, hf1⟩

set_option maxHeartbeats 400000 in
theorem may1_any (i : Ins) (n : Int) (p : Addr) (w : World) (hp : w.cell? p = some (.int .i64 n)) (hpb : p.block < w.heap.size) (hn : 0 ≤ n ∧ n ≤ 3) : Calls Tryd.prog 31 #[i.agg, .pointer (some p)] w (Has w (!insOk i n)) := by
  obtain ⟨o, a, b, c, ka, kb, la, lb, x⟩ := i
  have C := fun W => mayInstr_any ⟨o, a, b, c, ka, kb, la, lb, x⟩ n W hn
  generalize insOk ⟨o, a, b, c, ka, kb, la, lb, x⟩ n = r at *
  simp only [Ins.agg] at *
  go_enter Tryd.func31, Tryd.ntmps31
  go_wp2_with fail
  refine (C _).mono ?_
  rintro e w1 ⟨rfl, hf1⟩
  go_wp2
  go_ret
  exact ⟨rfl, ((Fr.refl _ _).alloc _).then0 hf1 (fun _ h => h.elim)⟩

set_option maxHeartbeats 1000000 in
theorem may_any (l : List Ins) (n : Int) (A : Option Addr) (m c : Nat) (w : World) (hsl : Sl w w.heap.size A (l.flatMap Ins.cells)) (hm : l.length = m) (hmm : m ≤ 1099511627776) :
    Calls Tryd.prog 11 #[.slice A m c, .int .i64 n] w (Has w (progOk l n)) := by
  have hf0 : Fr No w (w.alloc (.cells #[.int .i64 n] 3)) := (Fr.refl _ _).alloc _
  have C0 := fun W => mayArgs_any n W
  have C1 := fun (W : World) (B : Option Addr) (hW : Sl W W.heap.size B _) => within_any 1 8 [(m : Int)] B 1 1 W hW rfl (by omega)
  have Hb1 : Hid (([(m : Int)].all fun x => decide (1 ≤ x ∧ x ≤ 8)) = decide (1 ≤ l.length ∧ l.length ≤ 8)) := Lib.hid (by rw [hm, Bool.eq_iff_iff]; simp; omega)
  by_cases h : 0 ≤ n ∧ n ≤ 3
  · have h1 : decide (0 ≤ n ∧ n ≤ 3) = true := by simpa using h
    have Hp : Hid (progOk l n = (decide (1 ≤ l.length ∧ l.length ≤ 8) && l.all fun i => insOk i n)) := Lib.hid (by rw [progOk, h1]; rfl)
    have C2 := fun (W : World) (p : Nat) (hs : Sl W W.heap.size A (l.flatMap Ins.cells)) (hp : W.cell? ⟨p, 0, none⟩ = some (.int .i64 n)) (hpb : p < W.heap.size) => hasIns1 l A m c ⟨p, 0, none⟩ (fun i => !insOk i n) W hs hm hmm (fun x _ W' hW => may1_any x n _ W' ((hW.cell hpb (fun e => e)).trans hp) (Nat.lt_of_lt_of_le hpb hW.size) h)
    have Hb2 : Hid ((!l.any fun i => !insOk i n) = l.all fun i => insOk i n) := Lib.hid (by
      rw [List.not_any_eq_all_not]
      congr 1
      funext x
      simp)
    rw [h1] at C0
    generalize (l.any fun i => !insOk i n) = b2 at *
    generalize (l.all fun i => insOk i n) = a2 at *
    generalize ([(m : Int)].all fun x => decide (1 ≤ x ∧ x ≤ 8)) = b1 at *
    generalize decide (1 ≤ l.length ∧ l.length ≤ 8) = a1 at *
    generalize progOk l n = r at *
    have Hsl := Lib.hid hsl
    have HC2 := Lib.hid C2
    clear hsl hm h1 C2
    go_enter Tryd.func11, Tryd.ntmps11
    go_wp2_with fail
    refine (C0 _).mono ?_
    rintro e w1 ⟨rfl, hf1⟩
    go_wp2_with fail
    refine (C1 _ _ (slMade _ _ _ _ _ (by simp) rfl)).mono ?_
    rintro e w2 ⟨rfl, hf2⟩
    have hfw := (((hf0.then0 hf1 (fun _ h => h.elim)).alloc (.cells #[.int .i64 m] 3)).then0 hf2 (fun _ h => h.elim))
    have hc2 : w2.cell? ⟨w.heap.size, 0, none⟩ = some (.int .i64 n) := ((((hf1.alloc (.cells #[.int .i64 m] 3)).then0 hf2 (fun _ h => h.elim)).cell (by simp) (fun e => e)).trans (by simp))
    cases b1
    · go_wp2
      go_ret
      exact ⟨by rw [Hp.out, ← Hb1.out]; rfl, hfw⟩
    · have hlt2 : w.heap.size < w2.heap.size := by have h1 := hf1.size; have h2 := hf2.size; simp at h1 h2; omega
      go_wp2_with fail
      refine (HC2.out _ _ (Hsl.out.since hfw) hc2 hlt2).mono ?_
      rintro e w3 ⟨rfl, hf3⟩
      go_wp2
      go_ret
      exact ⟨by rw [Hp.out, ← Hb1.out, ← Hb2.out]; rfl, hfw.then0 hf3 (fun _ h => h.elim)⟩
  · have h1 : decide (0 ≤ n ∧ n ≤ 3) = false := by simpa using h
    have Hp : Hid (progOk l n = false) := Lib.hid (by rw [progOk, h1]; rfl)
    rw [h1] at C0
    clear hsl hm h1 C1 Hb1
    go_enter Tryd.func11, Tryd.ntmps11
    go_wp2_with fail
    refine (C0 _).mono ?_
    rintro e w1 ⟨rfl, hf1⟩
    go_wp2
    go_ret
    exact ⟨by rw [Hp.out]; rfl, hf0.then0 hf1 (fun _ h => h.elim)⟩
end Go.Proofs.YteackcbnncichaaDoor
