/- The law: whether two nodes conflict is the document's, either way round. -/
import Derived.Test.YtkihbjgmmaklaaaCnf14
namespace Go.Proofs.Ytkihbjgmmaklaaa
open Go.RowKit

set_option maxRecDepth 100000 in
set_option maxHeartbeats 8000000 in
theorem unitsConflict_any (a b : Ndl) (w : World) (ha : a.Ok w) (hb : b.Ok w) : Calls Try.prog 6 #[a.agg, b.agg] w (Has w true) := by
  have Hal := Lib.hid (fun (W : World) => alive14 W)
  have HR := Lib.hid (fun (h1 : a.n.rd.length ≤ 40) (h2 : a.n.wt.length ≤ 40) (h3 : b.n.rd.length ≤ 40) (h4 : b.n.wt.length ≤ 40) W (h : Fr No w W) => refConflict14_any a b W (ha.since h) (hb.since h) (by omega) (by omega) (by omega) (by omega))
  have HC1 := Lib.hid (fun (h1 : a.n.rd.length ≤ 40) (h2 : a.n.wt.length ≤ 40) (h3 : b.n.rd.length ≤ 40) (h4 : b.n.wt.length ≤ 40) W (h : Fr No w W) => conflictU_any a b W (ha.since h) (hb.since h) (by omega) (by omega) (by omega) (by omega))
  have HC2 := Lib.hid (fun (h1 : a.n.rd.length ≤ 40) (h2 : a.n.wt.length ≤ 40) (h3 : b.n.rd.length ≤ 40) (h4 : b.n.wt.length ≤ 40) W (h : Fr No w W) => conflictU_any b a W (hb.since h) (ha.since h) (by omega) (by omega) (by omega) (by omega))
  rw [confN_sym b.n a.n] at HC2
  generalize confN a.n b.n = r at *
  unfold Ndl.agg Ndl.arr at *
  obtain ⟨W0, hW0⟩ : ∃ W0, W0 = (w.alloc (.cells #[.int .i64 a.n.saga, .int .i64 a.n.cls, .int .i64 a.n.step, .bool a.n.back, .slice a.rA a.n.rd.length a.rc, .slice a.wA a.n.wt.length a.wc] 44)).alloc (.cells #[.int .i64 b.n.saga, .int .i64 b.n.cls, .int .i64 b.n.step, .bool b.n.back, .slice b.rA b.n.rd.length b.rc, .slice b.wA b.n.wt.length b.wc] 44) := ⟨_, rfl⟩
  have HF0 : Hid (Fr No w W0) := Lib.hid (by rw [hW0]; exact ((Fr.refl _ _).alloc _).alloc _)
  have bA : Bk W0 w.heap.size 44 #[.int .i64 a.n.saga, .int .i64 a.n.cls, .int .i64 a.n.step, .bool a.n.back, .slice a.rA a.n.rd.length a.rc, .slice a.wA a.n.wt.length a.wc] := by rw [hW0]; exact bka12 (Bk.made _ _ _) _
  have bB : Bk W0 (w.heap.size + 1) 44 #[.int .i64 b.n.saga, .int .i64 b.n.cls, .int .i64 b.n.step, .bool b.n.back, .slice b.rA b.n.rd.length b.rc, .slice b.wA b.n.wt.length b.wc] := by rw [hW0]; exact bkm12 (by simp)
  have HbA := Lib.hid (fun V (h : Fr No W0 V) => bA.fr h (fun e => e))
  have HbB := Lib.hid (fun V (h : Fr No W0 V) => bB.fr h (fun e => e))
  have hwe := hW0.symm
  clear bA bB hW0
  clear ha hb
  generalize a.n.saga = sa at *
  generalize a.n.cls = ca at *
  generalize a.n.step = ta at *
  generalize a.n.back = ka at *
  generalize a.n.rd.length = na at *
  generalize a.n.wt.length = ma at *
  generalize a.rA = Ra at *
  generalize a.rc = rca at *
  generalize a.wA = Va at *
  generalize a.wc = wca at *
  generalize b.n.saga = sb at *
  generalize b.n.cls = cb at *
  generalize b.n.step = tb at *
  generalize b.n.back = kb at *
  generalize b.n.rd.length = nb at *
  generalize b.n.wt.length = mb at *
  generalize b.rA = Rb at *
  generalize b.rc = rcb at *
  generalize b.wA = Vb at *
  generalize b.wc = wcb at *
  by_cases l1 : na ≤ 40
  · by_cases l2 : ma ≤ 40
    · by_cases l3 : nb ≤ 40
      · by_cases l4 : mb ≤ 40
        · have g1 : decide (40 < (na : Int)) = false := decide_eq_false (by omega)
          have g2 : decide (40 < (ma : Int)) = false := decide_eq_false (by omega)
          have g3 : decide (40 < (nb : Int)) = false := decide_eq_false (by omega)
          have g4 : decide (40 < (mb : Int)) = false := decide_eq_false (by omega)
          have HR2 := Lib.hid (HR.out l1 l2 l3 l4)
          have HD1 := Lib.hid (HC1.out l1 l2 l3 l4)
          have HD2 := Lib.hid (HC2.out l1 l2 l3 l4)
          have hrr : (r == r) = true := by cases r <;> rfl
          clear HR HC1 HC2
          go_enter Try.func6, Try.ntmps6
          go_wp2_with fail
          refine (Hal.out _).mono ?_
          rintro e w1 ⟨rfl, f1⟩
          have F1 := Lib.hid f1
          have bx0 := HbA.out _ f1
          have q00 := bx0.cell 0
          have q10 := bx0.cell 1
          have q20 := bx0.cell 2
          have q30 := bx0.cell 3
          have q40 := bx0.cell 4
          have q50 := bx0.cell 5
          simp only [List.getElem?_toArray, List.getElem?_cons_zero, List.getElem?_cons_succ] at q00 q10 q20 q30 q40 q50
          have bx1 := HbB.out _ f1
          have q01 := bx1.cell 0
          have q11 := bx1.cell 1
          have q21 := bx1.cell 2
          have q31 := bx1.cell 3
          have q41 := bx1.cell 4
          have q51 := bx1.cell 5
          simp only [List.getElem?_toArray, List.getElem?_cons_zero, List.getElem?_cons_succ] at q01 q11 q21 q31 q41 q51
          clear f1 bx0 bx1
          go_wp2_with fail
          refine (HR2.out _ (HF0.out.trans' F1.out (fun _ _ e => e))).mono ?_
          rintro e w2 ⟨rfl, f2⟩
          have F2 := Lib.hid (F1.out.trans' f2 (fun _ _ e => e))
          clear f2 q00 q10 q20 q30 q40 q50 q01 q11 q21 q31 q41 q51
          have bx2 := HbA.out _ F2.out
          have q02 := bx2.cell 0
          have q12 := bx2.cell 1
          have q22 := bx2.cell 2
          have q32 := bx2.cell 3
          have q42 := bx2.cell 4
          have q52 := bx2.cell 5
          simp only [List.getElem?_toArray, List.getElem?_cons_zero, List.getElem?_cons_succ] at q02 q12 q22 q32 q42 q52
          have bx3 := HbB.out _ F2.out
          have q03 := bx3.cell 0
          have q13 := bx3.cell 1
          have q23 := bx3.cell 2
          have q33 := bx3.cell 3
          have q43 := bx3.cell 4
          have q53 := bx3.cell 5
          simp only [List.getElem?_toArray, List.getElem?_cons_zero, List.getElem?_cons_succ] at q03 q13 q23 q33 q43 q53
          clear bx2 bx3
          go_wp2_with fail
          refine (HD1.out _ (HF0.out.trans' F2.out (fun _ _ e => e))).mono ?_
          rintro e w3 ⟨rfl, f3⟩
          have F3 := Lib.hid (F2.out.trans' f3 (fun _ _ e => e))
          clear f3 q02 q12 q22 q32 q42 q52 q03 q13 q23 q33 q43 q53
          have bx4 := HbA.out _ F3.out
          have q04 := bx4.cell 0
          have q14 := bx4.cell 1
          have q24 := bx4.cell 2
          have q34 := bx4.cell 3
          have q44 := bx4.cell 4
          have q54 := bx4.cell 5
          simp only [List.getElem?_toArray, List.getElem?_cons_zero, List.getElem?_cons_succ] at q04 q14 q24 q34 q44 q54
          have bx5 := HbB.out _ F3.out
          have q05 := bx5.cell 0
          have q15 := bx5.cell 1
          have q25 := bx5.cell 2
          have q35 := bx5.cell 3
          have q45 := bx5.cell 4
          have q55 := bx5.cell 5
          simp only [List.getElem?_toArray, List.getElem?_cons_zero, List.getElem?_cons_succ] at q05 q15 q25 q35 q45 q55
          clear bx4 bx5
          go_wp2_with fail
          refine (HD2.out _ (HF0.out.trans' F3.out (fun _ _ e => e))).mono ?_
          rintro e w4 ⟨rfl, f4⟩
          go_wp2
          go_ret
          exact ⟨by first | rfl | (simp [hrr]; done), HF0.out.trans' (F3.out.trans' f4 (fun _ _ e => e)) (fun _ _ e => e)⟩
        · have g1 : decide (40 < (na : Int)) = false := decide_eq_false (by omega)
          have g2 : decide (40 < (ma : Int)) = false := decide_eq_false (by omega)
          have g3 : decide (40 < (nb : Int)) = false := decide_eq_false (by omega)
          have g4 : decide (40 < (mb : Int)) = true := decide_eq_true (by omega)
          clear HR HC1 HC2
          go_enter Try.func6, Try.ntmps6
          go_wp2_with fail
          refine (Hal.out _).mono ?_
          rintro e w1 ⟨rfl, f1⟩
          have bx0 := HbA.out _ f1
          have q40 := bx0.cell 4
          have q50 := bx0.cell 5
          simp only [List.getElem?_toArray, List.getElem?_cons_zero, List.getElem?_cons_succ] at q40 q50
          have bx1 := HbB.out _ f1
          have q41 := bx1.cell 4
          have q51 := bx1.cell 5
          simp only [List.getElem?_toArray, List.getElem?_cons_zero, List.getElem?_cons_succ] at q41 q51
          have F1 := Lib.hid (HF0.out.trans' f1 (fun _ _ e => e))
          clear f1 bx0 bx1
          go_wp2
          go_ret
          exact ⟨rfl, F1.out⟩
      · have g1 : decide (40 < (na : Int)) = false := decide_eq_false (by omega)
        have g2 : decide (40 < (ma : Int)) = false := decide_eq_false (by omega)
        have g3 : decide (40 < (nb : Int)) = true := decide_eq_true (by omega)
        clear HR HC1 HC2
        go_enter Try.func6, Try.ntmps6
        go_wp2_with fail
        refine (Hal.out _).mono ?_
        rintro e w1 ⟨rfl, f1⟩
        have bx0 := HbA.out _ f1
        have q40 := bx0.cell 4
        have q50 := bx0.cell 5
        simp only [List.getElem?_toArray, List.getElem?_cons_zero, List.getElem?_cons_succ] at q40 q50
        have bx1 := HbB.out _ f1
        have q41 := bx1.cell 4
        have q51 := bx1.cell 5
        simp only [List.getElem?_toArray, List.getElem?_cons_zero, List.getElem?_cons_succ] at q41 q51
        have F1 := Lib.hid (HF0.out.trans' f1 (fun _ _ e => e))
        clear f1 bx0 bx1
        go_wp2
        go_ret
        exact ⟨rfl, F1.out⟩
    · have g1 : decide (40 < (na : Int)) = false := decide_eq_false (by omega)
      have g2 : decide (40 < (ma : Int)) = true := decide_eq_true (by omega)
      clear HR HC1 HC2
      go_enter Try.func6, Try.ntmps6
      go_wp2_with fail
      refine (Hal.out _).mono ?_
      rintro e w1 ⟨rfl, f1⟩
      have bx0 := HbA.out _ f1
      have q40 := bx0.cell 4
      have q50 := bx0.cell 5
      simp only [List.getElem?_toArray, List.getElem?_cons_zero, List.getElem?_cons_succ] at q40 q50
      have bx1 := HbB.out _ f1
      have q41 := bx1.cell 4
      have q51 := bx1.cell 5
      simp only [List.getElem?_toArray, List.getElem?_cons_zero, List.getElem?_cons_succ] at q41 q51
      have F1 := Lib.hid (HF0.out.trans' f1 (fun _ _ e => e))
      clear f1 bx0 bx1
      go_wp2
      go_ret
      exact ⟨rfl, F1.out⟩
  · have g1 : decide (40 < (na : Int)) = true := decide_eq_true (by omega)
    clear HR HC1 HC2
    go_enter Try.func6, Try.ntmps6
    go_wp2_with fail
    refine (Hal.out _).mono ?_
    rintro e w1 ⟨rfl, f1⟩
    have bx0 := HbA.out _ f1
    have q40 := bx0.cell 4
    have q50 := bx0.cell 5
    simp only [List.getElem?_toArray, List.getElem?_cons_zero, List.getElem?_cons_succ] at q40 q50
    have bx1 := HbB.out _ f1
    have q41 := bx1.cell 4
    have q51 := bx1.cell 5
    simp only [List.getElem?_toArray, List.getElem?_cons_zero, List.getElem?_cons_succ] at q41 q51
    have F1 := Lib.hid (HF0.out.trans' f1 (fun _ _ e => e))
    clear f1 bx0 bx1
    go_wp2
    go_ret
    exact ⟨rfl, F1.out⟩
end Go.Proofs.Ytkihbjgmmaklaaa
