/- Which instructions and programs may be, as the document has it. -/
import Derived.Test.YthenadijiepmnaaGreatOne9a
import Derived.Test.YthenadijiepmnaaGreatOne9b
import Derived.Test.YthenadijiepmnaaGreatOne9c
import Derived.Test.YthenadijiepmnaaGreatOne9d
namespace Go.Proofs.YthenadijiepmnaaGreat
open Go.RowKit

set_option maxHeartbeats 400000 in
theorem refOne_any (i : Ins) (n : Int) (w : World) : Calls Tryz.prog 86 #[i.agg, .int .i64 n] w (Has w (insOk i n)) := by
  obtain ⟨o, a, b, c, ka, kb, la, lb, x⟩ := i
  simp only [Ins.agg]
  by_cases h1 : o < 1
  · have Hb : Hid (insOk ⟨o, a, b, c, ka, kb, la, lb, x⟩ n = false) := Lib.hid (by rw [Bool.eq_false_iff]; intro e; rw [insOk_iff] at e; have := e.1; simp at this; omega)
    have d1 : decide (o < 1) = true := by simpa using h1
    go_enter Tryz.func86, Tryz.ntmps86
    go_wp2
    go_ret
    exact ⟨by rw [Hb.out]; rfl, (Fr.refl _ _).alloc _⟩
  · by_cases h8 : 8 < o
    · have Hb : Hid (insOk ⟨o, a, b, c, ka, kb, la, lb, x⟩ n = false) := Lib.hid (by rw [Bool.eq_false_iff]; intro e; rw [insOk_iff] at e; have := e.1; simp at this; omega)
      have d1 : decide (o < 1) = false := by simpa using h1
      have d8 : decide (8 < o) = true := by simpa using h8
      go_enter Tryz.func86, Tryz.ntmps86
      go_wp2
      go_ret
      exact ⟨by rw [Hb.out]; rfl, (Fr.refl _ _).alloc _⟩
    · rcases (show o = 1 ∨ o = 2 ∨ o = 3 ∨ o = 4 ∨ o = 5 ∨ o = 6 ∨ o = 7 ∨ o = 8 by omega) with rfl | rfl | rfl | rfl | rfl | rfl | rfl | rfl
      · exact one1 a b c ka kb la lb x n w
      · exact one2 a b c ka kb la lb x n w
      · exact one3 a b c ka kb la lb x n w
      · exact one4 a b c ka kb la lb x n w
      · exact one5 a b c ka kb la lb x n w
      · exact one6 a b c ka kb la lb x n w
      · exact one7 a b c ka kb la lb x n w
      · exact one8 a b c ka kb la lb x n w

set_option maxHeartbeats 1000000 in
theorem refMay_any (l : List Ins) (n : Int) (A : Option Addr) (m c : Nat) (w : World) (hsl : Sl w w.heap.size A (l.flatMap Ins.cells)) (hm : l.length = m) :
    Calls Tryz.prog 55 #[.slice A m c, .int .i64 n] w (Has w (progOk l n)) := by
  have Hm := Lib.hid hm
  have Hsl := Lib.hid hsl
  have Hno : Hid (¬ ((0 ≤ n ∧ n ≤ 3) ∧ 1 ≤ m ∧ m ≤ 8) → progOk l n = false) := Lib.hid (by
    intro h
    rw [Bool.eq_false_iff]
    intro e
    unfold progOk at e
    simp only [Bool.and_eq_true, decide_eq_true_eq, hm] at e
    exact h ⟨e.1, e.2.1⟩)
  clear hm hsl
  by_cases h0 : n < 0
  · have d0 : decide (n < 0) = true := by simpa using h0
    have Hb : Hid (progOk l n = false) := Lib.hid (Hno.out (by omega))
    go_enter Tryz.func55, Tryz.ntmps55
    go_wp2
    go_ret
    exact ⟨by rw [Hb.out]; rfl, Fr.refl _ _⟩
  have d0 : decide (n < 0) = false := by simpa using h0
  by_cases h3 : 3 < n
  · have d3 : decide (3 < n) = true := by simpa using h3
    have Hb : Hid (progOk l n = false) := Lib.hid (Hno.out (by omega))
    go_enter Tryz.func55, Tryz.ntmps55
    go_wp2
    go_ret
    exact ⟨by rw [Hb.out]; rfl, Fr.refl _ _⟩
  have d3 : decide (3 < n) = false := by simpa using h3
  by_cases h1 : m < 1
  · have d1 : decide ((m : Int) < 1) = true := by simp; omega
    have Hb : Hid (progOk l n = false) := Lib.hid (Hno.out (by omega))
    go_enter Tryz.func55, Tryz.ntmps55
    go_wp2
    go_ret
    exact ⟨by rw [Hb.out]; rfl, Fr.refl _ _⟩
  have d1 : decide ((m : Int) < 1) = false := by simp; omega
  by_cases h8 : 8 < m
  · have d8 : decide (8 < (m : Int)) = true := by simp; omega
    have Hb : Hid (progOk l n = false) := Lib.hid (Hno.out (by omega))
    go_enter Tryz.func55, Tryz.ntmps55
    go_wp2
    go_ret
    exact ⟨by rw [Hb.out]; rfl, Fr.refl _ _⟩
  have d8 : decide (8 < (m : Int)) = false := by simp; omega
  have C := fun i W => refOne_any i n W
  have HC := Lib.hid C
  have Hall : Hid (progOk l n = l.all fun i => insOk i n) := Lib.hid (by
    have e1 : decide (0 ≤ n ∧ n ≤ 3) = true := by simp; omega
    have e2 : decide (1 ≤ l.length ∧ l.length ≤ 8) = true := by rw [Hm.out]; simp; omega
    rw [progOk, e1, e2]
    rfl)
  clear C
  go_enter Tryz.func55, Tryz.ntmps55
  go_wp2
  go_loopw [5] (fun i wr => ∃ k : Nat, k ≤ m ∧ i = .int .i64 k ∧ Hid ((l.take k).all (fun i => insOk i n) = true) ∧ Fr No w wr) (fun i _ => m - (intOf i).toNat)
  case atStart => exact ⟨0, Nat.zero_le _, rfl, Lib.hid (by simp), Fr.refl _ _⟩
  case round =>
    obtain ⟨k, hk, rfl, hpre, hfr⟩ := hrel
    by_cases hlt : k < m
    · have hkl : k < l.length := by rw [Hm.out]; exact hlt
      obtain ⟨ad, rfl, hab, c0, c1, c2, c3, c4, c5, c6, c7, c8⟩ := (Hsl.out.since hfr).ins9 (k := k) hkl
      have Hs : Hid (l.take (k + 1) = l.take k ++ [l[k]]) := Lib.hid (List.take_succ_eq_append_getElem hkl)
      have Hf : Hid (insOk l[k] n = false → progOk l n = false) := Lib.hid (by
        intro h
        rw [Hall.out, Bool.eq_false_iff]
        intro e
        rw [List.all_eq_true] at e
        rw [e _ (List.getElem_mem hkl)] at h
        cases h)
      generalize l[k] = x at *
      have hx := HC.out x wr
      generalize hr : insOk x n = r at *
      have Hr := Lib.hid hr
      clear hr
      obtain ⟨xo, xa, xb, xc, xk, xl, xm, xn, xx⟩ := x
      simp only [Ins.agg] at hx
      cases r
      · go_wp2_with fail
        refine hx.mono ?_
        rintro e w1 ⟨rfl, hf1⟩
        go_wp2
        go_ret
        exact ⟨by rw [Hf.out (by simp)]; rfl, hfr.then0 hf1 (fun _ h => h.elim)⟩
      · go_wp2_with fail
        refine hx.mono ?_
        rintro e w1 ⟨rfl, hf1⟩
        go_wp2
        go_roundw
        case rel =>
          refine ⟨k + 1, by omega, by go_num, Lib.hid ?_, hfr.then0 hf1 (fun _ h => h.elim)⟩
          rw [Hs.out, List.all_append, hpre.out]
          simp [Hr.out]
        case measure => simp [intOf]; omega
    · obtain rfl : k = m := by omega
      have Hr : Hid (progOk l n = true) := Lib.hid (by
        have h1 := hpre.out
        rw [List.take_of_length_le (by rw [Hm.out]; exact Nat.le_refl _)] at h1
        rw [Hall.out, h1])
      go_wp2
      go_ret
      exact ⟨by rw [Hr.out]; rfl, hfr⟩
end Go.Proofs.YthenadijiepmnaaGreat
