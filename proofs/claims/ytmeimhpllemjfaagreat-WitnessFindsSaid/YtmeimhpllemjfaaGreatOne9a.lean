/- Which instructions of the document's may be, by their Op (1 and 2). -/
import Derived.Test.YtmeimhpllemjfaaGreatMay9
namespace Go.Proofs.YtmeimhpllemjfaaGreat
open Go.RowKit

set_option maxHeartbeats 2000000 in
theorem one1 (a b c ka kb la lb x n : Int) (w : World) : Calls Tryz.prog 80 #[.agg #[.int .i64 1, .int .i64 a, .int .i64 b, .int .i64 c, .int .i64 ka, .int .i64 kb, .int .i64 la, .int .i64 lb, .int .i64 x], .int .i64 n] w (Has w (insOk ⟨1, a, b, c, ka, kb, la, lb, x⟩ n)) := by
 by_cases h2 : a < 0
 ·have hx := h2
  have Hb : Hid (insOk ⟨1, a, b, c, ka, kb, la, lb, x⟩ n = false) := Lib.hid (by rw [Bool.eq_false_iff]; intro e; rw [insOk_iff] at e; unfold InsOk at e; simp at e; omega)
  have e2 : decide (a < 0) = true := by simpa using h2
  go_enter Tryz.func80, Tryz.ntmps80
  go_wp2
  go_ret
  exact ⟨by rw [Hb.out]; rfl, (((Fr.refl _ _).alloc _))⟩
 ·skip
  have e2 : decide (a < 0) = false := by simpa using h2
  by_cases h4 : 3 < a
  ·have hx := h4
   have Hb : Hid (insOk ⟨1, a, b, c, ka, kb, la, lb, x⟩ n = false) := Lib.hid (by rw [Bool.eq_false_iff]; intro e; rw [insOk_iff] at e; unfold InsOk at e; simp at e; omega)
   have e4 : decide (3 < a) = true := by simpa using h4
   go_enter Tryz.func80, Tryz.ntmps80
   go_wp2
   go_ret
   exact ⟨by rw [Hb.out]; rfl, (((Fr.refl _ _).alloc _))⟩
  ·skip
   have e4 : decide (3 < a) = false := by simpa using h4
   by_cases h6 : x ≠ 0
   ·have hx := h6
    have Hb : Hid (insOk ⟨1, a, b, c, ka, kb, la, lb, x⟩ n = false) := Lib.hid (by rw [Bool.eq_false_iff]; intro e; rw [insOk_iff] at e; unfold InsOk at e; simp at e; omega)
    have e6 : (x != 0) = true := by simpa using h6
    go_enter Tryz.func80, Tryz.ntmps80
    go_wp2
    go_ret
    exact ⟨by rw [Hb.out]; rfl, (((Fr.refl _ _).alloc _)).alloc _⟩
   ·obtain rfl : x = 0 := by omega
    by_cases h8 : b ≠ 0
    ·have hx := h8
     have Hb : Hid (insOk ⟨1, a, b, c, ka, kb, la, lb, 0⟩ n = false) := Lib.hid (by rw [Bool.eq_false_iff]; intro e; rw [insOk_iff] at e; unfold InsOk at e; simp at e; omega)
     have e8 : (b != 0) = true := by simpa using h8
     go_enter Tryz.func80, Tryz.ntmps80
     go_wp2
     go_ret
     exact ⟨by rw [Hb.out]; rfl, (((Fr.refl _ _).alloc _)).alloc _⟩
    ·obtain rfl : b = 0 := by omega
     by_cases h10 : c ≠ 0
     ·have hx := h10
      have Hb : Hid (insOk ⟨1, a, 0, c, ka, kb, la, lb, 0⟩ n = false) := Lib.hid (by rw [Bool.eq_false_iff]; intro e; rw [insOk_iff] at e; unfold InsOk at e; simp at e; omega)
      have e10 : (c != 0) = true := by simpa using h10
      go_enter Tryz.func80, Tryz.ntmps80
      go_wp2
      go_ret
      exact ⟨by rw [Hb.out]; rfl, (((Fr.refl _ _).alloc _)).alloc _⟩
     ·obtain rfl : c = 0 := by omega
      by_cases h12 : ¬ (la = 0 ∧ lb = 0)
      ·have hx := h12
       have Hb : Hid (insOk ⟨1, a, 0, 0, ka, kb, la, lb, 0⟩ n = false) := Lib.hid (by rw [Bool.eq_false_iff]; intro e; rw [insOk_iff] at e; unfold InsOk at e; simp at e; omega)
       have q := fun w => eqKey9 la lb 0 0 w
       have e12 : (la == 0 && lb == 0) = false := by rw [Bool.eq_false_iff]; simp; omega
       rw [e12] at q
       go_enter Tryz.func80, Tryz.ntmps80
       go_wp2
       go_ret
       exact ⟨by rw [Hb.out]; rfl, (((Fr.refl _ _).alloc _)).alloc _⟩
      ·obtain ⟨rfl, rfl⟩ : la = 0 ∧ lb = 0 := by omega
       have ql := fun w => eqKey9 0 0 0 0 w
       have Hb : Hid (insOk ⟨1, a, 0, 0, ka, kb, 0, 0, 0⟩ n = keyOk ka kb n) := Lib.hid (by rw [Bool.eq_iff_iff, insOk_iff, keyOk_iff]; unfold InsOk; first | (simp; done) | (simp; omega))
       have C := fun W => refMayKey_any (ka, kb) n W
       simp only [kcell] at C
       generalize keyOk ka kb n = r at *
       go_enter Tryz.func80, Tryz.ntmps80
       go_wp2_with (go_at_call 81; refine (C _).mono ?_; rintro e w1 ⟨rfl, hf1⟩; cases r)
       all_goals
        go_ret
        exact ⟨by rw [Hb.out]; rfl, (((Fr.refl No w).alloc _).alloc _).then0 hf1 (fun _ h => h.elim)⟩
set_option maxHeartbeats 2000000 in
theorem one2 (a b c ka kb la lb x n : Int) (w : World) : Calls Tryz.prog 80 #[.agg #[.int .i64 2, .int .i64 a, .int .i64 b, .int .i64 c, .int .i64 ka, .int .i64 kb, .int .i64 la, .int .i64 lb, .int .i64 x], .int .i64 n] w (Has w (insOk ⟨2, a, b, c, ka, kb, la, lb, x⟩ n)) := by
 by_cases h2 : a < 0
 ·have hx := h2
  have Hb : Hid (insOk ⟨2, a, b, c, ka, kb, la, lb, x⟩ n = false) := Lib.hid (by rw [Bool.eq_false_iff]; intro e; rw [insOk_iff] at e; unfold InsOk at e; simp at e; omega)
  have e2 : decide (a < 0) = true := by simpa using h2
  go_enter Tryz.func80, Tryz.ntmps80
  go_wp2
  go_ret
  exact ⟨by rw [Hb.out]; rfl, (((Fr.refl _ _).alloc _))⟩
 ·skip
  have e2 : decide (a < 0) = false := by simpa using h2
  by_cases h4 : 3 < a
  ·have hx := h4
   have Hb : Hid (insOk ⟨2, a, b, c, ka, kb, la, lb, x⟩ n = false) := Lib.hid (by rw [Bool.eq_false_iff]; intro e; rw [insOk_iff] at e; unfold InsOk at e; simp at e; omega)
   have e4 : decide (3 < a) = true := by simpa using h4
   go_enter Tryz.func80, Tryz.ntmps80
   go_wp2
   go_ret
   exact ⟨by rw [Hb.out]; rfl, (((Fr.refl _ _).alloc _))⟩
  ·skip
   have e4 : decide (3 < a) = false := by simpa using h4
   by_cases h6 : x ≠ 0
   ·have hx := h6
    have Hb : Hid (insOk ⟨2, a, b, c, ka, kb, la, lb, x⟩ n = false) := Lib.hid (by rw [Bool.eq_false_iff]; intro e; rw [insOk_iff] at e; unfold InsOk at e; simp at e; omega)
    have e6 : (x != 0) = true := by simpa using h6
    go_enter Tryz.func80, Tryz.ntmps80
    go_wp2
    go_ret
    exact ⟨by rw [Hb.out]; rfl, (((Fr.refl _ _).alloc _)).alloc _⟩
   ·obtain rfl : x = 0 := by omega
    by_cases h8 : b ≠ 0
    ·have hx := h8
     have Hb : Hid (insOk ⟨2, a, b, c, ka, kb, la, lb, 0⟩ n = false) := Lib.hid (by rw [Bool.eq_false_iff]; intro e; rw [insOk_iff] at e; unfold InsOk at e; simp at e; omega)
     have e8 : (b != 0) = true := by simpa using h8
     go_enter Tryz.func80, Tryz.ntmps80
     go_wp2
     go_ret
     exact ⟨by rw [Hb.out]; rfl, (((Fr.refl _ _).alloc _)).alloc _⟩
    ·obtain rfl : b = 0 := by omega
     by_cases h10 : c ≠ 0
     ·have hx := h10
      have Hb : Hid (insOk ⟨2, a, 0, c, ka, kb, la, lb, 0⟩ n = false) := Lib.hid (by rw [Bool.eq_false_iff]; intro e; rw [insOk_iff] at e; unfold InsOk at e; simp at e; omega)
      have e10 : (c != 0) = true := by simpa using h10
      go_enter Tryz.func80, Tryz.ntmps80
      go_wp2
      go_ret
      exact ⟨by rw [Hb.out]; rfl, (((Fr.refl _ _).alloc _)).alloc _⟩
     ·obtain rfl : c = 0 := by omega
      by_cases h12 : ¬ (la = 0 ∧ lb = 0)
      ·have hx := h12
       have Hb : Hid (insOk ⟨2, a, 0, 0, ka, kb, la, lb, 0⟩ n = false) := Lib.hid (by rw [Bool.eq_false_iff]; intro e; rw [insOk_iff] at e; unfold InsOk at e; simp at e; omega)
       have q := fun w => eqKey9 la lb 0 0 w
       have e12 : (la == 0 && lb == 0) = false := by rw [Bool.eq_false_iff]; simp; omega
       rw [e12] at q
       go_enter Tryz.func80, Tryz.ntmps80
       go_wp2
       go_ret
       exact ⟨by rw [Hb.out]; rfl, (((Fr.refl _ _).alloc _)).alloc _⟩
      ·obtain ⟨rfl, rfl⟩ : la = 0 ∧ lb = 0 := by omega
       have ql := fun w => eqKey9 0 0 0 0 w
       have Hb : Hid (insOk ⟨2, a, 0, 0, ka, kb, 0, 0, 0⟩ n = keyOk ka kb n) := Lib.hid (by rw [Bool.eq_iff_iff, insOk_iff, keyOk_iff]; unfold InsOk; first | (simp; done) | (simp; omega))
       have C := fun W => refMayKey_any (ka, kb) n W
       simp only [kcell] at C
       generalize keyOk ka kb n = r at *
       go_enter Tryz.func80, Tryz.ntmps80
       go_wp2_with (go_at_call 81; refine (C _).mono ?_; rintro e w1 ⟨rfl, hf1⟩; cases r)
       all_goals
        go_ret
        exact ⟨by rw [Hb.out]; rfl, (((Fr.refl No w).alloc _).alloc _).then0 hf1 (fun _ h => h.elim)⟩
end Go.Proofs.YtmeimhpllemjfaaGreat
/- Which instructions of the document's may be, by their Op (3 and 4). -/
namespace Go.Proofs.YtmeimhpllemjfaaGreat
open Go.RowKit

set_option maxHeartbeats 2000000 in
theorem one3 (a b c ka kb la lb x n : Int) (w : World) : Calls Tryz.prog 80 #[.agg #[.int .i64 3, .int .i64 a, .int .i64 b, .int .i64 c, .int .i64 ka, .int .i64 kb, .int .i64 la, .int .i64 lb, .int .i64 x], .int .i64 n] w (Has w (insOk ⟨3, a, b, c, ka, kb, la, lb, x⟩ n)) := by
 by_cases h2 : a < 0
 ·have hx := h2
  have Hb : Hid (insOk ⟨3, a, b, c, ka, kb, la, lb, x⟩ n = false) := Lib.hid (by rw [Bool.eq_false_iff]; intro e; rw [insOk_iff] at e; unfold InsOk at e; simp at e; omega)
  have e2 : decide (a < 0) = true := by simpa using h2
  go_enter Tryz.func80, Tryz.ntmps80
  go_wp2
  go_ret
  exact ⟨by rw [Hb.out]; rfl, (((Fr.refl _ _).alloc _))⟩
 ·skip
  have e2 : decide (a < 0) = false := by simpa using h2
  by_cases h4 : 3 < a
  ·have hx := h4
   have Hb : Hid (insOk ⟨3, a, b, c, ka, kb, la, lb, x⟩ n = false) := Lib.hid (by rw [Bool.eq_false_iff]; intro e; rw [insOk_iff] at e; unfold InsOk at e; simp at e; omega)
   have e4 : decide (3 < a) = true := by simpa using h4
   go_enter Tryz.func80, Tryz.ntmps80
   go_wp2
   go_ret
   exact ⟨by rw [Hb.out]; rfl, (((Fr.refl _ _).alloc _))⟩
  ·skip
   have e4 : decide (3 < a) = false := by simpa using h4
   by_cases h6 : a ≠ 0
   ·have hx := h6
    have Hb : Hid (insOk ⟨3, a, b, c, ka, kb, la, lb, x⟩ n = false) := Lib.hid (by rw [Bool.eq_false_iff]; intro e; rw [insOk_iff] at e; unfold InsOk at e; simp at e; omega)
    have e6 : (a != 0) = true := by simpa using h6
    go_enter Tryz.func80, Tryz.ntmps80
    go_wp2
    go_ret
    exact ⟨by rw [Hb.out]; rfl, (((Fr.refl _ _).alloc _)).alloc _⟩
   ·obtain rfl : a = 0 := by omega
    by_cases h8 : x ≠ 0
    ·have hx := h8
     have Hb : Hid (insOk ⟨3, 0, b, c, ka, kb, la, lb, x⟩ n = false) := Lib.hid (by rw [Bool.eq_false_iff]; intro e; rw [insOk_iff] at e; unfold InsOk at e; simp at e; omega)
     have e8 : (x != 0) = true := by simpa using h8
     go_enter Tryz.func80, Tryz.ntmps80
     go_wp2
     go_ret
     exact ⟨by rw [Hb.out]; rfl, (((Fr.refl _ _).alloc _)).alloc _⟩
    ·obtain rfl : x = 0 := by omega
     by_cases h10 : b ≠ 0
     ·have hx := h10
      have Hb : Hid (insOk ⟨3, 0, b, c, ka, kb, la, lb, 0⟩ n = false) := Lib.hid (by rw [Bool.eq_false_iff]; intro e; rw [insOk_iff] at e; unfold InsOk at e; simp at e; omega)
      have e10 : (b != 0) = true := by simpa using h10
      go_enter Tryz.func80, Tryz.ntmps80
      go_wp2
      go_ret
      exact ⟨by rw [Hb.out]; rfl, (((Fr.refl _ _).alloc _)).alloc _⟩
     ·obtain rfl : b = 0 := by omega
      by_cases h12 : c ≠ 0
      ·have hx := h12
       have Hb : Hid (insOk ⟨3, 0, 0, c, ka, kb, la, lb, 0⟩ n = false) := Lib.hid (by rw [Bool.eq_false_iff]; intro e; rw [insOk_iff] at e; unfold InsOk at e; simp at e; omega)
       have e12 : (c != 0) = true := by simpa using h12
       go_enter Tryz.func80, Tryz.ntmps80
       go_wp2
       go_ret
       exact ⟨by rw [Hb.out]; rfl, (((Fr.refl _ _).alloc _)).alloc _⟩
      ·obtain rfl : c = 0 := by omega
       by_cases h14 : ¬ (la = 0 ∧ lb = 0)
       ·have hx := h14
        have Hb : Hid (insOk ⟨3, 0, 0, 0, ka, kb, la, lb, 0⟩ n = false) := Lib.hid (by rw [Bool.eq_false_iff]; intro e; rw [insOk_iff] at e; unfold InsOk at e; simp at e; omega)
        have q := fun w => eqKey9 la lb 0 0 w
        have e14 : (la == 0 && lb == 0) = false := by rw [Bool.eq_false_iff]; simp; omega
        rw [e14] at q
        go_enter Tryz.func80, Tryz.ntmps80
        go_wp2
        go_ret
        exact ⟨by rw [Hb.out]; rfl, (((Fr.refl _ _).alloc _)).alloc _⟩
       ·obtain ⟨rfl, rfl⟩ : la = 0 ∧ lb = 0 := by omega
        have ql := fun w => eqKey9 0 0 0 0 w
        have Hb : Hid (insOk ⟨3, 0, 0, 0, ka, kb, 0, 0, 0⟩ n = keyOk ka kb n) := Lib.hid (by rw [Bool.eq_iff_iff, insOk_iff, keyOk_iff]; unfold InsOk; first | (simp; done) | (simp; omega))
        have C := fun W => refMayKey_any (ka, kb) n W
        simp only [kcell] at C
        generalize keyOk ka kb n = r at *
        go_enter Tryz.func80, Tryz.ntmps80
        go_wp2_with (go_at_call 81; refine (C _).mono ?_; rintro e w1 ⟨rfl, hf1⟩; cases r)
        all_goals
         go_ret
         exact ⟨by rw [Hb.out]; rfl, (((Fr.refl No w).alloc _).alloc _).then0 hf1 (fun _ h => h.elim)⟩
set_option maxHeartbeats 2000000 in
theorem one4 (a b c ka kb la lb x n : Int) (w : World) : Calls Tryz.prog 80 #[.agg #[.int .i64 4, .int .i64 a, .int .i64 b, .int .i64 c, .int .i64 ka, .int .i64 kb, .int .i64 la, .int .i64 lb, .int .i64 x], .int .i64 n] w (Has w (insOk ⟨4, a, b, c, ka, kb, la, lb, x⟩ n)) := by
 by_cases h2 : a < 0
 ·have hx := h2
  have Hb : Hid (insOk ⟨4, a, b, c, ka, kb, la, lb, x⟩ n = false) := Lib.hid (by rw [Bool.eq_false_iff]; intro e; rw [insOk_iff] at e; unfold InsOk at e; simp at e; omega)
  have e2 : decide (a < 0) = true := by simpa using h2
  go_enter Tryz.func80, Tryz.ntmps80
  go_wp2
  go_ret
  exact ⟨by rw [Hb.out]; rfl, (((Fr.refl _ _).alloc _))⟩
 ·skip
  have e2 : decide (a < 0) = false := by simpa using h2
  by_cases h4 : 3 < a
  ·have hx := h4
   have Hb : Hid (insOk ⟨4, a, b, c, ka, kb, la, lb, x⟩ n = false) := Lib.hid (by rw [Bool.eq_false_iff]; intro e; rw [insOk_iff] at e; unfold InsOk at e; simp at e; omega)
   have e4 : decide (3 < a) = true := by simpa using h4
   go_enter Tryz.func80, Tryz.ntmps80
   go_wp2
   go_ret
   exact ⟨by rw [Hb.out]; rfl, (((Fr.refl _ _).alloc _))⟩
  ·skip
   have e4 : decide (3 < a) = false := by simpa using h4
   by_cases h6 : x ≠ 0
   ·have hx := h6
    have Hb : Hid (insOk ⟨4, a, b, c, ka, kb, la, lb, x⟩ n = false) := Lib.hid (by rw [Bool.eq_false_iff]; intro e; rw [insOk_iff] at e; unfold InsOk at e; simp at e; omega)
    have e6 : (x != 0) = true := by simpa using h6
    go_enter Tryz.func80, Tryz.ntmps80
    go_wp2
    go_ret
    exact ⟨by rw [Hb.out]; rfl, (((Fr.refl _ _).alloc _)).alloc _⟩
   ·obtain rfl : x = 0 := by omega
    by_cases h8 : b ≠ 0
    ·have hx := h8
     have Hb : Hid (insOk ⟨4, a, b, c, ka, kb, la, lb, 0⟩ n = false) := Lib.hid (by rw [Bool.eq_false_iff]; intro e; rw [insOk_iff] at e; unfold InsOk at e; simp at e; omega)
     have e8 : (b != 0) = true := by simpa using h8
     go_enter Tryz.func80, Tryz.ntmps80
     go_wp2
     go_ret
     exact ⟨by rw [Hb.out]; rfl, (((Fr.refl _ _).alloc _)).alloc _⟩
    ·obtain rfl : b = 0 := by omega
     by_cases h10 : c ≠ 0
     ·have hx := h10
      have Hb : Hid (insOk ⟨4, a, 0, c, ka, kb, la, lb, 0⟩ n = false) := Lib.hid (by rw [Bool.eq_false_iff]; intro e; rw [insOk_iff] at e; unfold InsOk at e; simp at e; omega)
      have e10 : (c != 0) = true := by simpa using h10
      go_enter Tryz.func80, Tryz.ntmps80
      go_wp2
      go_ret
      exact ⟨by rw [Hb.out]; rfl, (((Fr.refl _ _).alloc _)).alloc _⟩
     ·obtain rfl : c = 0 := by omega
      have Hb : Hid (insOk ⟨4, a, 0, 0, ka, kb, la, lb, 0⟩ n = (keyOk ka kb n && keyOk la lb n)) := Lib.hid (by rw [Bool.eq_iff_iff, Bool.and_eq_true, insOk_iff, keyOk_iff, keyOk_iff]; unfold InsOk; first | (simp; done) | (simp; omega))
      have C := fun W => refMayKey_any (ka, kb) n W
      have C2 := fun W => refMayKey_any (la, lb) n W
      simp only [kcell] at C C2
      generalize keyOk ka kb n = r at *
      generalize keyOk la lb n = r2 at *
      go_enter Tryz.func80, Tryz.ntmps80
      go_wp2_with fail
      refine (C _).mono ?_
      rintro e w1 ⟨rfl, hf1⟩
      cases r
      ·go_wp2
       go_ret
       exact ⟨by rw [Hb.out]; rfl, (((Fr.refl No w).alloc _).alloc _).then0 hf1 (fun _ h => h.elim)⟩
      ·have hb1 : Bk w1 w.heap.size 42 #[.int .i64 4, .int .i64 a, .int .i64 0, .int .i64 0, .int .i64 ka, .int .i64 kb, .int .i64 la, .int .i64 lb, .int .i64 0] := (((Bk.made w _ _).fr ((Fr.refl No _).alloc _) (fun e => e)).fr hf1 (fun e => e))
       have k6 := hb1.cell 6
       have k7 := hb1.cell 7
       simp at k6 k7
       go_wp2_with fail
       refine (C2 _).mono ?_
       rintro e w2 ⟨rfl, hf2⟩
       go_wp2
       go_ret
       exact ⟨by rw [Hb.out]; rfl, ((((Fr.refl No w).alloc _).alloc _).then0 hf1 (fun _ h => h.elim)).then0 hf2 (fun _ h => h.elim)⟩
end Go.Proofs.YtmeimhpllemjfaaGreat
/- Which instructions of the document's may be, by their Op (5 and 6). -/
namespace Go.Proofs.YtmeimhpllemjfaaGreat
open Go.RowKit

set_option maxHeartbeats 2000000 in
theorem one5 (a b c ka kb la lb x n : Int) (w : World) : Calls Tryz.prog 80 #[.agg #[.int .i64 5, .int .i64 a, .int .i64 b, .int .i64 c, .int .i64 ka, .int .i64 kb, .int .i64 la, .int .i64 lb, .int .i64 x], .int .i64 n] w (Has w (insOk ⟨5, a, b, c, ka, kb, la, lb, x⟩ n)) := by
 by_cases h2 : a < 0
 ·have hx := h2
  have Hb : Hid (insOk ⟨5, a, b, c, ka, kb, la, lb, x⟩ n = false) := Lib.hid (by rw [Bool.eq_false_iff]; intro e; rw [insOk_iff] at e; unfold InsOk at e; simp at e; omega)
  have e2 : decide (a < 0) = true := by simpa using h2
  go_enter Tryz.func80, Tryz.ntmps80
  go_wp2
  go_ret
  exact ⟨by rw [Hb.out]; rfl, (((Fr.refl _ _).alloc _))⟩
 ·skip
  have e2 : decide (a < 0) = false := by simpa using h2
  by_cases h4 : 3 < a
  ·have hx := h4
   have Hb : Hid (insOk ⟨5, a, b, c, ka, kb, la, lb, x⟩ n = false) := Lib.hid (by rw [Bool.eq_false_iff]; intro e; rw [insOk_iff] at e; unfold InsOk at e; simp at e; omega)
   have e4 : decide (3 < a) = true := by simpa using h4
   go_enter Tryz.func80, Tryz.ntmps80
   go_wp2
   go_ret
   exact ⟨by rw [Hb.out]; rfl, (((Fr.refl _ _).alloc _))⟩
  ·skip
   have e4 : decide (3 < a) = false := by simpa using h4
   by_cases h6 : b ≠ 0
   ·have hx := h6
    have Hb : Hid (insOk ⟨5, a, b, c, ka, kb, la, lb, x⟩ n = false) := Lib.hid (by rw [Bool.eq_false_iff]; intro e; rw [insOk_iff] at e; unfold InsOk at e; simp at e; omega)
    have e6 : (b != 0) = true := by simpa using h6
    go_enter Tryz.func80, Tryz.ntmps80
    go_wp2
    go_ret
    exact ⟨by rw [Hb.out]; rfl, (((Fr.refl _ _).alloc _)).alloc _⟩
   ·obtain rfl : b = 0 := by omega
    by_cases h8 : c ≠ 0
    ·have hx := h8
     have Hb : Hid (insOk ⟨5, a, 0, c, ka, kb, la, lb, x⟩ n = false) := Lib.hid (by rw [Bool.eq_false_iff]; intro e; rw [insOk_iff] at e; unfold InsOk at e; simp at e; omega)
     have e8 : (c != 0) = true := by simpa using h8
     go_enter Tryz.func80, Tryz.ntmps80
     go_wp2
     go_ret
     exact ⟨by rw [Hb.out]; rfl, (((Fr.refl _ _).alloc _)).alloc _⟩
    ·obtain rfl : c = 0 := by omega
     by_cases h10 : ¬ (ka = 0 ∧ kb = 0)
     ·have hx := h10
      have Hb : Hid (insOk ⟨5, a, 0, 0, ka, kb, la, lb, x⟩ n = false) := Lib.hid (by rw [Bool.eq_false_iff]; intro e; rw [insOk_iff] at e; unfold InsOk at e; simp at e; omega)
      have q := fun w => eqKey9 ka kb 0 0 w
      have e10 : (ka == 0 && kb == 0) = false := by rw [Bool.eq_false_iff]; simp; omega
      rw [e10] at q
      go_enter Tryz.func80, Tryz.ntmps80
      go_wp2
      go_ret
      exact ⟨by rw [Hb.out]; rfl, (((Fr.refl _ _).alloc _)).alloc _⟩
     ·obtain ⟨rfl, rfl⟩ : ka = 0 ∧ kb = 0 := by omega
      by_cases h12 : ¬ (la = 0 ∧ lb = 0)
      ·have hx := h12
       have Hb : Hid (insOk ⟨5, a, 0, 0, 0, 0, la, lb, x⟩ n = false) := Lib.hid (by rw [Bool.eq_false_iff]; intro e; rw [insOk_iff] at e; unfold InsOk at e; simp at e; omega)
       have q := fun w => eqKey9 la lb 0 0 w
       have e12 : (la == 0 && lb == 0) = false := by rw [Bool.eq_false_iff]; simp; omega
       rw [e12] at q
       go_enter Tryz.func80, Tryz.ntmps80
       go_wp2
       go_ret
       exact ⟨by rw [Hb.out]; rfl, (((Fr.refl _ _).alloc _)).alloc _⟩
      ·obtain ⟨rfl, rfl⟩ : la = 0 ∧ lb = 0 := by omega
       have qk := fun w => eqKey9 0 0 0 0 w
       have Hb : Hid (insOk ⟨5, a, 0, 0, 0, 0, 0, 0, x⟩ n = true) := Lib.hid (by rw [insOk_iff]; unfold InsOk; first | (simp; done) | (simp; omega))
       go_enter Tryz.func80, Tryz.ntmps80
       go_wp2
       go_ret
       exact ⟨by rw [Hb.out]; rfl, (((Fr.refl No w).alloc _).alloc _)⟩
set_option maxHeartbeats 2000000 in
theorem one6 (a b c ka kb la lb x n : Int) (w : World) : Calls Tryz.prog 80 #[.agg #[.int .i64 6, .int .i64 a, .int .i64 b, .int .i64 c, .int .i64 ka, .int .i64 kb, .int .i64 la, .int .i64 lb, .int .i64 x], .int .i64 n] w (Has w (insOk ⟨6, a, b, c, ka, kb, la, lb, x⟩ n)) := by
 by_cases h2 : a < 0
 ·have hx := h2
  have Hb : Hid (insOk ⟨6, a, b, c, ka, kb, la, lb, x⟩ n = false) := Lib.hid (by rw [Bool.eq_false_iff]; intro e; rw [insOk_iff] at e; unfold InsOk at e; simp at e; omega)
  have e2 : decide (a < 0) = true := by simpa using h2
  go_enter Tryz.func80, Tryz.ntmps80
  go_wp2
  go_ret
  exact ⟨by rw [Hb.out]; rfl, (((Fr.refl _ _).alloc _))⟩
 ·skip
  have e2 : decide (a < 0) = false := by simpa using h2
  by_cases h4 : 3 < a
  ·have hx := h4
   have Hb : Hid (insOk ⟨6, a, b, c, ka, kb, la, lb, x⟩ n = false) := Lib.hid (by rw [Bool.eq_false_iff]; intro e; rw [insOk_iff] at e; unfold InsOk at e; simp at e; omega)
   have e4 : decide (3 < a) = true := by simpa using h4
   go_enter Tryz.func80, Tryz.ntmps80
   go_wp2
   go_ret
   exact ⟨by rw [Hb.out]; rfl, (((Fr.refl _ _).alloc _))⟩
  ·skip
   have e4 : decide (3 < a) = false := by simpa using h4
   by_cases h6 : x ≠ 0
   ·have hx := h6
    have Hb : Hid (insOk ⟨6, a, b, c, ka, kb, la, lb, x⟩ n = false) := Lib.hid (by rw [Bool.eq_false_iff]; intro e; rw [insOk_iff] at e; unfold InsOk at e; simp at e; omega)
    have e6 : (x != 0) = true := by simpa using h6
    go_enter Tryz.func80, Tryz.ntmps80
    go_wp2
    go_ret
    exact ⟨by rw [Hb.out]; rfl, (((Fr.refl _ _).alloc _)).alloc _⟩
   ·obtain rfl : x = 0 := by omega
    by_cases h8 : ¬ (ka = 0 ∧ kb = 0)
    ·have hx := h8
     have Hb : Hid (insOk ⟨6, a, b, c, ka, kb, la, lb, 0⟩ n = false) := Lib.hid (by rw [Bool.eq_false_iff]; intro e; rw [insOk_iff] at e; unfold InsOk at e; simp at e; omega)
     have q := fun w => eqKey9 ka kb 0 0 w
     have e8 : (ka == 0 && kb == 0) = false := by rw [Bool.eq_false_iff]; simp; omega
     rw [e8] at q
     go_enter Tryz.func80, Tryz.ntmps80
     go_wp2
     go_ret
     exact ⟨by rw [Hb.out]; rfl, (((Fr.refl _ _).alloc _)).alloc _⟩
    ·obtain ⟨rfl, rfl⟩ : ka = 0 ∧ kb = 0 := by omega
     by_cases h10 : ¬ (la = 0 ∧ lb = 0)
     ·have hx := h10
      have Hb : Hid (insOk ⟨6, a, b, c, 0, 0, la, lb, 0⟩ n = false) := Lib.hid (by rw [Bool.eq_false_iff]; intro e; rw [insOk_iff] at e; unfold InsOk at e; simp at e; omega)
      have q := fun w => eqKey9 la lb 0 0 w
      have e10 : (la == 0 && lb == 0) = false := by rw [Bool.eq_false_iff]; simp; omega
      rw [e10] at q
      go_enter Tryz.func80, Tryz.ntmps80
      go_wp2
      go_ret
      exact ⟨by rw [Hb.out]; rfl, (((Fr.refl _ _).alloc _)).alloc _⟩
     ·obtain ⟨rfl, rfl⟩ : la = 0 ∧ lb = 0 := by omega
      by_cases h12 : b < 0
      ·have hx := h12
       have Hb : Hid (insOk ⟨6, a, b, c, 0, 0, 0, 0, 0⟩ n = false) := Lib.hid (by rw [Bool.eq_false_iff]; intro e; rw [insOk_iff] at e; unfold InsOk at e; simp at e; omega)
       have e12 : decide (b < 0) = true := by simpa using h12
       go_enter Tryz.func80, Tryz.ntmps80
       go_wp2
       go_ret
       exact ⟨by rw [Hb.out]; rfl, (((Fr.refl _ _).alloc _)).alloc _⟩
      ·skip
       have e12 : decide (b < 0) = false := by simpa using h12
       by_cases h14 : 3 < b
       ·have hx := h14
        have Hb : Hid (insOk ⟨6, a, b, c, 0, 0, 0, 0, 0⟩ n = false) := Lib.hid (by rw [Bool.eq_false_iff]; intro e; rw [insOk_iff] at e; unfold InsOk at e; simp at e; omega)
        have e14 : decide (3 < b) = true := by simpa using h14
        go_enter Tryz.func80, Tryz.ntmps80
        go_wp2
        go_ret
        exact ⟨by rw [Hb.out]; rfl, (((Fr.refl _ _).alloc _)).alloc _⟩
       ·skip
        have e14 : decide (3 < b) = false := by simpa using h14
        by_cases h16 : c < 0
        ·have hx := h16
         have Hb : Hid (insOk ⟨6, a, b, c, 0, 0, 0, 0, 0⟩ n = false) := Lib.hid (by rw [Bool.eq_false_iff]; intro e; rw [insOk_iff] at e; unfold InsOk at e; simp at e; omega)
         have e16 : decide (c < 0) = true := by simpa using h16
         go_enter Tryz.func80, Tryz.ntmps80
         go_wp2
         go_ret
         exact ⟨by rw [Hb.out]; rfl, (((Fr.refl _ _).alloc _)).alloc _⟩
        ·skip
         have e16 : decide (c < 0) = false := by simpa using h16
         by_cases h18 : 3 < c
         ·have hx := h18
          have Hb : Hid (insOk ⟨6, a, b, c, 0, 0, 0, 0, 0⟩ n = false) := Lib.hid (by rw [Bool.eq_false_iff]; intro e; rw [insOk_iff] at e; unfold InsOk at e; simp at e; omega)
          have e18 : decide (3 < c) = true := by simpa using h18
          go_enter Tryz.func80, Tryz.ntmps80
          go_wp2
          go_ret
          exact ⟨by rw [Hb.out]; rfl, (((Fr.refl _ _).alloc _)).alloc _⟩
         ·skip
          have e18 : decide (3 < c) = false := by simpa using h18
          have qk := fun w => eqKey9 0 0 0 0 w
          have Hb : Hid (insOk ⟨6, a, b, c, 0, 0, 0, 0, 0⟩ n = true) := Lib.hid (by rw [insOk_iff]; unfold InsOk; first | (simp; done) | (simp; omega))
          go_enter Tryz.func80, Tryz.ntmps80
          go_wp2
          go_ret
          exact ⟨by rw [Hb.out]; rfl, (((Fr.refl No w).alloc _).alloc _)⟩
end Go.Proofs.YtmeimhpllemjfaaGreat
/- Which instructions of the document's may be, by their Op (7 and 8). -/
namespace Go.Proofs.YtmeimhpllemjfaaGreat
open Go.RowKit

set_option maxHeartbeats 2000000 in
theorem one7 (a b c ka kb la lb x n : Int) (w : World) : Calls Tryz.prog 80 #[.agg #[.int .i64 7, .int .i64 a, .int .i64 b, .int .i64 c, .int .i64 ka, .int .i64 kb, .int .i64 la, .int .i64 lb, .int .i64 x], .int .i64 n] w (Has w (insOk ⟨7, a, b, c, ka, kb, la, lb, x⟩ n)) := by
 by_cases h2 : a < 0
 ·have hx := h2
  have Hb : Hid (insOk ⟨7, a, b, c, ka, kb, la, lb, x⟩ n = false) := Lib.hid (by rw [Bool.eq_false_iff]; intro e; rw [insOk_iff] at e; unfold InsOk at e; simp at e; omega)
  have e2 : decide (a < 0) = true := by simpa using h2
  go_enter Tryz.func80, Tryz.ntmps80
  go_wp2
  go_ret
  exact ⟨by rw [Hb.out]; rfl, (((Fr.refl _ _).alloc _))⟩
 ·skip
  have e2 : decide (a < 0) = false := by simpa using h2
  by_cases h4 : 3 < a
  ·have hx := h4
   have Hb : Hid (insOk ⟨7, a, b, c, ka, kb, la, lb, x⟩ n = false) := Lib.hid (by rw [Bool.eq_false_iff]; intro e; rw [insOk_iff] at e; unfold InsOk at e; simp at e; omega)
   have e4 : decide (3 < a) = true := by simpa using h4
   go_enter Tryz.func80, Tryz.ntmps80
   go_wp2
   go_ret
   exact ⟨by rw [Hb.out]; rfl, (((Fr.refl _ _).alloc _))⟩
  ·skip
   have e4 : decide (3 < a) = false := by simpa using h4
   by_cases h6 : x ≠ 0
   ·have hx := h6
    have Hb : Hid (insOk ⟨7, a, b, c, ka, kb, la, lb, x⟩ n = false) := Lib.hid (by rw [Bool.eq_false_iff]; intro e; rw [insOk_iff] at e; unfold InsOk at e; simp at e; omega)
    have e6 : (x != 0) = true := by simpa using h6
    go_enter Tryz.func80, Tryz.ntmps80
    go_wp2
    go_ret
    exact ⟨by rw [Hb.out]; rfl, (((Fr.refl _ _).alloc _)).alloc _⟩
   ·obtain rfl : x = 0 := by omega
    by_cases h8 : ¬ (ka = 0 ∧ kb = 0)
    ·have hx := h8
     have Hb : Hid (insOk ⟨7, a, b, c, ka, kb, la, lb, 0⟩ n = false) := Lib.hid (by rw [Bool.eq_false_iff]; intro e; rw [insOk_iff] at e; unfold InsOk at e; simp at e; omega)
     have q := fun w => eqKey9 ka kb 0 0 w
     have e8 : (ka == 0 && kb == 0) = false := by rw [Bool.eq_false_iff]; simp; omega
     rw [e8] at q
     go_enter Tryz.func80, Tryz.ntmps80
     go_wp2
     go_ret
     exact ⟨by rw [Hb.out]; rfl, (((Fr.refl _ _).alloc _)).alloc _⟩
    ·obtain ⟨rfl, rfl⟩ : ka = 0 ∧ kb = 0 := by omega
     by_cases h10 : ¬ (la = 0 ∧ lb = 0)
     ·have hx := h10
      have Hb : Hid (insOk ⟨7, a, b, c, 0, 0, la, lb, 0⟩ n = false) := Lib.hid (by rw [Bool.eq_false_iff]; intro e; rw [insOk_iff] at e; unfold InsOk at e; simp at e; omega)
      have q := fun w => eqKey9 la lb 0 0 w
      have e10 : (la == 0 && lb == 0) = false := by rw [Bool.eq_false_iff]; simp; omega
      rw [e10] at q
      go_enter Tryz.func80, Tryz.ntmps80
      go_wp2
      go_ret
      exact ⟨by rw [Hb.out]; rfl, (((Fr.refl _ _).alloc _)).alloc _⟩
     ·obtain ⟨rfl, rfl⟩ : la = 0 ∧ lb = 0 := by omega
      by_cases h12 : b < 0
      ·have hx := h12
       have Hb : Hid (insOk ⟨7, a, b, c, 0, 0, 0, 0, 0⟩ n = false) := Lib.hid (by rw [Bool.eq_false_iff]; intro e; rw [insOk_iff] at e; unfold InsOk at e; simp at e; omega)
       have e12 : decide (b < 0) = true := by simpa using h12
       go_enter Tryz.func80, Tryz.ntmps80
       go_wp2
       go_ret
       exact ⟨by rw [Hb.out]; rfl, (((Fr.refl _ _).alloc _)).alloc _⟩
      ·skip
       have e12 : decide (b < 0) = false := by simpa using h12
       by_cases h14 : 3 < b
       ·have hx := h14
        have Hb : Hid (insOk ⟨7, a, b, c, 0, 0, 0, 0, 0⟩ n = false) := Lib.hid (by rw [Bool.eq_false_iff]; intro e; rw [insOk_iff] at e; unfold InsOk at e; simp at e; omega)
        have e14 : decide (3 < b) = true := by simpa using h14
        go_enter Tryz.func80, Tryz.ntmps80
        go_wp2
        go_ret
        exact ⟨by rw [Hb.out]; rfl, (((Fr.refl _ _).alloc _)).alloc _⟩
       ·skip
        have e14 : decide (3 < b) = false := by simpa using h14
        by_cases h16 : c < 0
        ·have hx := h16
         have Hb : Hid (insOk ⟨7, a, b, c, 0, 0, 0, 0, 0⟩ n = false) := Lib.hid (by rw [Bool.eq_false_iff]; intro e; rw [insOk_iff] at e; unfold InsOk at e; simp at e; omega)
         have e16 : decide (c < 0) = true := by simpa using h16
         go_enter Tryz.func80, Tryz.ntmps80
         go_wp2
         go_ret
         exact ⟨by rw [Hb.out]; rfl, (((Fr.refl _ _).alloc _)).alloc _⟩
        ·skip
         have e16 : decide (c < 0) = false := by simpa using h16
         by_cases h18 : 3 < c
         ·have hx := h18
          have Hb : Hid (insOk ⟨7, a, b, c, 0, 0, 0, 0, 0⟩ n = false) := Lib.hid (by rw [Bool.eq_false_iff]; intro e; rw [insOk_iff] at e; unfold InsOk at e; simp at e; omega)
          have e18 : decide (3 < c) = true := by simpa using h18
          go_enter Tryz.func80, Tryz.ntmps80
          go_wp2
          go_ret
          exact ⟨by rw [Hb.out]; rfl, (((Fr.refl _ _).alloc _)).alloc _⟩
         ·skip
          have e18 : decide (3 < c) = false := by simpa using h18
          have qk := fun w => eqKey9 0 0 0 0 w
          have Hb : Hid (insOk ⟨7, a, b, c, 0, 0, 0, 0, 0⟩ n = true) := Lib.hid (by rw [insOk_iff]; unfold InsOk; first | (simp; done) | (simp; omega))
          go_enter Tryz.func80, Tryz.ntmps80
          go_wp2
          go_ret
          exact ⟨by rw [Hb.out]; rfl, (((Fr.refl No w).alloc _).alloc _)⟩
set_option maxHeartbeats 2000000 in
theorem one8 (a b c ka kb la lb x n : Int) (w : World) : Calls Tryz.prog 80 #[.agg #[.int .i64 8, .int .i64 a, .int .i64 b, .int .i64 c, .int .i64 ka, .int .i64 kb, .int .i64 la, .int .i64 lb, .int .i64 x], .int .i64 n] w (Has w (insOk ⟨8, a, b, c, ka, kb, la, lb, x⟩ n)) := by
 by_cases h2 : a < 0
 ·have hx := h2
  have Hb : Hid (insOk ⟨8, a, b, c, ka, kb, la, lb, x⟩ n = false) := Lib.hid (by rw [Bool.eq_false_iff]; intro e; rw [insOk_iff] at e; unfold InsOk at e; simp at e; omega)
  have e2 : decide (a < 0) = true := by simpa using h2
  go_enter Tryz.func80, Tryz.ntmps80
  go_wp2
  go_ret
  exact ⟨by rw [Hb.out]; rfl, (((Fr.refl _ _).alloc _))⟩
 ·skip
  have e2 : decide (a < 0) = false := by simpa using h2
  by_cases h4 : 3 < a
  ·have hx := h4
   have Hb : Hid (insOk ⟨8, a, b, c, ka, kb, la, lb, x⟩ n = false) := Lib.hid (by rw [Bool.eq_false_iff]; intro e; rw [insOk_iff] at e; unfold InsOk at e; simp at e; omega)
   have e4 : decide (3 < a) = true := by simpa using h4
   go_enter Tryz.func80, Tryz.ntmps80
   go_wp2
   go_ret
   exact ⟨by rw [Hb.out]; rfl, (((Fr.refl _ _).alloc _))⟩
  ·skip
   have e4 : decide (3 < a) = false := by simpa using h4
   by_cases h6 : b ≠ 0
   ·have hx := h6
    have Hb : Hid (insOk ⟨8, a, b, c, ka, kb, la, lb, x⟩ n = false) := Lib.hid (by rw [Bool.eq_false_iff]; intro e; rw [insOk_iff] at e; unfold InsOk at e; simp at e; omega)
    have e6 : (b != 0) = true := by simpa using h6
    go_enter Tryz.func80, Tryz.ntmps80
    go_wp2
    go_ret
    exact ⟨by rw [Hb.out]; rfl, (((Fr.refl _ _).alloc _)).alloc _⟩
   ·obtain rfl : b = 0 := by omega
    by_cases h8 : c ≠ 0
    ·have hx := h8
     have Hb : Hid (insOk ⟨8, a, 0, c, ka, kb, la, lb, x⟩ n = false) := Lib.hid (by rw [Bool.eq_false_iff]; intro e; rw [insOk_iff] at e; unfold InsOk at e; simp at e; omega)
     have e8 : (c != 0) = true := by simpa using h8
     go_enter Tryz.func80, Tryz.ntmps80
     go_wp2
     go_ret
     exact ⟨by rw [Hb.out]; rfl, (((Fr.refl _ _).alloc _)).alloc _⟩
    ·obtain rfl : c = 0 := by omega
     by_cases h10 : ¬ (ka = 0 ∧ kb = 0)
     ·have hx := h10
      have Hb : Hid (insOk ⟨8, a, 0, 0, ka, kb, la, lb, x⟩ n = false) := Lib.hid (by rw [Bool.eq_false_iff]; intro e; rw [insOk_iff] at e; unfold InsOk at e; simp at e; omega)
      have q := fun w => eqKey9 ka kb 0 0 w
      have e10 : (ka == 0 && kb == 0) = false := by rw [Bool.eq_false_iff]; simp; omega
      rw [e10] at q
      go_enter Tryz.func80, Tryz.ntmps80
      go_wp2
      go_ret
      exact ⟨by rw [Hb.out]; rfl, (((Fr.refl _ _).alloc _)).alloc _⟩
     ·obtain ⟨rfl, rfl⟩ : ka = 0 ∧ kb = 0 := by omega
      by_cases h12 : ¬ (la = 0 ∧ lb = 0)
      ·have hx := h12
       have Hb : Hid (insOk ⟨8, a, 0, 0, 0, 0, la, lb, x⟩ n = false) := Lib.hid (by rw [Bool.eq_false_iff]; intro e; rw [insOk_iff] at e; unfold InsOk at e; simp at e; omega)
       have q := fun w => eqKey9 la lb 0 0 w
       have e12 : (la == 0 && lb == 0) = false := by rw [Bool.eq_false_iff]; simp; omega
       rw [e12] at q
       go_enter Tryz.func80, Tryz.ntmps80
       go_wp2
       go_ret
       exact ⟨by rw [Hb.out]; rfl, (((Fr.refl _ _).alloc _)).alloc _⟩
      ·obtain ⟨rfl, rfl⟩ : la = 0 ∧ lb = 0 := by omega
       have qk := fun w => eqKey9 0 0 0 0 w
       have Hb : Hid (insOk ⟨8, a, 0, 0, 0, 0, 0, 0, x⟩ n = true) := Lib.hid (by rw [insOk_iff]; unfold InsOk; first | (simp; done) | (simp; omega))
       go_enter Tryz.func80, Tryz.ntmps80
       go_wp2
       go_ret
       exact ⟨by rw [Hb.out]; rfl, (((Fr.refl No w).alloc _).alloc _)⟩
end Go.Proofs.YtmeimhpllemjfaaGreat
