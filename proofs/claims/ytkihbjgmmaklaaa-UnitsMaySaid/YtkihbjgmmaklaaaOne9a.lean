/- Which instructions of the document's may be, by their Op (1 and 2). -/
import Derived.Test.YtkihbjgmmaklaaaMay9
namespace Go.Proofs.Ytkihbjgmmaklaaa
open Go.RowKit

set_option maxHeartbeats 2000000 in
theorem one1 (a b c ka kb la lb x n : Int) (w : World) : Calls Try.prog 63 #[.agg #[.int .i64 1, .int .i64 a, .int .i64 b, .int .i64 c, .int .i64 ka, .int .i64 kb, .int .i64 la, .int .i64 lb, .int .i64 x], .int .i64 n] w (Has w (insOk ⟨1, a, b, c, ka, kb, la, lb, x⟩ n)) := by
  by_cases h2 : a < 0
  · have hx := h2
    have Hb : Hid (insOk ⟨1, a, b, c, ka, kb, la, lb, x⟩ n = false) := Lib.hid (by rw [Bool.eq_false_iff]; intro e; rw [insOk_iff] at e; unfold InsOk at e; simp at e; omega)
    have e2 : decide (a < 0) = true := by simpa using h2
    go_enter Try.func63, Try.ntmps63
    go_wp2
    go_ret
    exact ⟨by rw [Hb.out]; rfl, (((Fr.refl _ _).alloc _))⟩
  · skip
    have e2 : decide (a < 0) = false := by simpa using h2
    by_cases h4 : 3 < a
    · have hx := h4
      have Hb : Hid (insOk ⟨1, a, b, c, ka, kb, la, lb, x⟩ n = false) := Lib.hid (by rw [Bool.eq_false_iff]; intro e; rw [insOk_iff] at e; unfold InsOk at e; simp at e; omega)
      have e4 : decide (3 < a) = true := by simpa using h4
      go_enter Try.func63, Try.ntmps63
      go_wp2
      go_ret
      exact ⟨by rw [Hb.out]; rfl, (((Fr.refl _ _).alloc _))⟩
    · skip
      have e4 : decide (3 < a) = false := by simpa using h4
      by_cases h6 : x ≠ 0
      · have hx := h6
        have Hb : Hid (insOk ⟨1, a, b, c, ka, kb, la, lb, x⟩ n = false) := Lib.hid (by rw [Bool.eq_false_iff]; intro e; rw [insOk_iff] at e; unfold InsOk at e; simp at e; omega)
        have e6 : (x != 0) = true := by simpa using h6
        go_enter Try.func63, Try.ntmps63
        go_wp2
        go_ret
        exact ⟨by rw [Hb.out]; rfl, (((Fr.refl _ _).alloc _)).alloc _⟩
      · obtain rfl : x = 0 := by omega
        by_cases h8 : b ≠ 0
        · have hx := h8
          have Hb : Hid (insOk ⟨1, a, b, c, ka, kb, la, lb, 0⟩ n = false) := Lib.hid (by rw [Bool.eq_false_iff]; intro e; rw [insOk_iff] at e; unfold InsOk at e; simp at e; omega)
          have e8 : (b != 0) = true := by simpa using h8
          go_enter Try.func63, Try.ntmps63
          go_wp2
          go_ret
          exact ⟨by rw [Hb.out]; rfl, (((Fr.refl _ _).alloc _)).alloc _⟩
        · obtain rfl : b = 0 := by omega
          by_cases h10 : c ≠ 0
          · have hx := h10
            have Hb : Hid (insOk ⟨1, a, 0, c, ka, kb, la, lb, 0⟩ n = false) := Lib.hid (by rw [Bool.eq_false_iff]; intro e; rw [insOk_iff] at e; unfold InsOk at e; simp at e; omega)
            have e10 : (c != 0) = true := by simpa using h10
            go_enter Try.func63, Try.ntmps63
            go_wp2
            go_ret
            exact ⟨by rw [Hb.out]; rfl, (((Fr.refl _ _).alloc _)).alloc _⟩
          · obtain rfl : c = 0 := by omega
            by_cases h12 : ¬ (la = 0 ∧ lb = 0)
            · have hx := h12
              have Hb : Hid (insOk ⟨1, a, 0, 0, ka, kb, la, lb, 0⟩ n = false) := Lib.hid (by rw [Bool.eq_false_iff]; intro e; rw [insOk_iff] at e; unfold InsOk at e; simp at e; omega)
              have q := fun w => eqKey9 la lb 0 0 w
              have e12 : (la == 0 && lb == 0) = false := by rw [Bool.eq_false_iff]; simp; omega
              rw [e12] at q
              go_enter Try.func63, Try.ntmps63
              go_wp2
              go_ret
              exact ⟨by rw [Hb.out]; rfl, (((Fr.refl _ _).alloc _)).alloc _⟩
            · obtain ⟨rfl, rfl⟩ : la = 0 ∧ lb = 0 := by omega
              have ql := fun w => eqKey9 0 0 0 0 w
              have Hb : Hid (insOk ⟨1, a, 0, 0, ka, kb, 0, 0, 0⟩ n = keyOk ka kb n) := Lib.hid (by rw [Bool.eq_iff_iff, insOk_iff, keyOk_iff]; unfold InsOk; first | (simp; done) | (simp; omega))
              have C := fun W => refMayKey_any (ka, kb) n W
              simp only [kcell] at C
              generalize keyOk ka kb n = r at *
              go_enter Try.func63, Try.ntmps63
              go_wp2_with (go_at_call 64; refine (C _).mono ?_; rintro e w1 ⟨rfl, hf1⟩; cases r)
              all_goals
                go_ret
                exact ⟨by rw [Hb.out]; rfl, (((Fr.refl No w).alloc _).alloc _).then0 hf1 (fun _ h => h.elim)⟩
set_option maxHeartbeats 2000000 in
theorem one2 (a b c ka kb la lb x n : Int) (w : World) : Calls Try.prog 63 #[.agg #[.int .i64 2, .int .i64 a, .int .i64 b, .int .i64 c, .int .i64 ka, .int .i64 kb, .int .i64 la, .int .i64 lb, .int .i64 x], .int .i64 n] w (Has w (insOk ⟨2, a, b, c, ka, kb, la, lb, x⟩ n)) := by
  by_cases h2 : a < 0
  · have hx := h2
    have Hb : Hid (insOk ⟨2, a, b, c, ka, kb, la, lb, x⟩ n = false) := Lib.hid (by rw [Bool.eq_false_iff]; intro e; rw [insOk_iff] at e; unfold InsOk at e; simp at e; omega)
    have e2 : decide (a < 0) = true := by simpa using h2
    go_enter Try.func63, Try.ntmps63
    go_wp2
    go_ret
    exact ⟨by rw [Hb.out]; rfl, (((Fr.refl _ _).alloc _))⟩
  · skip
    have e2 : decide (a < 0) = false := by simpa using h2
    by_cases h4 : 3 < a
    · have hx := h4
      have Hb : Hid (insOk ⟨2, a, b, c, ka, kb, la, lb, x⟩ n = false) := Lib.hid (by rw [Bool.eq_false_iff]; intro e; rw [insOk_iff] at e; unfold InsOk at e; simp at e; omega)
      have e4 : decide (3 < a) = true := by simpa using h4
      go_enter Try.func63, Try.ntmps63
      go_wp2
      go_ret
      exact ⟨by rw [Hb.out]; rfl, (((Fr.refl _ _).alloc _))⟩
    · skip
      have e4 : decide (3 < a) = false := by simpa using h4
      by_cases h6 : x ≠ 0
      · have hx := h6
        have Hb : Hid (insOk ⟨2, a, b, c, ka, kb, la, lb, x⟩ n = false) := Lib.hid (by rw [Bool.eq_false_iff]; intro e; rw [insOk_iff] at e; unfold InsOk at e; simp at e; omega)
        have e6 : (x != 0) = true := by simpa using h6
        go_enter Try.func63, Try.ntmps63
        go_wp2
        go_ret
        exact ⟨by rw [Hb.out]; rfl, (((Fr.refl _ _).alloc _)).alloc _⟩
      · obtain rfl : x = 0 := by omega
        by_cases h8 : b ≠ 0
        · have hx := h8
          have Hb : Hid (insOk ⟨2, a, b, c, ka, kb, la, lb, 0⟩ n = false) := Lib.hid (by rw [Bool.eq_false_iff]; intro e; rw [insOk_iff] at e; unfold InsOk at e; simp at e; omega)
          have e8 : (b != 0) = true := by simpa using h8
          go_enter Try.func63, Try.ntmps63
          go_wp2
          go_ret
          exact ⟨by rw [Hb.out]; rfl, (((Fr.refl _ _).alloc _)).alloc _⟩
        · obtain rfl : b = 0 := by omega
          by_cases h10 : c ≠ 0
          · have hx := h10
            have Hb : Hid (insOk ⟨2, a, 0, c, ka, kb, la, lb, 0⟩ n = false) := Lib.hid (by rw [Bool.eq_false_iff]; intro e; rw [insOk_iff] at e; unfold InsOk at e; simp at e; omega)
            have e10 : (c != 0) = true := by simpa using h10
            go_enter Try.func63, Try.ntmps63
            go_wp2
            go_ret
            exact ⟨by rw [Hb.out]; rfl, (((Fr.refl _ _).alloc _)).alloc _⟩
          · obtain rfl : c = 0 := by omega
            by_cases h12 : ¬ (la = 0 ∧ lb = 0)
            · have hx := h12
              have Hb : Hid (insOk ⟨2, a, 0, 0, ka, kb, la, lb, 0⟩ n = false) := Lib.hid (by rw [Bool.eq_false_iff]; intro e; rw [insOk_iff] at e; unfold InsOk at e; simp at e; omega)
              have q := fun w => eqKey9 la lb 0 0 w
              have e12 : (la == 0 && lb == 0) = false := by rw [Bool.eq_false_iff]; simp; omega
              rw [e12] at q
              go_enter Try.func63, Try.ntmps63
              go_wp2
              go_ret
              exact ⟨by rw [Hb.out]; rfl, (((Fr.refl _ _).alloc _)).alloc _⟩
            · obtain ⟨rfl, rfl⟩ : la = 0 ∧ lb = 0 := by omega
              have ql := fun w => eqKey9 0 0 0 0 w
              have Hb : Hid (insOk ⟨2, a, 0, 0, ka, kb, 0, 0, 0⟩ n = keyOk ka kb n) := Lib.hid (by rw [Bool.eq_iff_iff, insOk_iff, keyOk_iff]; unfold InsOk; first | (simp; done) | (simp; omega))
              have C := fun W => refMayKey_any (ka, kb) n W
              simp only [kcell] at C
              generalize keyOk ka kb n = r at *
              go_enter Try.func63, Try.ntmps63
              go_wp2_with (go_at_call 64; refine (C _).mono ?_; rintro e w1 ⟨rfl, hf1⟩; cases r)
              all_goals
                go_ret
                exact ⟨by rw [Hb.out]; rfl, (((Fr.refl No w).alloc _).alloc _).then0 hf1 (fun _ h => h.elim)⟩
end Go.Proofs.Ytkihbjgmmaklaaa
