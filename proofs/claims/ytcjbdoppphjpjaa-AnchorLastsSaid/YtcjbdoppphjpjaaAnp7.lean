/- Package anchor: which anchors may be, where they are written to, their sectors. -/
import Derived.Test.YtcjbdoppphjpjaaRef7
import Derived.Test.YtcjbdoppphjpjaaSum6b
namespace Go.Proofs.Ytcjbdoppphjpjaa
open Go.RowKit

/-- Four numbers that are ints. -/
structure Anc.I (x : Anc) : Prop where
  n : -9223372036854775808 ≤ x.n ∧ x.n < 9223372036854775808
  e : -9223372036854775808 ≤ x.e ∧ x.e < 9223372036854775808
  a : -9223372036854775808 ≤ x.a ∧ x.a < 9223372036854775808
  w : -9223372036854775808 ≤ x.w ∧ x.w < 9223372036854775808
theorem ancOk_I {x : Anc} (h : ancOk x = true) : x.I := by
  obtain ⟨h1, h2, h3, h4, h5, h6, h7⟩ := (ancOk_iff _).1 h
  constructor <;> omega
def numB (n : Int) : Bool := decide (0 ≤ n ∧ n < 4294967296)
theorem anNumber_any (n : Int) (h1 : -9223372036854775808 ≤ n) (h2 : n < 9223372036854775808) (w : World) : Calls Try.prog 33 #[.int .i64 n] w fun e w' => e = .returned (.bool (numB n)) ∧ w = w' := by
  by_cases h : 0 ≤ n
  · obtain ⟨N, rfl⟩ := Int.eq_ofNat_of_zero_le h
    have hd : numB (N : Int) = decide ((N : Int) ≤ 4294967295) := by unfold numB; rw [decide_eq_decide]; omega
    rw [hd]
    have hmod : (N : Int) % 18446744073709551616 = (N : Int) := by omega
    go_enter Try.func33, Try.ntmps33
    go_wp2
    go_ret
    exact ⟨by simp, rfl⟩
  · have hd : numB n = false := by unfold numB; simp; omega
    rw [hd]
    go_enter Try.func33, Try.ntmps33
    go_wp2
    go_ret
    exact ⟨rfl, rfl⟩
theorem anPlace_any (x : Anc) (w : World) : Calls Try.prog 26 #[x.val] w fun e w' => e = .returned (.int .i64 (Int.tmod x.n 2)) ∧ Fr No w w' := by
  obtain ⟨n, e, a, ws⟩ := x
  unfold Anc.val
  dsimp only
  go_enter Try.func26, Try.ntmps26
  go_wp2
  go_ret
  exact ⟨rfl, (Fr.refl _ _).alloc _⟩
set_option maxHeartbeats 2000000 in
theorem anMay_any (x : Anc) (h : x.I) (w : World) : Calls Try.prog 21 #[x.val] w fun e w' => e = .returned (.bool (ancOk x)) ∧ Fr No w w' := by
  obtain ⟨n, e, a, ws⟩ := x
  have hn := h.n
  have he := h.e
  simp only at hn he
  have HN : Hid (∀ W, Calls Try.prog 33 #[.int .i64 n] W fun e w' => e = .returned (.bool (numB n)) ∧ W = w') := Lib.hid (fun W => anNumber_any n hn.1 hn.2 W)
  have HE : Hid (∀ W, Calls Try.prog 33 #[.int .i64 e] W fun e' w' => e' = .returned (.bool (numB e)) ∧ W = w') := Lib.hid (fun W => anNumber_any e he.1 he.2 W)
  obtain ⟨bk, Hbk⟩ : ∃ bk, Hid (bk = ancOk ⟨n, e, a, ws⟩) := ⟨_, Lib.hid rfl⟩
  have Hiff : Hid (bk = true ↔ n ≠ 0 ∧ numB n = true ∧ numB e = true ∧ (0 ≤ a ∧ a < 2) ∧ 0 ≤ ws ∧ ws ≤ 1048576) := Lib.hid (by
    rw [Hbk.out, ancOk_iff]
    simp [numB]
    omega)
  rw [← Hbk.out]
  have f0 : Fr No w (w.alloc (.cells #[.int .i64 n, .int .i64 e, .int .i64 a, .int .i64 ws] 23)) := (Fr.refl _ _).alloc _
  unfold Anc.val
  dsimp only
  clear Hbk h hn he
  by_cases h0 : n = 0
  · subst h0
    clear HN HE
    go_enter Try.func21, Try.ntmps21
    go_wp2
    go_ret
    refine ⟨val_bool ?_, f0⟩
    rw [Hiff.out]
    simp
  · cases h1 : numB n with
    | false =>
      rw [h1] at HN Hiff
      clear HE h1
      go_enter Try.func21, Try.ntmps21
      go_wp2_with fail
      refine (HN.out _).mono ?_
      rintro e' w1 ⟨rfl, rfl⟩
      go_wp2
      go_ret
      refine ⟨val_bool ?_, f0⟩
      rw [Hiff.out]
      simp
    | true =>
      rw [h1] at HN Hiff
      cases h2 : numB e with
      | false =>
        rw [h2] at HE Hiff
        clear h1 h2
        go_enter Try.func21, Try.ntmps21
        go_wp2_with fail
        refine (HN.out _).mono ?_
        rintro e' w1 ⟨rfl, rfl⟩
        go_wp2_with fail
        refine (HE.out _).mono ?_
        rintro e' w1 ⟨rfl, rfl⟩
        go_wp2
        go_ret
        refine ⟨val_bool ?_, f0⟩
        rw [Hiff.out]
        simp
      | true =>
        rw [h2] at HE Hiff
        clear h1 h2
        go_enter Try.func21, Try.ntmps21
        go_wp2_with fail
        refine (HN.out _).mono ?_
        rintro e' w1 ⟨rfl, rfl⟩
        go_wp2_with fail
        refine (HE.out _).mono ?_
        rintro e' w1 ⟨rfl, rfl⟩
        go_wp2
        all_goals
          go_ret
          refine ⟨val_bool ?_, f0⟩
          rw [Hiff.out]
          simp
          try omega
end Go.Proofs.Ytcjbdoppphjpjaa
