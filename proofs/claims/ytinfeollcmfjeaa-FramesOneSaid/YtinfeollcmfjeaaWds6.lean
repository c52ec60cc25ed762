/- Are two lists of words the same? The document's own answer. -/
import Derived.Test.YtinfeollcmfjeaaWords
namespace Go.Proofs.Ytinfeollcmfjeaa
open Go.RowKit

set_option maxHeartbeats 1000000 in
theorem refWords_any (xs ys : List Nat) (A1 A2 : Option Addr) (n m c1 c2 : Nat) (w : World) (h1 : Sl w w.heap.size A1 (u64s xs)) (h2 : Sl w w.heap.size A2 (u64s ys)) (hn : xs.length = n) (hm : ys.length = m) (hn1 : n ≤ 1099511627776) (hm1 : m ≤ 1099511627776) :
    Calls Try.prog 14 #[.slice A1 n c1, .slice A2 m c2] w fun e w' => e = .returned (.bool (decide (xs = ys))) ∧ Fr No w w' := by
  have Hn := Lib.hid hn
  have Hm := Lib.hid hm
  clear hn hm
  by_cases hnm : n = m
  · subst hnm
    go_enter Try.func14, Try.ntmps14
    go_wp2
    go_loopw [5] (fun i wr => ∃ k : Nat, k ≤ n ∧ i = .int .i64 k ∧ Hid (xs.take k = ys.take k) ∧ Hid (∃ q, wr = w.drewN q)) (fun i _ => n - (intOf i).toNat)
    case atStart => exact ⟨0, Nat.zero_le _, rfl, Lib.hid (by simp), Lib.hid ⟨0, rfl⟩⟩
    case round =>
      obtain ⟨k, hk, rfl, hpre, hwr⟩ := hrel
      obtain ⟨q, rfl⟩ := hwr.out
      clear hwr
      by_cases hlt : k < n
      · obtain ⟨ad1, rfl, hc1⟩ := h1.word (k := k) (by rw [Hn.out]; exact hlt)
        obtain ⟨ad2, rfl, hc2⟩ := h2.word (k := k) (by rw [Hm.out]; exact hlt)
        have hx := List.take_succ_eq_append_getElem (show k < xs.length by rw [Hn.out]; exact hlt)
        have hy := List.take_succ_eq_append_getElem (show k < ys.length by rw [Hm.out]; exact hlt)
        have hgx := List.getElem?_eq_getElem (show k < xs.length by rw [Hn.out]; exact hlt)
        have hgy := List.getElem?_eq_getElem (show k < ys.length by rw [Hm.out]; exact hlt)
        have hkx : k < xs.length := by rw [Hn.out]; exact hlt
        have hky : k < ys.length := by rw [Hm.out]; exact hlt
        generalize xs[k] = x at *
        generalize ys[k] = y at *
        by_cases hxy : x = y
        · subst hxy
          have Hr : Hid (xs.take (k + 1) = ys.take (k + 1)) := Lib.hid (by rw [hx, hy, hpre.out])
          have hb : ((x : Int) != (x : Int)) = false := by simp
          clear hx hy hgx hgy
          go_wp2
          go_quiet (fail)
          go_wp2
          go_roundw
          case rel => exact ⟨k + 1, by omega, by go_num, Hr, Lib.hid ⟨_, rfl⟩⟩
          case measure => simp [intOf]; omega
        · have Hr : Hid (xs ≠ ys) := Lib.hid (by
            rintro rfl
            rw [hgx] at hgy
            injection hgy with hgy
            exact hxy hgy)
          have hb : ((x : Int) != (y : Int)) = true := by rw [bne_iff_ne]; omega
          clear hx hy hgx hgy hxy
          go_wp2
          go_quiet (fail)
          go_wp2
          go_ret
          exact ⟨by simp [Hr.out], ((Fr.refl _ _).drewN _).drewN _⟩
      · have Hr : Hid (xs = ys) := Lib.hid (by
          have h := hpre.out
          rwa [List.take_of_length_le (by rw [Hn.out]; omega), List.take_of_length_le (by rw [Hm.out]; omega)] at h)
        go_wp2
        go_ret
        exact ⟨by simp [Hr.out], (Fr.refl _ _).drewN _⟩
  · have Hr : Hid (xs ≠ ys) := Lib.hid (by rintro rfl; exact hnm (Hn.out.symm.trans Hm.out))
    have hb : ((n : Int) != (m : Int)) = true := by rw [bne_iff_ne]; omega
    clear hnm
    go_enter Try.func14, Try.ntmps14
    go_wp2
    go_ret
    exact ⟨by simp [Hr.out], Fr.refl _ _⟩

end Go.Proofs.Ytinfeollcmfjeaa
