/- The document's example of anchors. -/
import Derived.Test.YtcjbdoppphjpjaaFin7
import Derived.Test.YtcjbdoppphjpjaaRfi7
namespace Go.Proofs.Ytcjbdoppphjpjaa
open Go.RowKit

theorem own_sec {x : Anc} (h : ancOk x = true) {b : Int} (hb : x.n % 2 = b) : ownP b (readA (ancS x)) = some x := by rw [readA_sec h]; exact ownP_yes hb
theorem readA_z : readA zSec = none := by decide
/-- Anchors 1 to n - 1, written one by one. -/
def numA (n : Nat) : Anc := ⟨n, 0, 0, 0⟩
def aliveD : Nat → Dv
  | 0 => Dv.new 2
  | n + 1 => (aliveD n).write (parN (n + 1 : Nat)) (ancS (numA (n + 1)))
theorem aliveD_n (n : Nat) : (aliveD n).n = 2 := by
  induction n with
  | zero => rfl
  | succ n ih => exact ih
theorem numA_ok {n : Nat} (h : 1 ≤ n) (h2 : n < 4) : ancOk (numA n) = true := by rw [ancOk_iff]; simp [numA]; omega
theorem aliveD_find : findV (aliveD 3) = .tuple #[(numA 3).val, .int .i64 0] := by
  have e0 : (aliveD 3).rd 0 = ancS (numA 2) := rfl
  have e1 : (aliveD 3).rd 1 = ancS (numA 3) := rfl
  unfold findV
  rw [if_pos (by rw [aliveD_n]; exact Nat.le_refl _), e0, e1, findA_pick, own_sec (numA_ok (by omega) (by omega)) (b := 0) rfl, own_sec (numA_ok (by omega) (by omega)) (b := 1) rfl]
  rfl
set_option maxRecDepth 100000 in
set_option maxHeartbeats 2000000 in
theorem alive7_any (w : World) : Calls Try.prog 7 #[] w fun e w' => e = .returned (.bool true) ∧ Fr No w w' := by
  go_enter Try.func7, Try.ntmps7
  go_wp2_with fail
  refine (dNew_yes 2 (by omega) (by omega) w).mono ?_
  rintro e w1 ⟨S1, d, rfl, hD1, hS1⟩
  have E1 := Lib.hid (Env.begin (Fr.refl No w) hD1 hS1)
  clear hD1 hS1
  go_wp2
  go_loopw [2] (fun i wr => ∃ (n a : Nat) (S : Nat → Prop), n ≤ 3 ∧ i = .int .i64 (n + 1 : Nat) ∧ Hid (Env w wr S d (aliveD n) a 0)) (fun i _ => 4 - (intOf i).toNat)
  case atStart => exact ⟨0, 0, S1, by omega, rfl, E1⟩
  case round =>
    obtain ⟨n, a, S, hn, rfl, HE⟩ := hrel
    by_cases hlt : n < 3
    · have CW := Lib.hid (anWrite_yes (numA (n + 1)) (numA_ok (by omega) (by omega)) (by rw [aliveD_n]; exact Nat.le_refl _) wr HE.out.dd)
      simp only [numA, Anc.val] at CW
      go_wp2_with fail
      refine CW.out.mono ?_
      rintro e w2 ⟨rfl, S', hD, hS⟩
      have E2 := Lib.hid (HE.out.step hD hS)
      clear hD hS CW HE
      go_wp2
      go_roundw
      case rel => exact ⟨n + 1, a + 1, S', by omega, by go_num, E2⟩
      case measure => simp [intOf]; omega
    · obtain rfl : n = 3 := by omega
      have CF := Lib.hid (anFind_any wr HE.out.dd)
      rw [aliveD_find] at CF
      simp only [numA, Anc.val] at CF
      clear hn hlt
      go_wp2_with fail
      refine CF.out.mono ?_
      rintro e w2 ⟨rfl, hf⟩
      have F := Lib.hid (HE.out.fr.trans' hf (fun _ _ e => e))
      clear CF HE hf E1
      go_wp2
      go_ret
      exact ⟨rfl, F.out.alloc _⟩
end Go.Proofs.Ytcjbdoppphjpjaa
