/- Package frames: which frames may be, which numbers there are, what a mark is of, a frame's words. -/
import Derived.Test.YtinfeollcmfjeaaGet6
import Derived.Test.YtinfeollcmfjeaaSum6b
namespace Go.Proofs.Ytinfeollcmfjeaa
open Go.RowKit

theorem isNumber_any (n : Int) (h1 : -9223372036854775808 ≤ n) (h2 : n < 9223372036854775808) (w : World) : Calls Try.prog 21 #[.int .i64 n] w fun e w' => e = .returned (.bool (numOk n)) ∧ w = w' := by
  by_cases h : 0 ≤ n
  · obtain ⟨N, rfl⟩ := Int.eq_ofNat_of_zero_le h
    have hd : numOk (N : Int) = decide ((N : Int) ≤ 4294967295) := by unfold numOk; rw [decide_eq_decide]; omega
    rw [hd]
    have hmod : (N : Int) % 18446744073709551616 = (N : Int) := by omega
    go_enter Try.func21, Try.ntmps21
    go_wp2
    go_ret
    exact ⟨by simp, rfl⟩
  · have hd : numOk n = false := by unfold numOk; simp; omega
    rw [hd]
    go_enter Try.func21, Try.ntmps21
    go_wp2
    go_ret
    exact ⟨rfl, rfl⟩

set_option maxHeartbeats 1000000 in
theorem may_any (x : FrV) (w : World) : Calls Try.prog 12 #[x.agg] w fun e w' => e = .returned (.bool (frmOk x.f)) ∧ Fr No w w' := by
  obtain ⟨kind, A, ws, c⟩ := x
  have hd : frmOk (FrV.f ⟨kind, A, ws, c⟩) = (decide (1 ≤ kind) && (decide (kind ≤ 255) && decide ((ws.length : Int) ≤ 2000))) := by
    rw [← Bool.decide_and, ← Bool.decide_and]
    unfold frmOk FrV.f
    rw [decide_eq_decide]
    simp only
    omega
  rw [hd]
  show Calls _ _ #[Value.agg #[.int .i64 kind, .slice A ws.length c]] _ _
  clear hd
  generalize ws.length = n
  by_cases h : 1 ≤ kind
  · by_cases h2 : kind ≤ 255
    · go_enter Try.func12, Try.ntmps12
      go_wp2
      go_ret
      exact ⟨by simp [h, h2], (Fr.refl _ _).alloc _⟩
    · go_enter Try.func12, Try.ntmps12
      go_wp2
      go_ret
      exact ⟨by simp; omega, (Fr.refl _ _).alloc _⟩
  · go_enter Try.func12, Try.ntmps12
    go_wp2
    go_ret
    exact ⟨by simp; omega, (Fr.refl _ _).alloc _⟩

set_option maxRecDepth 100000 in
set_option maxHeartbeats 2000000 in
theorem marked_any (E N : Nat) (hE : E < 4294967296) (hN : N < 4294967296) (ws : List Nat) (m : Nat) (A : Option Addr) (c : Nat) (w : World) (h : Sl w w.heap.size A (u64s ws)) (hm : ws.length = m) (hl : m ≤ 1048574) :
    Calls Try.prog 23 #[.int .i64 E, .int .i64 N, .slice A m c] w fun e w' => ∃ A' c', e = .returned (.slice A' (2 + m) c') ∧ Sl w' w'.heap.size A' (u64s (E :: N :: ws)) ∧ Fr No w w' := by
  have Hm := Lib.hid hm
  clear hm
  have hown := World.ownsRow_lit (base := w.heap.size) (e := 43) (size := 1) w #[.int .u64 E, .int .u64 N] 2 (by simp) (by unfold maxLen; omega) rfl
  have f1 : Fr No w (w.alloc (.cells #[.int .u64 E, .int .u64 N] 43)) := (Fr.refl _ _).alloc _
  have hsl1 := h.since f1
  have e1 : (E : Int) % 18446744073709551616 = (E : Int) := by omega
  have e2 : (N : Int) % 18446744073709551616 = (N : Int) := by omega
  go_enter Try.func23, Try.ntmps23
  go_wp2_with (
    at_builtin
    refine append_words rfl _ _ rfl w.heap.size (some ⟨w.heap.size, 0, none⟩) 2 2 [E, N] rfl _ A m c ws rfl Hm.out hsl1 (by simpa [u64s] using hown) (by omega) (by simp) ?_
    intro A1 c1 w1 hown1 hf1 hg1
    have f2 : Fr No w w1 := f1.trans' hf1 (fun b hb e => by simp [Value.ownBlock] at e; omega)
    clear hf1 hg1 f1 hown hsl1)
  go_ret
  exact ⟨A1, c1, rfl, Sl.ofOwn hown1, f2⟩
end Go.Proofs.Ytinfeollcmfjeaa
