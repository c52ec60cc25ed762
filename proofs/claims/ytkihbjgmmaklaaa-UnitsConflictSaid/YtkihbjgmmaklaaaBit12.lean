/- Package cat: bits of numbers up to 7; how many there are; whether a class has a place; all breakpoints of a class. -/
import Derived.WalkKit
import Derived.Test.YtkihbjgmmaklaaaCat12
import Derived.Test.YtkihbjgmmaklaaaCtp12
namespace Go.Proofs.Ytkihbjgmmaklaaa
open Go.RowKit

attribute [local go_sem] Oper.semAt_some

/-- All breakpoints of a class of so many steps. -/
def mskL (L : Nat) : Int := ((2 ^ (L - 1) : Nat) : Int) - 1
theorem mskL_nn (L : Nat) : 0 ≤ mskL L := by
  unfold mskL
  have : 1 ≤ 2 ^ (L - 1) := Nat.one_le_two_pow
  omega
theorem mskL_le {L : Nat} (h : L ≤ 4) : mskL L ≤ 7 := by
  have h : L = 0 ∨ L = 1 ∨ L = 2 ∨ L = 3 ∨ L = 4 := by omega
  rcases h with rfl | rfl | rfl | rfl | rfl <;> decide
theorem and_all (W : World) {b : Int} {L : Nat} (hL : L ≤ 4) (h0 : 0 ≤ b) (h1 : b ≤ mskL L) : (Op.intBits .and .i64 b (mskL L)).run Try.prog W = .ok (.int .i64 b) W := by
  have h : L = 0 ∨ L = 1 ∨ L = 2 ∨ L = 3 ∨ L = 4 := by omega
  have h7 := mskL_le hL
  have hb : b = 0 ∨ b = 1 ∨ b = 2 ∨ b = 3 ∨ b = 4 ∨ b = 5 ∨ b = 6 ∨ b = 7 := by omega
  rcases h with rfl | rfl | rfl | rfl | rfl <;> rcases hb with rfl | rfl | rfl | rfl | rfl | rfl | rfl | rfl <;> first | rfl | (exfalso; revert h1; decide)
/-- One bit: 2 to the i, as a number of 64 bits. -/
def oneB12 (i : Nat) : Int := IntKind.i64.wrap (1 * 2 ^ (min i 64))
def bitAnd (b : Int) (i : Nat) : Int := IntKind.i64.wrap ((BitVec.ofInt 64 b &&& BitVec.ofInt 64 (oneB12 i)).toNat)
theorem bitAnd_small : ∀ b : Fin 8, ∀ i : Fin 64, decide (bitAnd (b.val : Int) i.val = 0) = !(bitB (b.val : Int) i.val) := by decide +kernel
theorem bitAnd_any {b : Int} (h0 : 0 ≤ b) (h7 : b ≤ 7) (i : Nat) : decide (bitAnd b i = 0) = !(bitB b i) := by
  by_cases hi : i < 64
  · have h := bitAnd_small ⟨b.toNat, by omega⟩ ⟨i, hi⟩
    have e : ((b.toNat : Nat) : Int) = b := by omega
    simpa only [e] using h
  · have e1 : bitB b i = false := bit_over h0 (by
      have h2 : (2 : Int) ^ 3 ≤ 2 ^ i := by
        have := Nat.pow_le_pow_right (n := 2) (by omega) (show 3 ≤ i by omega)
        exact_mod_cast this
      have : (2 : Int) ^ 3 = 8 := by decide
      omega)
    have e2 : oneB12 i = 0 := by
      unfold oneB12
      rw [Nat.min_eq_right (by omega)]
      decide
    rw [e1]
    unfold bitAnd
    rw [e2]
    have hb : b = 0 ∨ b = 1 ∨ b = 2 ∨ b = 3 ∨ b = 4 ∨ b = 5 ∨ b = 6 ∨ b = 7 := by omega
    rcases hb with rfl | rfl | rfl | rfl | rfl | rfl | rfl | rfl <;> decide

theorem hasPlace_any (c : Int) (w : World) : Calls Try.prog 72 #[.int .i64 c] w fun e w' => e = .returned (.bool (decide (0 ≤ c ∧ c < 4))) ∧ w' = w := by
  by_cases h1 : 0 ≤ c
  · by_cases h2 : c < 4
    · rw [decide_eq_true (And.intro h1 h2)]
      go_enter Try.func72, Try.ntmps72
      go_wp2
      go_ret
      exact ⟨rfl, rfl⟩
    · have e0 : decide (0 ≤ c ∧ c < 4) = false := decide_eq_false (by omega)
      rw [e0]
      clear e0
      go_enter Try.func72, Try.ntmps72
      go_wp2
      go_ret
      exact ⟨rfl, rfl⟩
  · have e0 : decide (0 ≤ c ∧ c < 4) = false := decide_eq_false (by omega)
    rw [e0]
    clear e0
    go_enter Try.func72, Try.ntmps72
    go_wp2
    go_ret
    exact ⟨rfl, rfl⟩

theorem all_any (c : Cls) (w : World) (h : c.steps.length ≤ 4) : Calls Try.prog 33 #[c.agg] w fun e w' => e = .returned (.int .i64 (mskL c.steps.length)) ∧ Fr No w w' := by
  obtain ⟨nm, a, A, ss, sc, U, us, uc, res⟩ := c
  unfold Cls.agg
  simp only at h ⊢
  generalize us.length = m at *
  generalize ss.length = L at *
  have h : L = 0 ∨ L = 1 ∨ L = 2 ∨ L = 3 ∨ L = 4 := by omega
  have f0 : Fr No w (w.alloc (.cells #[.string nm, .int .i64 a, .slice A L sc, .slice U m uc, .bool res] 35)) := (Fr.refl _ _).alloc _
  rcases h with rfl | rfl | rfl | rfl | rfl
  all_goals
    go_enter Try.func33, Try.ntmps33
    go_wp2
    go_ret
    exact ⟨rfl, f0⟩
end Go.Proofs.Ytkihbjgmmaklaaa
