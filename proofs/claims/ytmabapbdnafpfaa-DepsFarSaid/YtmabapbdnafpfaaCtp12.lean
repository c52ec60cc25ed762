/- Catalogues, purely: when one may be, when two are the same; a bit of a number. -/
import Derived.Test.YtmabapbdnafpfaaCls11
namespace Go.Proofs.Ytmabapbdnafpfaa
open Go.RowKit

def PC.nil : PC := ⟨⟨#[]⟩, 0, [], [], false⟩
structure PCt where
  cs : List PC
  b : Nat → Int
def PCt.at (x : PCt) (i : Nat) : PC := x.cs.getD i PC.nil
/-- One more than the greatest number that breakpoints of two classes may be. -/
def PCt.most (x : PCt) (c d : Nat) : Int := if c < x.cs.length ∧ d < x.cs.length then ((2 ^ ((x.at c).steps.length - 1) : Nat) : Int) else 1
def clOkAt (x : PCt) (i : Nat) : Bool := (x.at i).ok && (List.range i).all fun k => !((x.at k).name.toList == (x.at i).name.toList)
def brOkAt (x : PCt) (j : Nat) : Bool := decide (0 ≤ x.b j ∧ x.b j < x.most (j / 4) (j % 4))
/-- May a catalogue be? -/
def PCt.ok (x : PCt) : Bool := decide (1 ≤ x.cs.length ∧ x.cs.length ≤ 4) && ((List.range x.cs.length).all (clOkAt x) && (List.range 16).all (brOkAt x))
/-- The same breakpoints? -/
def sameBr (b b' : Nat → Int) : Bool := (List.range 16).all fun j => b j == b' j
/-- Are two catalogues the same? -/
def PCt.same (x y : PCt) : Bool := decide (x.cs.length = y.cs.length) && (sameBr x.b y.b && (List.range x.cs.length).all fun i => (x.at i).same (y.at i))
theorem sameBr_refl (b : Nat → Int) : sameBr b b = true := by simp [sameBr]
theorem pc_same_refl12 (a : PC) : a.same a = true := by simp [PC.same]
theorem PCt.same_refl (x : PCt) : x.same x = true := by simp [PCt.same, sameBr_refl, pc_same_refl12]
theorem range_all_snoc (p : Nat → Bool) (n : Nat) : (List.range (n + 1)).all p = ((List.range n).all p && p n) := by
  rw [List.range_succ, List.all_append]
  simp
theorem range_all_not (p : Nat → Bool) {n k : Nat} (hk : k < n) (h : p k = false) : (List.range n).all p = false := by
  rw [List.all_eq_false]
  exact ⟨k, List.mem_range.2 hk, by rw [h]; decide⟩
theorem range_all_at {p : Nat → Bool} {n k : Nat} (h : (List.range n).all p = true) (hk : k < n) : p k = true := List.all_eq_true.1 h k (List.mem_range.2 hk)
theorem sameBr_at {b b' : Nat → Int} (h : sameBr b b' = true) {j : Nat} (hj : j < 16) : b j = b' j := by
  have := range_all_at h hj
  simpa using this
theorem sameBr_not {b b' : Nat → Int} {j : Nat} (hj : j < 16) (h : b j ≠ b' j) : sameBr b b' = false := range_all_not _ hj (by simpa using h)
/-- The bit of a number from 0 on. -/
def bitB (n : Int) (i : Nat) : Bool := (n / 2 ^ i) % 2 == 1
/-- Is there a breakpoint? -/
def PCt.brk (x : PCt) (c d i : Int) : Bool := decide (0 ≤ c ∧ c < x.cs.length ∧ c < 4) && (decide (0 ≤ d ∧ d < x.cs.length ∧ d < 4) && (decide (0 ≤ i ∧ i + 1 < (x.at c.toNat).steps.length) && bitB (x.b (c.toNat * 4 + d.toNat)) i.toNat))
end Go.Proofs.Ytmabapbdnafpfaa
/- Catalogues with all breakpoints, with none, purely; how many there are. -/
namespace Go.Proofs.Ytmabapbdnafpfaa
open Go.RowKit

/-- All breakpoints that there may be; none. -/
def PCt.opened (x : PCt) : PCt := ⟨x.cs, fun j => x.most (j / 4) (j % 4) - 1⟩
def PCt.closed (x : PCt) : PCt := ⟨x.cs, fun _ => 0⟩
theorem opened_at (x : PCt) : x.opened.at = x.at := rfl
theorem opened_most (x : PCt) : x.opened.most = x.most := rfl
theorem closed_most (x : PCt) : x.closed.most = x.most := rfl
theorem most_pos (x : PCt) (c d : Nat) : 1 ≤ x.most c d := by
  unfold PCt.most
  split
  · have : 1 ≤ 2 ^ ((x.at c).steps.length - 1) := Nat.one_le_two_pow
    omega
  · omega
theorem PCt.same_of {x y : PCt} (hc : y.cs = x.cs) (hb : ∀ j, j < 16 → y.b j = x.b j) : x.same y = true := by
  unfold PCt.same
  have h1 : sameBr x.b y.b = true := by
    unfold sameBr
    rw [List.all_eq_true]
    intro j hj
    rw [hb j (List.mem_range.1 hj)]
    simp
  have h2 : y.at = x.at := by funext i; unfold PCt.at; rw [hc]
  rw [hc, h1, h2]
  simp [pc_same_refl12]
theorem opened_ok {x : PCt} (h : x.ok = true) : x.opened.ok = true := by
  unfold PCt.ok at h ⊢
  simp only [Bool.and_eq_true] at h ⊢
  obtain ⟨h1, h2, -⟩ := h
  refine ⟨h1, h2, ?_⟩
  rw [List.all_eq_true]
  intro j hj
  unfold brOkAt
  have := most_pos x (j / 4) (j % 4)
  refine decide_eq_true ?_
  show 0 ≤ x.most (j / 4) (j % 4) - 1 ∧ x.most (j / 4) (j % 4) - 1 < x.most (j / 4) (j % 4)
  omega
theorem closed_ok {x : PCt} (h : x.ok = true) : x.closed.ok = true := by
  unfold PCt.ok at h ⊢
  simp only [Bool.and_eq_true] at h ⊢
  obtain ⟨h1, h2, -⟩ := h
  refine ⟨h1, h2, ?_⟩
  rw [List.all_eq_true]
  intro j hj
  unfold brOkAt
  have := most_pos x (j / 4) (j % 4)
  refine decide_eq_true ?_
  show 0 ≤ (0 : Int) ∧ 0 < x.most (j / 4) (j % 4)
  omega
theorem pct_len4 {x : PCt} (h : x.ok = true) {c : Nat} (hc : c < x.cs.length) : 1 ≤ (x.at c).steps.length ∧ (x.at c).steps.length ≤ 4 := by
  unfold PCt.ok at h
  simp only [Bool.and_eq_true] at h
  have := range_all_at h.2.1 hc
  unfold clOkAt at this
  simp only [Bool.and_eq_true] at this
  have h4 := this.1
  unfold PC.ok at h4
  simp only [Bool.and_eq_true, decide_eq_true_eq] at h4
  exact h4.2.2.1
theorem bit_all {L i : Nat} (hL : L ≤ 4) (hi : i + 1 < L) : bitB (((2 ^ (L - 1) : Nat) : Int) - 1) i = true := by
  have h : (L = 2 ∧ i = 0) ∨ (L = 3 ∧ i = 0) ∨ (L = 3 ∧ i = 1) ∨ (L = 4 ∧ i = 0) ∨ (L = 4 ∧ i = 1) ∨ (L = 4 ∧ i = 2) := by omega
  rcases h with ⟨rfl, rfl⟩ | ⟨rfl, rfl⟩ | ⟨rfl, rfl⟩ | ⟨rfl, rfl⟩ | ⟨rfl, rfl⟩ | ⟨rfl, rfl⟩ <;> decide
/-- An open catalogue has each breakpoint that there may be. -/
theorem opened_brk {x : PCt} (h : x.ok = true) (c d i : Int) : x.opened.brk c d i = (decide (0 ≤ c ∧ c < x.cs.length ∧ c < 4) && (decide (0 ≤ d ∧ d < x.cs.length ∧ d < 4) && decide (0 ≤ i ∧ i + 1 < (x.at c.toNat).steps.length))) := by
  unfold PCt.brk
  rw [opened_at]
  show (decide (0 ≤ c ∧ c < x.cs.length ∧ c < 4) && (decide (0 ≤ d ∧ d < x.cs.length ∧ d < 4) && (decide (0 ≤ i ∧ i + 1 < (x.at c.toNat).steps.length) && bitB (x.most ((c.toNat * 4 + d.toNat) / 4) ((c.toNat * 4 + d.toNat) % 4) - 1) i.toNat))) = _
  by_cases hc : 0 ≤ c ∧ c < x.cs.length ∧ c < 4
  · by_cases hd : 0 ≤ d ∧ d < x.cs.length ∧ d < 4
    · by_cases hi : 0 ≤ i ∧ i + 1 < (x.at c.toNat).steps.length
      · have e1 : (c.toNat * 4 + d.toNat) / 4 = c.toNat := by omega
        have e2 : (c.toNat * 4 + d.toNat) % 4 = d.toNat := by omega
        have hm : x.most c.toNat d.toNat = ((2 ^ ((x.at c.toNat).steps.length - 1) : Nat) : Int) := by
          unfold PCt.most
          rw [if_pos ⟨by omega, by omega⟩]
        rw [e1, e2, hm, bit_all (pct_len4 h (by omega)).2 (by omega)]
        simp
      · simp [hi]
    · simp [hd]
  · simp [hc]
theorem bit_zero (i : Nat) : bitB 0 i = false := by
  unfold bitB
  rw [Int.zero_ediv]
  rfl
theorem closed_brk (x : PCt) (c d i : Int) : x.closed.brk c d i = false := by
  unfold PCt.brk
  show (_ && (_ && (_ && bitB 0 i.toNat))) = false
  rw [bit_zero]
  simp
/-- What one has, the open one has. -/
theorem opened_more {x : PCt} (h : x.ok = true) {c d i : Int} (hb : x.brk c d i = true) : x.opened.brk c d i = true := by
  rw [opened_brk h]
  unfold PCt.brk at hb
  simp only [Bool.and_eq_true] at hb ⊢
  exact ⟨hb.1, hb.2.1, hb.2.2.1⟩
/-- How many of the first k numbers hold. -/
def cntB (p : Nat → Bool) : Nat → Nat
  | 0 => 0
  | k + 1 => cntB p k + (if p k = true then 1 else 0)
theorem cntB_le (p : Nat → Bool) (k : Nat) : cntB p k ≤ k := by
  induction k with
  | zero => exact Nat.le_refl _
  | succ k ih =>
    unfold cntB
    split <;> omega
theorem cntB_congr {p q : Nat → Bool} {k : Nat} (h : ∀ i, i < k → p i = q i) : cntB p k = cntB q k := by
  induction k with
  | zero => rfl
  | succ k ih => rw [cntB, cntB, ih (fun i hi => h i (by omega)), h k (by omega)]
theorem cntB_none {p : Nat → Bool} {k : Nat} (h : ∀ i, i < k → p i = false) : cntB p k = 0 := by
  induction k with
  | zero => rfl
  | succ k ih => rw [cntB, ih (fun i hi => h i (by omega)), h k (by omega)]; rfl
/-- Numbers behind the last that holds count for nothing. -/
theorem cntB_stop {p : Nat → Bool} {j k : Nat} (hk : j ≤ k) (h : ∀ i, j ≤ i → p i = false) : cntB p k = cntB p j := by
  induction k with
  | zero =>
    obtain rfl : j = 0 := by omega
    rfl
  | succ k ih =>
    by_cases hj : j ≤ k
    · rw [cntB, ih hj, h k hj]
      rfl
    · obtain rfl : j = k + 1 := by omega
      rfl
/-- How many sums of the first k. -/
def sumB (f : Nat → Nat) : Nat → Nat
  | 0 => 0
  | k + 1 => sumB f k + f k
theorem sumB_congr {f g : Nat → Nat} {k : Nat} (h : ∀ i, i < k → f i = g i) : sumB f k = sumB g k := by
  induction k with
  | zero => rfl
  | succ k ih => rw [sumB, sumB, ih (fun i hi => h i (by omega)), h k (by omega)]
theorem sumB_le {f : Nat → Nat} {m : Nat} (k : Nat) (h : ∀ i, i < k → f i ≤ m) : sumB f k ≤ k * m := by
  induction k with
  | zero => simp [sumB]
  | succ k ih =>
    have h1 := ih (fun i hi => h i (by omega))
    have h2 := h k (by omega)
    rw [sumB, Nat.succ_mul]
    omega
theorem sumB_none {f : Nat → Nat} {k : Nat} (h : ∀ i, i < k → f i = 0) : sumB f k = 0 := by
  induction k with
  | zero => rfl
  | succ k ih => rw [sumB, ih (fun i hi => h i (by omega)), h k (by omega)]
/-- How many breakpoints a catalogue has. -/
def PCt.brks (x : PCt) : Nat := sumB (fun c => sumB (fun d => cntB (fun i => x.brk c d i) 4) x.cs.length) x.cs.length
theorem closed_brks (x : PCt) : x.closed.brks = 0 := sumB_none (fun c _ => sumB_none (fun d _ => cntB_none (fun i _ => closed_brk x c d i)))
theorem cntB_mono {p q : Nat → Bool} (k : Nat) (h : ∀ i, p i = true → q i = true) : cntB p k ≤ cntB q k := by
  induction k with
  | zero => exact Nat.le_refl _
  | succ k ih =>
    rw [cntB, cntB]
    by_cases hp : p k = true
    · rw [if_pos hp, if_pos (h k hp)]
      omega
    · rw [if_neg hp]
      omega
theorem sumB_mono {f g : Nat → Nat} (k : Nat) (h : ∀ i, f i ≤ g i) : sumB f k ≤ sumB g k := by
  induction k with
  | zero => exact Nat.le_refl _
  | succ k ih =>
    have := h k
    rw [sumB, sumB]
    omega
theorem brks_le {x : PCt} (h : x.ok = true) : x.brks ≤ x.opened.brks := sumB_mono _ (fun _ => sumB_mono _ (fun _ => cntB_mono _ (fun _ hi => opened_more h hi)))
theorem brks_few {x : PCt} (h : x.cs.length ≤ 4) : x.brks ≤ 64 := by
  have h1 := sumB_le (f := fun c => sumB (fun d => cntB (fun i => x.brk c d i) 4) x.cs.length) (m := x.cs.length * 4) x.cs.length (fun c _ => sumB_le _ (fun d _ => cntB_le _ 4))
  have h2 : x.cs.length * (x.cs.length * 4) ≤ 4 * (4 * 4) := Nat.mul_le_mul h (Nat.mul_le_mul_right 4 h)
  exact Nat.le_trans h1 h2
/-- Bits behind a number that is less than a power are none. -/
theorem bit_over {n : Int} {i : Nat} (h0 : 0 ≤ n) (h : n < 2 ^ i) : bitB n i = false := by
  unfold bitB
  rw [Int.ediv_eq_zero_of_lt h0 h]
  rfl
end Go.Proofs.Ytmabapbdnafpfaa
