/- The plain mathematics of sums: half of a number, xored; bytes and words; one bit turned; marks. -/
import Derived.WalkKit
namespace Go.Proofs.Ytdmllfjeofiddaa

theorem xor_rc {a b c : Nat} (h : a ^^^ c = b ^^^ c) : a = b := by
  have := congrArg (· ^^^ c) h
  simpa [Nat.xor_assoc] using this
theorem xor_lc {a b c : Nat} (h : a ^^^ b = a ^^^ c) : b = c := by
  rw [Nat.xor_comm a b, Nat.xor_comm a c] at h
  exact xor_rc h
theorem xor_split (x : Nat) : x = 2 ^ 8 * (x / 256) ^^^ x % 256 := by
  have e : (256 : Nat) = 2 ^ 8 := rfl
  refine Nat.eq_of_testBit_eq fun i => ?_
  rw [Nat.testBit_xor, Nat.testBit_two_pow_mul, e, Nat.testBit_mod_two_pow, Nat.testBit_div_two_pow]
  by_cases h : i < 8
  · simp [h, show ¬ 8 ≤ i by omega]
  · simp [h, show 8 ≤ i by omega]
def odd : Nat := 2197175160
def half (x : Nat) : Nat := if x % 2 = 1 then x / 2 ^^^ odd else x / 2
def halfs : Nat → Nat → Nat
  | 0, x => x
  | k + 1, x => half (halfs k x)
/-- A sum behind one more byte. -/
def bstep (x b : Nat) : Nat := halfs 8 (x ^^^ b)
def crc (x : Nat) (l : List Nat) : Nat := l.foldl bstep x
def sumB (l : List Nat) : Nat := crc 4294967295 l ^^^ 4294967295
/-- The first k bytes of a word, the lowest one first. -/
def wbk (w k : Nat) : List Nat := (List.range k).map fun i => w / 256 ^ i % 256
def wb (w : Nat) : List Nat := wbk w 8
def bytesW (l : List Nat) : List Nat := l.flatMap wb
def sumW (l : List Nat) : Nat := sumB (bytesW l)

theorem half_lt (x : Nat) (h : x < 4294967296) : half x < 4294967296 := by
  unfold half odd
  split
  · exact Nat.xor_lt_two_pow (n := 32) (by omega) (by omega)
  · omega
theorem halfs_lt (k x : Nat) (h : x < 4294967296) : halfs k x < 4294967296 := by
  induction k with
  | zero => exact h
  | succ k ih => exact half_lt _ ih
theorem xor_lt32 (x y : Nat) (h : x < 4294967296) (h' : y < 4294967296) : x ^^^ y < 4294967296 := Nat.xor_lt_two_pow (n := 32) h h'
theorem bstep_lt (x b : Nat) (h : x < 4294967296) (hb : b < 256) : bstep x b < 4294967296 := halfs_lt _ _ (xor_lt32 _ _ h (by omega))
theorem crc_lt (l : List Nat) (hl : ∀ b ∈ l, b < 256) (x : Nat) (h : x < 4294967296) : crc x l < 4294967296 := by
  induction l generalizing x with
  | nil => exact h
  | cons b r ih => exact ih (fun c hc => hl c (by simp [hc])) _ (bstep_lt _ _ h (hl b (by simp)))
theorem sumB_lt (l : List Nat) (hl : ∀ b ∈ l, b < 256) : sumB l < 4294967296 := xor_lt32 _ _ (crc_lt l hl _ (by omega)) (by omega)
theorem crc_app (x : Nat) (l m : List Nat) : crc x (l ++ m) = crc (crc x l) m := List.foldl_append
theorem crc_snoc (x : Nat) (l : List Nat) (b : Nat) : crc x (l ++ [b]) = bstep (crc x l) b := by rw [crc_app]; rfl
theorem wbk_lt (w k : Nat) : ∀ b ∈ wbk w k, b < 256 := by
  intro b hb
  obtain ⟨i, _, rfl⟩ := List.mem_map.1 hb
  omega
theorem wbk_succ (w k : Nat) : wbk w (k + 1) = wbk w k ++ [w / 256 ^ k % 256] := by simp [wbk, List.range_succ]
theorem wbk_len (w k : Nat) : (wbk w k).length = k := by simp [wbk]
theorem bytesW_lt (l : List Nat) : ∀ b ∈ bytesW l, b < 256 := by
  intro b hb
  obtain ⟨w, _, h⟩ := List.mem_flatMap.1 hb
  exact wbk_lt _ _ b h
theorem bytesW_app (l m : List Nat) : bytesW (l ++ m) = bytesW l ++ bytesW m := by simp [bytesW]
theorem bytesW_cons (u : Nat) (m : List Nat) : bytesW (u :: m) = wb u ++ bytesW m := by simp [bytesW]
theorem bytesW_len (l : List Nat) : (bytesW l).length = l.length * 8 := by
  induction l with
  | nil => rfl
  | cons u r ih => rw [bytesW_cons, List.length_append, ih, wb, wbk_len, List.length_cons]; omega
theorem sumW_lt (l : List Nat) : sumW l < 4294967296 := sumB_lt _ (bytesW_lt l)

/- one bit -/
theorem half_odd_top (x : Nat) (h : x < 4294967296) : (half x).testBit 31 = decide (x % 2 = 1) := by
  have h1 : (x / 2).testBit 31 = false := Nat.testBit_lt_two_pow (show x / 2 < 2 ^ 31 by omega)
  have h2 : odd.testBit 31 = true := by decide
  unfold half
  split
  · rw [Nat.testBit_xor, h1, h2]; simp [*]
  · rw [h1]; simp [*]
theorem half_inj (x y : Nat) (h : x < 4294967296) (h' : y < 4294967296) (e : half x = half y) : x = y := by
  have h1 := half_odd_top x h
  rw [e, half_odd_top y h'] at h1
  unfold half at e
  by_cases hx : x % 2 = 1
  · have hy : y % 2 = 1 := by simpa [hx] using h1
    rw [if_pos hx, if_pos hy] at e
    have := xor_rc e
    omega
  · have hy : ¬ y % 2 = 1 := by simpa [hx] using h1
    rw [if_neg hx, if_neg hy] at e
    omega
theorem halfs_inj (k x y : Nat) (h : x < 4294967296) (h' : y < 4294967296) (e : halfs k x = halfs k y) : x = y := by
  induction k with
  | zero => exact e
  | succ k ih => exact ih (half_inj _ _ (halfs_lt _ _ h) (halfs_lt _ _ h') e)
theorem bstep_inj (x y b : Nat) (h : x < 4294967296) (h' : y < 4294967296) (hb : b < 256) (e : bstep x b = bstep y b) : x = y :=
  xor_rc (halfs_inj 8 _ _ (xor_lt32 _ _ h (by omega)) (xor_lt32 _ _ h' (by omega)) e)
theorem bstep_inj_byte (x b c : Nat) (h : x < 4294967296) (hb : b < 256) (hc : c < 256) (e : bstep x b = bstep x c) : b = c :=
  xor_lc (halfs_inj 8 _ _ (xor_lt32 _ _ h (by omega)) (xor_lt32 _ _ h (by omega)) e)
theorem crc_inj (l : List Nat) (hl : ∀ b ∈ l, b < 256) (x y : Nat) (h : x < 4294967296) (h' : y < 4294967296) (e : crc x l = crc y l) : x = y := by
  induction l generalizing x y with
  | nil => exact e
  | cons b r ih =>
    have hb := hl b (by simp)
    exact bstep_inj x y b h h' hb (ih (fun c hc => hl c (by simp [hc])) _ _ (bstep_lt _ _ h hb) (bstep_lt _ _ h' hb) e)
theorem crc_ne (p s : List Nat) (b c : Nat) (hp : ∀ b ∈ p, b < 256) (hs : ∀ b ∈ s, b < 256) (hb : b < 256) (hc : c < 256) (hne : b ≠ c) (x : Nat) (h : x < 4294967296) : crc x (p ++ b :: s) ≠ crc x (p ++ c :: s) := by
  intro e
  rw [crc_app, crc_app] at e
  have h1 := crc_lt p hp x h
  exact hne (bstep_inj_byte _ _ _ h1 hb hc (crc_inj s hs _ _ (bstep_lt _ _ h1 hb) (bstep_lt _ _ h1 hc) e))
theorem turned_byte (w k i : Nat) : (w ^^^ 2 ^ k) / 256 ^ i % 256 = w / 256 ^ i % 256 ^^^ (2 ^ k / 256 ^ i % 256) := by
  have e : (256 : Nat) ^ i = 2 ^ (8 * i) := by rw [Nat.pow_mul]
  have e8 : (256 : Nat) = 2 ^ 8 := rfl
  rw [e, ← Nat.shiftRight_eq_div_pow, ← Nat.shiftRight_eq_div_pow, ← Nat.shiftRight_eq_div_pow, Nat.shiftRight_xor_distrib, e8, Nat.xor_mod_two_pow]
theorem turned_other (k i : Nat) (hi : i ≠ k / 8) : 2 ^ k / 256 ^ i % 256 = 0 := by
  have e : (256 : Nat) ^ i = 2 ^ (8 * i) := by rw [Nat.pow_mul]
  rw [e]
  rcases Nat.lt_or_ge k (8 * i) with h | h
  · rw [Nat.div_eq_of_lt (Nat.pow_lt_pow_right (by omega) h)]
  · rw [Nat.pow_div h (by omega)]
    have h1 : 8 ≤ k - 8 * i := by omega
    obtain ⟨m, hm⟩ : ∃ m, k - 8 * i = m + 8 := ⟨k - 8 * i - 8, by omega⟩
    rw [hm, Nat.pow_add]
    omega
theorem turned_here (k : Nat) : 2 ^ k / 256 ^ (k / 8) % 256 = 2 ^ (k % 8) := by
  have e : (256 : Nat) ^ (k / 8) = 2 ^ (8 * (k / 8)) := by rw [Nat.pow_mul]
  rw [e, Nat.pow_div (by omega) (by omega), show k - 8 * (k / 8) = k % 8 by omega]
  have : 2 ^ (k % 8) ≤ 2 ^ 7 := Nat.pow_le_pow_right (by omega) (by omega)
  exact Nat.mod_eq_of_lt (by omega)
theorem wb_turned (w k : Nat) (hk : k < 64) : ∃ p s b c, wb w = p ++ b :: s ∧ wb (w ^^^ 2 ^ k) = p ++ c :: s ∧ b ≠ c ∧ (∀ b ∈ p, b < 256) ∧ (∀ b ∈ s, b < 256) ∧ b < 256 ∧ c < 256 := by
  have hl : k / 8 < (wb w).length := by rw [wb, wbk_len]; omega
  have hl' : k / 8 < (wb (w ^^^ 2 ^ k)).length := by rw [wb, wbk_len]; omega
  have hat : ∀ (v i : Nat) (hi : i < (wb v).length), (wb v)[i] = v / 256 ^ i % 256 := by
    intro v i hi
    simp [wb, wbk]
  refine ⟨(wb w).take (k / 8), (wb w).drop (k / 8 + 1), (wb w)[k / 8]'hl, (wb (w ^^^ 2 ^ k))[k / 8]'hl', ?_, ?_, ?_, fun b hb => wbk_lt _ _ b (List.mem_of_mem_take hb), fun b hb => wbk_lt _ _ b (List.mem_of_mem_drop hb), wbk_lt _ _ _ (List.getElem_mem hl), wbk_lt _ _ _ (List.getElem_mem hl')⟩
  · rw [← List.drop_eq_getElem_cons hl, List.take_append_drop]
  · have h1 : (wb w).take (k / 8) = (wb (w ^^^ 2 ^ k)).take (k / 8) := by
      refine List.ext_getElem (by simp [wb, wbk_len]) fun i hi hi' => ?_
      simp only [List.getElem_take]
      have : i < k / 8 := by simp at hi; omega
      rw [hat, hat, turned_byte, turned_other k i (by omega), Nat.xor_zero]
    have h2 : (wb w).drop (k / 8 + 1) = (wb (w ^^^ 2 ^ k)).drop (k / 8 + 1) := by
      refine List.ext_getElem (by simp [wb, wbk_len]) fun i hi hi' => ?_
      simp only [List.getElem_drop]
      rw [hat, hat, turned_byte, turned_other k _ (by omega), Nat.xor_zero]
    rw [h1, h2, ← List.drop_eq_getElem_cons hl', List.take_append_drop]
  · rw [hat, hat, turned_byte, turned_here]
    intro e
    have h0 : w / 256 ^ (k / 8) % 256 ^^^ 0 = w / 256 ^ (k / 8) % 256 ^^^ 2 ^ (k % 8) := by rw [Nat.xor_zero]; exact e
    have h1 := xor_lc h0
    have := Nat.two_pow_pos (k % 8)
    omega
theorem sumB_ne {l m : List Nat} (h : crc 4294967295 l ≠ crc 4294967295 m) : sumB l ≠ sumB m := fun e => h (xor_rc e)
theorem sumW_turned (p s : List Nat) (w k : Nat) (hk : k < 64) : sumW (p ++ w :: s) ≠ sumW (p ++ (w ^^^ 2 ^ k) :: s) := by
  obtain ⟨q, r, b, c, e1, e2, hne, hq, hr, hb, hc⟩ := wb_turned w k hk
  refine sumB_ne ?_
  rw [bytesW_app, bytesW_app, bytesW_cons, bytesW_cons, e1, e2]
  have hx := crc_ne (bytesW p ++ q) (r ++ bytesW s) b c (fun b hb => (List.mem_append.1 hb).elim (bytesW_lt p b) (hq b)) (fun b hb => (List.mem_append.1 hb).elim (hr b) (bytesW_lt s b)) hb hc hne 4294967295 (by omega)
  simpa [List.append_assoc] using hx

/- tables -/
theorem half_xor (a b : Nat) : half (a ^^^ b) = half a ^^^ half b := by
  have h2 : (a ^^^ b) / 2 = a / 2 ^^^ b / 2 := Nat.xor_div_two
  have h3 := Nat.xor_mod_two_eq_one (a := a) (b := b)
  unfold half
  rw [h2]
  by_cases ha : a % 2 = 1 <;> by_cases hb : b % 2 = 1
  · rw [if_neg (by rw [h3]; simp [ha, hb]), if_pos ha, if_pos hb, Nat.xor_comm (b / 2) odd, Nat.xor_assoc, ← Nat.xor_assoc odd, Nat.xor_self, Nat.zero_xor]
  · rw [if_pos (by rw [h3]; simp [ha, hb]), if_pos ha, if_neg hb]; ac_rfl
  · rw [if_pos (by rw [h3]; simp [ha, hb]), if_neg ha, if_pos hb]; ac_rfl
  · rw [if_neg (by rw [h3]; simp [ha, hb]), if_neg ha, if_neg hb]
theorem halfs_xor (k a b : Nat) : halfs k (a ^^^ b) = halfs k a ^^^ halfs k b := by
  induction k with
  | zero => rfl
  | succ k ih => simp only [halfs]; rw [ih, half_xor]
theorem half_even (y : Nat) : half (2 * y) = y := by
  unfold half
  rw [if_neg (by omega)]
  omega
theorem halfs_up (k y : Nat) : halfs k (2 ^ k * y) = y := by
  induction k generalizing y with
  | zero => simp [halfs]
  | succ k ih =>
    have h := ih (2 * y)
    simp only [halfs]
    rw [show 2 ^ (k + 1) * y = 2 ^ k * (2 * y) by rw [Nat.pow_succ]; ac_rfl, h, half_even]
/-- A byte's step by a table: what the low eight bits make, xored with the others. -/
theorem bstep_table (x b : Nat) : bstep x b = x / 256 ^^^ halfs 8 (x % 256 ^^^ b) := by
  unfold bstep
  conv => lhs; rw [xor_split x]
  rw [Nat.xor_assoc, halfs_xor, halfs_up]

/- marks -/
def mark (kind n : Nat) (l : List Nat) : Nat := kind * 72057594037927936 + n * 4294967296 + sumW (kind :: n :: l)
theorem mark_lt (kind n : Nat) (l : List Nat) (hk : kind ≤ 255) (hn : n ≤ 16777215) : mark kind n l < 18446744073709551616 := by
  have := sumW_lt (kind :: n :: l)
  unfold mark
  omega
theorem mark_kind (kind n : Nat) (l : List Nat) (_hk : kind ≤ 255) (hn : n ≤ 16777215) : mark kind n l / 72057594037927936 = kind := by
  have := sumW_lt (kind :: n :: l)
  unfold mark
  omega
theorem mark_n (kind n : Nat) (l : List Nat) (_hk : kind ≤ 255) (hn : n ≤ 16777215) : mark kind n l / 4294967296 % 16777216 = n := by
  have := sumW_lt (kind :: n :: l)
  unfold mark
  omega
theorem mark_sum (kind n : Nat) (l : List Nat) : mark kind n l % 4294967296 = sumW (kind :: n :: l) := by
  have := sumW_lt (kind :: n :: l)
  unfold mark
  omega
/-- Whether a word is the mark that it tells, of these words. -/
def fits (w : Nat) (l : List Nat) : Bool := mark (w / 72057594037927936) (w / 4294967296 % 16777216) l == w
theorem fits_mark (kind n : Nat) (l : List Nat) (hk : kind ≤ 255) (hn : n ≤ 16777215) : fits (mark kind n l) l = true := by
  unfold fits
  rw [mark_kind _ _ _ hk hn, mark_n _ _ _ hk hn]
  simp
theorem fits_turned (kind n : Nat) (p s : List Nat) (u k : Nat) (hk : kind ≤ 255) (hn : n ≤ 16777215) (hb : k < 64) : fits (mark kind n (p ++ u :: s)) (p ++ (u ^^^ 2 ^ k) :: s) = false := by
  unfold fits
  rw [mark_kind _ _ _ hk hn, mark_n _ _ _ hk hn]
  have h := sumW_turned (kind :: n :: p) s u k hb
  have e : mark kind n (p ++ (u ^^^ 2 ^ k) :: s) ≠ mark kind n (p ++ u :: s) := by
    intro e
    unfold mark at e
    simp only [List.cons_append] at h
    omega
  simpa using e
theorem fits_other (kind n : Nat) (l : List Nat) (k : Nat) (hk : kind ≤ 255) (hn : n ≤ 16777215) (hb : k < 32) : fits (mark kind n l ^^^ 2 ^ k) l = false := by
  have h1 : (mark kind n l ^^^ 2 ^ k) / 4294967296 = mark kind n l / 4294967296 := by
    have e : (4294967296 : Nat) = 2 ^ 32 := rfl
    rw [e, ← Nat.shiftRight_eq_div_pow, ← Nat.shiftRight_eq_div_pow, Nat.shiftRight_xor_distrib, Nat.shiftRight_eq_div_pow (2 ^ k), Nat.div_eq_of_lt (Nat.pow_lt_pow_right (by omega) hb), Nat.xor_zero]
  have h2 : (mark kind n l ^^^ 2 ^ k) / 72057594037927936 = mark kind n l / 72057594037927936 := by omega
  unfold fits
  rw [h1, h2, mark_kind _ _ _ hk hn, mark_n _ _ _ hk hn]
  have e : mark kind n l ≠ mark kind n l ^^^ 2 ^ k := by
    intro e
    have h0 : mark kind n l ^^^ 0 = mark kind n l ^^^ 2 ^ k := by rw [Nat.xor_zero]; exact e
    have := xor_lc h0
    have := Nat.two_pow_pos k
    omega
  simpa using e
theorem mark_eq (kind n kind' n' : Nat) (l : List Nat) (hk : kind ≤ 255) (hn : n ≤ 16777215) (hk' : kind' ≤ 255) (hn' : n' ≤ 16777215) : mark kind n l = mark kind' n' l ↔ kind = kind' ∧ n = n' := by
  constructor
  · intro e
    have h1 := mark_kind kind n l hk hn
    have h2 := mark_n kind n l hk hn
    rw [e, mark_kind _ _ _ hk' hn'] at h1
    rw [e, mark_n _ _ _ hk' hn'] at h2
    exact ⟨h1.symm, h2.symm⟩
  · rintro ⟨rfl, rfl⟩
    rfl
end Go.Proofs.Ytdmllfjeofiddaa
