/- Sets of keys as plain mathematics: which keys spans have; the plain list of a set. No program is spoken of. -/
import Derived.Test.YtnlmhcfkipkegaaDev3
namespace Go.Proofs.Ytnlmhcfkipkegaa
open Go.RowKit

abbrev Span := Int × Int
def spC (p : Span) : List Value := [.int .i64 p.1, .int .i64 p.2]
theorem spC_len (p : Span) : (spC p).length = 2 := rfl
def sps (l : List Span) : List Value := l.flatMap spC
theorem sps_len (l : List Span) : (sps l).length = l.length * 2 := flat_len spC 2 spC_len l
theorem sps_app (l m : List Span) : sps (l ++ m) = sps l ++ sps m := by simp [sps]
/-- Has a span this key? -/
def spHas (p : Span) (k : Nat) : Bool := decide (0 ≤ p.1 ∧ p.2 ≤ 999 ∧ p.1 ≤ (k : Int) ∧ (k : Int) ≤ p.2)
def keysOf (l : List Span) (k : Nat) : Bool := l.any fun p => spHas p k
theorem keysOf_snoc (l : List Span) (p : Span) (k : Nat) : keysOf (l ++ [p]) k = (keysOf l k || spHas p k) := by simp [keysOf]
/-- The last span ends at k. -/
def upHi (l : List Span) (k : Nat) : List Span := l.set (l.length - 1) ((l.getD (l.length - 1) (0, 0)).1, (k : Int))
theorem upHi_len (l : List Span) (k : Nat) : (upHi l k).length = l.length := by simp [upHi]
/-- The plain list of the keys below n. -/
def plainTo (s : Nat → Bool) : Nat → List Span
  | 0 => []
  | k + 1 => if s k = true then (if (decide (0 < k) && s (k - 1)) = true then upHi (plainTo s k) k else plainTo s k ++ [((k : Int), (k : Int))]) else plainTo s k
def plainOf (s : Nat → Bool) : List Span := plainTo s 1000
theorem plainTo_len (s : Nat → Bool) (k : Nat) : (plainTo s k).length ≤ k := by
  induction k with
  | zero => exact Nat.le_refl _
  | succ k ih =>
    unfold plainTo
    split
    · split
      · rw [upHi_len]; omega
      · simp; omega
    · omega
/-- Behind a key of the set there is a span. -/
theorem plainTo_pos (s : Nat → Bool) (k : Nat) (h : s k = true) : 0 < (plainTo s (k + 1)).length := by
  unfold plainTo
  rw [if_pos h]
  split
  · next h2 =>
    rw [upHi_len]
    cases k with
    | zero => simp at h2
    | succ k =>
      have h3 : s k = true := by simpa using h2
      exact plainTo_pos s k h3
  · simp
theorem plainTo_congr (s t : Nat → Bool) (n : Nat) (h : ∀ k, k < n → s k = t k) : plainTo s n = plainTo t n := by
  induction n with
  | zero => rfl
  | succ n ih =>
    unfold plainTo
    rw [ih (fun k hk => h k (by omega)), h n (by omega)]
    by_cases hn : 0 < n
    · rw [h (n - 1) (by omega)]
    · have : decide (0 < n) = false := by simp; omega
      rw [this]
      simp

theorem sps_up (l : List Span) (k : Nat) (h : 0 < l.length) : (sps l).set ((l.length - 1) * 2 + 1) (.int .i64 (k : Int)) = sps (upHi l k) := by
  obtain ⟨i, p, rfl⟩ : ∃ i p, l = i ++ [p] := ⟨l.dropLast, l.getLast (by rintro rfl; simp at h), (List.dropLast_concat_getLast _).symm⟩
  have hl : (i ++ [p]).length - 1 = i.length := by simp
  unfold upHi
  rw [hl, sps_app, List.set_append_right _ _ (by rw [sps_len]; omega), sps_len, show i.length * 2 + 1 - i.length * 2 = 1 by omega, List.set_append_right _ _ (Nat.le_refl _), Nat.sub_self, sps_app]
  have e : (i ++ [p]).getD i.length (0, 0) = p := by simp [List.getD]
  rw [e]
  rfl

/-- Have two sets a key below n in common? -/
def meetTo (s t : Nat → Bool) : Nat → Bool
  | 0 => false
  | k + 1 => meetTo s t k || (s k && t k)
def meets (s t : Nat → Bool) : Bool := meetTo s t 1000
theorem meetTo_true (s t : Nat → Bool) (n : Nat) : meetTo s t n = true ↔ ∃ k, k < n ∧ s k = true ∧ t k = true := by
  induction n with
  | zero => simp [meetTo]
  | succ n ih =>
    rw [meetTo, Bool.or_eq_true, ih, Bool.and_eq_true]
    constructor
    · rintro (⟨k, h1, h2⟩ | h)
      · exact ⟨k, by omega, h2⟩
      · exact ⟨n, by omega, h⟩
    · rintro ⟨k, h1, h2⟩
      by_cases hk : k = n
      · subst hk; exact .inr h2
      · exact .inl ⟨k, by omega, h2⟩
theorem meets_true (s t : Nat → Bool) : meets s t = true ↔ ∃ k, k < 1000 ∧ s k = true ∧ t k = true := meetTo_true s t 1000
theorem meets_of (s t : Nat → Bool) (j : Nat) (h : j < 1000) (h1 : s j = true) (h2 : t j = true) : meets s t = true := (meets_true s t).2 ⟨j, h, h1, h2⟩

theorem upHi_snoc (i : List Span) (p : Span) (k : Nat) : upHi (i ++ [p]) k = i ++ [(p.1, (k : Int))] := by
  have hl : (i ++ [p]).length - 1 = i.length := by simp
  have e : (i ++ [p]).getD i.length (0, 0) = p := by simp [List.getD]
  unfold upHi
  rw [hl, e, List.set_append_right _ _ (Nat.le_refl _), Nat.sub_self]
  rfl
theorem plainTo_spec (s : Nat → Bool) (n : Nat) (hn : n ≤ 1000) :
    (∀ k, k < 1000 → keysOf (plainTo s n) k = (decide (k < n) && s k)) ∧ (0 < n → s (n - 1) = true → ∃ i lo, plainTo s n = i ++ [(lo, ((n - 1 : Nat) : Int))] ∧ 0 ≤ lo ∧ lo ≤ ((n - 1 : Nat) : Int)) := by
  induction n with
  | zero => exact ⟨fun k _ => by simp [plainTo, keysOf], fun h => absurd h (by omega)⟩
  | succ n ih =>
    obtain ⟨i1, i2⟩ := ih (by omega)
    cases hs : s n with
    | false =>
      have e : plainTo s (n + 1) = plainTo s n := by show (if s n = true then _ else plainTo s n) = _; rw [hs]; simp
      rw [e]
      refine ⟨fun k hk => ?_, fun _ h => ?_⟩
      · rw [i1 k hk]
        by_cases h : k = n
        · subst h; simp [hs]
        · rw [show decide (k < n + 1) = decide (k < n) by rw [decide_eq_decide]; omega]
      · rw [Nat.add_sub_cancel, hs] at h
        cases h
    | true =>
      by_cases hp : 0 < n ∧ s (n - 1) = true
      · obtain ⟨i, lo, h1, h2, h3⟩ := i2 hp.1 hp.2
        have e : plainTo s (n + 1) = i ++ [(lo, (n : Int))] := by
          have : plainTo s (n + 1) = upHi (plainTo s n) n := by
            show (if s n = true then _ else _) = _
            rw [if_pos hs, if_pos (by simp [hp.1, hp.2])]
          rw [this, h1, upHi_snoc]
        rw [e]
        refine ⟨fun k hk => ?_, fun _ _ => ⟨i, lo, by rw [Nat.add_sub_cancel], h2, by omega⟩⟩
        have h4 := i1 k hk
        rw [h1, keysOf_snoc] at h4
        rw [keysOf_snoc]
        by_cases hkn : k = n
        · subst hkn
          have : spHas (lo, (k : Int)) k = true := by simp only [spHas, decide_eq_true_eq]; omega
          rw [this, hs]
          simp
        · have h5 : spHas (lo, (n : Int)) k = spHas (lo, ((n - 1 : Nat) : Int)) k := by
            simp only [spHas, decide_eq_decide]
            omega
          rw [h5, h4, show decide (k < n + 1) = decide (k < n) by rw [decide_eq_decide]; omega]
      · have e : plainTo s (n + 1) = plainTo s n ++ [((n : Int), (n : Int))] := by
          show (if s n = true then _ else _) = _
          rw [if_pos hs, if_neg (by simpa using hp)]
        rw [e]
        refine ⟨fun k hk => ?_, fun _ _ => ⟨_, (n : Int), by rw [Nat.add_sub_cancel], by omega, by omega⟩⟩
        rw [keysOf_snoc, i1 k hk]
        by_cases hkn : k = n
        · subst hkn
          have : spHas ((k : Int), (k : Int)) k = true := by simp only [spHas, decide_eq_true_eq]; omega
          rw [this, hs]
          simp
        · have : spHas ((n : Int), (n : Int)) k = false := by simp only [spHas, decide_eq_false_iff_not]; omega
          rw [this, Bool.or_false, show decide (k < n + 1) = decide (k < n) by rw [decide_eq_decide]; omega]
theorem keysOf_plain (s : Nat → Bool) (k : Nat) (hk : k < 1000) : keysOf (plainOf s) k = s k := by
  unfold plainOf
  rw [(plainTo_spec s 1000 (Nat.le_refl _)).1 k hk]
  simp [hk]
theorem keysOf_far (l : List Span) (k : Nat) (hk : 1000 ≤ k) : keysOf l k = false := by
  unfold keysOf
  rw [List.any_eq_false]
  intro p _
  simp only [spHas, decide_eq_true_eq]
  omega
theorem plainOf_congr {s t : Nat → Bool} (h : ∀ k, k < 1000 → s k = t k) : plainOf s = plainOf t := plainTo_congr s t 1000 h
theorem plainOf_inj (s t : Nat → Bool) : plainOf s = plainOf t ↔ ∀ k, k < 1000 → s k = t k := by
  refine ⟨fun h k hk => ?_, plainOf_congr⟩
  rw [← keysOf_plain s k hk, h, keysOf_plain t k hk]
theorem meets_false (s t : Nat → Bool) (h : ∀ k, k < 1000 → (s k && t k) = false) : meets s t = false := by
  rw [Bool.eq_false_iff]
  intro h1
  obtain ⟨k, hk, h2, h3⟩ := (meets_true s t).1 h1
  have := h k hk
  rw [h2, h3] at this
  cases this
theorem meets_congr {s t s' t' : Nat → Bool} (h : ∀ k, k < 1000 → s k = s' k) (h' : ∀ k, k < 1000 → t k = t' k) : meets s t = meets s' t' := by
  rw [Bool.eq_iff_iff, meets_true, meets_true]
  constructor
  · rintro ⟨k, hk, a, b⟩; exact ⟨k, hk, by rw [← h k hk]; exact a, by rw [← h' k hk]; exact b⟩
  · rintro ⟨k, hk, a, b⟩; exact ⟨k, hk, by rw [h k hk]; exact a, by rw [h' k hk]; exact b⟩
theorem cnt_bound (d : Nat → Bool) (i : Nat) : cnt d i ≤ i := by
  induction i with
  | zero => exact Nat.le_refl _
  | succ i ih => unfold cnt; cases d i <;> simp <;> omega
theorem cnt_congr {s t : Nat → Bool} (n : Nat) (h : ∀ k, k < n → s k = t k) : cnt s n = cnt t n := by
  induction n with
  | zero => rfl
  | succ n ih => simp only [cnt]; rw [ih (fun k hk => h k (by omega)), h n (by omega)]
theorem cnt_split (s t : Nat → Bool) (n : Nat) : cnt (fun k => s k && t k) n + cnt (fun k => s k && !t k) n = cnt s n := by
  induction n with
  | zero => rfl
  | succ n ih => simp only [cnt]; cases s n <;> cases t n <;> simp <;> omega
/-- A set has a key just if its plain list has a span. -/
theorem plainOf_empty (s : Nat → Bool) : (0 < (plainOf s).length) ↔ ∃ k, k < 1000 ∧ s k = true := by
  constructor
  · intro h
    refine Classical.byContradiction fun hn => ?_
    have : plainOf s = plainOf fun _ => false := plainOf_congr (fun k hk => by
      cases hs : s k with
      | false => rfl
      | true => exact absurd ⟨k, hk, hs⟩ hn)
    rw [this] at h
    have e : ∀ n, plainTo (fun _ => false) n = [] := by
      intro n
      induction n with
      | zero => rfl
      | succ n ih => unfold plainTo; rw [ih]; simp
    unfold plainOf at h
    rw [e] at h
    simp at h
  · rintro ⟨k, hk, hs⟩
    have h1 := keysOf_plain s k hk
    rw [hs] at h1
    rcases Nat.eq_zero_or_pos (plainOf s).length with h2 | h2
    · rw [List.eq_nil_of_length_eq_zero h2] at h1
      simp [keysOf] at h1
    · exact h2

def allTo (s : Nat → Bool) (n : Nat) : List Nat := (List.range n).filter s
theorem allTo_len (di : Nat → Bool) (n : Nat) : (allTo di n).length = cnt di n := by
  induction n with
  | zero => rfl
  | succ n ih =>
    unfold allTo at ih ⊢
    rw [List.range_succ, List.filter_append, List.length_append, ih]
    cases h : di n <;> simp [cnt, h]
theorem cnt_up (di : Nat → Bool) (i j : Nat) (h : i ≤ j) : cnt di i ≤ cnt di j := by
  induction j with
  | zero => obtain rfl : i = 0 := by omega
            exact Nat.le_refl _
  | succ j ih =>
    rcases Nat.lt_or_ge i (j + 1) with h1 | h1
    · have := ih (by omega)
      simp only [cnt]
      omega
    · obtain rfl : i = j + 1 := by omega
      exact Nat.le_refl _
theorem allTo_at (di : Nat → Bool) (n j : Nat) (hj : j < n) (hd : di j = true) : (allTo di n)[cnt di j]? = some j := by
  induction n with
  | zero => omega
  | succ n ih =>
    have hl0 := allTo_len di n
    unfold allTo at ih hl0 ⊢
    rw [List.range_succ, List.filter_append]
    by_cases hjn : j < n
    · have hl : cnt di j < cnt di n := by
        have := cnt_up di (j + 1) n (by omega)
        simp only [cnt, hd, Bool.toNat_true] at this
        omega
      rw [List.getElem?_append_left (by rw [hl0]; exact hl)]
      exact ih hjn
    · obtain rfl : j = n := by omega
      rw [List.getElem?_append_right (by rw [hl0]; exact Nat.le_refl _), hl0, Nat.sub_self]
      simp [hd]
def allL (s : Nat → Bool) : List Nat := allTo s 1000
theorem allL_len (s : Nat → Bool) : (allL s).length = cnt s 1000 := allTo_len s 1000
theorem allL_at (s : Nat → Bool) (j : Nat) (hj : j < 1000) (hd : s j = true) : (allL s)[cnt s j]? = some j := allTo_at s 1000 j hj hd

/-- The first j of a row are those of A, the others false. -/
def upToF (A : Nat → Bool) (j k : Nat) : Bool := if k < j then A k else false
theorem stepf (A : Nat → Bool) (j k : Nat) : upd (upToF A j) j (A j) k = upToF A (j + 1) k := by
  unfold upd upToF
  by_cases h1 : k = j
  · subst h1; rw [if_pos rfl, if_pos (by omega)]
  · rw [if_neg h1]
    by_cases h2 : k < j
    · rw [if_pos h2, if_pos (by omega)]
    · rw [if_neg h2, if_neg (by omega)]
theorem upToF_all (A : Nat → Bool) (k : Nat) (h : k < 1000) : upToF A 1000 k = A k := by unfold upToF; rw [if_pos h]
end Go.Proofs.Ytnlmhcfkipkegaa
