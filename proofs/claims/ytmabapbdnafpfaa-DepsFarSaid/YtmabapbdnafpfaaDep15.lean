/- Which nodes depend on which, purely: a relation that grows until it doesn't; what it is. -/
import Derived.Test.YtmabapbdnafpfaaUnt14
namespace Go.Proofs.Ytmabapbdnafpfaa
open Go.RowKit

/-- Does a node depend directly on another one, ahead of it? -/
def dirB (h : List Nd) (i k : Nat) : Bool := decide (k < i ∧ i < h.length) && (decide ((ndAt h i).saga = (ndAt h k).saga) || confN (ndAt h i) (ndAt h k))
/-- A relation behind m steps of growing: by way of the first m. -/
def wsh (d : Nat → Nat → Bool) : Nat → Nat → Nat → Bool
  | 0, i, k => d i k
  | m + 1, i, k => wsh d m i k || (wsh d m i m && wsh d m m k)
theorem wsh_more {d : Nat → Nat → Bool} {m i k : Nat} (h : wsh d m i k = true) : wsh d (m + 1) i k = true := by
  unfold wsh
  rw [h]
  rfl
theorem wsh_up {d : Nat → Nat → Bool} {m n i k : Nat} (hmn : m ≤ n) (h : wsh d m i k = true) : wsh d n i k = true := by
  induction n with
  | zero => cases (show m = 0 by omega); exact h
  | succ n ih =>
    by_cases e : m = n + 1
    · rw [← e]; exact h
    · exact wsh_more (ih (by omega))
theorem wsh_step {d : Nat → Nat → Bool} {m i k : Nat} : wsh d (m + 1) i k = true ↔ wsh d m i k = true ∨ (wsh d m i m = true ∧ wsh d m m k = true) := by
  show (wsh d m i k || (wsh d m i m && wsh d m m k)) = true ↔ _
  rw [Bool.or_eq_true, Bool.and_eq_true]
/-- Whoever goes by way of one of the first m is there. -/
theorem wsh_closed {d : Nat → Nat → Bool} : ∀ (m : Nat) {i j k : Nat}, j < m → wsh d m i j = true → wsh d m j k = true → wsh d m i k = true
  | 0, _, _, _, hj, _, _ => by omega
  | m + 1, i, j, k, hj, h1, h2 => by
    rw [wsh_step] at h1 h2 ⊢
    by_cases e : j = m
    · subst e
      have a1 : wsh d j i j = true := h1.elim id (fun q => q.1)
      have a2 : wsh d j j k = true := h2.elim id (fun q => q.2)
      exact .inr ⟨a1, a2⟩
    · have hj' : j < m := by omega
      rcases h1 with h1 | ⟨h1, h1'⟩
      · rcases h2 with h2 | ⟨h2, h2'⟩
        · exact .inl (wsh_closed m hj' h1 h2)
        · exact .inr ⟨wsh_closed m hj' h1 h2, h2'⟩
      · rcases h2 with h2 | ⟨h2, h2'⟩
        · exact .inr ⟨h1, wsh_closed m hj' h1' h2⟩
        · exact .inr ⟨h1, h2'⟩
/-- It is in every relation that goes on and has the first one. -/
theorem wsh_least {d : Nat → Nat → Bool} {R : Nat → Nat → Prop} (hd : ∀ i k, d i k = true → R i k) (hR : ∀ i j k, R i j → R j k → R i k) : ∀ m i k, wsh d m i k = true → R i k
  | 0, i, k, h => hd i k h
  | m + 1, i, k, h => by
    rw [wsh_step] at h
    rcases h with h | ⟨h1, h2⟩
    · exact wsh_least hd hR m i k h
    · exact hR _ _ _ (wsh_least hd hR m i m h1) (wsh_least hd hR m m k h2)
/-- Does a node depend on another one? -/
def depB (h : List Nd) (i k : Nat) : Bool := wsh (dirB h) h.length i k
theorem dirB_lt {h : List Nd} {i k : Nat} (e : dirB h i k = true) : k < i ∧ i < h.length := by
  unfold dirB at e
  rw [Bool.and_eq_true, decide_eq_true_eq] at e
  exact e.1
theorem depB_lt {h : List Nd} {i k : Nat} (e : depB h i k = true) : k < i ∧ i < h.length :=
  wsh_least (R := fun i k => k < i ∧ i < h.length) (fun _ _ q => dirB_lt q) (fun _ _ _ q r => ⟨by omega, q.2⟩) _ _ _ e
theorem depB_dir {h : List Nd} {i k : Nat} (e : dirB h i k = true) : depB h i k = true := wsh_up (m := 0) (Nat.zero_le _) e
theorem depB_trans {h : List Nd} {i j k : Nat} (e : depB h i j = true) (f : depB h j k = true) : depB h i k = true := wsh_closed _ (depB_lt f).2 e f
/-- First a direct one. -/
theorem depB_iff {h : List Nd} {i k : Nat} : depB h i k = true ↔ dirB h i k = true ∨ ∃ m, dirB h i m = true ∧ depB h m k = true := by
  constructor
  · intro e
    refine wsh_least (R := fun i k => dirB h i k = true ∨ ∃ m, dirB h i m = true ∧ depB h m k = true) (fun _ _ q => .inl q) (fun i j k q r => ?_) _ _ _ e
    have rj : depB h j k = true := by
      rcases r with r | ⟨m, r1, r2⟩
      · exact depB_dir r
      · exact depB_trans (depB_dir r1) r2
    rcases q with q | ⟨m, q1, q2⟩
    · exact .inr ⟨j, q, rj⟩
    · exact .inr ⟨m, q1, depB_trans q2 rj⟩
  · rintro (e | ⟨m, e, f⟩)
    · exact depB_dir e
    · exact depB_trans (depB_dir e) f
/-- Histories that begin alike depend alike. -/
theorem depB_same {h g : List Nd} {n : Nat} (hd : ∀ i k, i < n → dirB h i k = dirB g i k) : ∀ i, i < n → ∀ k, depB h i k = depB g i k := by
  intro i
  induction i using Nat.strongRecOn with
  | _ i ih =>
    intro hi k
    rw [Bool.eq_iff_iff, depB_iff, depB_iff, hd i k hi]
    constructor
    · rintro (e | ⟨m, e, f⟩)
      · exact .inl e
      · rw [hd i m hi] at e
        exact .inr ⟨m, e, by rw [← ih m (dirB_lt e).1 (by have := (dirB_lt e).1; omega)]; exact f⟩
    · rintro (e | ⟨m, e, f⟩)
      · exact .inl e
      · have hm := (dirB_lt e).1
        rw [← hd i m hi] at e
        exact .inr ⟨m, e, by rw [ih m hm (by omega)]; exact f⟩
theorem dirB_take {h : List Nd} {n i k : Nat} (hn : n ≤ h.length) (hi : i < n) : dirB (h.take n) i k = dirB h i k := by
  unfold dirB
  rw [List.length_take, Nat.min_eq_left hn]
  by_cases hk : k < i
  · have e1 : ndAt (h.take n) i = ndAt h i := by unfold ndAt; rw [List.getD_eq_getElem?_getD, List.getD_eq_getElem?_getD, List.getElem?_take, if_pos hi]
    have e2 : ndAt (h.take n) k = ndAt h k := by unfold ndAt; rw [List.getD_eq_getElem?_getD, List.getD_eq_getElem?_getD, List.getElem?_take, if_pos (by omega)]
    rw [e1, e2, decide_eq_true (show k < i ∧ i < n by omega), decide_eq_true (show k < i ∧ i < h.length by omega)]
  · rw [decide_eq_false (show ¬ (k < i ∧ i < n) by omega), decide_eq_false (show ¬ (k < i ∧ i < h.length) by omega)]
    rfl
theorem depB_take {h : List Nd} {n i : Nat} (hn : n ≤ h.length) (hi : i < n) (k : Nat) : depB (h.take n) i k = depB h i k := depB_same (fun _ _ hi => dirB_take hn hi) i hi k
/-- Of each node those that it depends on, rising. -/
def depL (h : List Nd) (i : Nat) : List Nat := (List.range i).filter (depB h i)
theorem depL_mem {h : List Nd} {i k : Nat} : k ∈ depL h i ↔ depB h i k = true := by
  unfold depL
  rw [List.mem_filter, List.mem_range]
  exact ⟨fun q => q.2, fun q => ⟨(depB_lt q).1, q⟩⟩
/-- Apart: neither depends on the other. -/
def apartB (h : List Nd) (i k : Nat) : Bool := decide (i < h.length ∧ k < h.length) && (!depB h i k && !depB h k i)
/-- Growing in place, one step: nothing is read that has been turned. -/
theorem wsh_place {d : Nat → Nat → Bool} (hd : ∀ i k, d i k = true → k < i) (m i k : Nat) : wsh d (m + 1) m k = wsh d m m k ∧ wsh d (m + 1) i m = wsh d m i m := by
  have hm : wsh d m m m = false := by
    cases e : wsh d m m m
    · rfl
    · exact absurd (wsh_least (R := fun i k => k < i) hd (fun _ _ _ q r => by omega) _ _ _ e) (Nat.lt_irrefl m)
  constructor
  · show (wsh d m m k || (wsh d m m m && wsh d m m k)) = _
    rw [hm]
    simp
  · show (wsh d m i m || (wsh d m i m && wsh d m m m)) = _
    rw [hm]
    simp
/-- The relation in the middle of a step: what stands ahead of a place has grown. -/
def curW (d : Nat → Nat → Bool) (m i k i' k' : Nat) : Bool := if i' < i ∨ (i' = i ∧ k' < k) then wsh d (m + 1) i' k' else wsh d m i' k'
theorem curW_zero (d : Nat → Nat → Bool) (m i' k' : Nat) : curW d m 0 0 i' k' = wsh d m i' k' := by
  unfold curW
  rw [if_neg (by omega)]
theorem curW_row (d : Nat → Nat → Bool) {m i n i' k' : Nat} (hk : k' < n) : curW d m i n i' k' = curW d m (i + 1) 0 i' k' := by
  unfold curW
  by_cases h : i' < i ∨ i' = i
  · rw [if_pos (by omega), if_pos (by omega)]
  · rw [if_neg (by omega), if_neg (by omega)]
theorem curW_end (d : Nat → Nat → Bool) {m n i' k' : Nat} (hi : i' < n) : curW d m n 0 i' k' = wsh d (m + 1) i' k' := by
  unfold curW
  rw [if_pos (.inl hi)]
/-- The two that are read are as they were. -/
theorem curW_left {d : Nat → Nat → Bool} (hd : ∀ i k, d i k = true → k < i) (m i k i' : Nat) : curW d m i k i' m = wsh d m i' m := by
  unfold curW
  split
  · exact (wsh_place hd m i' 0).2
  · rfl
theorem curW_right {d : Nat → Nat → Bool} (hd : ∀ i k, d i k = true → k < i) (m i k k' : Nat) : curW d m i k m k' = wsh d m m k' := by
  unfold curW
  split
  · exact (wsh_place hd m 0 k').1
  · rfl
/-- One place further: nothing else turns. -/
theorem curW_step (d : Nat → Nat → Bool) (m i k i' k' : Nat) : curW d m i (k + 1) i' k' = if i' = i ∧ k' = k then (curW d m i k i k || (wsh d m i m && wsh d m m k)) else curW d m i k i' k' := by
  by_cases h : i' = i ∧ k' = k
  · obtain ⟨rfl, rfl⟩ := h
    rw [if_pos ⟨rfl, rfl⟩]
    unfold curW
    rw [if_pos (by omega), if_neg (by omega)]
    rfl
  · rw [if_neg h]
    unfold curW
    by_cases h2 : i' < i ∨ (i' = i ∧ k' < k)
    · rw [if_pos h2, if_pos (by omega)]
    · rw [if_neg h2, if_neg (by omega)]
theorem dirB_down (h : List Nd) (i k : Nat) (e : dirB h i k = true) : k < i := (dirB_lt e).1
/-- All that a node depends on is ahead of it. -/
theorem depL_all {h : List Nd} {i n : Nat} (hi : i ≤ n) : (List.range n).filter (depB h i) = depL h i := by
  unfold depL
  obtain ⟨k, rfl⟩ := Nat.exists_eq_add_of_le hi
  induction k with
  | zero => rfl
  | succ k ih =>
    have e : depB h i (i + k) = false := by
      cases e : depB h i (i + k)
      · rfl
      · have := (depB_lt e).1
        omega
    rw [← Nat.add_assoc, List.range_succ, List.filter_append, ih (by omega)]
    simp [e]
theorem depL_lt {h : List Nd} {i k : Nat} (e : k ∈ depL h i) : k < i := (depB_lt (depL_mem.1 e)).1
/-- With a node more. -/
theorem dirB_snoc {h : List Nd} (n : Nd) {i k : Nat} (hi : i < h.length) : dirB (h ++ [n]) i k = dirB h i k := by
  have := dirB_take (h := h ++ [n]) (n := h.length) (k := k) (by simp) hi
  rw [List.take_left] at this
  exact this.symm
theorem depB_snoc {h : List Nd} (n : Nd) {i : Nat} (hi : i < h.length) (k : Nat) : depB (h ++ [n]) i k = depB h i k := depB_same (fun _ _ hi => dirB_snoc n hi) i hi k
theorem depL_snoc {h : List Nd} (n : Nd) {i : Nat} (hi : i < h.length) : depL (h ++ [n]) i = depL h i := by
  unfold depL
  congr 1
  funext k
  exact depB_snoc n hi k
end Go.Proofs.Ytmabapbdnafpfaa
