/- What the package reads as a catalogue, purely: breakpoints bounded class by class; it is what the document reads. -/
import Derived.Test.YtbemfomiiikpoaaGreatQct12
import Derived.Test.YtbemfomiiikpoaaGreatCtp12
import Derived.Test.YtbemfomiiikpoaaGreatBit12
namespace Go.Proofs.YtbemfomiiikpoaaGreat
open Go.RowKit

def ctAt (cs : List PC) (i : Nat) : PC := cs.getD i PC.nil
def allC (cs : List PC) (i : Nat) : Int := mskL (ctAt cs i).steps.length
def stA (cs : List PC) (n : Nat) : Nat → Option (List Nat) → Option (List Nat)
  | 0, st => st
  | j + 1, st => cS (allC cs (j / n)) (stA cs n j st)
def brP (cs : List PC) (n j : Nat) (st : Option (List Nat)) (p : Nat) : Int := if p / 4 < n ∧ p % 4 < n ∧ p / 4 * n + p % 4 < j then cV (allC cs (p / 4)) (stA cs n (p / 4 * n + p % 4) st) else 0
theorem brP_zero (cs : List PC) (n : Nat) (st : Option (List Nat)) : brP cs n 0 st = fun _ => 0 := by
  funext p
  unfold brP
  rw [if_neg (by omega)]
theorem brP_next {cs : List PC} {n c d : Nat} {st : Option (List Nat)} (hn : n ≤ 4) (hc : c < n) (hd : d < n) : updB (brP cs n (c * n + d) st) (c * 4 + d) (cV (allC cs c) (stA cs n (c * n + d) st)) = brP cs n (c * n + d + 1) st := by
  funext p
  unfold updB brP
  by_cases hp : p = c * 4 + d
  · subst hp
    rw [if_pos rfl]
    have e1 : (c * 4 + d) / 4 = c := by omega
    have e2 : (c * 4 + d) % 4 = d := by omega
    rw [e1, e2, if_pos ⟨hc, hd, by omega⟩]
  · rw [if_neg hp]
    by_cases h1 : p / 4 < n ∧ p % 4 < n
    · obtain ⟨h2, h3⟩ := h1
      have hne : p / 4 * n + p % 4 ≠ c * n + d := by
        intro e
        apply hp
        have h4 : p = p / 4 * 4 + p % 4 := by omega
        generalize p / 4 = u at *
        generalize p % 4 = v at *
        have hu : u = c := by
          have h5 : n = 1 ∨ n = 2 ∨ n = 3 ∨ n = 4 := by omega
          rcases h5 with rfl | rfl | rfl | rfl <;> omega
        subst hu
        omega
      have hiff : (p / 4 * n + p % 4 < c * n + d) ↔ (p / 4 * n + p % 4 < c * n + d + 1) := by omega
      simp only [h2, h3, true_and, hiff]
    · rw [if_neg (fun h => h1 ⟨h.1, h.2.1⟩), if_neg (fun h => h1 ⟨h.1, h.2.1⟩)]
theorem stA_next {cs : List PC} {n c d : Nat} {st : Option (List Nat)} (hd : d < n) : stA cs n (c * n + d + 1) st = cS (allC cs c) (stA cs n (c * n + d) st) := by
  rw [stA]
  have : (c * n + d) / n = c := by rw [Nat.add_comm, Nat.add_mul_div_right _ _ (by omega), Nat.div_eq_of_lt hd, Nat.zero_add]
  rw [this]
theorem cV_le {m : Int} {st : Option (List Nat)} (hm : 0 ≤ m) : 0 ≤ cV m st ∧ cV m st ≤ m := by
  unfold cV
  match st with
  | none => simp [cntR, hm]
  | some [] => simp [cntR, hm]
  | some (u :: r) =>
    simp only [cntR]
    split
    · next h => simp; omega
    · simp [hm]
theorem cnt_more {m k : Int} {st : Option (List Nat)} {q : List Nat} (h : cS m st = some q) (hk : m ≤ k) : cS k st = some q ∧ cV k st = cV m st := by
  unfold cS cV at *
  match st with
  | none => simp [cntR] at h
  | some [] => simp [cntR] at h
  | some (u :: r) =>
    simp only [cntR] at h ⊢
    split at h
    · next h1 =>
      rw [if_pos h1, if_pos ⟨by omega, by omega⟩]
      exact ⟨h, rfl⟩
    · simp at h
theorem cnt_less {m k : Int} {st : Option (List Nat)} {q : List Nat} (hm : 0 ≤ m) (h : cS k st = some q) (hk : cV k st ≤ m) : cS m st = some q := by
  unfold cS cV at *
  match st with
  | none => simp [cntR] at h
  | some [] => simp [cntR] at h
  | some (u :: r) =>
    simp only [cntR] at h hk ⊢
    split at h
    · next h1 =>
      rw [if_pos h1] at hk
      simp at hk
      rw [if_pos ⟨hm, hk⟩]
      exact h
    · simp at h
variable {cs : List PC} {n : Nat} {st : Option (List Nat)}
theorem stA_some {j : Nat} {r : List Nat} (hcs : ∀ i, allC cs i ≤ 255) (h : stA cs n j st = some r) : stB j st = some r ∧ ∀ i, i ≤ j → stA cs n i st = stB i st ∧ (i < j → cV (allC cs (i / n)) (stA cs n i st) = cV 255 (stB i st)) := by
  induction j generalizing r with
  | zero =>
    refine ⟨h, fun i hi => ?_⟩
    obtain rfl : i = 0 := by omega
    exact ⟨rfl, fun h => by omega⟩
  | succ j ih =>
    rw [stA] at h
    cases hj : stA cs n j st with
    | none => rw [hj] at h; simp [cS, cntR] at h
    | some q =>
      obtain ⟨e1, e2⟩ := ih hj
      obtain ⟨e3, e4⟩ := cnt_more h (hcs (j / n))
      rw [(e2 j (Nat.le_refl _)).1] at e3 e4
      refine ⟨by rw [stB, e3], fun i hi => ?_⟩
      rcases Nat.lt_or_ge i (j + 1) with h1 | h1
      · refine ⟨(e2 i (by omega)).1, fun _ => ?_⟩
        rcases Nat.lt_or_ge i j with h2 | h2
        · exact (e2 i (by omega)).2 h2
        · obtain rfl : i = j := by omega
          rw [(e2 i (by omega)).1, e4]
      · obtain rfl : i = j + 1 := by omega
        exact ⟨by rw [stA, h, stB, e3], fun h => by omega⟩
theorem stB_some {j : Nat} {r : List Nat} (h : stB j st = some r) (hi : ∀ i, i < j → cV 255 (stB i st) ≤ allC cs (i / n)) : stA cs n j st = some r := by
  induction j generalizing r with
  | zero => exact h
  | succ j ih =>
    rw [stB] at h
    cases hj : stB j st with
    | none => rw [hj] at h; simp [cS, cntR] at h
    | some q =>
      have e1 := ih hj (fun i h => hi i (by omega))
      rw [stA, e1]
      rw [hj] at h
      have e2 := hi j (by omega)
      rw [hj] at e2
      exact cnt_less (mskL_nn _) h e2
/-- What the package reads, whether it may be or not; what is left behind it. -/
def xcP (st : Option (List Nat)) : PCt := ⟨lsQ (ctN st) (cS 4 st), brP (lsQ (ctN st) (cS 4 st)) (ctN st) (ctN st * ctN st) (stQ (ctN st) (cS 4 st))⟩
def xcS (st : Option (List Nat)) : Option (List Nat) := stA (lsQ (ctN st) (cS 4 st)) (ctN st) (ctN st * ctN st) (stQ (ctN st) (cS 4 st))
theorem xcP_br (st : Option (List Nat)) (j : Nat) : 0 ≤ (xcP st).b j ∧ (xcP st).b j < (xcP st).most (j / 4) (j % 4) := by
  show 0 ≤ brP _ _ _ _ j ∧ brP _ _ _ _ j < _
  have hp := most_pos (xcP st) (j / 4) (j % 4)
  unfold brP
  split
  · next h =>
    have hm : (xcP st).most (j / 4) (j % 4) = allC (lsQ (ctN st) (cS 4 st)) (j / 4) + 1 := by
      unfold PCt.most
      rw [if_pos (by show j / 4 < (lsQ (ctN st) (cS 4 st)).length ∧ j % 4 < (lsQ (ctN st) (cS 4 st)).length; rw [lsQ_len]; exact ⟨h.1, h.2.1⟩)]
      show _ = mskL _ + 1
      unfold mskL
      have : (xcP st).at (j / 4) = ctAt (lsQ (ctN st) (cS 4 st)) (j / 4) := rfl
      rw [this]
      omega
    have := cV_le (m := allC (lsQ (ctN st) (cS 4 st)) (j / 4)) (st := stA (lsQ (ctN st) (cS 4 st)) (ctN st) (j / 4 * ctN st + j % 4) (stQ (ctN st) (cS 4 st))) (mskL_nn _)
    omega
  · omega
theorem lsQ_few (k : Nat) (st : Option (List Nat)) : ∀ c ∈ lsQ k st, c.ok = true ∨ c = PC.zero := by
  induction k with
  | zero => intro c hc; cases hc
  | succ k ih =>
    intro c hc
    rw [lsQ, List.mem_append, List.mem_singleton] at hc
    rcases hc with hc | rfl
    · exact ih c hc
    · cases h : clR (stQ k st) with
      | none => exact .inr rfl
      | some q =>
        left
        unfold clR at h
        split at h
        · next h1 =>
          cases h2 : fS (clS (stQ k st)) with
          | none => rw [h2] at h; simp at h
          | some z =>
            rw [h2] at h
            simp at h
            subst h
            simpa using h1
        · cases h
theorem ok_steps4 {c : PC} (h : c.ok = true ∨ c = PC.zero) : c.steps.length ≤ 4 := by
  rcases h with h | rfl
  · unfold PC.ok at h
    simp only [Bool.and_eq_true, decide_eq_true_eq] at h
    exact h.2.2.1.2
  · decide
theorem ctAt_mem {cs : List PC} (i : Nat) : ctAt cs i ∈ cs ∨ ctAt cs i = PC.nil := by
  unfold ctAt
  rcases Nat.lt_or_ge i cs.length with h | h
  · left
    simp [List.getD, h]
  · right
    simp [List.getD, List.getElem?_eq_none h]
theorem allC_lsQ (k : Nat) (st : Option (List Nat)) (i : Nat) : allC (lsQ k st) i ≤ 7 := by
  unfold allC
  refine mskL_le ?_
  rcases ctAt_mem (cs := lsQ k st) i with h | h
  · exact ok_steps4 (lsQ_few k st _ h)
  · rw [h]
    decide
/-- The package reads what the document reads. -/
theorem xc_ct (st : Option (List Nat)) : ctR st = if (xcP st).ok = true then (xcS st).map fun r => (xcP st, r) else none := by
  have hn4 := ctN_le st
  have h255 : ∀ i, allC (lsQ (ctN st) (cS 4 st)) i ≤ 255 := fun i => Int.le_trans (allC_lsQ _ _ i) (by decide)
  cases hA : xcS st with
  | some r =>
    obtain ⟨e1, e2⟩ := stA_some h255 hA
    have e3 : (ctP st).b = (xcP st).b := by
      funext p
      show brR _ _ _ p = brP _ _ _ _ p
      unfold brR brP
      by_cases h : p / 4 < ctN st ∧ p % 4 < ctN st ∧ p / 4 * ctN st + p % 4 < ctN st * ctN st
      · rw [if_pos h, if_pos h]
        have e4 := (e2 (p / 4 * ctN st + p % 4) (by omega)).2 h.2.2
        have e5 : (p / 4 * ctN st + p % 4) / ctN st = p / 4 := by rw [Nat.add_comm, Nat.add_mul_div_right _ _ (by omega), Nat.div_eq_of_lt h.2.1, Nat.zero_add]
        rw [e5] at e4
        exact e4.symm
      · rw [if_neg h, if_neg h]
    have e6 : ctP st = xcP st := by
      show PCt.mk _ _ = PCt.mk _ _
      exact congrArg _ e3
    rw [ctR, e6, show ctS st = some r from e1]
  | none =>
    rw [ctR]
    have e0 : (if (xcP st).ok = true then (none : Option (List Nat)).map fun r => (xcP st, r) else none) = none := by split <;> rfl
    rw [e0]
    split
    · next hok =>
      cases hB : ctS st with
      | none => rfl
      | some r =>
        exfalso
        have h3 : ∀ j, j < 16 → (ctP st).b j < (ctP st).most (j / 4) (j % 4) := fun j hj => by
          unfold PCt.ok at hok
          simp only [Bool.and_eq_true] at hok
          have := range_all_at hok.2.2 hj
          unfold brOkAt at this
          exact (of_decide_eq_true this).2
        have e7 : stA (lsQ (ctN st) (cS 4 st)) (ctN st) (ctN st * ctN st) (stQ (ctN st) (cS 4 st)) = some r := by
          refine stB_some hB (fun i hi => ?_)
          have hn0 : 0 < ctN st := by
            rcases Nat.eq_zero_or_pos (ctN st) with h | h
            · rw [h] at hi
              omega
            · exact h
          have i1 : i / ctN st < ctN st := Nat.div_lt_of_lt_mul hi
          have i2 : i % ctN st < ctN st := Nat.mod_lt _ hn0
          have i3 : i / ctN st * ctN st + i % ctN st = i := Nat.div_add_mod' i _
          have h4 := h3 (i / ctN st * 4 + i % ctN st) (by omega)
          have e1 : (i / ctN st * 4 + i % ctN st) / 4 = i / ctN st := by omega
          have e2 : (i / ctN st * 4 + i % ctN st) % 4 = i % ctN st := by omega
          have e8 : (ctP st).b (i / ctN st * 4 + i % ctN st) = cV 255 (stB i (stQ (ctN st) (cS 4 st))) := by
            show brR _ _ _ _ = _
            unfold brR
            rw [e1, e2, if_pos ⟨i1, i2, by omega⟩, i3]
          rw [e8, e1, e2] at h4
          have e9 : (ctP st).most (i / ctN st) (i % ctN st) = allC (lsQ (ctN st) (cS 4 st)) (i / ctN st) + 1 := by
            unfold PCt.most
            rw [if_pos (by show i / ctN st < (lsQ (ctN st) (cS 4 st)).length ∧ i % ctN st < (lsQ (ctN st) (cS 4 st)).length; rw [lsQ_len]; exact ⟨i1, i2⟩)]
            show _ = mskL _ + 1
            unfold mskL
            have : (ctP st).at (i / ctN st) = ctAt (lsQ (ctN st) (cS 4 st)) (i / ctN st) := rfl
            rw [this]
            omega
          omega
        rw [show xcS st = _ from e7] at hA
        cases hA
    · rfl
end Go.Proofs.YtbemfomiiikpoaaGreat
