/- The graph of a history, purely: its arcs, ways along them; more breakpoints, beginnings and nodes more. -/
import Derived.Test.YtmeimhpllemjfaaGreatDep15
import Derived.BigQuiet
import Derived.Test.YtmeimhpllemjfaaGreatCtp12
namespace Go.Proofs.YtmeimhpllemjfaaGreat
open Go.RowKit

theorem firstP_congr {p q : Nat → Bool} {n : Nat} (h : ∀ k, k < n → p k = q k) : firstP p n = firstP q n := by
 induction n with
 | zero => rfl
 | succ n ih => unfold firstP; rw [ih (fun k hk => h k (by omega)), h n (by omega)]
inductive Way (d : Nat → Nat → Bool) : Nat → Nat → Prop
 | one {i k : Nat} : d i k = true → Way d i k
 | more {i j k : Nat} : Way d i j → d j k = true → Way d i k
theorem Way.trans {d : Nat → Nat → Bool} {i j k : Nat} (h : Way d i j) (g : Way d j k) : Way d i k := by
 induction g with
 | one e => exact .more h e
 | more _ e ih => exact .more ih e
theorem Way.mono {d e : Nat → Nat → Bool} (hd : ∀ i k, d i k = true → Way e i k) {i k : Nat} (h : Way d i k) : Way e i k := by
 induction h with
 | one q => exact hd _ _ q
 | more _ q ih => exact ih.trans (hd _ _ q)
theorem way_iff {d : Nat → Nat → Bool} {n : Nat} (hd : ∀ i k, d i k = true → i < n ∧ k < n) {i k : Nat} : wsh d n i k = true ↔ Way d i k := by
 constructor
 ·exact wsh_least (R := Way d) (fun _ _ q => .one q) (fun _ _ _ => Way.trans) n i k
 ·intro h
  induction h with
  | one q => exact wsh_up (m := 0) (Nat.zero_le _) q
  | more _ q ih => exact wsh_closed n (hd _ _ q).1 ih (wsh_up (m := 0) (Nat.zero_le _) q)
theorem Way.first {d : Nat → Nat → Bool} {i k : Nat} (h : Way d i k) : ∃ j, d i j = true := by
 induction h with
 | one e => exact ⟨_, e⟩
 | more _ _ ih => exact ih
def ownA (h : List Nd) (i k : Nat) : Bool := decide (k < h.length) && decide (lastN h (ndAt h k).saga k = i + 1)
def depO (h : List Nd) (i k : Nat) : Bool := depB h i k && decide ((ndAt h k).saga ≠ (ndAt h i).saga)
def lastU (x : PCt) (h : List Nd) (k : Nat) (d : Int) : Int := lastP (fun m => inN x h k m d) h.length
def firstU (x : PCt) (h : List Nd) (k : Nat) (d : Int) : Int := firstP (fun m => inN x h k m d) h.length
def arcB (x : PCt) (h : List Nd) (a b : Nat) : Nat → Bool
 | 1 => ownA h a b
 | 2 => depO h b a
 | 3 => (List.range h.length).any fun k => depO h b k && decide (lastU x h k (ndAt h b).cls = (a : Int))
 | 4 => (List.range h.length).any fun i => depO h i a && decide (firstU x h i (ndAt h a).cls = (b : Int))
 | _ => false
def arcA (x : PCt) (h : List Nd) (a b : Nat) : Bool := arcB x h a b 1 || (arcB x h a b 2 || (arcB x h a b 3 || arcB x h a b 4))
theorem arcA_iff {x : PCt} {h : List Nd} {a b : Nat} : arcA x h a b = true ↔ ownA h a b = true ∨ depO h b a = true ∨ (∃ k, depO h b k = true ∧ lastU x h k (ndAt h b).cls = (a : Int)) ∨ ∃ i, depO h i a = true ∧ firstU x h i (ndAt h a).cls = (b : Int) := by
 unfold arcA arcB
 simp only [Bool.or_eq_true, List.any_eq_true, List.mem_range, Bool.and_eq_true, decide_eq_true_eq]
 constructor
 ·rintro (e | e | ⟨k, hk, e, f⟩ | ⟨i, hi, e, f⟩)
  ·exact .inl e
  ·exact .inr (.inl e)
  ·exact .inr (.inr (.inl ⟨k, e, f⟩))
  ·exact .inr (.inr (.inr ⟨i, e, f⟩))
 ·rintro (e | e | ⟨k, e, f⟩ | ⟨i, e, f⟩)
  ·exact .inl e
  ·exact .inr (.inl e)
  ·refine .inr (.inr (.inl ⟨k, ?_, e, f⟩))
   have e1 := e
   unfold depO at e1
   rw [Bool.and_eq_true] at e1
   have := depB_lt e1.1
   omega
  ·refine .inr (.inr (.inr ⟨i, ?_, e, f⟩))
   have e1 := e
   unfold depO at e1
   rw [Bool.and_eq_true] at e1
   exact (depB_lt e1.1).2
theorem depO_lt {h : List Nd} {i k : Nat} (e : depO h i k = true) : k < i ∧ i < h.length ∧ (ndAt h k).saga ≠ (ndAt h i).saga := by
 unfold depO at e
 rw [Bool.and_eq_true, decide_eq_true_eq] at e
 exact ⟨(depB_lt e.1).1, (depB_lt e.1).2, e.2⟩
theorem ownA_lt {h : List Nd} {i k : Nat} (e : ownA h i k = true) : i < k ∧ k < h.length ∧ (ndAt h i).saga = (ndAt h k).saga := by
 unfold ownA at e
 rw [Bool.and_eq_true, decide_eq_true_eq, decide_eq_true_eq] at e
 have h1 := lastN_le h (ndAt h k).saga k
 have h2 := lastN_saga h (ndAt h k).saga k (by omega)
 rw [e.2, Nat.add_sub_cancel] at h2
 exact ⟨by omega, e.1, h2⟩
theorem inN_self (x : PCt) (h : List Nd) (k : Nat) (d : Int) : inN x h k k d = true := by
 unfold inN
 simp
theorem inN_saga {x : PCt} {h : List Nd} {k m : Nat} {d : Int} (e : inN x h k m d = true) : (ndAt h k).saga = (ndAt h m).saga := by
 unfold inN inU at e
 simp only [Bool.or_eq_true, decide_eq_true_eq, Bool.and_eq_true] at e
 rcases e with e | e
 ·rw [e]
 ·exact e.1
theorem lastP_is {p : Nat → Bool} {n k : Nat} (hk : k < n) (hp : p k = true) : ∃ e : Nat, lastP p n = (e : Int) ∧ k ≤ e ∧ e < n ∧ p e = true ∧ ∀ j, e < j → j < n → p j = false := by
 induction n with
 | zero => omega
 | succ n ih =>
  by_cases e : p n = true
  ·exact ⟨n, by unfold lastP; rw [if_pos e], by omega, by omega, e, fun j h1 h2 => by omega⟩
  ·have hkn : k < n := by
    rcases Nat.lt_or_ge k n with h | h
    ·exact h
    ·have : k = n := by omega
     rw [this] at hp
     exact absurd hp e
   obtain ⟨m, h1, h2, h3, h4, h5⟩ := ih hkn
   refine ⟨m, by unfold lastP; rw [if_neg e]; exact h1, h2, by omega, h4, fun j hj1 hj2 => ?_⟩
   by_cases ej : j = n
   ·rw [ej]
    simpa using e
   ·exact h5 j hj1 (by omega)
theorem firstP_is {p : Nat → Bool} {n k : Nat} (hk : k < n) (hp : p k = true) : ∃ e : Nat, firstP p n = (e : Int) ∧ e ≤ k ∧ p e = true ∧ ∀ j, j < e → p j = false := by
 induction k using Nat.strongRecOn with
 | _ k ih =>
  by_cases h : ∃ j, j < k ∧ p j = true
  ·obtain ⟨j, hj, hpj⟩ := h
   obtain ⟨e, h1, h2, h3, h4⟩ := ih j hj (by omega) hpj
   exact ⟨e, h1, by omega, h3, h4⟩
  ·have hno : ∀ j, j < k → p j = false := fun j hj => by
    cases q : p j
    ·rfl
    ·exact absurd ⟨j, hj, q⟩ h
   exact ⟨k, firstP_at hk hp hno, Nat.le_refl _, hp, hno⟩
theorem arcA_lt {x : PCt} {h : List Nd} (a b : Nat) (e : arcA x h a b = true) : a < h.length ∧ b < h.length := by
 rcases arcA_iff.1 e with e | e | ⟨k, e, f⟩ | ⟨i, e, f⟩
 ·have := ownA_lt e
  omega
 ·have := depO_lt e
  omega
 ·have h1 := depO_lt e
  obtain ⟨m, h2, _, h3, _⟩ := lastP_is (p := fun m => inN x h k m (ndAt h b).cls) (n := h.length) (k := k) (by omega) (inN_self _ _ _ _)
  unfold lastU at f
  rw [h2] at f
  omega
 ·have h1 := depO_lt e
  obtain ⟨m, h2, h3, _⟩ := firstP_is (p := fun m => inN x h i m (ndAt h a).cls) (n := h.length) (k := i) (by omega) (inN_self _ _ _ _)
  unfold firstU at f
  rw [h2] at f
  omega
theorem own_chain (h : List Nd) : ∀ b, b < h.length → ∀ a, a < b → (ndAt h a).saga = (ndAt h b).saga → Way (ownA h) a b := by
 intro b
 induction b using Nat.strongRecOn with
 | _ b ih =>
  intro hb a hab hs
  have h1 := lastN_ge h (ndAt h b).saga b hab hs
  have h2 := lastN_le h (ndAt h b).saga b
  have h3 := lastN_saga h (ndAt h b).saga b (by omega)
  have ho : ownA h (lastN h (ndAt h b).saga b - 1) b = true := by
   unfold ownA
   rw [decide_eq_true hb, Bool.true_and]
   exact decide_eq_true (by omega)
  by_cases e : a = lastN h (ndAt h b).saga b - 1
  ·rw [e]
   exact .one ho
  ·exact .more (ih _ (by omega) (by omega) a (by omega) (by rw [hs, h3])) ho
theorem own_arc {x : PCt} {h : List Nd} {a b : Nat} (e : ownA h a b = true) : arcA x h a b = true := arcA_iff.2 (.inl e)
theorem saga_way (x : PCt) {h : List Nd} {a b : Nat} (hb : b < h.length) (hab : a < b) (hs : (ndAt h a).saga = (ndAt h b).saga) : Way (arcA x h) a b := (own_chain h b hb a hab hs).mono (fun _ _ e => .one (own_arc e))
def wayB (x : PCt) (h : List Nd) (i k : Nat) : Bool := wsh (arcA x h) h.length i k
theorem wayB_iff {x : PCt} {h : List Nd} {i k : Nat} : wayB x h i k = true ↔ Way (arcA x h) i k := way_iff arcA_lt
def freeB (x : PCt) (h : List Nd) : Bool := (List.range h.length).all fun i => !wayB x h i i
def goodH (x : PCt) (h : List Nd) : Bool := mayH x h && freeB x h
theorem freeB_iff {x : PCt} {h : List Nd} : freeB x h = true ↔ ∀ i, ¬ Way (arcA x h) i i := by
 unfold freeB
 rw [List.all_eq_true]
 constructor
 ·intro f i hw
  have hi : i < h.length := by
   obtain ⟨j, hj⟩ := hw.first
   exact (arcA_lt _ _ hj).1
  have := f i (List.mem_range.2 hi)
  rw [wayB_iff.2 hw] at this
  cases this
 ·intro f i _
  cases q : wayB x h i i
  ·rfl
  ·exact absurd (wayB_iff.1 q) (f i)
end Go.Proofs.YtmeimhpllemjfaaGreat
/- The graph of a history, purely: its beginnings; a node more; in which order its nodes are told. -/
namespace Go.Proofs.YtmeimhpllemjfaaGreat
open Go.RowKit

theorem ndAt_tk (h : List Nd) {n i : Nat} (hi : i < n) : ndAt (h.take n) i = ndAt h i := by
 unfold ndAt
 rw [List.getD_eq_getElem?_getD, List.getD_eq_getElem?_getD, List.getElem?_take, if_pos hi]
theorem lastN_tk (h : List Nd) (s : Int) {n : Nat} : ∀ i, i ≤ n → lastN (h.take n) s i = lastN h s i
 | 0, _ => rfl
 | i + 1, hi => by
  unfold lastN
  rw [ndAt_tk h (show i < n by omega), lastN_tk h s i (by omega)]
end Go.Proofs.YtmeimhpllemjfaaGreat
/- In which order nodes are told: again and again the least one that is ready. -/
namespace Go.Proofs.YtmeimhpllemjfaaGreat
open Go.RowKit

theorem cntB_sub {p q : Nat → Bool} (hpq : ∀ i, p i = true → q i = true) {k n : Nat} (hk : k < n) (hp : p k = false) (hq : q k = true) : cntB p n < cntB q n := by
 induction n with
 | zero => omega
 | succ n ih =>
  unfold cntB
  have hle : cntB p n ≤ cntB q n := cntB_mono n hpq
  by_cases e : k = n
  ·subst e
   rw [hp, hq]
   simp
   omega
  ·have := ih (by omega)
   by_cases e2 : p n = true
   ·rw [if_pos e2, if_pos (hpq n e2)]
    omega
   ·rw [if_neg e2]
    omega
def readyB (d : Nat → Nat → Bool) (n : Nat) (t : List Nat) (i : Nat) : Bool := !decide (i ∈ t) && (List.range n).all fun k => decide (k ∈ t) || !d k i
theorem readyB_iff {d : Nat → Nat → Bool} {n : Nat} {t : List Nat} {i : Nat} : readyB d n t i = true ↔ i ∉ t ∧ ∀ k, k < n → d k i = true → k ∈ t := by
 unfold readyB
 rw [Bool.and_eq_true, List.all_eq_true]
 simp only [Bool.not_eq_true', decide_eq_false_iff_not, List.mem_range, Bool.or_eq_true, decide_eq_true_eq]
 constructor
 ·rintro ⟨h1, h2⟩
  exact ⟨h1, fun k hk hd => (h2 k hk).resolve_right (by rw [hd]; simp)⟩
 ·rintro ⟨h1, h2⟩
  refine ⟨h1, fun k hk => ?_⟩
  cases q : d k i
  ·exact .inr rfl
  ·exact .inl (h2 k hk q)
def nextR (d : Nat → Nat → Bool) (n : Nat) (t : List Nat) : Int := firstP (readyB d n t) n
def ordT (d : Nat → Nat → Bool) (n : Nat) : Nat → List Nat
 | 0 => []
 | j + 1 => ordT d n j ++ [(nextR d n (ordT d n j)).toNat]
theorem ordT_len (d : Nat → Nat → Bool) (n j : Nat) : (ordT d n j).length = j := by
 induction j with
 | zero => rfl
 | succ j ih => rw [ordT, List.length_append, ih]; rfl
theorem some_ready {d : Nat → Nat → Bool} {n : Nat} {t : List Nat} (htr : ∀ i j k, d i j = true → d j k = true → d i k = true) (hac : ∀ i, d i i = false) {i : Nat} (hi : i < n) (ht : i ∉ t) : ∃ j, j < n ∧ readyB d n t j = true := by
 suffices H : ∀ c i, i < n → i ∉ t → cntB (fun k => d k i && !decide (k ∈ t)) n = c → ∃ j, j < n ∧ readyB d n t j = true from H _ i hi ht rfl
 intro c
 induction c using Nat.strongRecOn with
 | _ c ih =>
  intro i hi ht hc
  by_cases h : ∃ k, k < n ∧ d k i = true ∧ k ∉ t
  ·obtain ⟨k, hk, hd, hkt⟩ := h
   refine ih (cntB (fun m => d m k && !decide (m ∈ t)) n) ?_ k hk hkt rfl
   rw [← hc]
   exact cntB_sub (p := fun m => d m k && !decide (m ∈ t)) (q := fun m => d m i && !decide (m ∈ t)) (fun m hm => by
    simp only [Bool.and_eq_true] at hm ⊢
    exact ⟨htr m k i hm.1 hd, hm.2⟩) hk (by simp [hac k]) (by simp [hd, hkt])
  ·exact ⟨i, hi, readyB_iff.2 ⟨ht, fun k hk hd => Classical.byContradiction fun q => h ⟨k, hk, hd, q⟩⟩⟩
structure Told (d : Nat → Nat → Bool) (n : Nat) (t : List Nat) : Prop where
 nodup : t.Nodup
 lt : ∀ i ∈ t, i < n
 down : ∀ i k, i ∈ t → k < n → d k i = true → k ∈ t
theorem Told.nil (d : Nat → Nat → Bool) (n : Nat) : Told d n [] := ⟨List.nodup_nil, fun i h => (by cases h), fun i k h => (by cases h)⟩
theorem Told.more {d : Nat → Nat → Bool} {n : Nat} {t : List Nat} (h : Told d n t) {i : Nat} (hi : i < n) (hr : readyB d n t i = true) : Told d n (t ++ [i]) := by
 obtain ⟨h1, h2⟩ := readyB_iff.1 hr
 refine ⟨?_, fun j hj => ?_, fun j k hj hk hd => ?_⟩
 ·rw [List.nodup_append]
  exact ⟨h.nodup, by simp, fun a ha b hb => by rw [List.mem_singleton.1 hb]; rintro rfl; exact h1 ha⟩
 ·rcases List.mem_append.1 hj with q | q
  ·exact h.lt j q
  ·rw [List.mem_singleton.1 q]; exact hi
 ·rw [List.mem_append]
  rcases List.mem_append.1 hj with q | q
  ·exact .inl (h.down j k q hk hd)
  ·rw [List.mem_singleton.1 q] at hd
   exact .inl (h2 k hk hd)
theorem all_len : ∀ (n : Nat) (t : List Nat), (∀ i, i < n → i ∈ t) → n ≤ t.length
 | 0, _, _ => Nat.zero_le _
 | n + 1, t, h => by
  have h1 := all_len n (t.erase n) (fun i hi => (List.mem_erase_of_ne (by omega)).2 (h i (by omega)))
  have h2 := List.length_erase_of_mem (h n (by omega))
  have h3 := List.length_pos_of_mem (h n (by omega))
  omega
theorem Told.room {d : Nat → Nat → Bool} {n : Nat} {t : List Nat} (_ : Told d n t) (hl : t.length < n) : ∃ i, i < n ∧ i ∉ t := by
 apply Classical.byContradiction
 intro hno
 have hall : ∀ i, i < n → i ∈ t := fun i hi => Classical.byContradiction fun q => hno ⟨i, hi, q⟩
 have h1 := all_len n t hall
 omega
theorem next_is {d : Nat → Nat → Bool} {n : Nat} {t : List Nat} (htr : ∀ i j k, d i j = true → d j k = true → d i k = true) (hac : ∀ i, d i i = false) (h : Told d n t) (hl : t.length < n) : ∃ e : Nat, nextR d n t = (e : Int) ∧ e < n ∧ readyB d n t e = true ∧ ∀ j, j < e → readyB d n t j = false := by
 obtain ⟨i, hi, hit⟩ := h.room hl
 obtain ⟨j, hj, hr⟩ := some_ready htr hac hi hit
 obtain ⟨e, h1, h2, h3, h4⟩ := firstP_is hj hr
 exact ⟨e, h1, by omega, h3, h4⟩
theorem ordT_told {d : Nat → Nat → Bool} {n : Nat} (htr : ∀ i j k, d i j = true → d j k = true → d i k = true) (hac : ∀ i, d i i = false) : ∀ j, j ≤ n → Told d n (ordT d n j)
 | 0, _ => Told.nil d n
 | j + 1, hj => by
  have ih := ordT_told (n := n) htr hac j (by omega)
  have hln : (ordT d n j).length < n := by rw [ordT_len]; omega
  obtain ⟨e, h1, h2, h3, _⟩ := next_is htr hac ih hln
  rw [ordT, h1, Int.toNat_natCast]
  exact ih.more h2 h3
theorem down_way {a : Nat → Nat → Bool} {n : Nat} {t : List Nat} (ha : ∀ i k, a i k = true → i < n ∧ k < n) (hd : ∀ i k, i ∈ t → k < n → a k i = true → k ∈ t) {i k : Nat} (hw : Way a k i) (hi : i ∈ t) : k ∈ t := by
 induction hw with
 | one q => exact hd _ _ hi (ha _ _ q).1 q
 | more _ q ih => exact ih (hd _ _ hi (ha _ _ q).1 q)
theorem ready_way {a w : Nat → Nat → Bool} {n : Nat} {t : List Nat} (ha : ∀ i k, a i k = true → i < n ∧ k < n) (hw : ∀ i k, w i k = true ↔ Way a i k) (hd : ∀ i k, i ∈ t → k < n → a k i = true → k ∈ t) (i : Nat) : readyB w n t i = readyB a n t i := by
 rw [Bool.eq_iff_iff, readyB_iff, readyB_iff]
 refine and_congr_right fun _ => ⟨fun h k hk q => h k hk ((hw k i).2 (.one q)), fun h k hk q => ?_⟩
 cases (hw k i).1 q with
 | one q => exact h k hk q
 | more g q => exact down_way ha hd g (h _ (ha _ _ q).1 q)
theorem firstP_eq {p q : Nat → Bool} {n : Nat} (h : ∀ k, p k = q k) : firstP p n = firstP q n := firstP_congr fun k _ => h k
theorem ordT_way {a w : Nat → Nat → Bool} {n : Nat} (ha : ∀ i k, a i k = true → i < n ∧ k < n) (hw : ∀ i k, w i k = true ↔ Way a i k) (hac : ∀ i, w i i = false) : ∀ j, j ≤ n → ordT w n j = ordT a n j
 | 0, _ => rfl
 | j + 1, hj => by
  have ih := ordT_way ha hw hac j (by omega)
  have ht := ordT_told (d := w) (n := n) (fun i j k h1 h2 => (hw i k).2 (((hw i j).1 h1).trans ((hw j k).1 h2))) hac j (by omega)
  rw [ordT, ordT, ← ih]
  congr 3
  exact firstP_eq fun k => ready_way ha hw (fun i k hi hk q => ht.down i k hi hk ((hw k i).2 (.one q))) k
end Go.Proofs.YtmeimhpllemjfaaGreat
/- Arcs as they lie; all arcs in order. -/
namespace Go.Proofs.YtmeimhpllemjfaaGreat
open Go.RowKit

def arcC (t : Nat × Nat × Nat) : List Value := [.int .i64 (t.1 : Int), .int .i64 (t.2.1 : Int), .int .i64 (t.2.2 : Int)]
theorem arcC_len (t : Nat × Nat × Nat) : (arcC t).length = 3 := rfl
theorem arcs_one (l : List (Nat × Nat × Nat)) : ∀ u ∈ l.flatMap arcC, u.oneCell' = true := by
 intro u hu
 obtain ⟨t, _, h⟩ := List.mem_flatMap.1 hu
 simp [arcC] at h
 rcases h with rfl | rfl | rfl <;> rfl
theorem Sl.arc {w : World} {B : Nat} {A : Option Addr} {l : List (Nat × Nat × Nat)} (h : Sl w B A (l.flatMap arcC)) {k : Nat} (hk : k < l.length) :
  ∃ ad, A = some ad ∧ ad.block < B ∧ w.cell? (ad.add (k * 3)) = some (.int .i64 (l[k].1 : Int)) ∧ w.cell? ⟨(ad.add (k * 3)).block, (ad.add (k * 3)).off + 1, none⟩ = some (.int .i64 (l[k].2.1 : Int)) ∧ w.cell? ⟨(ad.add (k * 3)).block, (ad.add (k * 3)).off + 2, none⟩ = some (.int .i64 (l[k].2.2 : Int)) := by
 obtain ⟨ad, e, hb, hc⟩ := h.row 3 arcC_len hk (by omega)
 exact ⟨ad, e, hb, hc 0 _ rfl, hc 1 _ rfl, hc 2 _ rfl⟩
def kL (p : Nat → Bool) : Nat → List Nat
 | 0 => []
 | m + 1 => kL p m ++ (if 1 ≤ m ∧ p m = true then [m] else [])
def cellA (p : Nat → Nat → Nat → Bool) (i k m : Nat) : List (Nat × Nat × Nat) := (kL (p i k) m).map fun j => (i, k, j)
def rowA (p : Nat → Nat → Nat → Bool) (i k : Nat) : List (Nat × Nat × Nat) := (List.range k).flatMap fun k' => cellA p i k' 5
def allA (p : Nat → Nat → Nat → Bool) (n i : Nat) : List (Nat × Nat × Nat) := (List.range i).flatMap fun i' => rowA p i' n
def arcsL (x : PCt) (h : List Nd) : List (Nat × Nat × Nat) := allA (arcB x h) h.length h.length
theorem cellA_step (p : Nat → Nat → Nat → Bool) (i k m : Nat) : cellA p i k (m + 1) = cellA p i k m ++ (if 1 ≤ m ∧ p i k m = true then [(i, k, m)] else []) := by
 unfold cellA
 rw [kL, List.map_append]
 split <;> rfl
theorem rowA_step (p : Nat → Nat → Nat → Bool) (i k : Nat) : rowA p i (k + 1) = rowA p i k ++ cellA p i k 5 := by
 unfold rowA
 rw [List.range_succ, List.flatMap_append]
 simp
theorem allA_step (p : Nat → Nat → Nat → Bool) (n i : Nat) : allA p n (i + 1) = allA p n i ++ rowA p i n := by
 unfold allA
 rw [List.range_succ, List.flatMap_append]
 simp
theorem kL_mem {p : Nat → Bool} {m j : Nat} : j ∈ kL p m ↔ j < m ∧ 1 ≤ j ∧ p j = true := by
 induction m with
 | zero => simp [kL]
 | succ m ih =>
  rw [kL, List.mem_append, ih]
  by_cases e : 1 ≤ m ∧ p m = true
  ·rw [if_pos e, List.mem_singleton]
   constructor
   ·rintro (⟨h1, h2⟩ | h)
    ·exact ⟨by omega, h2⟩
    ·rw [h]; exact ⟨by omega, e⟩
   ·rintro ⟨h1, h2⟩
    by_cases q : j = m
    ·exact .inr q
    ·exact .inl ⟨by omega, h2⟩
  ·rw [if_neg e]
   constructor
   ·rintro (⟨h1, h2⟩ | h)
    ·exact ⟨by omega, h2⟩
    ·cases h
   ·rintro ⟨h1, h2⟩
    by_cases q : j = m
    ·rw [q] at h2
     exact absurd h2 e
    ·exact .inl ⟨by omega, h2⟩
theorem allA_mem {p : Nat → Nat → Nat → Bool} {n i : Nat} {t : Nat × Nat × Nat} : t ∈ allA p n i ↔ t.1 < i ∧ t.2.1 < n ∧ t.2.2 < 5 ∧ 1 ≤ t.2.2 ∧ p t.1 t.2.1 t.2.2 = true := by
 obtain ⟨a, b, m⟩ := t
 unfold allA rowA cellA
 simp only [List.mem_flatMap, List.mem_range, List.mem_map, Prod.mk.injEq]
 constructor
 ·rintro ⟨i', h1, k', h2, j, h3, rfl, rfl, rfl⟩
  have := kL_mem.1 h3
  exact ⟨h1, h2, this⟩
 ·rintro ⟨h1, h2, h3⟩
  exact ⟨a, h1, b, h2, m, kL_mem.2 h3, rfl, rfl, rfl⟩
theorem kL_congr {p q : Nat → Bool} (h : ∀ m, 1 ≤ m → m < 5 → p m = q m) : ∀ m, m ≤ 5 → kL p m = kL q m
 | 0, _ => rfl
 | m + 1, hm => by
  rw [kL, kL, kL_congr h m (by omega)]
  by_cases e : 1 ≤ m
  ·rw [h m e (by omega)]
  ·rw [if_neg (fun q => e q.1), if_neg (fun q => e q.1)]
theorem allA_congr {p q : Nat → Nat → Nat → Bool} (h : ∀ a b m, 1 ≤ m → m < 5 → p a b m = q a b m) (n i : Nat) : allA p n i = allA q n i := by
 unfold allA rowA cellA
 congr 1
 funext i'
 congr 1
 funext k'
 rw [kL_congr (h i' k') 5 (Nat.le_refl 5)]
theorem any_arc (x : PCt) (h : List Nd) {a b : Nat} (ha : a < h.length) (hb : b < h.length) : ((arcsL x h).any fun t => decide (t.1 = a ∧ t.2.1 = b)) = arcA x h a b := by
 rw [Bool.eq_iff_iff, List.any_eq_true]
 unfold arcsL
 constructor
 ·rintro ⟨⟨a', b', m⟩, ht, e⟩
  rw [decide_eq_true_eq] at e
  obtain ⟨rfl, rfl⟩ := e
  obtain ⟨_, _, h3, h4, h5⟩ := allA_mem.1 ht
  dsimp only at h3 h4 h5
  unfold arcA
  rw [Bool.or_eq_true, Bool.or_eq_true, Bool.or_eq_true]
  rcases (show m = 1 ∨ m = 2 ∨ m = 3 ∨ m = 4 by omega) with rfl | rfl | rfl | rfl
  ·exact .inl h5
  ·exact .inr (.inl h5)
  ·exact .inr (.inr (.inl h5))
  ·exact .inr (.inr (.inr h5))
 ·intro e
  unfold arcA at e
  rw [Bool.or_eq_true, Bool.or_eq_true, Bool.or_eq_true] at e
  rcases e with e | e | e | e
  ·exact ⟨(a, b, 1), allA_mem.2 ⟨ha, hb, show (1 : Nat) < 5 by decide, show (1 : Nat) ≤ 1 by decide, e⟩, by simp⟩
  ·exact ⟨(a, b, 2), allA_mem.2 ⟨ha, hb, show (2 : Nat) < 5 by decide, show (1 : Nat) ≤ 2 by decide, e⟩, by simp⟩
  ·exact ⟨(a, b, 3), allA_mem.2 ⟨ha, hb, show (3 : Nat) < 5 by decide, show (1 : Nat) ≤ 3 by decide, e⟩, by simp⟩
  ·exact ⟨(a, b, 4), allA_mem.2 ⟨ha, hb, show (4 : Nat) < 5 by decide, show (1 : Nat) ≤ 4 by decide, e⟩, by simp⟩
theorem arcs_lt {x : PCt} {h : List Nd} {t : Nat × Nat × Nat} (ht : t ∈ arcsL x h) : t.1 < h.length ∧ t.2.1 < h.length ∧ t.2.2 < 5 := by
 have := allA_mem.1 ht
 exact ⟨this.1, this.2.1, this.2.2.1⟩
theorem wsh_spot (d : Nat → Nat → Bool) (m i k : Nat) : wsh d (m + 1) m k = wsh d m m k ∧ wsh d (m + 1) i m = wsh d m i m := by
 constructor
 ·show (wsh d m m k || (wsh d m m m && wsh d m m k)) = _
  cases wsh d m m k <;> simp
 ·show (wsh d m i m || (wsh d m i m && wsh d m m m)) = _
  cases wsh d m i m <;> simp
theorem curW_lft (d : Nat → Nat → Bool) (m i k i' : Nat) : curW d m i k i' m = wsh d m i' m := by
 unfold curW
 split
 ·exact (wsh_spot d m i' 0).2
 ·rfl
theorem curW_rgt (d : Nat → Nat → Bool) (m i k k' : Nat) : curW d m i k m k' = wsh d m m k' := by
 unfold curW
 split
 ·exact (wsh_spot d m 0 k').1
 ·rfl
end Go.Proofs.YtmeimhpllemjfaaGreat
/- Which arcs have been marked, while the document's graph is being made. -/
namespace Go.Proofs.YtmeimhpllemjfaaGreat
open Go.RowKit

def genA (x : PCt) (h : List Nd) (i k a b m : Nat) : Bool := decide (m = 2 ∧ a = k ∧ b = i) || (decide (m = 3 ∧ b = i ∧ lastU x h k (ndAt h i).cls = (a : Int)) || decide (m = 4 ∧ a = k ∧ firstU x h i (ndAt h k).cls = (b : Int)))
def stA (x : PCt) (h : List Nd) (o i k a b m : Nat) : Bool := (decide (m = 1 ∧ b < o) && ownA h a b) || (List.range h.length).any fun i' => (List.range h.length).any fun k' => decide (i' < i ∨ (i' = i ∧ k' < k)) && (depO h i' k' && genA x h i' k' a b m)
theorem stA_iff {x : PCt} {h : List Nd} {o i k a b m : Nat} : stA x h o i k a b m = true ↔ (m = 1 ∧ b < o ∧ ownA h a b = true) ∨ ∃ i' k', (i' < i ∨ (i' = i ∧ k' < k)) ∧ depO h i' k' = true ∧ genA x h i' k' a b m = true := by
 unfold stA
 simp only [Bool.or_eq_true, Bool.and_eq_true, decide_eq_true_eq, List.any_eq_true, List.mem_range, and_assoc]
 refine or_congr_right ⟨?_, ?_⟩
 ·rintro ⟨i', _, k', _, h1, h2, h3⟩
  exact ⟨i', k', h1, h2, h3⟩
 ·rintro ⟨i', k', h1, h2, h3⟩
  have := depO_lt h2
  exact ⟨i', this.2.1, k', by omega, h1, h2, h3⟩
theorem stA_start (x : PCt) (h : List Nd) (a b m : Nat) : stA x h 0 0 0 a b m = false := by
 cases e : stA x h 0 0 0 a b m
 ·rfl
 ·rcases stA_iff.1 e with ⟨_, h1, _⟩ | ⟨i', k', h1, _⟩ <;> omega
theorem stA_none {x : PCt} {h : List Nd} {i : Nat} (hl : lastN h (ndAt h i).saga i = 0) (a b m : Nat) : stA x h (i + 1) i 0 a b m = stA x h i i 0 a b m := by
 rw [Bool.eq_iff_iff, stA_iff, stA_iff]
 refine or_congr_left ⟨fun ⟨h1, h2, h3⟩ => ⟨h1, ?_, h3⟩, fun ⟨h1, h2, h3⟩ => ⟨h1, by omega, h3⟩⟩
 by_cases e : b = i
 ·subst e
  unfold ownA at h3
  rw [Bool.and_eq_true, decide_eq_true_eq, decide_eq_true_eq] at h3
  omega
 ·omega
theorem stA_own {x : PCt} {h : List Nd} {i l : Nat} (hi : i < h.length) (hl : lastN h (ndAt h i).saga i = l + 1) (a b m : Nat) : stA x h (i + 1) i 0 a b m = if a = l ∧ b = i ∧ m = 1 then true else stA x h i i 0 a b m := by
 rw [Bool.eq_iff_iff, stA_iff]
 by_cases e : a = l ∧ b = i ∧ m = 1
 ·rw [if_pos e]
  obtain ⟨rfl, rfl, rfl⟩ := e
  refine ⟨fun _ => rfl, fun _ => .inl ⟨rfl, by omega, ?_⟩⟩
  unfold ownA
  rw [decide_eq_true hi, hl]
  simp
 ·rw [if_neg e, stA_iff]
  refine or_congr_left ⟨fun ⟨h1, h2, h3⟩ => ⟨h1, ?_, h3⟩, fun ⟨h1, h2, h3⟩ => ⟨h1, by omega, h3⟩⟩
  by_cases eb : b = i
  ·subst eb
   unfold ownA at h3
   rw [Bool.and_eq_true, decide_eq_true_eq, decide_eq_true_eq] at h3
   exact absurd ⟨by omega, rfl, h1⟩ e
  ·omega
theorem stA_skip {x : PCt} {h : List Nd} {o i k : Nat} (hd : depO h i k = false) (a b m : Nat) : stA x h o i (k + 1) a b m = stA x h o i k a b m := by
 rw [Bool.eq_iff_iff, stA_iff, stA_iff]
 refine or_congr_right ⟨?_, ?_⟩
 ·rintro ⟨i', k', h1, h2, h3⟩
  refine ⟨i', k', ?_, h2, h3⟩
  by_cases e : i' = i ∧ k' = k
  ·rw [e.1, e.2, hd] at h2
   cases h2
  ·omega
 ·rintro ⟨i', k', h1, h2, h3⟩
  exact ⟨i', k', by omega, h2, h3⟩
theorem stA_pair {x : PCt} {h : List Nd} {o i k : Nat} (hd : depO h i k = true) (a b m : Nat) : stA x h o i (k + 1) a b m = (stA x h o i k a b m || genA x h i k a b m) := by
 rw [Bool.eq_iff_iff, Bool.or_eq_true, stA_iff, stA_iff]
 constructor
 ·rintro (q | ⟨i', k', h1, h2, h3⟩)
  ·exact .inl (.inl q)
  ·by_cases e : i' = i ∧ k' = k
   ·rw [e.1, e.2] at h3
    exact .inr h3
   ·exact .inl (.inr ⟨i', k', by omega, h2, h3⟩)
 ·rintro ((q | ⟨i', k', h1, h2, h3⟩) | q)
  ·exact .inl q
  ·exact .inr ⟨i', k', by omega, h2, h3⟩
  ·exact .inr ⟨i, k, by omega, hd, q⟩
theorem stA_row (x : PCt) (h : List Nd) (o i a b m : Nat) : stA x h o i h.length a b m = stA x h o (i + 1) 0 a b m := by
 rw [Bool.eq_iff_iff, stA_iff, stA_iff]
 refine or_congr_right ⟨?_, ?_⟩
 ·rintro ⟨i', k', h1, h2, h3⟩
  exact ⟨i', k', by omega, h2, h3⟩
 ·rintro ⟨i', k', h1, h2, h3⟩
  have := depO_lt h2
  exact ⟨i', k', by omega, h2, h3⟩
theorem stA_fin (x : PCt) (h : List Nd) {a b m : Nat} (h1 : 1 ≤ m) (h5 : m < 5) : stA x h h.length h.length 0 a b m = arcB x h a b m := by
 rw [Bool.eq_iff_iff, stA_iff]
 have hex : ∀ P : Nat → Nat → Prop, (∃ i' k', (i' < h.length ∨ (i' = h.length ∧ k' < 0)) ∧ depO h i' k' = true ∧ P i' k') ↔ ∃ i' k', depO h i' k' = true ∧ P i' k' := fun P => ⟨fun ⟨i', k', _, q⟩ => ⟨i', k', q⟩, fun ⟨i', k', q, r⟩ => ⟨i', k', .inl (depO_lt q).2.1, q, r⟩⟩
 rw [hex]
 unfold genA
 simp only [Bool.or_eq_true, decide_eq_true_eq]
 rcases (show m = 1 ∨ m = 2 ∨ m = 3 ∨ m = 4 by omega) with rfl | rfl | rfl | rfl
 ·constructor
  ·rintro (⟨_, _, q⟩ | ⟨i', k', _, q⟩)
   ·exact q
   ·omega
  ·intro q
   exact .inl ⟨rfl, (ownA_lt q).2.1, q⟩
 ·constructor
  ·rintro (⟨q, _⟩ | ⟨i', k', q, r | r | r⟩)
   ·omega
   ·obtain ⟨_, rfl, rfl⟩ := r
    exact q
   ·omega
   ·omega
  ·intro q
   exact .inr ⟨b, a, q, .inl ⟨rfl, rfl, rfl⟩⟩
 ·show _ ↔ ((List.range h.length).any fun k => depO h b k && decide (lastU x h k (ndAt h b).cls = (a : Int))) = true
  simp only [List.any_eq_true, List.mem_range, Bool.and_eq_true, decide_eq_true_eq]
  constructor
  ·rintro (⟨q, _⟩ | ⟨i', k', q, r | r | r⟩)
   ·omega
   ·omega
   ·obtain ⟨_, rfl, r⟩ := r
    have := depO_lt q
    exact ⟨k', by omega, q, r⟩
   ·omega
  ·rintro ⟨k, _, q, r⟩
   exact .inr ⟨b, k, q, .inr (.inl ⟨by first | rfl | trivial, by first | rfl | trivial, r⟩)⟩
 ·show _ ↔ ((List.range h.length).any fun i => depO h i a && decide (firstU x h i (ndAt h a).cls = (b : Int))) = true
  simp only [List.any_eq_true, List.mem_range, Bool.and_eq_true, decide_eq_true_eq]
  constructor
  ·rintro (⟨q, _⟩ | ⟨i', k', q, r | r | r⟩)
   ·omega
   ·omega
   ·omega
   ·obtain ⟨_, rfl, r⟩ := r
    exact ⟨i', (depO_lt q).2.1, q, r⟩
  ·rintro ⟨i, _, q, r⟩
   exact .inr ⟨i, a, q, .inr (.inr ⟨by first | rfl | trivial, by first | rfl | trivial, r⟩)⟩
def mk3 (p : Nat → Nat → Nat → Bool) (j : Nat) : Bool := p (j / 500) (j % 500 / 5) (j % 5)
theorem mk3_at (p : Nat → Nat → Nat → Bool) {a b m : Nat} (hb : b < 100) (hm : m < 5) : mk3 p (a * 500 + b * 5 + m) = p a b m := by
 unfold mk3
 rw [show (a * 500 + b * 5 + m) / 500 = a by omega, show (a * 500 + b * 5 + m) % 500 / 5 = b by omega, show (a * 500 + b * 5 + m) % 5 = m by omega]
theorem mk3_put (p : Nat → Nat → Nat → Bool) {a b m : Nat} (hb : b < 100) (hm : m < 5) : upd (mk3 p) (a * 500 + b * 5 + m) true = mk3 (fun a' b' m' => if a' = a ∧ b' = b ∧ m' = m then true else p a' b' m') := by
 funext j
 unfold upd mk3
 by_cases e : j = a * 500 + b * 5 + m
 ·rw [if_pos e]
  exact (if_pos (by omega)).symm
 ·rw [if_neg e]
  exact (if_neg (by omega)).symm
end Go.Proofs.YtmeimhpllemjfaaGreat
/- The document's own: lists of numbers that are the same. -/
namespace Go.Proofs.YtmeimhpllemjfaaGreat
open Go.RowKit

theorem info_int16 : (Tryz.prog.info? 3).map (fun i => (i.zero, i.size, i.bytes)) = some (some (.int .i64 0), 1, 8) := by kernel_rfl
theorem nums_snoc (l : List Nat) (k : Nat) : nums (l ++ [k]) = nums l ++ [.int .i64 (k : Int)] := by simp [nums]
end Go.Proofs.YtmeimhpllemjfaaGreat
/- A catalogue with more breakpoints; a history's beginning: purely. -/
namespace Go.Proofs.YtmeimhpllemjfaaGreat
open Go.RowKit

end Go.Proofs.YtmeimhpllemjfaaGreat
/- What the package gathers, purely: arcs in order, each once; from which nodes arcs lead to a node. -/
namespace Go.Proofs.YtmeimhpllemjfaaGreat
open Go.RowKit

abbrev Tr := Nat × Nat × Nat
def LtA (s t : Tr) : Prop := s.1 < t.1 ∨ (s.1 = t.1 ∧ (s.2.1 < t.2.1 ∨ (s.2.1 = t.2.1 ∧ s.2.2 < t.2.2)))
theorem LtA.irrefl (s : Tr) : ¬ LtA s s := by unfold LtA; omega
theorem LtA.trans {s t u : Tr} (h : LtA s t) (g : LtA t u) : LtA s u := by unfold LtA at *; omega
theorem LtA.tri {s t : Tr} (h : ¬ LtA s t) (g : ¬ LtA t s) : s = t := by
 obtain ⟨a, b, c⟩ := s
 obtain ⟨a', b', c'⟩ := t
 unfold LtA at *
 dsimp only at *
 have h1 : a = a' := by omega
 have h2 : b = b' := by omega
 have h3 : c = c' := by omega
 rw [h1, h2, h3]
theorem rise_eq : ∀ {a b : List Tr}, a.Pairwise LtA → b.Pairwise LtA → (∀ x, x ∈ a ↔ x ∈ b) → a = b
 | [], [], _, _, _ => rfl
 | [], y :: b, _, _, h => by cases (h y).2 (by simp)
 | x :: a, [], _, _, h => by cases (h x).1 (by simp)
 | x :: a, y :: b, ha, hb, h => by
  obtain ⟨a1, a2⟩ := List.pairwise_cons.1 ha
  obtain ⟨b1, b2⟩ := List.pairwise_cons.1 hb
  have e : x = y := by
   rcases List.mem_cons.1 ((h x).1 (by simp)) with e | e
   ·exact e
   ·rcases List.mem_cons.1 ((h y).2 (by simp)) with e2 | e2
    ·exact e2.symm
    ·exact absurd ((b1 _ e).trans (a1 _ e2)) (LtA.irrefl _)
  subst e
  rw [rise_eq a2 b2 (fun z => ?_)]
  constructor
  ·intro hz
   rcases List.mem_cons.1 ((h z).1 (by simp [hz])) with e | e
   ·rw [e] at hz
    exact absurd (a1 _ hz) (LtA.irrefl _)
   ·exact e
  ·intro hz
   rcases List.mem_cons.1 ((h z).2 (by simp [hz])) with e | e
   ·rw [e] at hz
    exact absurd (b1 _ hz) (LtA.irrefl _)
   ·exact e
theorem kL_rise (p : Nat → Bool) : ∀ m, (kL p m).Pairwise (· < ·)
 | 0 => .nil
 | m + 1 => by
  rw [kL, List.pairwise_append]
  refine ⟨kL_rise p m, ?_, fun a ha b hb => ?_⟩
  ·split <;> simp
  ·have h1 := (kL_mem.1 ha).1
   split at hb
   ·rw [List.mem_singleton.1 hb]; exact h1
   ·cases hb
theorem allA_rise (p : Nat → Nat → Nat → Bool) (n i : Nat) : (allA p n i).Pairwise LtA := by
 unfold allA
 rw [List.pairwise_flatMap]
 refine ⟨fun a _ => ?_, List.pairwise_lt_range.imp fun {a b} hab x hx y hy => ?_⟩
 ·unfold rowA
  rw [List.pairwise_flatMap]
  refine ⟨fun b _ => ?_, List.pairwise_lt_range.imp fun {b c} hbc x hx y hy => ?_⟩
  ·unfold cellA
   rw [List.pairwise_map]
   exact (kL_rise _ _).imp fun h => .inr ⟨rfl, .inr ⟨rfl, h⟩⟩
  ·unfold cellA at hx hy
   obtain ⟨m, _, rfl⟩ := List.mem_map.1 hx
   obtain ⟨m', _, rfl⟩ := List.mem_map.1 hy
   exact .inr ⟨rfl, .inl hbc⟩
 ·unfold rowA cellA at hx hy
  obtain ⟨b, _, hb⟩ := List.mem_flatMap.1 hx
  obtain ⟨m, _, rfl⟩ := List.mem_map.1 hb
  obtain ⟨b', _, hb'⟩ := List.mem_flatMap.1 hy
  obtain ⟨m', _, rfl⟩ := List.mem_map.1 hb'
  exact .inl hab
def trAt (l : List Tr) (k : Nat) : Tr := l.getD k (0, 0, 0)
theorem trAt_get {l : List Tr} {k : Nat} (hk : k < l.length) : trAt l k = l[k] := by
 unfold trAt
 rw [List.getD_eq_getElem?_getD, List.getElem?_eq_getElem hk]
 rfl
def cpT (l : List Tr) : Nat → List Tr
 | 0 => []
 | k + 1 => cpT l k ++ (if k = 0 ∨ trAt l k ≠ trAt l (k - 1) then [trAt l k] else [])
theorem cpT_new {l : List Tr} {k : Nat} (h : k = 0 ∨ trAt l k ≠ trAt l (k - 1)) : cpT l (k + 1) = cpT l k ++ [trAt l k] := by rw [cpT, if_pos h]
theorem cpT_old {l : List Tr} {k : Nat} (h0 : k ≠ 0) (h : trAt l k = trAt l (k - 1)) : cpT l (k + 1) = cpT l k := by
 rw [cpT, if_neg (by rintro (e | e); exact h0 e; exact e h), List.append_nil]
theorem cpT_all {l : List Tr} : ∀ k, k ≤ l.length → (∀ j, 1 ≤ j → j < k → trAt l j ≠ trAt l (j - 1)) → cpT l k = l.take k
 | 0, _, _ => by simp [cpT]
 | k + 1, hk, h => by
  have ih := cpT_all k (by omega) (fun j h1 h2 => h j h1 (by omega))
  rw [cpT_new (by rcases Nat.eq_zero_or_pos k with e | e; exact .inl e; exact .inr (h k e (by omega))), ih, trAt_get (by omega), List.take_succ_eq_append_getElem (by omega)]
theorem cpT_mem {l : List Tr} : ∀ k, k ≤ l.length → ∀ x, x ∈ cpT l k ↔ x ∈ l.take k
 | 0, _, x => by simp [cpT]
 | k + 1, hk, x => by
  have ih := cpT_mem (l := l) k (by omega) x
  rw [List.take_succ_eq_append_getElem (by omega)]
  by_cases e : k = 0 ∨ trAt l k ≠ trAt l (k - 1)
  ·rw [cpT_new e, List.mem_append, List.mem_append, ih, trAt_get (by omega)]
  ·have e0 : k ≠ 0 := fun q => e (.inl q)
   have e1 : trAt l k = trAt l (k - 1) := Classical.byContradiction fun q => e (.inr q)
   rw [cpT_old e0 e1, List.mem_append, ih]
   refine ⟨.inl, fun h => h.elim id fun h => ?_⟩
   rw [List.mem_singleton.1 h, ← trAt_get (by omega), e1, trAt_get (by omega)]
   exact List.mem_take_iff_getElem.2 ⟨k - 1, by omega, rfl⟩
theorem cpT_rise {l : List Tr} (hl : ∀ i j (hi : i < l.length) (hj : j < l.length), i < j → ¬ LtA l[j] l[i]) : ∀ k, k ≤ l.length → (cpT l k).Pairwise LtA
 | 0, _ => .nil
 | k + 1, hk => by
  have ih := cpT_rise hl k (by omega)
  by_cases e : k = 0 ∨ trAt l k ≠ trAt l (k - 1)
  ·rw [cpT_new e, List.pairwise_append]
   refine ⟨ih, by simp, fun a ha b hb => ?_⟩
   rw [List.mem_singleton.1 hb, trAt_get (by omega)]
   obtain ⟨i, hi, rfl⟩ := List.mem_take_iff_getElem.1 ((cpT_mem k (by omega) a).1 ha)
   have hik : i < k := by omega
   have hk0 : k ≠ 0 := by omega
   have h1 := e.resolve_left hk0
   rw [trAt_get (by omega), trAt_get (by omega)] at h1
   have h2 := hl (k - 1) k (by omega) (by omega) (by omega)
   have h3 : LtA l[k - 1] l[k] := by
    apply Classical.byContradiction
    intro h4
    exact h1 (LtA.tri h2 h4)
   by_cases ei : i = k - 1
   ·subst ei
    exact h3
   ·have h5 := hl i (k - 1) (by omega) (by omega) (by omega)
    by_cases h6 : LtA l[i] l[k - 1]
    ·exact h6.trans h3
    ·rw [LtA.tri h6 h5]
     exact h3
  ·have e0 : k ≠ 0 := fun q => e (.inl q)
   have e1 : trAt l k = trAt l (k - 1) := Classical.byContradiction fun q => e (.inr q)
   rw [cpT_old e0 e1]
   exact ih
theorem told_arcs {x : PCt} {h : List Nd} {l : List Tr} (hl : ∀ i j (hi : i < l.length) (hj : j < l.length), i < j → ¬ LtA l[j] l[i]) (hm : ∀ t, t ∈ l ↔ t ∈ arcsL x h) : cpT l l.length = arcsL x h := by
 refine rise_eq (cpT_rise hl _ (Nat.le_refl _)) (allA_rise _ _ _) fun t => ?_
 rw [cpT_mem _ (Nat.le_refl _), List.take_length]
 exact hm t
def nextO (h : List Nd) (i : Nat) : Int := firstP (fun k => decide ((ndAt h (i + 1 + k)).saga = (ndAt h i).saga)) (h.length - (i + 1))
def ownT (h : List Nd) : Nat → List Tr
 | 0 => []
 | i + 1 => ownT h i ++ (if 0 ≤ nextO h i then [(i, i + 1 + (nextO h i).toNat, 1)] else [])
theorem firstP_neg {p : Nat → Bool} {n : Nat} (h : firstP p n < 0) : ∀ k, k < n → p k = false := by
 intro k hk
 cases e : p k
 ·rfl
 ·obtain ⟨m, h1, _⟩ := firstP_is hk e
  omega
theorem firstP_nat {p : Nat → Bool} {n : Nat} (h : 0 ≤ firstP p n) : ∃ k : Nat, firstP p n = (k : Int) ∧ k < n ∧ p k = true ∧ ∀ j, j < k → p j = false := by
 have hex : ∃ k, k < n ∧ p k = true := by
  apply Classical.byContradiction
  intro hno
  have := firstP_none (p := p) (n := n) (fun k hk => by
   cases e : p k
   ·rfl
   ·exact absurd ⟨k, hk, e⟩ hno)
  omega
 obtain ⟨k, hk, hp⟩ := hex
 obtain ⟨m, h1, h2, h3, h4⟩ := firstP_is hk hp
 exact ⟨m, h1, by omega, h3, h4⟩
theorem nextO_iff {h : List Nd} {a b : Nat} (ha : a < h.length) : (0 ≤ nextO h a ∧ b = a + 1 + (nextO h a).toNat) ↔ ownA h a b = true := by
 constructor
 ·rintro ⟨h0, hb⟩
  obtain ⟨k, hk, h1, h2, h3⟩ := firstP_nat h0
  have hbk : b = a + 1 + k := by rw [hb]; unfold nextO; rw [hk]; rfl
  subst hbk
  rw [decide_eq_true_eq] at h2
  unfold ownA
  rw [decide_eq_true (show a + 1 + k < h.length by omega), Bool.true_and, decide_eq_true_eq]
  have g1 := lastN_ge h (ndAt h (a + 1 + k)).saga (a + 1 + k) (show a < a + 1 + k by omega) h2.symm
  have g2 := lastN_le h (ndAt h (a + 1 + k)).saga (a + 1 + k)
  have g3 := lastN_saga h (ndAt h (a + 1 + k)).saga (a + 1 + k) (by omega)
  apply Classical.byContradiction
  intro hne
  have g4 := h3 (lastN h (ndAt h (a + 1 + k)).saga (a + 1 + k) - 1 - (a + 1)) (by omega)
  rw [decide_eq_false_iff_not] at g4
  apply g4
  rw [show a + 1 + (lastN h (ndAt h (a + 1 + k)).saga (a + 1 + k) - 1 - (a + 1)) = lastN h (ndAt h (a + 1 + k)).saga (a + 1 + k) - 1 by omega, g3, h2]
 ·intro e
  have hlt := ownA_lt e
  unfold ownA at e
  rw [Bool.and_eq_true, decide_eq_true_eq, decide_eq_true_eq] at e
  have hp : (fun k => decide ((ndAt h (a + 1 + k)).saga = (ndAt h a).saga)) (b - (a + 1)) = true := by
   dsimp only
   rw [show a + 1 + (b - (a + 1)) = b by omega, hlt.2.2]
   simp
  obtain ⟨k, h1, h2, h3, h4⟩ := firstP_is (p := fun k => decide ((ndAt h (a + 1 + k)).saga = (ndAt h a).saga)) (n := h.length - (a + 1)) (show b - (a + 1) < h.length - (a + 1) by omega) hp
  have hk : nextO h a = (k : Int) := h1
  refine ⟨by omega, ?_⟩
  rw [hk, Int.toNat_natCast]
  apply Classical.byContradiction
  intro hne
  rw [decide_eq_true_eq] at h3
  have g1 := lastN_ge h (ndAt h b).saga b (show a + 1 + k < b by omega) (by rw [h3, hlt.2.2])
  omega
theorem ownT_mem {h : List Nd} : ∀ i, i ≤ h.length → ∀ t, t ∈ ownT h i ↔ t.1 < i ∧ t.2.2 = 1 ∧ ownA h t.1 t.2.1 = true
 | 0, _, t => by simp [ownT]
 | i + 1, hi, t => by
  have ih := ownT_mem (h := h) i (by omega) t
  rw [ownT, List.mem_append, ih]
  constructor
  ·rintro (⟨h1, h2⟩ | h1)
   ·exact ⟨by omega, h2⟩
   ·split at h1
    ·rename_i h0
     rw [List.mem_singleton.1 h1]
     exact ⟨by simp, rfl, (nextO_iff (by omega)).1 ⟨h0, rfl⟩⟩
    ·cases h1
  ·rintro ⟨h1, h2, h3⟩
   by_cases e : t.1 = i
   ·right
    obtain ⟨q1, q2⟩ := (nextO_iff (show t.1 < h.length by omega)).2 h3
    rw [e] at q1 q2
    rw [if_pos q1, List.mem_singleton]
    obtain ⟨a, b, m⟩ := t
    dsimp only at *
    rw [e, q2, h2]
   ·exact .inl ⟨by omega, h2, h3⟩
def pairT (x : PCt) (h : List Nd) (b a : Nat) : List Tr :=
 if (ndAt h a).saga = (ndAt h b).saga then [] else [(a, b, 2), ((lastU x h a (ndAt h b).cls).toNat, b, 3), (a, (firstU x h b (ndAt h a).cls).toNat, 4)]
def acrT (x : PCt) (h : List Nd) : Nat → List Tr
 | 0 => []
 | b + 1 => acrT x h b ++ (depL h b).flatMap (pairT x h b)
theorem lastU_nat {x : PCt} {h : List Nd} {k : Nat} (hk : k < h.length) (d : Int) : 0 ≤ lastU x h k d ∧ lastU x h k d < (h.length : Int) := by
 obtain ⟨m, h1, h2, h3, _⟩ := lastP_is (p := fun m => inN x h k m d) (n := h.length) (k := k) hk (inN_self _ _ _ _)
 unfold lastU
 omega
theorem firstU_nat {x : PCt} {h : List Nd} {k : Nat} (hk : k < h.length) (d : Int) : 0 ≤ firstU x h k d ∧ firstU x h k d < (h.length : Int) := by
 obtain ⟨m, h1, h2, _⟩ := firstP_is (p := fun m => inN x h k m d) (n := h.length) (k := k) hk (inN_self _ _ _ _)
 unfold firstU
 omega
theorem pairT_mem {x : PCt} {h : List Nd} {b a : Nat} (hb : b < h.length) (ha : a < h.length) (t : Tr) : t ∈ pairT x h b a ↔ (ndAt h a).saga ≠ (ndAt h b).saga ∧ genA x h b a t.1 t.2.1 t.2.2 = true := by
 unfold pairT genA
 have l1 := lastU_nat (x := x) ha (ndAt h b).cls
 have l2 := firstU_nat (x := x) hb (ndAt h a).cls
 obtain ⟨p, q, m⟩ := t
 by_cases e : (ndAt h a).saga = (ndAt h b).saga
 ·rw [if_pos e]
  simp [e]
 ·rw [if_neg e]
  simp only [List.mem_cons, Prod.mk.injEq, List.not_mem_nil, or_false, ne_eq, e, not_false_eq_true, true_and, Bool.or_eq_true, decide_eq_true_eq]
  omega
theorem acrT_mem {x : PCt} {h : List Nd} : ∀ i, i ≤ h.length → ∀ t, t ∈ acrT x h i ↔ ∃ b a, b < i ∧ depO h b a = true ∧ genA x h b a t.1 t.2.1 t.2.2 = true
 | 0, _, t => by simp [acrT]
 | i + 1, hi, t => by
  have ih := acrT_mem (x := x) (h := h) i (by omega) t
  rw [acrT, List.mem_append, ih, List.mem_flatMap]
  constructor
  ·rintro (⟨b, a, h1, h2⟩ | ⟨a, h1, h2⟩)
   ·exact ⟨b, a, by omega, h2⟩
   ·have hd := depL_mem.1 h1
    have hlt := depB_lt hd
    obtain ⟨q1, q2⟩ := (pairT_mem (by omega) (by omega) t).1 h2
    refine ⟨i, a, by omega, ?_, q2⟩
    unfold depO
    rw [hd, decide_eq_true q1]
    rfl
  ·rintro ⟨b, a, h1, h2, h3⟩
   by_cases e : b = i
   ·subst e
    have hlt := depO_lt h2
    unfold depO at h2
    rw [Bool.and_eq_true, decide_eq_true_eq] at h2
    exact .inr ⟨a, depL_mem.2 h2.1, (pairT_mem (by omega) (by omega) t).2 ⟨h2.2, h3⟩⟩
   ·exact .inl ⟨b, a, by omega, h2, h3⟩
theorem gath_mem (x : PCt) (h : List Nd) (t : Tr) : t ∈ ownT h h.length ++ acrT x h h.length ↔ t ∈ arcsL x h := by
 obtain ⟨a, b, m⟩ := t
 rw [List.mem_append, ownT_mem _ (Nat.le_refl _), acrT_mem _ (Nat.le_refl _)]
 unfold arcsL
 rw [allA_mem]
 dsimp only
 constructor
 ·rintro (⟨h1, rfl, h3⟩ | ⟨i, k, h1, h2, h3⟩)
  ·have := ownA_lt h3
   exact ⟨h1, by omega, by omega, by omega, h3⟩
  ·have hlt := depO_lt h2
   unfold genA at h3
   simp only [Bool.or_eq_true, decide_eq_true_eq] at h3
   rcases h3 with ⟨rfl, rfl, rfl⟩ | ⟨rfl, rfl, h4⟩ | ⟨rfl, rfl, h4⟩
   ·exact ⟨by omega, by omega, by omega, by omega, h2⟩
   ·have l1 := lastU_nat (x := x) (show k < h.length by omega) (ndAt h b).cls
    refine ⟨by omega, by omega, by omega, by omega, ?_⟩
    simp only [arcB, List.any_eq_true, List.mem_range, Bool.and_eq_true, decide_eq_true_eq]
    exact ⟨k, by omega, h2, h4⟩
   ·have l2 := firstU_nat (x := x) (show i < h.length by omega) (ndAt h a).cls
    refine ⟨by omega, by omega, by omega, by omega, ?_⟩
    simp only [arcB, List.any_eq_true, List.mem_range, Bool.and_eq_true, decide_eq_true_eq]
    exact ⟨i, by omega, h2, h4⟩
 ·rintro ⟨h1, h2, h3, h4, h5⟩
  rcases (show m = 1 ∨ m = 2 ∨ m = 3 ∨ m = 4 by omega) with rfl | rfl | rfl | rfl
  ·exact .inl ⟨h1, rfl, h5⟩
  ·exact .inr ⟨b, a, h2, h5, by simp [genA]⟩
  ·simp only [arcB, List.any_eq_true, List.mem_range, Bool.and_eq_true, decide_eq_true_eq] at h5
   obtain ⟨k, _, q1, q2⟩ := h5
   exact .inr ⟨b, k, h2, q1, by simp [genA, q2]⟩
  ·simp only [arcB, List.any_eq_true, List.mem_range, Bool.and_eq_true, decide_eq_true_eq] at h5
   obtain ⟨i, hi, q1, q2⟩ := h5
   exact .inr ⟨i, a, hi, q1, by simp [genA, q2]⟩
def intoT (l : List Tr) (j b : Nat) : List Nat := ((l.take j).filter fun t => decide (t.2.1 = b)).map (·.1)
theorem intoT_step {l : List Tr} {j : Nat} (hj : j < l.length) (b : Nat) : intoT l (j + 1) b = intoT l j b ++ (if l[j].2.1 = b then [l[j].1] else []) := by
 unfold intoT
 rw [List.take_succ_eq_append_getElem hj, List.filter_append, List.map_append]
 congr 1
 by_cases e : l[j].2.1 = b
 ·simp [e]
 ·simp [e]
theorem intoT_len (l : List Tr) (j b : Nat) : (intoT l j b).length ≤ j := by
 unfold intoT
 rw [List.length_map]
 exact Nat.le_trans (List.length_filter_le _ _) (by rw [List.length_take]; omega)
theorem into_mem {x : PCt} {h : List Nd} {a b : Nat} : a ∈ intoT (arcsL x h) (arcsL x h).length b ↔ arcA x h a b = true := by
 unfold intoT
 rw [List.take_length, List.mem_map]
 constructor
 ·rintro ⟨t, ht, rfl⟩
  rw [List.mem_filter, decide_eq_true_eq] at ht
  have hlt := arcs_lt ht.1
  rw [← ht.2, ← any_arc x h hlt.1 hlt.2.1, List.any_eq_true]
  exact ⟨t, ht.1, by simp⟩
 ·intro e
  have hlt := arcA_lt a b e
  rw [← any_arc x h hlt.1 hlt.2, List.any_eq_true] at e
  obtain ⟨t, ht, e⟩ := e
  rw [decide_eq_true_eq] at e
  exact ⟨t, List.mem_filter.2 ⟨ht, decide_eq_true e.2⟩, e.1⟩
end Go.Proofs.YtmeimhpllemjfaaGreat
/- Nodes told one by one, each once all that lead to it are told: purely. -/
namespace Go.Proofs.YtmeimhpllemjfaaGreat
open Go.RowKit

inductive Greedy (a : Nat → Nat → Bool) (n : Nat) : List Nat → Prop
 | nil : Greedy a n []
 | more {t : List Nat} {i : Nat} : Greedy a n t → i < n → readyB a n t i = true → Greedy a n (t ++ [i])
theorem Greedy.told {a : Nat → Nat → Bool} {n : Nat} {t : List Nat} (h : Greedy a n t) : Told a n t := by
 induction h with
 | nil => exact Told.nil a n
 | more _ hi hr ih => exact ih.more hi hr
theorem Way.last {d : Nat → Nat → Bool} {i k : Nat} (h : Way d i k) : ∃ j, d j k = true ∧ (j = i ∨ Way d i j) := by
 cases h with
 | one e => exact ⟨_, e, .inl rfl⟩
 | more g q => exact ⟨_, q, .inr g⟩
theorem Greedy.free {a : Nat → Nat → Bool} {n : Nat} (ha : ∀ i k, a i k = true → i < n ∧ k < n) {t : List Nat} (h : Greedy a n t) : ∀ i, i ∈ t → ¬ Way a i i := by
 induction h with
 | nil => intro i hi; cases hi
 | @more t j ht hj hr ih =>
  intro i hi hw
  rcases List.mem_append.1 hi with hi | hi
  ·exact ih i hi hw
  ·obtain rfl : i = j := by simpa using hi
   obtain ⟨h1, h2⟩ := readyB_iff.1 hr
   obtain ⟨k, hk, hq⟩ := hw.last
   have hkt := h2 k (ha _ _ hk).1 hk
   rcases hq with rfl | hq
   ·exact h1 hkt
   ·exact ih k hkt ((Way.one hk).trans hq)
theorem Greedy.all {a : Nat → Nat → Bool} {n : Nat} (ha : ∀ i k, a i k = true → i < n ∧ k < n) {t : List Nat} (h : Greedy a n t) (hl : n ≤ t.length) : ∀ i, ¬ Way a i i := by
 intro i hw
 have hin : i < n := by
  obtain ⟨j, hj⟩ := hw.first
  exact (ha _ _ hj).1
 refine h.free ha i ?_ hw
 apply Classical.byContradiction
 intro hno
 have key : ∀ (m : Nat) (t : List Nat), t.Nodup → (∀ x ∈ t, x < m) → t.length ≤ m := by
  intro m
  induction m with
  | zero =>
   intro t _ hx
   cases t with
   | nil => exact Nat.le_refl _
   | cons y r => have := hx y (by simp); omega
  | succ m ih =>
   intro t hd hx
   have h1 := ih (t.filter fun x => decide (x ≠ m)) (hd.sublist List.filter_sublist) (fun x hx2 => by
    rw [List.mem_filter, decide_eq_true_eq] at hx2
    have := hx x hx2.1
    omega)
   have h2 : t.length ≤ (t.filter fun x => decide (x ≠ m)).length + 1 := by
    clear h1 ih hx
    induction t with
    | nil => simp
    | cons y r ih2 =>
     have hd2 := List.nodup_cons.1 hd
     by_cases e : y = m
     ·subst e
      have : (r.filter fun x => decide (x ≠ y)) = r := by
       rw [List.filter_eq_self]
       intro z hz
       rw [decide_eq_true_eq]
       intro e2
       subst e2
       exact hd2.1 hz
      rw [List.filter_cons, if_neg (by simp), this]
      exact Nat.le_refl _
     ·have := ih2 hd2.2
      rw [List.filter_cons, if_pos (by simpa using e)]
      simp only [List.length_cons]
      omega
   omega
 have ht := h.told
 have h3 := key n (i :: t) (List.nodup_cons.2 ⟨hno, ht.nodup⟩) (fun x hx => by
  rcases List.mem_cons.1 hx with rfl | hx
  ·exact hin
  ·exact ht.lt x hx)
 simp only [List.length_cons] at h3
 omega
theorem Greedy.stuck {a : Nat → Nat → Bool} {n : Nat} (ha : ∀ i k, a i k = true → i < n ∧ k < n) {t : List Nat} (h : Greedy a n t) (hl : t.length < n) (hno : ∀ i, i < n → readyB a n t i = false) : ∃ i, Way a i i := by
 apply Classical.byContradiction
 intro hc
 have hw : ∀ i k, wsh a n i k = true ↔ Way a i k := fun i k => way_iff ha
 have hac : ∀ i, wsh a n i i = false := fun i => by
  cases e : wsh a n i i
  ·rfl
  ·exact absurd ⟨i, (hw i i).1 e⟩ hc
 have ht := h.told
 obtain ⟨i, hi, hit⟩ := ht.room hl
 obtain ⟨j, hj, hr⟩ := some_ready (d := wsh a n) (t := t) (fun i j k h1 h2 => (hw i k).2 (((hw i j).1 h1).trans ((hw j k).1 h2))) hac hi hit
 rw [ready_way ha hw (fun i k hi hk q => ht.down i k hi hk q) j] at hr
 rw [hno j hj] at hr
 cases hr
theorem greedy_ord {a : Nat → Nat → Bool} {n : Nat} (ha : ∀ i k, a i k = true → i < n ∧ k < n) (hc : ∀ i, ¬ Way a i i) : ∀ j, j ≤ n → Greedy a n (ordT a n j)
 | 0, _ => .nil
 | j + 1, hj => by
  have ih := greedy_ord ha hc j (by omega)
  have hln : (ordT a n j).length < n := by rw [ordT_len]; omega
  have hex : ∃ i, i < n ∧ readyB a n (ordT a n j) i = true := by
   apply Classical.byContradiction
   intro hno
   obtain ⟨i, hi⟩ := ih.stuck ha hln (fun i hi => by
    cases e : readyB a n (ordT a n j) i
    ·rfl
    ·exact absurd ⟨i, hi, e⟩ hno)
   exact hc i hi
  obtain ⟨i, hi, hr⟩ := hex
  obtain ⟨e, h1, h2, h3, h4⟩ := firstP_is hi hr
  have h1' : nextR a n (ordT a n j) = (e : Int) := h1
  rw [ordT, h1', Int.toNat_natCast]
  exact ih.more (by omega) h3
theorem free_all {x : PCt} {h : List Nd} {t : List Nat} (hg : Greedy (arcA x h) h.length t) (hl : h.length ≤ t.length) : freeB x h = true := freeB_iff.2 (hg.all arcA_lt hl)
theorem free_stuck {x : PCt} {h : List Nd} {t : List Nat} (hg : Greedy (arcA x h) h.length t) (hl : t.length < h.length) (hno : ∀ i, i < h.length → readyB (arcA x h) h.length t i = false) : freeB x h = false := by
 cases e : freeB x h
 ·rfl
 ·obtain ⟨i, hi⟩ := hg.stuck arcA_lt hl hno
  exact absurd hi (freeB_iff.1 e i)
theorem ord_arcs {x : PCt} {h : List Nd} (hg : freeB x h = true) {j : Nat} (hj : j ≤ h.length) : ordT (wayB x h) h.length j = ordT (arcA x h) h.length j :=
 ordT_way arcA_lt (fun _ _ => wayB_iff) (fun i => by
  cases e : wayB x h i i
  ·rfl
  ·exact absurd (wayB_iff.1 e) (freeB_iff.1 hg i)) j hj
end Go.Proofs.YtmeimhpllemjfaaGreat
/- What is gone through from a node back along arcs, purely: all from which a way leads to it. -/
namespace Go.Proofs.YtmeimhpllemjfaaGreat
open Go.RowKit

def mark (s : Nat → Bool) (j : Nat) (i : Nat) : Bool := s i || decide (i = j)
def rdyL (a : Nat → Nat → Bool) (n : Nat) (t : Nat → Bool) (i : Nat) : Bool := !t i && (List.range n).all fun k => t k || !a k i
theorem rdyL_is (a : Nat → Nat → Bool) (n : Nat) (t : List Nat) : rdyL a n (fun i => decide (i ∈ t)) = readyB a n t := by
 funext i
 rfl
theorem rdyL_list {a : Nat → Nat → Bool} {n : Nat} {t : Nat → Bool} {i : Nat} {l : List Nat} (hl : ∀ k, k ∈ l ↔ a k i = true) (hn : ∀ k, a k i = true → k < n) : rdyL a n t i = (!t i && l.all t) := by
 unfold rdyL
 congr 1
 rw [Bool.eq_iff_iff, List.all_eq_true, List.all_eq_true]
 constructor
 ·intro h k hk
  have hak := (hl k).1 hk
  have := h k (List.mem_range.2 (hn k hak))
  rw [hak] at this
  simpa using this
 ·intro h k _
  cases e : a k i
  ·simp
  ·rw [h k ((hl k).2 e)]; rfl
end Go.Proofs.YtmeimhpllemjfaaGreat
