/- The graph of a history, purely: its arcs, ways along them; more breakpoints, beginnings and nodes more. -/
import Derived.Test.YtmeimhpllemjfaaGreatDep15
import Derived.BigQuiet
import Derived.Test.YtmeimhpllemjfaaGreatCtp12
namespace Go.Proofs.YtmeimhpllemjfaaGreat
open Go.RowKit

inductive Way (d : Nat → Nat → Bool) : Nat → Nat → Prop
 | one {i k : Nat} : d i k = true → Way d i k
 | more {i j k : Nat} : Way d i j → d j k = true → Way d i k
theorem Way.trans {d : Nat → Nat → Bool} {i j k : Nat} (h : Way d i j) (g : Way d j k) : Way d i k := by
 induction g with
 | one e => exact .more h e
 | more _ e ih => exact .more ih e
theorem Way.mono {d e : Nat → Nat → Bool} (hd : ∀ i k, d i k = true → Way e i k) {i k : Nat} (h : Way d i k) : Way e i k := by
 induction h with
 | one q => exact hd _ _ q
 | more _ q ih => exact ih.trans (hd _ _ q)
theorem way_iff {d : Nat → Nat → Bool} {n : Nat} (hd : ∀ i k, d i k = true → i < n ∧ k < n) {i k : Nat} : wsh d n i k = true ↔ Way d i k := by
 constructor
 ·exact wsh_least (R := Way d) (fun _ _ q => .one q) (fun _ _ _ => Way.trans) n i k
 ·intro h
  induction h with
  | one q => exact wsh_up (m := 0) (Nat.zero_le _) q
  | more _ q ih => exact wsh_closed n (hd _ _ q).1 ih (wsh_up (m := 0) (Nat.zero_le _) q)
theorem Way.first {d : Nat → Nat → Bool} {i k : Nat} (h : Way d i k) : ∃ j, d i j = true := by
 induction h with
 | one e => exact ⟨_, e⟩
 | more _ _ ih => exact ih
def ownA (h : List Nd) (i k : Nat) : Bool := decide (k < h.length) && decide (lastN h (ndAt h k).saga k = i + 1)
def depO (h : List Nd) (i k : Nat) : Bool := depB h i k && decide ((ndAt h k).saga ≠ (ndAt h i).saga)
def lastU (x : PCt) (h : List Nd) (k : Nat) (d : Int) : Int := lastP (fun m => inN x h k m d) h.length
def firstU (x : PCt) (h : List Nd) (k : Nat) (d : Int) : Int := firstP (fun m => inN x h k m d) h.length
def arcB (x : PCt) (h : List Nd) (a b : Nat) : Nat → Bool
 | 1 => ownA h a b
 | 2 => depO h b a
 | 3 => (List.range h.length).any fun k => depO h b k && decide (lastU x h k (ndAt h b).cls = (a : Int))
 | 4 => (List.range h.length).any fun i => depO h i a && decide (firstU x h i (ndAt h a).cls = (b : Int))
 | _ => false
def arcA (x : PCt) (h : List Nd) (a b : Nat) : Bool := arcB x h a b 1 || (arcB x h a b 2 || (arcB x h a b 3 || arcB x h a b 4))
theorem arcA_iff {x : PCt} {h : List Nd} {a b : Nat} : arcA x h a b = true ↔ ownA h a b = true ∨ depO h b a = true ∨ (∃ k, depO h b k = true ∧ lastU x h k (ndAt h b).cls = (a : Int)) ∨ ∃ i, depO h i a = true ∧ firstU x h i (ndAt h a).cls = (b : Int) := by
 unfold arcA arcB
 simp only [Bool.or_eq_true, List.any_eq_true, List.mem_range, Bool.and_eq_true, decide_eq_true_eq]
 constructor
 ·rintro (e | e | ⟨k, hk, e, f⟩ | ⟨i, hi, e, f⟩)
  ·exact .inl e
  ·exact .inr (.inl e)
  ·exact .inr (.inr (.inl ⟨k, e, f⟩))
  ·exact .inr (.inr (.inr ⟨i, e, f⟩))
 ·rintro (e | e | ⟨k, e, f⟩ | ⟨i, e, f⟩)
  ·exact .inl e
  ·exact .inr (.inl e)
  ·refine .inr (.inr (.inl ⟨k, ?_, e, f⟩))
   have e1 := e
   unfold depO at e1
   rw [Bool.and_eq_true] at e1
   have := depB_lt e1.1
   omega
  ·refine .inr (.inr (.inr ⟨i, ?_, e, f⟩))
   have e1 := e
   unfold depO at e1
   rw [Bool.and_eq_true] at e1
   exact (depB_lt e1.1).2
theorem depO_lt {h : List Nd} {i k : Nat} (e : depO h i k = true) : k < i ∧ i < h.length ∧ (ndAt h k).saga ≠ (ndAt h i).saga := by
 unfold depO at e
 rw [Bool.and_eq_true, decide_eq_true_eq] at e
 exact ⟨(depB_lt e.1).1, (depB_lt e.1).2, e.2⟩
theorem ownA_lt {h : List Nd} {i k : Nat} (e : ownA h i k = true) : i < k ∧ k < h.length ∧ (ndAt h i).saga = (ndAt h k).saga := by
 unfold ownA at e
 rw [Bool.and_eq_true, decide_eq_true_eq, decide_eq_true_eq] at e
 have h1 := lastN_le h (ndAt h k).saga k
 have h2 := lastN_saga h (ndAt h k).saga k (by omega)
 rw [e.2, Nat.add_sub_cancel] at h2
 exact ⟨by omega, e.1, h2⟩
theorem inN_self (x : PCt) (h : List Nd) (k : Nat) (d : Int) : inN x h k k d = true := by
 unfold inN
 simp
theorem inN_saga {x : PCt} {h : List Nd} {k m : Nat} {d : Int} (e : inN x h k m d = true) : (ndAt h k).saga = (ndAt h m).saga := by
 unfold inN inU at e
 simp only [Bool.or_eq_true, decide_eq_true_eq, Bool.and_eq_true] at e
 rcases e with e | e
 ·rw [e]
 ·exact e.1
theorem lastP_is {p : Nat → Bool} {n k : Nat} (hk : k < n) (hp : p k = true) : ∃ e : Nat, lastP p n = (e : Int) ∧ k ≤ e ∧ e < n ∧ p e = true ∧ ∀ j, e < j → j < n → p j = false := by
 induction n with
 | zero => omega
 | succ n ih =>
  by_cases e : p n = true
  ·exact ⟨n, by unfold lastP; rw [if_pos e], by omega, by omega, e, fun j h1 h2 => by omega⟩
  ·have hkn : k < n := by
    rcases Nat.lt_or_ge k n with h | h
    ·exact h
    ·have : k = n := by omega
     rw [this] at hp
     exact absurd hp e
   obtain ⟨m, h1, h2, h3, h4, h5⟩ := ih hkn
   refine ⟨m, by unfold lastP; rw [if_neg e]; exact h1, h2, by omega, h4, fun j hj1 hj2 => ?_⟩
   by_cases ej : j = n
   ·rw [ej]
    simpa using e
   ·exact h5 j hj1 (by omega)
theorem firstP_is {p : Nat → Bool} {n k : Nat} (hk : k < n) (hp : p k = true) : ∃ e : Nat, firstP p n = (e : Int) ∧ e ≤ k ∧ p e = true ∧ ∀ j, j < e → p j = false := by
 induction k using Nat.strongRecOn with
 | _ k ih =>
  by_cases h : ∃ j, j < k ∧ p j = true
  ·obtain ⟨j, hj, hpj⟩ := h
   obtain ⟨e, h1, h2, h3, h4⟩ := ih j hj (by omega) hpj
   exact ⟨e, h1, by omega, h3, h4⟩
  ·have hno : ∀ j, j < k → p j = false := fun j hj => by
    cases q : p j
    ·rfl
    ·exact absurd ⟨j, hj, q⟩ h
   exact ⟨k, firstP_at hk hp hno, Nat.le_refl _, hp, hno⟩
theorem arcA_lt {x : PCt} {h : List Nd} (a b : Nat) (e : arcA x h a b = true) : a < h.length ∧ b < h.length := by
 rcases arcA_iff.1 e with e | e | ⟨k, e, f⟩ | ⟨i, e, f⟩
 ·have := ownA_lt e
  omega
 ·have := depO_lt e
  omega
 ·have h1 := depO_lt e
  obtain ⟨m, h2, _, h3, _⟩ := lastP_is (p := fun m => inN x h k m (ndAt h b).cls) (n := h.length) (k := k) (by omega) (inN_self _ _ _ _)
  unfold lastU at f
  rw [h2] at f
  omega
 ·have h1 := depO_lt e
  obtain ⟨m, h2, h3, _⟩ := firstP_is (p := fun m => inN x h i m (ndAt h a).cls) (n := h.length) (k := i) (by omega) (inN_self _ _ _ _)
  unfold firstU at f
  rw [h2] at f
  omega
theorem own_chain (h : List Nd) : ∀ b, b < h.length → ∀ a, a < b → (ndAt h a).saga = (ndAt h b).saga → Way (ownA h) a b := by
 intro b
 induction b using Nat.strongRecOn with
 | _ b ih =>
  intro hb a hab hs
  have h1 := lastN_ge h (ndAt h b).saga b hab hs
  have h2 := lastN_le h (ndAt h b).saga b
  have h3 := lastN_saga h (ndAt h b).saga b (by omega)
  have ho : ownA h (lastN h (ndAt h b).saga b - 1) b = true := by
   unfold ownA
   rw [decide_eq_true hb, Bool.true_and]
   exact decide_eq_true (by omega)
  by_cases e : a = lastN h (ndAt h b).saga b - 1
  ·rw [e]
   exact .one ho
  ·exact .more (ih _ (by omega) (by omega) a (by omega) (by rw [hs, h3])) ho
theorem own_arc {x : PCt} {h : List Nd} {a b : Nat} (e : ownA h a b = true) : arcA x h a b = true := arcA_iff.2 (.inl e)
theorem saga_way (x : PCt) {h : List Nd} {a b : Nat} (hb : b < h.length) (hab : a < b) (hs : (ndAt h a).saga = (ndAt h b).saga) : Way (arcA x h) a b := (own_chain h b hb a hab hs).mono (fun _ _ e => .one (own_arc e))
def wayB (x : PCt) (h : List Nd) (i k : Nat) : Bool := wsh (arcA x h) h.length i k
theorem wayB_iff {x : PCt} {h : List Nd} {i k : Nat} : wayB x h i k = true ↔ Way (arcA x h) i k := way_iff arcA_lt
def freeB (x : PCt) (h : List Nd) : Bool := (List.range h.length).all fun i => !wayB x h i i
def goodH (x : PCt) (h : List Nd) : Bool := mayH x h && freeB x h
theorem freeB_iff {x : PCt} {h : List Nd} : freeB x h = true ↔ ∀ i, ¬ Way (arcA x h) i i := by
 unfold freeB
 rw [List.all_eq_true]
 constructor
 ·intro f i hw
  have hi : i < h.length := by
   obtain ⟨j, hj⟩ := hw.first
   exact (arcA_lt _ _ hj).1
  have := f i (List.mem_range.2 hi)
  rw [wayB_iff.2 hw] at this
  cases this
 ·intro f i _
  cases q : wayB x h i i
  ·rfl
  ·exact absurd (wayB_iff.1 q) (f i)
end Go.Proofs.YtmeimhpllemjfaaGreat
/- The graph of a history, purely: its beginnings; a node more; in which order its nodes are told. -/
namespace Go.Proofs.YtmeimhpllemjfaaGreat
open Go.RowKit

theorem ndAt_tk (h : List Nd) {n i : Nat} (hi : i < n) : ndAt (h.take n) i = ndAt h i := by
 unfold ndAt
 rw [List.getD_eq_getElem?_getD, List.getD_eq_getElem?_getD, List.getElem?_take, if_pos hi]
theorem lastN_tk (h : List Nd) (s : Int) {n : Nat} : ∀ i, i ≤ n → lastN (h.take n) s i = lastN h s i
 | 0, _ => rfl
 | i + 1, hi => by
  unfold lastN
  rw [ndAt_tk h (show i < n by omega), lastN_tk h s i (by omega)]
end Go.Proofs.YtmeimhpllemjfaaGreat
/- In which order nodes are told: again and again the least one that is ready. -/
namespace Go.Proofs.YtmeimhpllemjfaaGreat
open Go.RowKit

theorem cntB_sub {p q : Nat → Bool} (hpq : ∀ i, p i = true → q i = true) {k n : Nat} (hk : k < n) (hp : p k = false) (hq : q k = true) : cntB p n < cntB q n := by
 induction n with
 | zero => omega
 | succ n ih =>
  unfold cntB
  have hle : cntB p n ≤ cntB q n := cntB_mono n hpq
  by_cases e : k = n
  ·subst e
   rw [hp, hq]
   simp
   omega
  ·have := ih (by omega)
   by_cases e2 : p n = true
   ·rw [if_pos e2, if_pos (hpq n e2)]
    omega
   ·rw [if_neg e2]
    omega
def readyB (d : Nat → Nat → Bool) (n : Nat) (t : List Nat) (i : Nat) : Bool := !decide (i ∈ t) && (List.range n).all fun k => decide (k ∈ t) || !d k i
theorem readyB_iff {d : Nat → Nat → Bool} {n : Nat} {t : List Nat} {i : Nat} : readyB d n t i = true ↔ i ∉ t ∧ ∀ k, k < n → d k i = true → k ∈ t := by
 unfold readyB
 rw [Bool.and_eq_true, List.all_eq_true]
 simp only [Bool.not_eq_true', decide_eq_false_iff_not, List.mem_range, Bool.or_eq_true, decide_eq_true_eq]
 constructor
 ·rintro ⟨h1, h2⟩
  exact ⟨h1, fun k hk hd => (h2 k hk).resolve_right (by rw [hd]; simp)⟩
 ·rintro ⟨h1, h2⟩
  refine ⟨h1, fun k hk => ?_⟩
  cases q : d k i
  ·exact .inr rfl
  ·exact .inl (h2 k hk q)
def nextR (d : Nat → Nat → Bool) (n : Nat) (t : List Nat) : Int := firstP (readyB d n t) n
def ordT (d : Nat → Nat → Bool) (n : Nat) : Nat → List Nat
 | 0 => []
 | j + 1 => ordT d n j ++ [(nextR d n (ordT d n j)).toNat]
theorem ordT_len (d : Nat → Nat → Bool) (n j : Nat) : (ordT d n j).length = j := by
 induction j with
 | zero => rfl
 | succ j ih => rw [ordT, List.length_append, ih]; rfl
theorem some_ready {d : Nat → Nat → Bool} {n : Nat} {t : List Nat} (htr : ∀ i j k, d i j = true → d j k = true → d i k = true) (hac : ∀ i, d i i = false) {i : Nat} (hi : i < n) (ht : i ∉ t) : ∃ j, j < n ∧ readyB d n t j = true := by
 suffices H : ∀ c i, i < n → i ∉ t → cntB (fun k => d k i && !decide (k ∈ t)) n = c → ∃ j, j < n ∧ readyB d n t j = true from H _ i hi ht rfl
 intro c
 induction c using Nat.strongRecOn with
 | _ c ih =>
  intro i hi ht hc
  by_cases h : ∃ k, k < n ∧ d k i = true ∧ k ∉ t
  ·obtain ⟨k, hk, hd, hkt⟩ := h
   refine ih (cntB (fun m => d m k && !decide (m ∈ t)) n) ?_ k hk hkt rfl
   rw [← hc]
   exact cntB_sub (p := fun m => d m k && !decide (m ∈ t)) (q := fun m => d m i && !decide (m ∈ t)) (fun m hm => by
    simp only [Bool.and_eq_true] at hm ⊢
    exact ⟨htr m k i hm.1 hd, hm.2⟩) hk (by simp [hac k]) (by simp [hd, hkt])
  ·exact ⟨i, hi, readyB_iff.2 ⟨ht, fun k hk hd => Classical.byContradiction fun q => h ⟨k, hk, hd, q⟩⟩⟩
structure Told (d : Nat → Nat → Bool) (n : Nat) (t : List Nat) : Prop where
 nodup : t.Nodup
 lt : ∀ i ∈ t, i < n
 down : ∀ i k, i ∈ t → k < n → d k i = true → k ∈ t
theorem Told.nil (d : Nat → Nat → Bool) (n : Nat) : Told d n [] := ⟨List.nodup_nil, fun i h => (by cases h), fun i k h => (by cases h)⟩
theorem Told.more {d : Nat → Nat → Bool} {n : Nat} {t : List Nat} (h : Told d n t) {i : Nat} (hi : i < n) (hr : readyB d n t i = true) : Told d n (t ++ [i]) := by
 obtain ⟨h1, h2⟩ := readyB_iff.1 hr
 refine ⟨?_, fun j hj => ?_, fun j k hj hk hd => ?_⟩
 ·rw [List.nodup_append]
  exact ⟨h.nodup, by simp, fun a ha b hb => by rw [List.mem_singleton.1 hb]; rintro rfl; exact h1 ha⟩
 ·rcases List.mem_append.1 hj with q | q
  ·exact h.lt j q
  ·rw [List.mem_singleton.1 q]; exact hi
 ·rw [List.mem_append]
  rcases List.mem_append.1 hj with q | q
  ·exact .inl (h.down j k q hk hd)
  ·rw [List.mem_singleton.1 q] at hd
   exact .inl (h2 k hk hd)
theorem all_len : ∀ (n : Nat) (t : List Nat), (∀ i, i < n → i ∈ t) → n ≤ t.length
 | 0, _, _ => Nat.zero_le _
 | n + 1, t, h => by
  have h1 := all_len n (t.erase n) (fun i hi => (List.mem_erase_of_ne (by omega)).2 (h i (by omega)))
  have h2 := List.length_erase_of_mem (h n (by omega))
  have h3 := List.length_pos_of_mem (h n (by omega))
  omega
theorem Told.room {d : Nat → Nat → Bool} {n : Nat} {t : List Nat} (_ : Told d n t) (hl : t.length < n) : ∃ i, i < n ∧ i ∉ t := by
 apply Classical.byContradiction
 intro hno
 have hall : ∀ i, i < n → i ∈ t := fun i hi => Classical.byContradiction fun q => hno ⟨i, hi, q⟩
 have h1 := all_len n t hall
 omega
theorem down_way {a : Nat → Nat → Bool} {n : Nat} {t : List Nat} (ha : ∀ i k, a i k = true → i < n ∧ k < n) (hd : ∀ i k, i ∈ t → k < n → a k i = true → k ∈ t) {i k : Nat} (hw : Way a k i) (hi : i ∈ t) : k ∈ t := by
 induction hw with
 | one q => exact hd _ _ hi (ha _ _ q).1 q
 | more _ q ih => exact ih (hd _ _ hi (ha _ _ q).1 q)
theorem ready_way {a w : Nat → Nat → Bool} {n : Nat} {t : List Nat} (ha : ∀ i k, a i k = true → i < n ∧ k < n) (hw : ∀ i k, w i k = true ↔ Way a i k) (hd : ∀ i k, i ∈ t → k < n → a k i = true → k ∈ t) (i : Nat) : readyB w n t i = readyB a n t i := by
 rw [Bool.eq_iff_iff, readyB_iff, readyB_iff]
 refine and_congr_right fun _ => ⟨fun h k hk q => h k hk ((hw k i).2 (.one q)), fun h k hk q => ?_⟩
 cases (hw k i).1 q with
 | one q => exact h k hk q
 | more g q => exact down_way ha hd g (h _ (ha _ _ q).1 q)
end Go.Proofs.YtmeimhpllemjfaaGreat
/- Arcs as they lie; all arcs in order. -/
namespace Go.Proofs.YtmeimhpllemjfaaGreat
open Go.RowKit

def arcC (t : Nat × Nat × Nat) : List Value := [.int .i64 (t.1 : Int), .int .i64 (t.2.1 : Int), .int .i64 (t.2.2 : Int)]
theorem arcC_len (t : Nat × Nat × Nat) : (arcC t).length = 3 := rfl
theorem Sl.arc {w : World} {B : Nat} {A : Option Addr} {l : List (Nat × Nat × Nat)} (h : Sl w B A (l.flatMap arcC)) {k : Nat} (hk : k < l.length) :
  ∃ ad, A = some ad ∧ ad.block < B ∧ w.cell? (ad.add (k * 3)) = some (.int .i64 (l[k].1 : Int)) ∧ w.cell? ⟨(ad.add (k * 3)).block, (ad.add (k * 3)).off + 1, none⟩ = some (.int .i64 (l[k].2.1 : Int)) ∧ w.cell? ⟨(ad.add (k * 3)).block, (ad.add (k * 3)).off + 2, none⟩ = some (.int .i64 (l[k].2.2 : Int)) := by
 obtain ⟨ad, e, hb, hc⟩ := h.row 3 arcC_len hk (by omega)
 exact ⟨ad, e, hb, hc 0 _ rfl, hc 1 _ rfl, hc 2 _ rfl⟩
def kL (p : Nat → Bool) : Nat → List Nat
 | 0 => []
 | m + 1 => kL p m ++ (if 1 ≤ m ∧ p m = true then [m] else [])
def cellA (p : Nat → Nat → Nat → Bool) (i k m : Nat) : List (Nat × Nat × Nat) := (kL (p i k) m).map fun j => (i, k, j)
def rowA (p : Nat → Nat → Nat → Bool) (i k : Nat) : List (Nat × Nat × Nat) := (List.range k).flatMap fun k' => cellA p i k' 5
def allA (p : Nat → Nat → Nat → Bool) (n i : Nat) : List (Nat × Nat × Nat) := (List.range i).flatMap fun i' => rowA p i' n
def arcsL (x : PCt) (h : List Nd) : List (Nat × Nat × Nat) := allA (arcB x h) h.length h.length
theorem cellA_step (p : Nat → Nat → Nat → Bool) (i k m : Nat) : cellA p i k (m + 1) = cellA p i k m ++ (if 1 ≤ m ∧ p i k m = true then [(i, k, m)] else []) := by
 unfold cellA
 rw [kL, List.map_append]
 split <;> rfl
theorem rowA_step (p : Nat → Nat → Nat → Bool) (i k : Nat) : rowA p i (k + 1) = rowA p i k ++ cellA p i k 5 := by
 unfold rowA
 rw [List.range_succ, List.flatMap_append]
 simp
theorem allA_step (p : Nat → Nat → Nat → Bool) (n i : Nat) : allA p n (i + 1) = allA p n i ++ rowA p i n := by
 unfold allA
 rw [List.range_succ, List.flatMap_append]
 simp
theorem kL_mem {p : Nat → Bool} {m j : Nat} : j ∈ kL p m ↔ j < m ∧ 1 ≤ j ∧ p j = true := by
 induction m with
 | zero => simp [kL]
 | succ m ih =>
  rw [kL, List.mem_append, ih]
  by_cases e : 1 ≤ m ∧ p m = true
  ·rw [if_pos e, List.mem_singleton]
   constructor
   ·rintro (⟨h1, h2⟩ | h)
    ·exact ⟨by omega, h2⟩
    ·rw [h]; exact ⟨by omega, e⟩
   ·rintro ⟨h1, h2⟩
    by_cases q : j = m
    ·exact .inr q
    ·exact .inl ⟨by omega, h2⟩
  ·rw [if_neg e]
   constructor
   ·rintro (⟨h1, h2⟩ | h)
    ·exact ⟨by omega, h2⟩
    ·cases h
   ·rintro ⟨h1, h2⟩
    by_cases q : j = m
    ·rw [q] at h2
     exact absurd h2 e
    ·exact .inl ⟨by omega, h2⟩
theorem allA_mem {p : Nat → Nat → Nat → Bool} {n i : Nat} {t : Nat × Nat × Nat} : t ∈ allA p n i ↔ t.1 < i ∧ t.2.1 < n ∧ t.2.2 < 5 ∧ 1 ≤ t.2.2 ∧ p t.1 t.2.1 t.2.2 = true := by
 obtain ⟨a, b, m⟩ := t
 unfold allA rowA cellA
 simp only [List.mem_flatMap, List.mem_range, List.mem_map, Prod.mk.injEq]
 constructor
 ·rintro ⟨i', h1, k', h2, j, h3, rfl, rfl, rfl⟩
  have := kL_mem.1 h3
  exact ⟨h1, h2, this⟩
 ·rintro ⟨h1, h2, h3⟩
  exact ⟨a, h1, b, h2, m, kL_mem.2 h3, rfl, rfl, rfl⟩
theorem kL_congr {p q : Nat → Bool} (h : ∀ m, 1 ≤ m → m < 5 → p m = q m) : ∀ m, m ≤ 5 → kL p m = kL q m
 | 0, _ => rfl
 | m + 1, hm => by
  rw [kL, kL, kL_congr h m (by omega)]
  by_cases e : 1 ≤ m
  ·rw [h m e (by omega)]
  ·rw [if_neg (fun q => e q.1), if_neg (fun q => e q.1)]
theorem allA_congr {p q : Nat → Nat → Nat → Bool} (h : ∀ a b m, 1 ≤ m → m < 5 → p a b m = q a b m) (n i : Nat) : allA p n i = allA q n i := by
 unfold allA rowA cellA
 congr 1
 funext i'
 congr 1
 funext k'
 rw [kL_congr (h i' k') 5 (Nat.le_refl 5)]
theorem any_arc (x : PCt) (h : List Nd) {a b : Nat} (ha : a < h.length) (hb : b < h.length) : ((arcsL x h).any fun t => decide (t.1 = a ∧ t.2.1 = b)) = arcA x h a b := by
 rw [Bool.eq_iff_iff, List.any_eq_true]
 unfold arcsL
 constructor
 ·rintro ⟨⟨a', b', m⟩, ht, e⟩
  rw [decide_eq_true_eq] at e
  obtain ⟨rfl, rfl⟩ := e
  obtain ⟨_, _, h3, h4, h5⟩ := allA_mem.1 ht
  dsimp only at h3 h4 h5
  unfold arcA
  rw [Bool.or_eq_true, Bool.or_eq_true, Bool.or_eq_true]
  rcases (show m = 1 ∨ m = 2 ∨ m = 3 ∨ m = 4 by omega) with rfl | rfl | rfl | rfl
  ·exact .inl h5
  ·exact .inr (.inl h5)
  ·exact .inr (.inr (.inl h5))
  ·exact .inr (.inr (.inr h5))
 ·intro e
  unfold arcA at e
  rw [Bool.or_eq_true, Bool.or_eq_true, Bool.or_eq_true] at e
  rcases e with e | e | e | e
  ·exact ⟨(a, b, 1), allA_mem.2 ⟨ha, hb, show (1 : Nat) < 5 by decide, show (1 : Nat) ≤ 1 by decide, e⟩, by simp⟩
  ·exact ⟨(a, b, 2), allA_mem.2 ⟨ha, hb, show (2 : Nat) < 5 by decide, show (1 : Nat) ≤ 2 by decide, e⟩, by simp⟩
  ·exact ⟨(a, b, 3), allA_mem.2 ⟨ha, hb, show (3 : Nat) < 5 by decide, show (1 : Nat) ≤ 3 by decide, e⟩, by simp⟩
  ·exact ⟨(a, b, 4), allA_mem.2 ⟨ha, hb, show (4 : Nat) < 5 by decide, show (1 : Nat) ≤ 4 by decide, e⟩, by simp⟩
theorem arcs_lt {x : PCt} {h : List Nd} {t : Nat × Nat × Nat} (ht : t ∈ arcsL x h) : t.1 < h.length ∧ t.2.1 < h.length ∧ t.2.2 < 5 := by
 have := allA_mem.1 ht
 exact ⟨this.1, this.2.1, this.2.2.1⟩
theorem wsh_spot (d : Nat → Nat → Bool) (m i k : Nat) : wsh d (m + 1) m k = wsh d m m k ∧ wsh d (m + 1) i m = wsh d m i m := by
 constructor
 ·show (wsh d m m k || (wsh d m m m && wsh d m m k)) = _
  cases wsh d m m k <;> simp
 ·show (wsh d m i m || (wsh d m i m && wsh d m m m)) = _
  cases wsh d m i m <;> simp
theorem curW_lft (d : Nat → Nat → Bool) (m i k i' : Nat) : curW d m i k i' m = wsh d m i' m := by
 unfold curW
 split
 ·exact (wsh_spot d m i' 0).2
 ·rfl
theorem curW_rgt (d : Nat → Nat → Bool) (m i k k' : Nat) : curW d m i k m k' = wsh d m m k' := by
 unfold curW
 split
 ·exact (wsh_spot d m 0 k').1
 ·rfl
end Go.Proofs.YtmeimhpllemjfaaGreat
/- Which arcs have been marked, while the document's graph is being made. -/
namespace Go.Proofs.YtmeimhpllemjfaaGreat
open Go.RowKit

def genA (x : PCt) (h : List Nd) (i k a b m : Nat) : Bool := decide (m = 2 ∧ a = k ∧ b = i) || (decide (m = 3 ∧ b = i ∧ lastU x h k (ndAt h i).cls = (a : Int)) || decide (m = 4 ∧ a = k ∧ firstU x h i (ndAt h k).cls = (b : Int)))
def stA (x : PCt) (h : List Nd) (o i k a b m : Nat) : Bool := (decide (m = 1 ∧ b < o) && ownA h a b) || (List.range h.length).any fun i' => (List.range h.length).any fun k' => decide (i' < i ∨ (i' = i ∧ k' < k)) && (depO h i' k' && genA x h i' k' a b m)
theorem stA_iff {x : PCt} {h : List Nd} {o i k a b m : Nat} : stA x h o i k a b m = true ↔ (m = 1 ∧ b < o ∧ ownA h a b = true) ∨ ∃ i' k', (i' < i ∨ (i' = i ∧ k' < k)) ∧ depO h i' k' = true ∧ genA x h i' k' a b m = true := by
 unfold stA
 simp only [Bool.or_eq_true, Bool.and_eq_true, decide_eq_true_eq, List.any_eq_true, List.mem_range, and_assoc]
 refine or_congr_right ⟨?_, ?_⟩
 ·rintro ⟨i', _, k', _, h1, h2, h3⟩
  exact ⟨i', k', h1, h2, h3⟩
 ·rintro ⟨i', k', h1, h2, h3⟩
  have := depO_lt h2
  exact ⟨i', this.2.1, k', by omega, h1, h2, h3⟩
theorem stA_start (x : PCt) (h : List Nd) (a b m : Nat) : stA x h 0 0 0 a b m = false := by
 cases e : stA x h 0 0 0 a b m
 ·rfl
 ·rcases stA_iff.1 e with ⟨_, h1, _⟩ | ⟨i', k', h1, _⟩ <;> omega
theorem stA_none {x : PCt} {h : List Nd} {i : Nat} (hl : lastN h (ndAt h i).saga i = 0) (a b m : Nat) : stA x h (i + 1) i 0 a b m = stA x h i i 0 a b m := by
 rw [Bool.eq_iff_iff, stA_iff, stA_iff]
 refine or_congr_left ⟨fun ⟨h1, h2, h3⟩ => ⟨h1, ?_, h3⟩, fun ⟨h1, h2, h3⟩ => ⟨h1, by omega, h3⟩⟩
 by_cases e : b = i
 ·subst e
  unfold ownA at h3
  rw [Bool.and_eq_true, decide_eq_true_eq, decide_eq_true_eq] at h3
  omega
 ·omega
theorem stA_own {x : PCt} {h : List Nd} {i l : Nat} (hi : i < h.length) (hl : lastN h (ndAt h i).saga i = l + 1) (a b m : Nat) : stA x h (i + 1) i 0 a b m = if a = l ∧ b = i ∧ m = 1 then true else stA x h i i 0 a b m := by
 rw [Bool.eq_iff_iff, stA_iff]
 by_cases e : a = l ∧ b = i ∧ m = 1
 ·rw [if_pos e]
  obtain ⟨rfl, rfl, rfl⟩ := e
  refine ⟨fun _ => rfl, fun _ => .inl ⟨rfl, by omega, ?_⟩⟩
  unfold ownA
  rw [decide_eq_true hi, hl]
  simp
 ·rw [if_neg e, stA_iff]
  refine or_congr_left ⟨fun ⟨h1, h2, h3⟩ => ⟨h1, ?_, h3⟩, fun ⟨h1, h2, h3⟩ => ⟨h1, by omega, h3⟩⟩
  by_cases eb : b = i
  ·subst eb
   unfold ownA at h3
   rw [Bool.and_eq_true, decide_eq_true_eq, decide_eq_true_eq] at h3
   exact absurd ⟨by omega, rfl, h1⟩ e
  ·omega
theorem stA_skip {x : PCt} {h : List Nd} {o i k : Nat} (hd : depO h i k = false) (a b m : Nat) : stA x h o i (k + 1) a b m = stA x h o i k a b m := by
 rw [Bool.eq_iff_iff, stA_iff, stA_iff]
 refine or_congr_right ⟨?_, ?_⟩
 ·rintro ⟨i', k', h1, h2, h3⟩
  refine ⟨i', k', ?_, h2, h3⟩
  by_cases e : i' = i ∧ k' = k
  ·rw [e.1, e.2, hd] at h2
   cases h2
  ·omega
 ·rintro ⟨i', k', h1, h2, h3⟩
  exact ⟨i', k', by omega, h2, h3⟩
theorem stA_pair {x : PCt} {h : List Nd} {o i k : Nat} (hd : depO h i k = true) (a b m : Nat) : stA x h o i (k + 1) a b m = (stA x h o i k a b m || genA x h i k a b m) := by
 rw [Bool.eq_iff_iff, Bool.or_eq_true, stA_iff, stA_iff]
 constructor
 ·rintro (q | ⟨i', k', h1, h2, h3⟩)
  ·exact .inl (.inl q)
  ·by_cases e : i' = i ∧ k' = k
   ·rw [e.1, e.2] at h3
    exact .inr h3
   ·exact .inl (.inr ⟨i', k', by omega, h2, h3⟩)
 ·rintro ((q | ⟨i', k', h1, h2, h3⟩) | q)
  ·exact .inl q
  ·exact .inr ⟨i', k', by omega, h2, h3⟩
  ·exact .inr ⟨i, k, by omega, hd, q⟩
theorem stA_row (x : PCt) (h : List Nd) (o i a b m : Nat) : stA x h o i h.length a b m = stA x h o (i + 1) 0 a b m := by
 rw [Bool.eq_iff_iff, stA_iff, stA_iff]
 refine or_congr_right ⟨?_, ?_⟩
 ·rintro ⟨i', k', h1, h2, h3⟩
  exact ⟨i', k', by omega, h2, h3⟩
 ·rintro ⟨i', k', h1, h2, h3⟩
  have := depO_lt h2
  exact ⟨i', k', by omega, h2, h3⟩
theorem stA_fin (x : PCt) (h : List Nd) {a b m : Nat} (h1 : 1 ≤ m) (h5 : m < 5) : stA x h h.length h.length 0 a b m = arcB x h a b m := by
 rw [Bool.eq_iff_iff, stA_iff]
 have hex : ∀ P : Nat → Nat → Prop, (∃ i' k', (i' < h.length ∨ (i' = h.length ∧ k' < 0)) ∧ depO h i' k' = true ∧ P i' k') ↔ ∃ i' k', depO h i' k' = true ∧ P i' k' := fun P => ⟨fun ⟨i', k', _, q⟩ => ⟨i', k', q⟩, fun ⟨i', k', q, r⟩ => ⟨i', k', .inl (depO_lt q).2.1, q, r⟩⟩
 rw [hex]
 unfold genA
 simp only [Bool.or_eq_true, decide_eq_true_eq]
 rcases (show m = 1 ∨ m = 2 ∨ m = 3 ∨ m = 4 by omega) with rfl | rfl | rfl | rfl
 ·constructor
  ·rintro (⟨_, _, q⟩ | ⟨i', k', _, q⟩)
   ·exact q
   ·omega
  ·intro q
   exact .inl ⟨rfl, (ownA_lt q).2.1, q⟩
 ·constructor
  ·rintro (⟨q, _⟩ | ⟨i', k', q, r | r | r⟩)
   ·omega
   ·obtain ⟨_, rfl, rfl⟩ := r
    exact q
   ·omega
   ·omega
  ·intro q
   exact .inr ⟨b, a, q, .inl ⟨rfl, rfl, rfl⟩⟩
 ·show _ ↔ ((List.range h.length).any fun k => depO h b k && decide (lastU x h k (ndAt h b).cls = (a : Int))) = true
  simp only [List.any_eq_true, List.mem_range, Bool.and_eq_true, decide_eq_true_eq]
  constructor
  ·rintro (⟨q, _⟩ | ⟨i', k', q, r | r | r⟩)
   ·omega
   ·omega
   ·obtain ⟨_, rfl, r⟩ := r
    have := depO_lt q
    exact ⟨k', by omega, q, r⟩
   ·omega
  ·rintro ⟨k, _, q, r⟩
   exact .inr ⟨b, k, q, .inr (.inl ⟨by first | rfl | trivial, by first | rfl | trivial, r⟩)⟩
 ·show _ ↔ ((List.range h.length).any fun i => depO h i a && decide (firstU x h i (ndAt h a).cls = (b : Int))) = true
  simp only [List.any_eq_true, List.mem_range, Bool.and_eq_true, decide_eq_true_eq]
  constructor
  ·rintro (⟨q, _⟩ | ⟨i', k', q, r | r | r⟩)
   ·omega
   ·omega
   ·omega
   ·obtain ⟨_, rfl, r⟩ := r
    exact ⟨i', (depO_lt q).2.1, q, r⟩
  ·rintro ⟨i, _, q, r⟩
   exact .inr ⟨i, a, q, .inr (.inr ⟨by first | rfl | trivial, by first | rfl | trivial, r⟩)⟩
def mk3 (p : Nat → Nat → Nat → Bool) (j : Nat) : Bool := p (j / 500) (j % 500 / 5) (j % 5)
theorem mk3_at (p : Nat → Nat → Nat → Bool) {a b m : Nat} (hb : b < 100) (hm : m < 5) : mk3 p (a * 500 + b * 5 + m) = p a b m := by
 unfold mk3
 rw [show (a * 500 + b * 5 + m) / 500 = a by omega, show (a * 500 + b * 5 + m) % 500 / 5 = b by omega, show (a * 500 + b * 5 + m) % 5 = m by omega]
theorem mk3_put (p : Nat → Nat → Nat → Bool) {a b m : Nat} (hb : b < 100) (hm : m < 5) : upd (mk3 p) (a * 500 + b * 5 + m) true = mk3 (fun a' b' m' => if a' = a ∧ b' = b ∧ m' = m then true else p a' b' m') := by
 funext j
 unfold upd mk3
 by_cases e : j = a * 500 + b * 5 + m
 ·rw [if_pos e]
  exact (if_pos (by omega)).symm
 ·rw [if_neg e]
  exact (if_neg (by omega)).symm
end Go.Proofs.YtmeimhpllemjfaaGreat
/- The document's own: lists of numbers that are the same. -/
namespace Go.Proofs.YtmeimhpllemjfaaGreat
open Go.RowKit

theorem info_int16 : (Tryz.prog.info? 3).map (fun i => (i.zero, i.size, i.bytes)) = some (some (.int .i64 0), 1, 8) := by kernel_rfl
theorem nums_snoc (l : List Nat) (k : Nat) : nums (l ++ [k]) = nums l ++ [.int .i64 (k : Int)] := by simp [nums]
end Go.Proofs.YtmeimhpllemjfaaGreat
/- A catalogue with more breakpoints; a history's beginning: purely. -/
namespace Go.Proofs.YtmeimhpllemjfaaGreat
open Go.RowKit

end Go.Proofs.YtmeimhpllemjfaaGreat
/- What the package gathers, purely: arcs in order, each once; from which nodes arcs lead to a node. -/
namespace Go.Proofs.YtmeimhpllemjfaaGreat
open Go.RowKit

abbrev Tr := Nat × Nat × Nat
theorem lastU_nat {x : PCt} {h : List Nd} {k : Nat} (hk : k < h.length) (d : Int) : 0 ≤ lastU x h k d ∧ lastU x h k d < (h.length : Int) := by
 obtain ⟨m, h1, h2, h3, _⟩ := lastP_is (p := fun m => inN x h k m d) (n := h.length) (k := k) hk (inN_self _ _ _ _)
 unfold lastU
 omega
end Go.Proofs.YtmeimhpllemjfaaGreat
/- Nodes told one by one, each once all that lead to it are told: purely. -/
namespace Go.Proofs.YtmeimhpllemjfaaGreat
open Go.RowKit

inductive Greedy (a : Nat → Nat → Bool) (n : Nat) : List Nat → Prop
 | nil : Greedy a n []
 | more {t : List Nat} {i : Nat} : Greedy a n t → i < n → readyB a n t i = true → Greedy a n (t ++ [i])
theorem Greedy.told {a : Nat → Nat → Bool} {n : Nat} {t : List Nat} (h : Greedy a n t) : Told a n t := by
 induction h with
 | nil => exact Told.nil a n
 | more _ hi hr ih => exact ih.more hi hr
theorem Greedy.stuck {a : Nat → Nat → Bool} {n : Nat} (ha : ∀ i k, a i k = true → i < n ∧ k < n) {t : List Nat} (h : Greedy a n t) (hl : t.length < n) (hno : ∀ i, i < n → readyB a n t i = false) : ∃ i, Way a i i := by
 apply Classical.byContradiction
 intro hc
 have hw : ∀ i k, wsh a n i k = true ↔ Way a i k := fun i k => way_iff ha
 have hac : ∀ i, wsh a n i i = false := fun i => by
  cases e : wsh a n i i
  ·rfl
  ·exact absurd ⟨i, (hw i i).1 e⟩ hc
 have ht := h.told
 obtain ⟨i, hi, hit⟩ := ht.room hl
 obtain ⟨j, hj, hr⟩ := some_ready (d := wsh a n) (t := t) (fun i j k h1 h2 => (hw i k).2 (((hw i j).1 h1).trans ((hw j k).1 h2))) hac hi hit
 rw [ready_way ha hw (fun i k hi hk q => ht.down i k hi hk q) j] at hr
 rw [hno j hj] at hr
 cases hr
theorem greedy_ord {a : Nat → Nat → Bool} {n : Nat} (ha : ∀ i k, a i k = true → i < n ∧ k < n) (hc : ∀ i, ¬ Way a i i) : ∀ j, j ≤ n → Greedy a n (ordT a n j)
 | 0, _ => .nil
 | j + 1, hj => by
  have ih := greedy_ord ha hc j (by omega)
  have hln : (ordT a n j).length < n := by rw [ordT_len]; omega
  have hex : ∃ i, i < n ∧ readyB a n (ordT a n j) i = true := by
   apply Classical.byContradiction
   intro hno
   obtain ⟨i, hi⟩ := ih.stuck ha hln (fun i hi => by
    cases e : readyB a n (ordT a n j) i
    ·rfl
    ·exact absurd ⟨i, hi, e⟩ hno)
   exact hc i hi
  obtain ⟨i, hi, hr⟩ := hex
  obtain ⟨e, h1, h2, h3, h4⟩ := firstP_is hi hr
  have h1' : nextR a n (ordT a n j) = (e : Int) := h1
  rw [ordT, h1', Int.toNat_natCast]
  exact ih.more (by omega) h3
end Go.Proofs.YtmeimhpllemjfaaGreat
/- What is gone through from a node back along arcs, purely: all from which a way leads to it. -/
namespace Go.Proofs.YtmeimhpllemjfaaGreat
open Go.RowKit

def mark (s : Nat → Bool) (j : Nat) (i : Nat) : Bool := s i || decide (i = j)
end Go.Proofs.YtmeimhpllemjfaaGreat
