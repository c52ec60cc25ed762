/- Orders of a history, purely: which keep it, which are fair; a history has a fair one just if its graph is good. -/
import Derived.Test.YtmeimhpllemjfaaGreatRsg16
import Derived.Test.YtmeimhpllemjfaaGreatMaps
import Derived.Laws.EntriesVeiled
import Derived.Test.YtmeimhpllemjfaaGreatIdx9
import Derived.Test.YtmeimhpllemjfaaGreatHand
namespace Go.Proofs.YtmeimhpllemjfaaGreat
open Go.RowKit

def keepP (h : List Nd) (p : Nat → Int) : Prop := ∀ i k, k < i → i < h.length → ((ndAt h i).saga = (ndAt h k).saga ∨ confN (ndAt h i) (ndAt h k) = true) → p k ≤ p i
def fairP (x : PCt) (h : List Nd) (p : Nat → Int) : Prop := keepP h p ∧ ∀ o a b u, o < h.length → a < h.length → b < h.length → u < h.length → (ndAt h a).saga ≠ (ndAt h o).saga → inN x h a b (ndAt h o).cls = true → p a ≤ p o → p o ≤ p b → inN x h a u (ndAt h o).cls = true → depB h o u = false ∧ depB h u o = false
def ownP (n : Nat) (p : Nat → Int) : Prop := ∀ i k, i < n → k < n → p i = p k → i = k
theorem inN_sym {x : PCt} {h : List Nd} (hm : mayH x h = true) {i k : Nat} (hi : i < h.length) (hk : k < h.length) {d : Int} (e : inN x h i k d = true) : inN x h k i d = true := by
 unfold inN inU at *
 simp only [Bool.or_eq_true, decide_eq_true_eq, Bool.and_eq_true, Bool.not_eq_true'] at *
 rcases e with e | ⟨e1, e2, e3, e4⟩
 ·exact .inl e.symm
 ·have hc := saga_class hm (i := i) (k := k) (by omega) (by omega) e1
  exact .inr ⟨e1.symm, e3, e2, by rw [← hc]; exact e4.symm⟩
theorem inN_trans {x : PCt} {h : List Nd} (hm : mayH x h = true) {i k j : Nat} (hi : i < h.length) (hk : k < h.length) {d : Int} (e : inN x h i k d = true) (f : inN x h k j d = true) : inN x h i j d = true := by
 unfold inN inU at *
 simp only [Bool.or_eq_true, decide_eq_true_eq, Bool.and_eq_true, Bool.not_eq_true'] at *
 rcases e with e | ⟨e1, e2, e3, e4⟩
 ·rw [e]; exact f
 ·rcases f with f | ⟨f1, f2, f3, f4⟩
  ·rw [← f]; exact .inr ⟨e1, e2, e3, e4⟩
  ·have hc := saga_class hm (i := i) (k := k) (by omega) (by omega) e1
   exact .inr ⟨e1.trans f1, e2, f3, by rw [e4]; rw [hc] at *; exact f4⟩
theorem keep_dep {h : List Nd} {p : Nat → Int} (hk : keepP h p) (ho : ownP h.length p) {i k : Nat} (e : depB h i k = true) : p k < p i := by
 refine wsh_least (R := fun i k => p k < p i) (fun i k q => ?_) (fun _ _ _ q r => Int.lt_trans r q) _ _ _ e
 have hl := dirB_lt q
 unfold dirB at q
 simp only [Bool.and_eq_true, Bool.or_eq_true, decide_eq_true_eq] at q
 have h1 := hk i k hl.1 hl.2 q.2
 have h2 : p k ≠ p i := fun e => by have := ho k i (by omega) hl.2 e; omega
 omega
theorem fair_arc {x : PCt} {h : List Nd} {p : Nat → Int} (hm : mayH x h = true) (hf : fairP x h p) (ho : ownP h.length p) {a b : Nat} (e : arcA x h a b = true) : p a < p b := by
 have hab := arcA_lt a b e
 rcases arcA_iff.1 e with e | e | ⟨k, e, f⟩ | ⟨i, e, f⟩
 ·have hl := ownA_lt e
  refine keep_dep hf.1 ho (depB_dir ?_)
  unfold dirB
  simp only [Bool.and_eq_true, Bool.or_eq_true, decide_eq_true_eq]
  exact ⟨⟨hl.1, hl.2.1⟩, .inl hl.2.2.symm⟩
 ·unfold depO at e
  rw [Bool.and_eq_true] at e
  exact keep_dep hf.1 ho e.1
 ·have hl := depO_lt e
  have hd : depB h b k = true := by unfold depO at e; rw [Bool.and_eq_true] at e; exact e.1
  obtain ⟨m, h1, h2, h3, h4, _⟩ := lastP_is (p := fun m => inN x h k m (ndAt h b).cls) (n := h.length) (k := k) (by omega) (inN_self _ _ _ _)
  have hma : m = a := by unfold lastU at f; omega
  subst hma
  apply Classical.byContradiction
  intro hno
  have hkb := keep_dep hf.1 ho hd
  have := (hf.2 b k m k hab.2 (by omega) h3 (by omega) hl.2.2 h4 (by omega) (by omega) (inN_self _ _ _ _)).1
  rw [hd] at this
  cases this
 ·have hl := depO_lt e
  have hd : depB h i a = true := by unfold depO at e; rw [Bool.and_eq_true] at e; exact e.1
  obtain ⟨m, h1, h2, h4, _⟩ := firstP_is (p := fun m => inN x h i m (ndAt h a).cls) (n := h.length) (k := i) (by omega) (inN_self _ _ _ _)
  have hmb : m = b := by unfold firstU at f; omega
  subst hmb
  apply Classical.byContradiction
  intro hno
  have hai := keep_dep hf.1 ho hd
  have hs : (ndAt h m).saga = (ndAt h i).saga := (inN_saga h4).symm
  have := (hf.2 a m i i hab.1 (by omega) (by omega) (by omega) (by rw [hs]; exact fun e => hl.2.2 e.symm) (inN_sym hm (by omega) (by omega) h4) (by omega) (by omega) (inN_sym hm (by omega) (by omega) h4)).2
  rw [hd] at this
  cases this
theorem fair_free {x : PCt} {h : List Nd} {p : Nat → Int} (hm : mayH x h = true) (hf : fairP x h p) (ho : ownP h.length p) : freeB x h = true := freeB_iff.2 fun i hw => by
 have key : ∀ a b, Way (arcA x h) a b → p a < p b := fun a b w => by
  induction w with
  | one q => exact fair_arc hm hf ho q
  | more _ q ih => exact Int.lt_trans ih (fair_arc hm hf ho q)
 have := key i i hw
 omega
theorem arcs_fair {x : PCt} {h : List Nd} {p : Nat → Int} (hm : mayH x h = true) (ha : ∀ a b, arcA x h a b = true → p a < p b) : fairP x h p := by
 have hw : ∀ a b, Way (arcA x h) a b → p a < p b := fun a b w => by
  induction w with
  | one q => exact ha _ _ q
  | more _ q ih => exact Int.lt_trans ih (ha _ _ q)
 have hsame : ∀ a b, a ≤ b → b < h.length → (ndAt h a).saga = (ndAt h b).saga → p a ≤ p b := fun a b h1 h2 h3 => by
  rcases Nat.eq_or_lt_of_le h1 with e | e
  ·rw [e]; exact Int.le_refl _
  ·exact Int.le_of_lt (hw _ _ (saga_way x h2 e h3))
 refine ⟨fun i k h1 h2 h3 => ?_, fun o a b u h1 h2 h3 h4 hs hab pa pb hau => ⟨?_, ?_⟩⟩
 ·by_cases e : (ndAt h i).saga = (ndAt h k).saga
  ·exact hsame k i (by omega) h2 e.symm
  ·have hd : depO h i k = true := by
    unfold depO
    rw [Bool.and_eq_true, decide_eq_true_eq]
    refine ⟨depB_dir ?_, fun q => e q.symm⟩
    unfold dirB
    simp only [Bool.and_eq_true, Bool.or_eq_true, decide_eq_true_eq]
    exact ⟨⟨h1, h2⟩, h3⟩
   exact Int.le_of_lt (ha _ _ (arcA_iff.2 (.inr (.inl hd))))
 ·cases hd : depB h o u
  ·rfl
  ·have hu := inN_saga hau
   have hb := inN_saga hab
   have hdo : depO h o u = true := by
    unfold depO
    rw [hd, Bool.true_and, decide_eq_true_eq]
    rw [← hu]; exact hs
   have hub : inN x h u b (ndAt h o).cls = true := inN_trans hm h4 h2 (inN_sym hm h2 h4 hau) hab
   obtain ⟨m, q1, q2, q3, q4, q5⟩ := lastP_is (p := fun m => inN x h u m (ndAt h o).cls) (n := h.length) (k := u) h4 (inN_self _ _ _ _)
   have hbm : b ≤ m := by
    rcases Nat.lt_or_ge m b with q | q
    ·have := q5 b q h3
     rw [hub] at this
     cases this
    ·exact q
   have harc : arcA x h m o = true := arcA_iff.2 (.inr (.inr (.inl ⟨u, hdo, q1⟩)))
   have h5 := ha _ _ harc
   have h6 := hsame b m hbm q3 (by rw [← hb, hu]; exact inN_saga q4)
   omega
 ·cases hd : depB h u o
  ·rfl
  ·have hu := inN_saga hau
   have hdo : depO h u o = true := by
    unfold depO
    rw [hd, Bool.true_and, decide_eq_true_eq]
    rw [← hu]; exact fun e => hs e.symm
   have hua : inN x h u a (ndAt h o).cls = true := inN_sym hm h2 h4 hau
   obtain ⟨m, q1, q2, q3, q4⟩ := firstP_is (p := fun m => inN x h u m (ndAt h o).cls) (n := h.length) (k := u) h4 (inN_self _ _ _ _)
   have hma : m ≤ a := by
    rcases Nat.lt_or_ge a m with q | q
    ·have := q4 a q
     rw [hua] at this
     cases this
    ·exact q
   have harc : arcA x h o m = true := arcA_iff.2 (.inr (.inr (.inr ⟨u, hdo, q1⟩)))
   have h5 := ha _ _ harc
   have h6 := hsame m a hma h2 (by rw [hu]; exact (inN_saga q3).symm)
   omega
end Go.Proofs.YtmeimhpllemjfaaGreat
/- Orders as they are handed in, purely: where each node stands; which lists are orders; the order told one by one is one, and fair. -/
namespace Go.Proofs.YtmeimhpllemjfaaGreat
open Go.RowKit

def plA (l : List Int) : Nat → Nat → Int
 | 0, _ => -1
 | m + 1, k => if l.getD m (-1) = (k : Int) then (m : Int) else plA l m k
def okA (l : List Int) (n : Nat) : Nat → Bool
 | 0 => true
 | m + 1 => okA l n m && (decide (0 ≤ l.getD m (-1) ∧ l.getD m (-1) < (n : Int)) && decide (plA l m (l.getD m (-1)).toNat < 0))
def isOrd (n : Nat) (l : List Int) : Bool := okA l n l.length && decide (l.length = n)
def plc (l : List Int) (k : Nat) : Int := plA l l.length k
theorem plA_rng (l : List Int) (k : Nat) : ∀ m, -1 ≤ plA l m k ∧ plA l m k < (m : Int)
 | 0 => by unfold plA; omega
 | m + 1 => by
  have := plA_rng l k m
  unfold plA
  split <;> omega
theorem plA_get {l : List Int} {k : Nat} : ∀ {m}, 0 ≤ plA l m k → l.getD (plA l m k).toNat (-1) = (k : Int)
 | 0, h => by unfold plA at h; omega
 | m + 1, h => by
  by_cases e : l.getD m (-1) = (k : Int)
  ·have e2 : plA l (m + 1) k = (m : Int) := by unfold plA; rw [if_pos e]
   rw [e2, Int.toNat_natCast]
   exact e
  ·have e2 : plA l (m + 1) k = plA l m k := by rw [plA, if_neg e]
   rw [e2] at h ⊢
   exact plA_get h
theorem plA_has {l : List Int} {k m : Nat} (h : plA l m k < 0) : ∀ i, i < m → l.getD i (-1) ≠ (k : Int) := by
 induction m with
 | zero => intro i hi; omega
 | succ m ih =>
  intro i hi
  unfold plA at h
  by_cases e : l.getD m (-1) = (k : Int)
  ·rw [if_pos e] at h
   omega
  ·rw [if_neg e] at h
   by_cases ei : i = m
   ·rw [ei]; exact e
   ·exact ih h i (by omega)
theorem okA_rng {l : List Int} {n : Nat} : ∀ {m}, okA l n m = true → ∀ i, i < m → 0 ≤ l.getD i (-1) ∧ l.getD i (-1) < (n : Int)
 | 0, _ => fun i hi => by omega
 | m + 1, h => fun i hi => by
  unfold okA at h
  simp only [Bool.and_eq_true, decide_eq_true_eq] at h
  by_cases e : i = m
  ·rw [e]; exact h.2.1
  ·exact okA_rng h.1 i (by omega)
theorem okA_apart {l : List Int} {n : Nat} : ∀ {m}, okA l n m = true → ∀ i j, i < j → j < m → l.getD i (-1) ≠ l.getD j (-1)
 | 0, _ => fun i j hi hj => by omega
 | m + 1, h => fun i j hi hj => by
  unfold okA at h
  simp only [Bool.and_eq_true, decide_eq_true_eq] at h
  by_cases e : j = m
  ·subst e
   have h1 := plA_has h.2.2 i hi
   intro q
   apply h1
   rw [q]
   omega
  ·exact okA_apart h.1 i j hi (by omega)
theorem ord_all {l : List Int} {n : Nat} (h : isOrd n l = true) {k : Nat} (hk : k < n) : 0 ≤ plc l k := by
 unfold isOrd at h
 rw [Bool.and_eq_true, decide_eq_true_eq] at h
 apply Classical.byContradiction
 intro hno
 have hno2 := plA_has (show plA l l.length k < 0 by unfold plc at hno; omega)
 have hr := okA_rng h.1
 have ha := okA_apart h.1
 have h1 := below_len n (k :: (List.range l.length).map fun i => (l.getD i (-1)).toNat) (by
  refine List.nodup_cons.2 ⟨fun hm => ?_, ?_⟩
  ·obtain ⟨i, hi, e⟩ := List.mem_map.1 hm
   rw [List.mem_range] at hi
   have := hr i hi
   exact hno2 i hi (by omega)
  ·rw [List.Nodup, List.pairwise_map]
   refine (List.pairwise_lt_range (n := l.length)).imp_of_mem fun {i j} hi hj hij e => ?_
   rw [List.mem_range] at hi hj
   have h2 := hr i hi
   have h3 := hr j hj
   exact ha i j hij hj (by omega)) (fun x hx => by
  rcases List.mem_cons.1 hx with rfl | hx
  ·exact hk
  ·obtain ⟨i, hi, rfl⟩ := List.mem_map.1 hx
   rw [List.mem_range] at hi
   have := hr i hi
   omega)
 simp at h1
 omega
theorem ord_own {l : List Int} {n : Nat} (h : isOrd n l = true) : ownP n (plc l) := fun i k hi hk e => by
 have h1 := plA_get (l := l) (m := l.length) (ord_all h hi)
 have h2 := plA_get (l := l) (m := l.length) (ord_all h hk)
 have e2 : plA l l.length i = plA l l.length k := e
 rw [e2, h2] at h1
 omega
theorem plA_snoc (l : List Int) (y : Int) (k : Nat) : ∀ m, m ≤ l.length → plA (l ++ [y]) m k = plA l m k
 | 0, _ => rfl
 | m + 1, hm => by
  have e : (l ++ [y]).getD m (-1) = l.getD m (-1) := by
   rw [List.getD_eq_getElem?_getD, List.getD_eq_getElem?_getD, List.getElem?_append_left (by omega)]
  rw [plA, plA, e, plA_snoc l y k m (by omega)]
theorem okA_snoc (l : List Int) (y : Int) (n : Nat) : ∀ m, m ≤ l.length → okA (l ++ [y]) n m = okA l n m
 | 0, _ => rfl
 | m + 1, hm => by
  have e : (l ++ [y]).getD m (-1) = l.getD m (-1) := by
   rw [List.getD_eq_getElem?_getD, List.getD_eq_getElem?_getD, List.getElem?_append_left (by omega)]
  rw [okA, okA, e, okA_snoc l y n m (by omega), plA_snoc l y _ m (by omega)]
theorem plc_snoc (l : List Int) (y : Int) (k : Nat) : plc (l ++ [y]) k = if y = (k : Int) then (l.length : Int) else plc l k := by
 unfold plc
 rw [List.length_append, List.length_singleton, plA, plA_snoc l y k _ (Nat.le_refl _), List.getD_eq_getElem?_getD, List.getElem?_append_right (Nat.le_refl _)]
 simp
theorem okA_more (l : List Int) (y : Int) (n : Nat) : okA (l ++ [y]) n (l ++ [y]).length = (okA l n l.length && (decide (0 ≤ y ∧ y < (n : Int)) && decide (plc l y.toNat < 0))) := by
 have e : (l ++ [y]).getD l.length (-1) = y := by
  rw [List.getD_eq_getElem?_getD, List.getElem?_append_right (Nat.le_refl _)]
  simp
 rw [List.length_append, List.length_singleton, okA, okA_snoc l y n _ (Nat.le_refl _), plA_snoc l y _ _ (Nat.le_refl _), e]
 rfl
def ordI (t : List Nat) : List Int := t.map fun (k : Nat) => (k : Int)
theorem ordI_snoc (t : List Nat) (i : Nat) : ordI (t ++ [i]) = ordI t ++ [(i : Int)] := by simp [ordI]
theorem ordI_len (t : List Nat) : (ordI t).length = t.length := by simp [ordI]
theorem plc_mem : ∀ (t : List Nat) (k : Nat), 0 ≤ plc (ordI t) k ↔ k ∈ t := fun t k => by
 constructor
 ·intro h
  have h1 := plA_get (l := ordI t) (m := (ordI t).length) h
  have hr := (plA_rng (ordI t) k (ordI t).length).2
  have h2 : (plA (ordI t) (ordI t).length k).toNat < t.length := by
   have := ordI_len t
   unfold plc at h
   omega
  obtain ⟨q, hq⟩ : ∃ q, q = (plA (ordI t) (ordI t).length k).toNat := ⟨_, rfl⟩
  rw [← hq] at h1 h2
  rw [List.getD_eq_getElem?_getD, List.getElem?_eq_getElem (by rw [ordI_len]; exact h2)] at h1
  simp only [ordI, List.getElem_map, Option.getD_some] at h1
  have : t[q] = k := by omega
  rw [← this]
  exact List.getElem_mem _
 ·intro h
  obtain ⟨i, hi, rfl⟩ := List.getElem_of_mem h
  apply Classical.byContradiction
  intro hno
  have := plA_has (show plA (ordI t) (ordI t).length t[i] < 0 by unfold plc at hno; omega) i (by rw [ordI_len]; exact hi)
  apply this
  rw [List.getD_eq_getElem?_getD, List.getElem?_eq_getElem (by rw [ordI_len]; exact hi)]
  simp [ordI]
theorem greedy_ok {a : Nat → Nat → Bool} {n : Nat} {t : List Nat} (h : Greedy a n t) : okA (ordI t) n (ordI t).length = true := by
 induction h with
 | nil => rfl
 | @more t i _ hi hr ih =>
  rw [ordI_snoc, okA_more, ih, decide_eq_true (by omega), Bool.true_and, Bool.true_and, decide_eq_true_eq]
  apply Classical.byContradiction
  intro hno
  rw [Int.toNat_natCast] at hno
  exact (readyB_iff.1 hr).1 ((plc_mem t i).1 (by omega))
theorem greedy_ahead {a : Nat → Nat → Bool} {n : Nat} (ha : ∀ i k, a i k = true → i < n ∧ k < n) {t : List Nat} (h : Greedy a n t) : ∀ i, i ∈ t → ∀ k, a k i = true → plc (ordI t) k < plc (ordI t) i := by
 induction h with
 | nil => intro i hi; cases hi
 | @more t j ht hj hr ih =>
  intro i hi k hk
  obtain ⟨h1, h2⟩ := readyB_iff.1 hr
  have hlt := plA_rng (ordI t) k (ordI t).length
  have e : plc (ordI t) k < (ordI t).length := hlt.2
  rw [ordI_snoc, plc_snoc, plc_snoc]
  rcases List.mem_append.1 hi with hi | hi
  ·have hij : ¬ ((j : Int) = (i : Int)) := fun q => h1 (by rw [show j = i by omega]; exact hi)
   have hkt : k ∈ t := ht.told.down i k hi (ha _ _ hk).1 hk
   have hkj : ¬ ((j : Int) = (k : Int)) := fun q => h1 (by rw [show j = k by omega]; exact hkt)
   rw [if_neg hij, if_neg hkj]
   exact ih i hi k hk
  ·obtain rfl : i = j := by simpa using hi
   have hkt := h2 k (ha _ _ hk).1 hk
   have hkj : ¬ ((i : Int) = (k : Int)) := fun q => h1 (by rw [show i = k by omega]; exact hkt)
   rw [if_pos rfl, if_neg hkj]
   exact e
theorem told_fair {x : PCt} {h : List Nd} (hm : mayH x h = true) (hg : freeB x h = true) : isOrd h.length (ordI (ordT (arcA x h) h.length h.length)) = true ∧ fairP x h (plc (ordI (ordT (arcA x h) h.length h.length))) := by
 have hG := greedy_ord arcA_lt (freeB_iff.1 hg) h.length (Nat.le_refl _)
 have hok := greedy_ok hG
 have hlen : (ordI (ordT (arcA x h) h.length h.length)).length = h.length := by rw [ordI_len, ordT_len]
 have hord : isOrd h.length (ordI (ordT (arcA x h) h.length h.length)) = true := by
  unfold isOrd
  rw [hok, hlen, decide_eq_true rfl]
  rfl
 refine ⟨hord, arcs_fair hm fun a b e => ?_⟩
 have hl := arcA_lt a b e
 exact greedy_ahead arcA_lt hG b ((plc_mem _ _).1 (ord_all hord hl.2)) a e
theorem saga_fair {x : PCt} {h : List Nd} {p : Nat → Int} (hk : keepP h p) (hs : ∀ a o b, a < h.length → o < h.length → b < h.length → (ndAt h a).saga = (ndAt h b).saga → p a ≤ p o → p o ≤ p b → (ndAt h o).saga = (ndAt h a).saga) : fairP x h p :=
 ⟨hk, fun o a b _ h1 h2 h3 _ hne hab pa pb _ => absurd (hs a o b h2 h1 h3 (inN_saga hab) pa pb).symm hne⟩
end Go.Proofs.YtmeimhpllemjfaaGreat
/- The document's own: where each node stands in an order that is handed in. -/
namespace Go.Proofs.YtmeimhpllemjfaaGreat
open Go.RowKit

def intsA (n : Nat) (p : Nat → Int) : Array Value := ((List.range n).map fun i => Value.int .i64 (p i)).toArray
theorem intsA_size (n : Nat) (p : Nat → Int) : (intsA n p).size = n := by simp [intsA]
theorem intsA_at (n : Nat) (p : Nat → Int) {i : Nat} (hi : i < n) : (intsA n p)[i]? = some (.int .i64 (p i)) := by simp [intsA, hi]
theorem intsA_congr (n : Nat) (p q : Nat → Int) (h : ∀ i, i < n → p i = q i) : intsA n p = intsA n q := by
 refine Array.ext (by rw [intsA_size, intsA_size]) fun j h1 h2 => ?_
 rw [intsA_size] at h1
 simp [intsA, h j h1]
theorem intsA_put (n : Nat) (p : Nat → Int) (i : Nat) (v : Int) : (intsA n p).setIfInBounds i (.int .i64 v) = intsA n (fun k => if k = i then v else p k) := by
 refine Array.ext (by simp [intsA]) fun j h1 h2 => ?_
 rw [Array.getElem_setIfInBounds]
 ·by_cases e : i = j
  ·subst e
   simp [intsA]
  ·rw [if_neg e]
   have e2 : ¬ j = i := fun q => e q.symm
   simp [intsA, e2]
 ·simpa [intsA] using h1
theorem intsA_made (n : Nat) : madeCells #[Value.int .i64 0] n = intsA n (fun _ => 0) := by
 refine Array.ext (by rw [size_madeCells, intsA_size]; try simp) fun j h1 h2 => ?_
 simp [madeCells, intsA, Nat.mod_one]
theorem run_make_ints17 (n : Nat) (hn : n ≤ 1048576) (w : World) : (Instr.makeSlice 28 (.int .i64 n) (.int .i64 n)).run Tryz.prog w = .ok (.slice (some ⟨w.heap.size, 0, none⟩) n n) (w.alloc (.cells (intsA n fun _ => 0) 3)) := by
 rw [← intsA_made]
 exact run_make_row' (P := Tryz.prog) _ _ _ _ Tryz.underlying28 info_int16 rfl .i64 .i64 n (by omega) (by omega) w
theorem plA_step (l : List Int) (j k : Nat) : plA l (j + 1) k = if l.getD j (-1) = (k : Int) then (j : Int) else plA l j k := rfl
theorem okA_down {l : List Int} {n j : Nat} (h : okA l n j = false) : ∀ m, j ≤ m → okA l n m = false := fun m => by
 induction m with
 | zero => intro hj; rw [show 0 = j by omega]; exact h
 | succ m ih =>
  intro hj
  by_cases e : j = m + 1
  ·rw [← e]; exact h
  ·rw [okA, ih (by omega)]; rfl
theorem sl_int17 {w : World} {B : Nat} {A : Option Addr} {l : List Int} (h : Sl w B A (ints l)) {k : Nat} (hk : k < l.length) : ∃ ad, A = some ad ∧ ad.block < B ∧ w.cell? (ad.add k) = some (.int .i64 (l.getD k (-1))) := by
 obtain ⟨ad, e, hb, hc⟩ := h.at (k := k) (by simpa [ints] using hk)
 refine ⟨ad, e, hb, ?_⟩
 rw [hc, List.getD_eq_getElem?_getD, List.getElem?_eq_getElem hk]
 simp [ints]
set_option maxRecDepth 100000 in
set_option maxHeartbeats 4000000 in
theorem refPlaces17 (n : Nat) (l : List Int) (A : Option Addr) (m c : Nat) (w : World) (hs : Sl w w.heap.size A (ints l)) (hl : l.length = m) (hn : n ≤ 1048576) (hm : m ≤ 1048576) :
  Calls Tryz.prog 27 #[.int .i64 n, .slice A m c] w fun e w' => ∃ S, e = .returned (.tuple #[S, .bool (isOrd n l)]) ∧ (isOrd n l = true → ∃ G, S = .slice (some ⟨G, 0, none⟩) n n ∧ Bk w' G 3 (intsA n (plc l))) ∧ Fr No w w' := by
 have Hl := Lib.hid hl
 have Hnum := Lib.hid (fun (j : Nat) (hj : j < l.length) W (hW : Fr No w W) => sl_int17 (hs.since hW) hj)
 have hmk := run_make_ints17 n hn w
 obtain ⟨G, hG⟩ : ∃ G, G = w.heap.size := ⟨_, rfl⟩
 obtain ⟨W1, hW1⟩ : ∃ W1, W1 = w.alloc (.cells (intsA n fun _ => 0) 3) := ⟨_, rfl⟩
 have HF1 : Hid (Fr No w W1) := Lib.hid (by rw [hW1]; exact (Fr.refl _ _).alloc _)
 have HG1 : Hid (Bk W1 G 3 (intsA n fun k => if k < 0 then -1 else 0)) := Lib.hid (by
  rw [hW1, hG, intsA_congr n (fun k => if k < 0 then -1 else 0) (fun _ => 0) (fun i _ => by simp)]
  exact Bk.made w _ _)
 rw [← hG, ← hW1] at hmk
 have hGw : Hid (w.heap.size ≤ G) := Lib.hid (by omega)
 clear hs hl hW1 hG
 go_enter Tryz.func27, Tryz.ntmps27
 go_wp2
 clear hmk
 go_loopw [7] (fun iv wr => ∃ i : Nat, i ≤ n ∧ iv = .int .i64 (i : Int) ∧ Hid (Bk wr G 3 (intsA n fun k => if k < i then -1 else 0)) ∧ Hid (Fr (fun k => k = G) W1 wr)) (fun iv _ => n - (Go.RowKit.intOf iv).toNat)
 case atStart => exact ⟨0, Nat.zero_le _, rfl, HG1, Lib.hid (Fr.refl _ _)⟩
 case round =>
  clear HG1
  obtain ⟨i, hi, rfl, hB, hfr⟩ := hrel
  by_cases hlt : i < n
  ·have hin : ((i : Nat) : Int) < (n : Int) := by omega
   have x0 : wr.cell? ⟨G, i, none⟩ = some (.int .i64 0) := by rw [hB.out.cell, intsA_at n _ hlt, if_neg (by omega)]
   have z0 := hB.out.frozen i
   have HB2 : Hid (Bk (wr.setCell ⟨G, i, none⟩ (.int .i64 (-1))) G 3 (intsA n fun k => if k < i + 1 then -1 else 0)) := Lib.hid (by
    have := hB.out.put i (.int .i64 (-1))
    rw [intsA_put] at this
    rwa [intsA_congr n _ (fun k => if k < i + 1 then -1 else 0) (fun k _ => by
     by_cases e : k = i
     ·rw [if_pos e, if_pos (by omega)]
     ·rw [if_neg e]
      by_cases e2 : k < i
      ·rw [if_pos e2, if_pos (by omega)]
      ·rw [if_neg e2, if_neg (by omega)])] at this)
   have HF2 : Hid (Fr (fun k => k = G) W1 (wr.setCell ⟨G, i, none⟩ (.int .i64 (-1)))) := Lib.hid (hfr.out.setCell (.inl rfl) _)
   clear hB hfr
   go_wp2
   go_roundw
   case rel => exact ⟨i + 1, by omega, by go_num, HB2, HF2⟩
   case measure => simp [Go.RowKit.intOf]; omega
  ·obtain rfl : i = n := by omega
   have HB2 : Hid (Bk wr G 3 (intsA i (plA l 0))) := Lib.hid (by
    rw [intsA_congr i (plA l 0) (fun k => if k < i then -1 else 0) (fun k hk => by rw [if_pos hk]; rfl)]
    exact hB.out)
   clear hB
   go_wp2
   go_loopw [8] (fun jv wv => ∃ j : Nat, j ≤ m ∧ jv = .int .i64 (j : Int) ∧ Hid (okA l i j = true) ∧ Hid (Bk wv G 3 (intsA i (plA l j))) ∧ Hid (Fr (fun k => k = G) W1 wv)) (fun jv _ => m - (Go.RowKit.intOf jv).toNat)
   case atStart => exact ⟨0, Nat.zero_le _, rfl, Lib.hid rfl, HB2, hfr⟩
   case round =>
    clear HB2 hfr
    obtain ⟨j, hj, rfl, hok, hB, hfr⟩ := hrel
    by_cases hjm : j < m
    ·have hjl : j < l.length := by rw [Hl.out]; exact hjm
     have hjn : ((j : Nat) : Int) < (m : Int) := by omega
     have HFw := Lib.hid (fun W (hW : Fr (fun k => k = G) W1 W) => show Fr No w W from HF1.out.trans' hW (fun k hk e => by have := hGw.out; omega))
     obtain ⟨ad, rfl, hab, a0⟩ := Hnum.out j hjl wr (HFw.out wr hfr.out)
     have hst : okA l i (j + 1) = (okA l i j && (decide (0 ≤ l.getD j (-1) ∧ l.getD j (-1) < (i : Int)) && decide (plA l j (l.getD j (-1)).toNat < 0))) := rfl
     have HP := Lib.hid (fun k => plA_step l j k)
     rw [hok.out, Bool.true_and] at hst
     have Hbad := Lib.hid (fun (h : okA l i (j + 1) = false) => show isOrd i l = false by
      unfold isOrd
      rw [okA_down h l.length (by omega)]
      rfl)
     have HFN := Lib.hid (HFw.out wr hfr.out)
     clear hok
     generalize l.getD j (-1) = x at *
     by_cases hx0 : x < 0
     ·rw [decide_eq_false (by omega), Bool.false_and] at hst
      have HB0 := Lib.hid (Hbad.out hst)
      clear hst Hbad hB hfr HP
      go_wp2
      refine bodyPost_ret (results_tmp2 rfl _ _ _) rfl ?_
      exact ⟨_, by rw [HB0.out]; rfl, fun e => (by rw [HB0.out] at e; cases e), HFN.out⟩
     ·by_cases hxn : (i : Int) ≤ x
      ·rw [decide_eq_false (by omega), Bool.false_and] at hst
       have HB0 := Lib.hid (Hbad.out hst)
       clear hst Hbad hB hfr HP
       go_wp2
       refine bodyPost_ret (results_tmp2 rfl _ _ _) rfl ?_
       exact ⟨_, by rw [HB0.out]; rfl, fun e => (by rw [HB0.out] at e; cases e), HFN.out⟩
      ·obtain ⟨y, rfl⟩ := Int.eq_ofNat_of_zero_le (show 0 ≤ x by omega)
       rw [decide_eq_true (by omega), Bool.true_and, Int.toNat_natCast] at hst
       have hyi : y < i := by omega
       have x1 : wr.cell? ⟨G, y, none⟩ = some (.int .i64 (plA l j y)) := by rw [hB.out.cell, intsA_at i _ hyi]
       have z1 := hB.out.frozen y
       have HB2 : Hid (Bk (wr.setCell ⟨G, y, none⟩ (.int .i64 (j : Int))) G 3 (intsA i (plA l (j + 1)))) := Lib.hid (by
        have := hB.out.put y (.int .i64 (j : Int))
        rw [intsA_put] at this
        rwa [intsA_congr i _ (plA l (j + 1)) (fun k _ => by
         rw [HP.out k]
         by_cases e : k = y
         ·rw [if_pos e, if_pos (by omega)]
         ·rw [if_neg e, if_neg (by omega)])] at this)
       have HF2 : Hid (Fr (fun k => k = G) W1 (wr.setCell ⟨G, y, none⟩ (.int .i64 (j : Int)))) := Lib.hid (hfr.out.setCell (.inl rfl) _)
       clear hB hfr HP
       generalize plA l j y = p at *
       by_cases hp : p < 0
       ·rw [decide_eq_true hp] at hst
        have HO := Lib.hid hst
        clear hst Hbad
        go_wp2
        go_roundw
        case rel => exact ⟨j + 1, by omega, by go_num, HO, HB2, HF2⟩
        case measure => simp [Go.RowKit.intOf]; omega
       ·rw [decide_eq_false hp] at hst
        have HB0 := Lib.hid (Hbad.out hst)
        have hp0 : 0 ≤ p := by omega
        clear hst Hbad HB2 HF2
        go_wp2
        refine bodyPost_ret (results_tmp2 rfl _ _ _) rfl ?_
        exact ⟨_, by rw [HB0.out]; rfl, fun e => (by rw [HB0.out] at e; cases e), HFN.out⟩
    ·obtain rfl : j = m := by omega
     have hord : isOrd i l = decide (j = i) := by
      unfold isOrd
      rw [Hl.out, hok.out, Bool.true_and]
     have Hord := Lib.hid hord
     have HFN : Hid (Fr No w wr) := Lib.hid (HF1.out.trans' hfr.out (fun k hk e => by have := hGw.out; omega))
     have HBp : Hid (Bk wr G 3 (intsA i (plc l))) := Lib.hid (by
      have e : plc l = plA l j := by funext k; unfold plc; rw [Hl.out]
      rw [e]
      exact hB.out)
     clear hok hB hfr hord
     by_cases hji : j = i
     ·have d1 : ((j : Int) == (i : Int)) = true := by simp [hji]
      have HT : Hid (isOrd i l = true) := Lib.hid (by rw [Hord.out, decide_eq_true hji])
      clear hji Hord
      go_wp2
      refine bodyPost_ret (results_tmp2 rfl _ _ _) rfl ?_
      exact ⟨_, by rw [HT.out]; rfl, fun _ => ⟨G, rfl, HBp.out⟩, HFN.out⟩
     ·have d1 : ((j : Int) == (i : Int)) = false := by simp; omega
      have HT : Hid (isOrd i l = false) := Lib.hid (by rw [Hord.out, decide_eq_false hji])
      clear hji Hord
      go_wp2
      refine bodyPost_ret (results_tmp2 rfl _ _ _) rfl ?_
      exact ⟨_, by rw [HT.out]; rfl, fun e => (by rw [HT.out] at e; cases e), HFN.out⟩
end Go.Proofs.YtmeimhpllemjfaaGreat
