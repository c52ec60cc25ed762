/- What package witness should do, for any history. -/
import Derived.Test.YtmeimhpllemjfaaGreatDoc16
import Derived.Test.YtmeimhpllemjfaaGreatOrd17
import Derived.Test.YtmeimhpllemjfaaGreatPkg16
namespace Go.Proofs.YtmeimhpllemjfaaGreat
open Go.RowKit

def FairC17 : Prop := ∀ (x : Ctl) (h : List Ndl) (A : Option Addr) (n c : Nat) (l : List Int) (L : Option Addr) (m lc : Nat) (w : World), In16 x h A n c w → Sl w w.heap.size L (ints l) → l.length = m → m ≤ 1048576 → ∀ r : Bool, (r = true ↔ mayH x.p (ndsOf h) = true ∧ isOrd n l = true ∧ fairP x.p (ndsOf h) (plc l)) → Calls Tryz.prog 12 #[x.agg, .slice A n c, .slice L m lc] w (Has w r)
def FindC17 : Prop := ∀ (x : Ctl) (h : List Ndl) (A : Option Addr) (n c : Nat) (w : World), In16 x h A n c w → n ≤ 16 → Calls Tryz.prog 17 #[x.agg, .slice A n c] w fun e w' => ∃ L lc l, e = .returned (.tuple #[.slice L (List.length l) lc, .bool (goodH x.p (ndsOf h))]) ∧ (goodH x.p (ndsOf h) = true → (isOrd n l = true ∧ fairP x.p (ndsOf h) (plc l)) ∧ Sl w' w'.heap.size L (ints l)) ∧ (goodH x.p (ndsOf h) = false → l = []) ∧ Fr No w w'
end Go.Proofs.YtmeimhpllemjfaaGreat
/- What package witness goes by, purely: what keeps, bars, places node by node. -/
namespace Go.Proofs.YtmeimhpllemjfaaGreat
open Go.RowKit

theorem keep_iff {h : List Nd} {p : Nat → Int} : keepP h p ↔ ∀ i k, depB h i k = true → p k ≤ p i := by
 constructor
 ·intro hk i k e
  refine wsh_least (R := fun i k => p k ≤ p i) (fun i k q => ?_) (fun _ _ _ q r => Int.le_trans r q) _ _ _ e
  have hl := dirB_lt q
  unfold dirB at q
  simp only [Bool.and_eq_true, Bool.or_eq_true, decide_eq_true_eq] at q
  exact hk i k hl.1 hl.2 q.2
 ·intro hd i k h1 h2 h3
  refine hd i k (depB_dir ?_)
  unfold dirB
  simp only [Bool.and_eq_true, Bool.or_eq_true, decide_eq_true_eq]
  exact ⟨⟨h1, h2⟩, h3⟩
def barB (x : PCt) (h : List Nd) (d f o : Nat) : Bool :=
 decide (firstU x h f (d : Int) = (f : Int)) && (decide ((ndAt h o).cls = (d : Int)) && (decide ((ndAt h o).saga ≠ (ndAt h f).saga) && (depB h o f || depB h (lastU x h f (d : Int)).toNat o)))
def aheadB (D F O d f o : Nat) : Prop := d < D ∨ d = D ∧ (f < F ∨ f = F ∧ o < O)
def BarsL (x : PCt) (h : List Nd) (D F O : Nat) (bs : List (Nat × Nat × Nat)) : Prop := ∀ t, t ∈ bs ↔ ∃ d f o, aheadB D F O d f o ∧ f < h.length ∧ o < h.length ∧ barB x h d f o = true ∧ t = (f, o, (lastU x h f (d : Int)).toNat)
theorem BarsL.nil (x : PCt) (h : List Nd) : BarsL x h 0 0 0 [] := fun t => by
 constructor
 ·intro e; cases e
 ·rintro ⟨d, f, o, e, _⟩
  unfold aheadB at e
  omega
theorem BarsL.yes {x : PCt} {h : List Nd} {D F O : Nat} {bs : List (Nat × Nat × Nat)} (hb : BarsL x h D F O bs) (hF : F < h.length) (hO : O < h.length) (e : barB x h D F O = true) : BarsL x h D F (O + 1) (bs ++ [(F, O, (lastU x h F (D : Int)).toNat)]) := fun t => by
 rw [List.mem_append, hb t, List.mem_singleton]
 constructor
 ·rintro (⟨d, f, o, q, r⟩ | q)
  ·exact ⟨d, f, o, by unfold aheadB at *; omega, r⟩
  ·exact ⟨D, F, O, by unfold aheadB; omega, hF, hO, e, q⟩
 ·rintro ⟨d, f, o, q, r⟩
  by_cases k : aheadB D F O d f o
  ·exact .inl ⟨d, f, o, k, r⟩
  ·obtain ⟨rfl, rfl, rfl⟩ : d = D ∧ f = F ∧ o = O := by unfold aheadB at *; omega
   exact .inr r.2.2.2
theorem BarsL.no {x : PCt} {h : List Nd} {D F O : Nat} {bs : List (Nat × Nat × Nat)} (hb : BarsL x h D F O bs) (e : barB x h D F O = false) : BarsL x h D F (O + 1) bs := fun t => by
 rw [hb t]
 constructor
 ·rintro ⟨d, f, o, q, r⟩
  exact ⟨d, f, o, by unfold aheadB at *; omega, r⟩
 ·rintro ⟨d, f, o, q, r⟩
  by_cases k : aheadB D F O d f o
  ·exact ⟨d, f, o, k, r⟩
  ·obtain ⟨rfl, rfl, rfl⟩ : d = D ∧ f = F ∧ o = O := by unfold aheadB at *; omega
   rw [e] at r
   exact absurd r.2.2.1 (by decide)
theorem BarsL.row {x : PCt} {h : List Nd} {D F : Nat} {bs : List (Nat × Nat × Nat)} (hb : BarsL x h D F h.length bs) : BarsL x h D (F + 1) 0 bs := fun t => by
 rw [hb t]
 constructor
 ·rintro ⟨d, f, o, q, r⟩
  exact ⟨d, f, o, by unfold aheadB at *; omega, r⟩
 ·rintro ⟨d, f, o, q, r⟩
  exact ⟨d, f, o, by have := r.2.1; unfold aheadB at *; omega, r⟩
theorem BarsL.skip {x : PCt} {h : List Nd} {D F : Nat} {bs : List (Nat × Nat × Nat)} (hb : BarsL x h D F 0 bs) (e : firstU x h F (D : Int) ≠ (F : Int)) : BarsL x h D (F + 1) 0 bs := fun t => by
 rw [hb t]
 constructor
 ·rintro ⟨d, f, o, q, r⟩
  exact ⟨d, f, o, by unfold aheadB at *; omega, r⟩
 ·rintro ⟨d, f, o, q, r⟩
  by_cases k : aheadB D F 0 d f o
  ·exact ⟨d, f, o, k, r⟩
  ·obtain ⟨rfl, rfl⟩ : d = D ∧ f = F := by unfold aheadB at *; omega
   have := r.2.2.1
   unfold barB at this
   rw [decide_eq_false e, Bool.false_and] at this
   exact absurd this (by decide)
theorem BarsL.cls {x : PCt} {h : List Nd} {D : Nat} {bs : List (Nat × Nat × Nat)} (hb : BarsL x h D h.length 0 bs) : BarsL x h (D + 1) 0 0 bs := fun t => by
 rw [hb t]
 constructor
 ·rintro ⟨d, f, o, q, r⟩
  exact ⟨d, f, o, by unfold aheadB at *; omega, r⟩
 ·rintro ⟨d, f, o, q, r⟩
  exact ⟨d, f, o, by have := r.1; unfold aheadB at *; omega, r⟩
theorem bars_fair {x : PCt} {h : List Nd} {p : Nat → Int} {C : Nat} {bs : List (Nat × Nat × Nat)} (hm : mayH x h = true) (hb : BarsL x h C 0 0 bs) (hC : ∀ i, i < h.length → ∃ d : Nat, d < C ∧ (ndAt h i).cls = (d : Int)) (hk : keepP h p) (ho : ownP h.length p) :
  (∀ t ∈ bs, ¬ (p t.1 < p t.2.1 ∧ p t.2.1 < p t.2.2)) ↔ fairP x h p := by
 have hsame : ∀ a b, a ≤ b → b < h.length → (ndAt h a).saga = (ndAt h b).saga → p a ≤ p b := fun a b h1 h2 h3 => by
  rcases Nat.eq_or_lt_of_le h1 with e | e
  ·rw [e]; exact Int.le_refl _
  ·exact hk b a e h2 (.inl h3.symm)
 have hown : ∀ a b, a < b → b < h.length → (ndAt h a).saga = (ndAt h b).saga → depB h b a = true := fun a b h1 h2 h3 => by
  refine depB_dir ?_
  unfold dirB
  simp only [Bool.and_eq_true, Bool.or_eq_true, decide_eq_true_eq]
  exact ⟨⟨h1, h2⟩, .inl h3.symm⟩
 constructor
 ·intro hn
  refine ⟨hk, fun o a b u h1 h2 h3 h4 hs hab pa pb hau => ?_⟩
  apply Classical.byContradiction
  intro hno
  have hd : depB h o u = true ∨ depB h u o = true := by
   cases h5 : depB h o u
   ·cases h6 : depB h u o
    ·exact absurd ⟨h5, h6⟩ hno
    ·exact .inr rfl
   ·exact .inl rfl
  obtain ⟨d, hd1, hd2⟩ := hC o h1
  rw [hd2] at hab hau
  obtain ⟨f, f1, f2, f3, f4⟩ := firstP_is (p := fun m => inN x h a m (d : Int)) (n := h.length) (k := a) h2 (inN_self _ _ _ _)
  obtain ⟨l, l1, l2, l3, l4, l5⟩ := lastP_is (p := fun m => inN x h a m (d : Int)) (n := h.length) (k := a) h2 (inN_self _ _ _ _)
  try dsimp only at f3 f4 l4 l5
  have hfl : f < h.length := by omega
  have hfa := inN_sym hm h2 hfl f3
  have hb0 : ∀ m, m < h.length → inN x h a m (d : Int) = true → f ≤ m ∧ m ≤ l := fun m hm1 hm2 => by
   constructor
   ·rcases Nat.lt_or_ge m f with q | q
    ·have := f4 m q
     rw [hm2] at this
     cases this
    ·exact q
   ·rcases Nat.lt_or_ge l m with q | q
    ·have := l5 m q hm1
     rw [hm2] at this
     cases this
    ·exact q
  have hff : firstU x h f (d : Int) = (f : Int) := firstP_at hfl (inN_self _ _ _ _) (fun j hj => by
   cases e : inN x h f j (d : Int)
   ·rfl
   ·have := f4 j hj
    rw [inN_trans hm h2 hfl f3 e] at this
    exact this)
  have hll : lastU x h f (d : Int) = (l : Int) := by
   obtain ⟨m, m1, m2, m3, m4, m5⟩ := lastP_is (p := fun m => inN x h f m (d : Int)) (n := h.length) (k := f) hfl (inN_self _ _ _ _)
   try dsimp only at m4 m5
   have q1 := (hb0 m m3 (inN_trans hm h2 hfl f3 m4)).2
   have q2 : l ≤ m := by
    rcases Nat.lt_or_ge m l with q | q
    ·have := m5 l q l3
     rw [inN_trans hm hfl h2 hfa l4] at this
     cases this
    ·exact q
   unfold lastU
   rw [m1, show m = l by omega]
  have sf := inN_saga f3
  have sl := inN_saga l4
  have su := inN_saga hau
  have sb := inN_saga hab
  have hu := hb0 u h4 hau
  have hbb := hb0 b h3 hab
  have hbar : barB x h d f o = true := by
   unfold barB
   rw [decide_eq_true hff, hll, Int.toNat_natCast, decide_eq_true hd2, decide_eq_true (show (ndAt h o).saga ≠ (ndAt h f).saga from fun e => hs (sf.trans e.symm)), Bool.true_and, Bool.true_and, Bool.true_and, Bool.or_eq_true]
   rcases hd with e | e
   ·left
    rcases Nat.eq_or_lt_of_le hu.1 with q | q
    ·rw [q]; exact e
    ·exact depB_trans e (hown f u q h4 (sf.symm.trans su))
   ·right
    rcases Nat.eq_or_lt_of_le hu.2 with q | q
    ·rw [← q]; exact e
    ·exact depB_trans (hown u l q l3 (su.symm.trans sl)) e
  have hmem := (hb (f, o, l)).2 ⟨d, f, o, .inl hd1, hfl, h1, hbar, by rw [hll, Int.toNat_natCast]⟩
  refine hn _ hmem ⟨?_, ?_⟩
  ·show p f < p o
   have q1 := hsame f a f2 h2 sf.symm
   have q2 : p a ≠ p o := fun e => hs (by rw [ho a o h2 h1 e])
   omega
  ·show p o < p l
   have q1 := hsame b l hbb.2 l3 (sb.symm.trans sl)
   have q2 : p o ≠ p b := fun e => hs (by rw [sb, ho o b h1 h3 e])
   omega
 ·rintro hf t ht ⟨q1, q2⟩
  obtain ⟨d, f, o, _, h2, h3, hbar, rfl⟩ := (hb t).1 ht
  dsimp only at q1 q2
  unfold barB at hbar
  simp only [Bool.and_eq_true, Bool.or_eq_true, decide_eq_true_eq] at hbar
  obtain ⟨e1, e2, e3, e4⟩ := hbar
  obtain ⟨l, l1, l2, l3, l4, _⟩ := lastP_is (p := fun m => inN x h f m (d : Int)) (n := h.length) (k := f) h2 (inN_self _ _ _ _)
  try dsimp only at l4
  have hll : lastU x h f (d : Int) = (l : Int) := l1
  rw [hll, Int.toNat_natCast] at e4 q2
  have k1 := hf.2 o f l f h3 h2 l3 h2 (fun e => e3 e.symm) (by rw [e2]; exact l4) (by omega) (by omega) (inN_self _ _ _ _)
  have k2 := hf.2 o f l l h3 h2 l3 l3 (fun e => e3 e.symm) (by rw [e2]; exact l4) (by omega) (by omega) (by rw [e2]; exact l4)
  rcases e4 with e | e
  ·rw [k1.1] at e; cases e
  ·rw [k2.2] at e; cases e
def plF (l : List Int) (n : Nat) (i : Int) : Int := firstP (fun j => decide (l.getD j (-1) = i)) n
theorem plF_rng (l : List Int) (n : Nat) (i : Int) : plF l n i = -1 ∨ ∃ j : Nat, plF l n i = (j : Int) ∧ j < n ∧ l.getD j (-1) = i := by
 by_cases e : ∃ j, j < n ∧ l.getD j (-1) = i
 ·obtain ⟨j, hj, q⟩ := e
  obtain ⟨m, h1, h2, h3, _⟩ := firstP_is (p := fun j => decide (l.getD j (-1) = i)) (n := n) (k := j) hj (decide_eq_true q)
  exact .inr ⟨m, h1, by omega, of_decide_eq_true h3⟩
 ·exact .inl (firstP_none fun k hk => decide_eq_false fun q => e ⟨k, hk, q⟩)
theorem okA_of {l : List Int} {n : Nat} : ∀ m, (∀ i, i < m → 0 ≤ l.getD i (-1) ∧ l.getD i (-1) < (n : Int)) → (∀ i j, i < j → j < m → l.getD i (-1) ≠ l.getD j (-1)) → okA l n m = true
 | 0, _, _ => rfl
 | m + 1, h1, h2 => by
  have hr := h1 m (by omega)
  rw [okA, okA_of m (fun i hi => h1 i (by omega)) (fun i j hi hj => h2 i j hi (by omega)), decide_eq_true hr, Bool.true_and, Bool.true_and, decide_eq_true_eq]
  apply Classical.byContradiction
  intro hno
  have q1 := plA_get (l := l) (m := m) (k := (l.getD m (-1)).toNat) (by omega)
  have q2 := (plA_rng l (l.getD m (-1)).toNat m).2
  refine h2 (plA l m (l.getD m (-1)).toNat).toNat m (by omega) (by omega) ?_
  rw [q1]
  omega
theorem ord_plF {l : List Int} {n : Nat} (hl : l.length = n) : isOrd n l = true ↔ ∀ i : Nat, i < n → 0 ≤ plF l n i := by
 constructor
 ·intro h i hi
  have h1 := ord_all h hi
  have h2 := plA_get (l := l) (m := l.length) h1
  have h3 := (plA_rng l i l.length).2
  rcases plF_rng l n i with e | ⟨j, e, _, _⟩
  ·have hf : firstP (fun j => decide (l.getD j (-1) = (i : Int))) n = -1 := e
   obtain ⟨m, q1, _⟩ := firstP_is (p := fun j => decide (l.getD j (-1) = (i : Int))) (n := n) (k := (plA l l.length i).toNat) (by unfold plc at h1; omega) (decide_eq_true h2)
   omega
  ·omega
 ·intro h
  have hg : ∀ i : Nat, i < n → ∃ j : Nat, plF l n i = (j : Int) ∧ j < n ∧ l.getD j (-1) = (i : Int) := fun i hi => by
   have := h i hi
   rcases plF_rng l n i with e | e
   ·omega
   ·exact e
  have hsur : ∀ j, j < n → ∃ i : Nat, i < n ∧ plF l n i = (j : Int) := fun j hj => by
   apply Classical.byContradiction
   intro hno
   have h1 := below_len n (j :: (List.range n).map fun (i : Nat) => (plF l n (i : Int)).toNat) (by
    refine List.nodup_cons.2 ⟨fun hm => ?_, ?_⟩
    ·obtain ⟨i, hi, e⟩ := List.mem_map.1 hm
     rw [List.mem_range] at hi
     obtain ⟨k, k1, _⟩ := hg i hi
     exact hno ⟨i, hi, by omega⟩
    ·rw [List.Nodup, List.pairwise_map]
     refine (List.pairwise_lt_range (n := n)).imp_of_mem fun {i k} hi hk hik e => ?_
     rw [List.mem_range] at hi hk
     obtain ⟨a, a1, _, a3⟩ := hg i hi
     obtain ⟨b, b1, _, b3⟩ := hg k hk
     have : a = b := by omega
     rw [this, b3] at a3
     omega) (fun y hy => by
    rcases List.mem_cons.1 hy with rfl | hy
    ·exact hj
    ·obtain ⟨i, hi, rfl⟩ := List.mem_map.1 hy
     rw [List.mem_range] at hi
     obtain ⟨k, k1, k2, _⟩ := hg i hi
     omega)
   simp at h1
   omega
  unfold isOrd
  rw [hl, decide_eq_true rfl, Bool.and_true]
  refine okA_of n (fun j hj => ?_) (fun j k hjk hk => ?_)
  ·obtain ⟨i, hi, e⟩ := hsur j hj
   obtain ⟨m, m1, _, m3⟩ := hg i hi
   have : m = j := by omega
   rw [this] at m3
   rw [m3]
   omega
  ·obtain ⟨i, hi, e⟩ := hsur j (by omega)
   obtain ⟨m, m1, _, m3⟩ := hg i hi
   obtain ⟨i', hi', e'⟩ := hsur k hk
   obtain ⟨m', m1', _, m3'⟩ := hg i' hi'
   have q1 : m = j := by omega
   have q2 : m' = k := by omega
   rw [q1] at m3
   rw [q2] at m3'
   rw [m3, m3']
   intro q
   have : i = i' := by omega
   subst this
   omega
theorem plF_plc {l : List Int} {n : Nat} (h : isOrd n l = true) {i : Nat} (hi : i < n) : plF l n i = plc l i := by
 have h0 := h
 unfold isOrd at h0
 rw [Bool.and_eq_true, decide_eq_true_eq] at h0
 have h1 := (ord_plF h0.2).1 h i hi
 have h2 := ord_all h hi
 have h3 := plA_get (l := l) (m := l.length) h2
 have h4 := (plA_rng l i l.length).2
 have ha := okA_apart h0.1
 rcases plF_rng l n i with e | ⟨j, e, hj, q⟩
 ·omega
 ·have h5 : (plc l i).toNat = j := by
   apply Classical.byContradiction
   intro hne
   rcases Nat.lt_or_gt_of_ne hne with k | k
   ·exact ha _ _ k (by omega) (by rw [q]; exact h3)
   ·exact ha _ _ k (by unfold plc at k h2 ⊢; omega) (by rw [q]; exact h3.symm)
  omega
def okS (n : Nat) (P : List Nat) : Prop := P.Nodup ∧ ∀ v ∈ P, v < n
def atS (P : List Nat) (k : Nat) : Int := ((P.getD k 0 : Nat) : Int)
def srcP (x : PCt) (h : List Nd) (P : List Nat) : Prop := ∃ s, okS h.length (P ++ s) ∧ (P ++ s).length = h.length ∧ fairP x h (atS (P ++ s))
theorem atS_own {n : Nat} {P : List Nat} (hk : okS n P) (hl : P.length = n) : ownP n (atS P) := fun i k hi hk2 e => by
 unfold atS at e
 have e2 : P.getD i 0 = P.getD k 0 := by omega
 rw [List.getD_eq_getElem?_getD, List.getD_eq_getElem?_getD, List.getElem?_eq_getElem (by omega), List.getElem?_eq_getElem (by omega)] at e2
 exact (List.getElem_inj hk.1).1 e2
theorem keep_congr {h : List Nd} {p q : Nat → Int} (e : ∀ i, i < h.length → p i = q i) (hk : keepP h p) : keepP h q := fun i k h1 h2 h3 => by
 rw [← e i h2, ← e k (by omega)]
 exact hk i k h1 h2 h3
theorem fair_congr {x : PCt} {h : List Nd} {p q : Nat → Int} (e : ∀ i, i < h.length → p i = q i) (hf : fairP x h p) : fairP x h q :=
 ⟨keep_congr e hf.1, fun o a b u h1 h2 h3 h4 hs hab pa pb hau => hf.2 o a b u h1 h2 h3 h4 hs hab (by rw [e a h2, e o h1]; exact pa) (by rw [e b h3, e o h1]; exact pb) hau⟩
theorem srcP_full {x : PCt} {h : List Nd} {P : List Nat} (hk : okS h.length P) (hl : P.length = h.length) : srcP x h P ↔ fairP x h (atS P) := by
 constructor
 ·rintro ⟨s, _, h2, hf⟩
  rw [List.length_append] at h2
  have : s = [] := List.eq_nil_of_length_eq_zero (by omega)
  subst this
  rwa [List.append_nil] at hf
 ·intro hf
  refine ⟨[], ?_, ?_, ?_⟩ <;> rw [List.append_nil]
  ·exact hk
  ·exact hl
  ·exact hf
theorem srcP_step {x : PCt} {h : List Nd} {P : List Nat} (hl : P.length < h.length) : srcP x h P ↔ ∃ v, v < h.length ∧ v ∉ P ∧ srcP x h (P ++ [v]) := by
 constructor
 ·rintro ⟨s, hk, h2, hf⟩
  cases s with
  | nil =>
   rw [List.append_nil] at h2
   omega
  | cons v r =>
   have e : P ++ v :: r = (P ++ [v]) ++ r := by simp
   refine ⟨v, hk.2 v (by simp), fun hv => ?_, r, by rw [← e]; exact hk, by rw [← e]; exact h2, by rw [← e]; exact hf⟩
   have := (List.nodup_append.1 hk.1).2.2 v hv v (by simp)
   exact this rfl
 ·rintro ⟨v, _, _, s, hk, h2, hf⟩
  have e : P ++ v :: s = (P ++ [v]) ++ s := by simp
  exact ⟨v :: s, by rw [e]; exact hk, by rw [e]; exact h2, by rw [e]; exact hf⟩
theorem okS_more {n v : Nat} {P : List Nat} (hk : okS n P) (hv : v < n) (hn : v ∉ P) : okS n (P ++ [v]) := by
 refine ⟨?_, fun u hu => ?_⟩
 ·rw [List.nodup_append]
  refine ⟨hk.1, by simp, fun a ha b hb => ?_⟩
  rw [List.mem_singleton] at hb
  subst hb
  intro q
  subst q
  exact hn ha
 ·rcases List.mem_append.1 hu with hu | hu
  ·exact hk.2 u hu
  ·rw [List.mem_singleton] at hu
   subst hu
   exact hv
theorem srcP_good {x : PCt} {h : List Nd} (hm : mayH x h = true) : srcP x h [] ↔ freeB x h = true := by
 constructor
 ·rintro ⟨s, hk, h2, hf⟩
  rw [List.nil_append] at hk h2 hf
  exact fair_free hm hf (atS_own hk h2)
 ·intro hg
  obtain ⟨ho, hf⟩ := told_fair hm hg
  generalize ordI (ordT (arcA x h) h.length h.length) = l at *
  have hr : ∀ k, k < h.length → 0 ≤ plc l k ∧ plc l k < (h.length : Int) := fun k hk => by
   have h1 := ord_all ho hk
   have h2 := (plA_rng l k l.length).2
   unfold isOrd at ho
   rw [Bool.and_eq_true, decide_eq_true_eq] at ho
   rw [ho.2] at h2
   unfold plc at *
   rw [ho.2] at *
   exact ⟨h1, h2⟩
  have hat : ∀ k, k < h.length → plc l k = atS ((List.range h.length).map fun k => (plc l k).toNat) k := fun k hk => by
   unfold atS
   rw [List.getD_eq_getElem?_getD, List.getElem?_eq_getElem (by simpa using hk)]
   simp only [List.getElem_map, List.getElem_range, Option.getD_some]
   have := (hr k hk).1
   omega
  refine ⟨(List.range h.length).map fun k => (plc l k).toNat, ?_, ?_, ?_⟩ <;> rw [List.nil_append]
  ·refine ⟨?_, fun v hv => ?_⟩
   ·rw [List.Nodup, List.pairwise_map]
    refine (List.pairwise_lt_range (n := h.length)).imp_of_mem fun {i k} hi hk hik e => ?_
    rw [List.mem_range] at hi hk
    have a1 := hr i hi
    have a2 := hr k hk
    have := ord_own ho i k hi hk (by omega)
    omega
   ·obtain ⟨k, hk, rfl⟩ := List.mem_map.1 hv
    rw [List.mem_range] at hk
    have := hr k hk
    omega
  ·simp
  ·exact fair_congr hat hf
end Go.Proofs.YtmeimhpllemjfaaGreat
/- Package witness: places in a box, where a number stands, what keeps, what is tied. -/
namespace Go.Proofs.YtmeimhpllemjfaaGreat
open Go.RowKit

theorem info_pl17 : (Tryz.prog.info? 58).map (·.zero) = some (some (.agg (intsA 100 fun _ => 0))) := by kernel_rfl
theorem size_pl17 : (Tryz.prog.info? 58).map (·.size) = some 100 := by kernel_rfl
theorem zero_pl17 (w : World) : (zeroValue 58).run Tryz.prog w = .ok (.agg (intsA 100 fun _ => 0)) w := by
 obtain ⟨i, hi, hz⟩ := Option.map_eq_some_iff.1 info_pl17
 simp [zeroValue, typeInfo, hi, hz]
theorem one_pl17 (p : Nat → Int) : (intsA 100 p).all (·.oneCell') = true := by
 rw [Array.all_eq_true_iff_forall_mem]
 intro u hu
 simp only [intsA, List.mem_toArray, List.mem_map] at hu
 obtain ⟨i, _, rfl⟩ := hu
 rfl
theorem ld_pl17 {W : World} {H : Nat} {p : Nat → Int} (h : Bk W H 58 (intsA 100 p)) : LdO W 58 ⟨H, 0, none⟩ (.agg (intsA 100 p)) :=
 run_loadVar_row W H 58 58 (intsA 100 p) (0, 0) _ h Tryz.underlying58 rfl (by rw [intsA_size]; exact size_pl17)
theorem st_pl17 {W : World} {H : Nat} {p q : Nat → Int} (h : Bk W H 58 (intsA 100 p)) : StO W 58 ⟨H, 0, none⟩ (.agg (intsA 100 q)) (W.setRow H (intsA 100 q)) :=
 run_storeVar_row W H 58 58 (intsA 100 p) (intsA 100 q) h (by rw [intsA_size]; exact size_pl17) (by rw [intsA_size, intsA_size]) (one_pl17 q)
theorem build_pl17 (w : World) : (Instr.build 58 #[]).run Tryz.prog w = .ok (.agg (intsA 100 fun _ => 0)) w := by
 have hu := Tryz.underlying58
 have hz := zero_pl17 w
 have hi := Tryz.sizeOf3
 simp only [Instr.build, Sem.run_bind, hz, Result.andThen_ok, underlying]
 simp [hu, hi, Instr.fill, Value.cells]
set_option maxRecDepth 100000 in
set_option maxHeartbeats 2000000 in
theorem indexI17 (l : List Int) (A : Option Addr) (n c : Nat) (k : Int) (w : World) (hs : Sl w w.heap.size A (ints l)) (hn : l.length = n) (hnm : n ≤ 1048576) : Calls Tryz.prog 41 #[.slice A n c, .int .i64 k] w fun e w' => e = .returned (.int .i64 (plF l n k)) ∧ Fr No w w' := by
 have Hnum := Lib.hid (fun (j : Nat) (hj : j < l.length) W (h : Fr No w W) => sl_int17 (hs.since h) hj)
 have Hfd := Lib.hid (fun (j : Nat) (hj : j < n) (hp : ∀ i, i < j → l.getD i (-1) ≠ k) (e : l.getD j (-1) = k) => show plF l n k = (j : Int) from firstP_at hj (decide_eq_true e) (fun i hi => decide_eq_false (hp i hi)))
 have Hno := Lib.hid (fun (hp : ∀ i, i < n → l.getD i (-1) ≠ k) => show plF l n k = -1 from firstP_none (fun i hi => decide_eq_false (hp i hi)))
 have Hn := Lib.hid hn
 generalize plF l n k = q at *
 clear hs hn
 go_enter Tryz.func41, Tryz.ntmps41
 go_wp2
 go_loopw [8] (fun iv wr => ∃ j : Nat, j ≤ n ∧ iv = .int .i64 (j : Int) ∧ Hid (∀ i, i < j → l.getD i (-1) ≠ k) ∧ Hid (Fr No w wr)) (fun iv _ => n - (Go.RowKit.intOf iv).toNat)
 case atStart => exact ⟨0, Nat.zero_le _, rfl, Lib.hid (fun i hi => by omega), Lib.hid (Fr.refl _ _)⟩
 case round =>
  obtain ⟨j, hj, rfl, hpre, hfr⟩ := hrel
  by_cases hlt : j < n
  ·have hjl : j < l.length := by rw [Hn.out]; exact hlt
   have hjn : ((j : Nat) : Int) < (n : Int) := by omega
   obtain ⟨ad, rfl, hab, a0⟩ := Hnum.out j hjl wr hfr.out
   have hst : Hid (l.getD j (-1) ≠ k → ∀ i, i < j + 1 → l.getD i (-1) ≠ k) := Lib.hid (fun e i hi => by
    by_cases h : i = j
    ·rw [h]; exact e
    ·exact hpre.out i (by omega))
   have hfd := Lib.hid (Hfd.out j hlt hpre.out)
   clear hpre Hnum Hfd Hno
   generalize l.getD j (-1) = x at *
   by_cases e : x = k
   ·have HT := Lib.hid (hfd.out e)
    have d1 : (k == x) = true := by simp [e]
    clear hst hfd
    subst e
    go_wp2
    go_ret
    exact ⟨by rw [HT.out]; rfl, hfr.out⟩
   ·have d1 : (k == x) = false := by
     rw [beq_eq_false_iff_ne]
     exact fun h => e h.symm
    have hs2 := Lib.hid (hst.out e)
    clear hst hfd e
    go_wp2
    go_roundw
    case rel => exact ⟨j + 1, by omega, by go_num, hs2, hfr⟩
    case measure => simp [Go.RowKit.intOf]; omega
  ·obtain rfl : j = n := by omega
   have HT := Lib.hid (Hno.out hpre.out)
   clear hpre Hnum Hfd Hno
   go_wp2
   go_ret
   exact ⟨by rw [HT.out]; rfl, hfr.out⟩
set_option maxRecDepth 100000 in
set_option maxHeartbeats 2000000 in
theorem tied17 (h : List Nd) (n c : Nat) (A : Option Addr) (ls : List IL) (o f l : Nat) (w : World) (hI : Ils w A ls) (hO : OfL h ls) (hn : ls.length = n) (hn24 : n ≤ 24) (ho : o < n) (hl : l < n) :
  Calls Tryz.prog 49 #[.slice A n c, .int .i64 (o : Int), .int .i64 (f : Int), .int .i64 (l : Int)] w (Has w (depB h o f || depB h l o)) := by
 have hol : o < ls.length := by omega
 have hll : l < ls.length := by omega
 obtain ⟨ad, e1, hb1, c1⟩ := hI.sl.il hol
 obtain ⟨ad2, e2, hb2, c2⟩ := hI.sl.il hll
 have hlen : ∀ i (hi : i < ls.length), ls[i].l.length ≤ 24 := fun i hi => by
  rw [hO.at hi]
  have := depL_len h i
  omega
 have HC1 := Lib.hid (contains15 ls[o].l ls[o].A ls[o].l.length ls[o].c (f : Int) w (hI.all _ (List.getElem_mem hol)) rfl (by have := hlen o hol; omega))
 have HC2 := Lib.hid (fun W (hW : Fr No w W) => contains15 ls[l].l ls[l].A ls[l].l.length ls[l].c (o : Int) W ((hI.all _ (List.getElem_mem hll)).since hW) rfl (by have := hlen l hll; omega))
 have HS := Lib.hid (fun W (hW : Fr No w W) => show W.cell? (ad2.add l) = some (.slice ls[l].A ls[l].l.length ls[l].c) by
  obtain ⟨ad', e', _, c'⟩ := (hI.since hW).sl.il hll
  have : ad' = ad2 := by rw [e2] at e'; exact (Option.some.inj e').symm
  rw [this] at c'
  exact c')
 rw [hO.at hol, hasK_depL] at HC1
 rw [hO.at hll, hasK_depL] at HC2
 rw [hO.at hol] at c1
 rw [hO.at hll] at HS
 have hon : ((o : Nat) : Int) < (n : Int) := by omega
 have hln : ((l : Nat) : Int) < (n : Int) := by omega
 have hadd : ad2 = ad := by rw [e1] at e2; exact (Option.some.inj e2).symm
 subst hadd
 subst e1
 generalize (depL h o).length = l1 at *
 generalize (depL h l).length = l2 at *
 generalize ls[o].A = A1 at *
 generalize ls[o].c = cc1 at *
 generalize ls[l].A = A2 at *
 generalize ls[l].c = cc2 at *
 generalize depB h o f = b1 at *
 generalize depB h l o = b2 at *
 clear hI hO hlen c2 e2 hb1 hb2 hn
 go_enter Tryz.func49, Tryz.ntmps49
 go_wp2_with fail
 refine (HC1.out).mono ?_
 rintro e w1 ⟨rfl, f1⟩
 have F1 := Lib.hid f1
 have c3 := HS.out w1 f1
 have HC3 := Lib.hid (HC2.out w1 f1)
 clear f1 HS HC2 HC1 c1
 cases b1
 ·go_wp2_with fail
  refine (HC3.out).mono ?_
  rintro e w2 ⟨rfl, f2⟩
  go_wp2
  go_ret
  exact ⟨rfl, F1.out.trans' f2 (fun _ _ e => e)⟩
 ·go_wp2
  go_ret
  exact ⟨rfl, F1.out⟩
set_option maxRecDepth 100000 in
set_option maxHeartbeats 8000000 in
theorem keeps17 (p : Nat → Int) (h : List Nd) (T n c : Nat) (A : Option Addr) (ls : List IL) (r : Bool) (w : World) (hT : Bk w T 58 (intsA 100 p)) (hI : Ils w A ls) (hO : OfL h ls) (hn : ls.length = n) (hn24 : n ≤ 24) (hr : r = true ↔ keepP h p) :
  Calls Tryz.prog 25 #[.pointer (some ⟨T, 0, none⟩), .slice A n c] w (Has w r) := by
 have hhn : h.length = n := by rw [← hO.len]; exact hn
 have Hil := Lib.hid (fun (i : Nat) (hi : i < ls.length) W (hW : Fr No w W) => (hI.since hW).sl.il hi)
 have Hnum := Lib.hid (fun (i : Nat) (hi : i < ls.length) (j : Nat) (hj : j < ls[i].l.length) W (hW : Fr No w W) => ((hI.since hW).all _ (List.getElem_mem hi)).num hj)
 have Hmem := Lib.hid (fun (i : Nat) (hi : i < ls.length) (k : Nat) => show k ∈ ls[i].l ↔ depB h i k = true by rw [hO.at hi]; exact depL_mem)
 have Hlen := Lib.hid (fun (i : Nat) (hi : i < ls.length) => show ls[i].l.length ≤ 24 by
  rw [hO.at hi]
  have := depL_len h i
  omega)
 have Hlt := Lib.hid (fun (i k : Nat) (e : depB h i k = true) => show k < 100 by have := depB_lt e; omega)
 have HT := Lib.hid (fun (i : Nat) (hi : i < 100) W (hW : Fr No w W) => show W.cell? ⟨T, i, none⟩ = some (.int .i64 (p i)) by rw [(hT.fr hW (fun e => e)).cell, intsA_at 100 p hi])
 have Hbad := Lib.hid (fun (i k : Nat) (e : depB h i k = true) (q : ¬ p k ≤ p i) => show r = false by
  cases r
  ·rfl
  ·exact absurd (keep_iff.1 (hr.1 rfl) i k e) q)
 have Hall := Lib.hid (fun (q : ∀ i, i < n → ∀ k, depB h i k = true → p k ≤ p i) => show r = true from hr.2 (keep_iff.2 fun i k e => q i (by have := depB_lt e; omega) k e))
 have Hn := Lib.hid hn
 clear hT hI hO hn hr hhn
 go_enter Tryz.func25, Tryz.ntmps25
 go_wp2
 go_loopw [11] (fun iv wr => ∃ i : Nat, i ≤ n ∧ iv = .int .i64 (i : Int) ∧ Hid (∀ i', i' < i → ∀ k, depB h i' k = true → p k ≤ p i') ∧ Hid (Fr No w wr)) (fun iv _ => n - (Go.RowKit.intOf iv).toNat)
 case atStart => exact ⟨0, Nat.zero_le _, rfl, Lib.hid (fun j hj => by omega), Lib.hid (Fr.refl _ _)⟩
 case round =>
  obtain ⟨i, hi, rfl, hpre, hfr⟩ := hrel
  by_cases hlt : i < n
  ·have hil : i < ls.length := by rw [Hn.out]; exact hlt
   have hin : ((i : Nat) : Int) < (n : Int) := by omega
   have hi100 : ((i : Nat) : Int) < 100 := by omega
   obtain ⟨ad, rfl, hab, c0⟩ := Hil.out i hil wr hfr.out
   have hnumi := Lib.hid (fun j hj W h => Hnum.out i hil j hj W h)
   have hmemi := Lib.hid (fun k => Hmem.out i hil k)
   have hfewi := Hlen.out i hil
   have hTi := Lib.hid (fun W hW => HT.out i (by omega) W hW)
   have hbadi := Lib.hid (fun k e q => Hbad.out i k e q)
   have hnx : Hid ((∀ k, depB h i k = true → p k ≤ p i) → ∀ i', i' < i + 1 → ∀ k, depB h i' k = true → p k ≤ p i') := Lib.hid (fun e j hj => by
    by_cases q : j = i
    ·rw [q]; exact e
    ·exact hpre.out j (by omega))
   clear hpre Hbad Hall Hil Hnum Hmem Hlen
   obtain ⟨l, hl⟩ : ∃ l, l = ls[i].l := ⟨_, rfl⟩
   obtain ⟨A2, hA2⟩ : ∃ x, x = ls[i].A := ⟨_, rfl⟩
   obtain ⟨c2, hc2⟩ : ∃ x, x = ls[i].c := ⟨_, rfl⟩
   simp only [← hl, ← hA2, ← hc2] at *
   clear hl hA2 hc2
   obtain ⟨ll, hll⟩ : ∃ x, l.length = x := ⟨_, rfl⟩
   rw [hll] at hfewi c0
   have Hll := Lib.hid hll
   clear hll
   generalize p i = pi at *
   go_wp2
   go_loopw [18] (fun jv wv => ∃ j : Nat, j ≤ ll ∧ jv = .int .i64 (j : Int) ∧ Hid (∀ j' (hj' : j' < l.length), j' < j → p l[j'] ≤ pi) ∧ Hid (Fr No w wv)) (fun jv _ => ll - (Go.RowKit.intOf jv).toNat)
   case atStart => exact ⟨0, Nat.zero_le _, rfl, Lib.hid (fun j' hj' q => by omega), hfr⟩
   case round =>
    clear hfr c0
    obtain ⟨j, hj, rfl, hal, hfr⟩ := hrel
    by_cases hjl : j < ll
    ·have hjl2 : j < l.length := by rw [Hll.out]; exact hjl
     have hjn : ((j : Nat) : Int) < (ll : Int) := by omega
     obtain ⟨ae, rfl, hae, a0⟩ := hnumi.out j hjl2 wr hfr.out
     have hd := (hmemi.out l[j]).1 (List.getElem_mem hjl2)
     have hk := Hlt.out i l[j] hd
     have hk2 : ((l[j] : Nat) : Int) < 100 := by omega
     have x1 := HT.out l[j] hk wr hfr.out
     have x2 := hTi.out wr hfr.out
     have hst : Hid (p l[j] ≤ pi → ∀ j' (hj' : j' < l.length), j' < j + 1 → p l[j'] ≤ pi) := Lib.hid (fun e j' hj' q => by
      by_cases s : j' = j
      ·simp only [s]; exact e
      ·exact hal.out j' hj' (by omega))
     have hbd := Lib.hid (fun (q : ¬ p l[j] ≤ pi) => hbadi.out l[j] hd (by omega))
     clear hal hnumi hmemi hbadi hnx hTi hd
     generalize l[j] = k at *
     generalize p k = pk at *
     by_cases hle : pk ≤ pi
     ·have HS := Lib.hid (hst.out hle)
      have d1 : decide (pk > pi) = false := decide_eq_false (by omega)
      clear hst hbd
      go_wp2
      go_quiet (fail)
      go_wp2
      go_roundw
      case rel => exact ⟨j + 1, by omega, by go_num, HS, Lib.hid (hfr.out.drewN _)⟩
      case measure => simp [Go.RowKit.intOf]; omega
     ·have HS := Lib.hid (hbd.out hle)
      have d1 : decide (pk > pi) = true := decide_eq_true (by omega)
      clear hst hbd
      go_wp2
      go_quiet (fail)
      go_wp2
      go_ret
      exact ⟨by rw [HS.out]; rfl, hfr.out.drewN _⟩
    ·obtain rfl : j = ll := by omega
     have HN := Lib.hid (hnx.out (fun k e => by
      obtain ⟨j', hj', e'⟩ := List.getElem_of_mem ((hmemi.out k).2 e)
      rw [← e']
      exact hal.out j' hj' (by rw [← Hll.out]; exact hj')))
     clear hal hnx hmemi hnumi hbadi hTi
     go_wp2
     go_roundw
     case rel => exact ⟨i + 1, by omega, by go_num, HN, hfr⟩
     case measure => simp [Go.RowKit.intOf]; omega
  ·obtain rfl : i = n := by omega
   have HE := Lib.hid (Hall.out hpre.out)
   clear hpre Hbad Hall Hil Hnum Hmem Hlen
   go_wp2
   go_ret
   exact ⟨by rw [HE.out]; rfl, hfr.out⟩
end Go.Proofs.YtmeimhpllemjfaaGreat
/- Package witness: whether somebody comes in where a bar is; the bars of a history. -/
namespace Go.Proofs.YtmeimhpllemjfaaGreat
open Go.RowKit

theorem info_bar17 : (Tryz.prog.info? 84).map (fun i => (i.zero, i.size, i.bytes)) = some (some (.agg #[.int .i64 0, .int .i64 0, .int .i64 0]), 3, 24) := by kernel_rfl
def crossB (p : Nat → Int) (t : Tr) : Bool := decide (p t.1 < p t.2.1 ∧ p t.2.1 < p t.2.2)
set_option maxRecDepth 100000 in
set_option maxHeartbeats 4000000 in
theorem none1_17 (p : Nat → Int) (t : Tr) (q T : Nat) (w : World) (hT : Bk w T 58 (intsA 100 p)) (hq : Bk w q 62 #[.pointer (some ⟨T, 0, none⟩)]) (hf : t.1 < 100) (ho : t.2.1 < 100) (hl : t.2.2 < 100) :
  Calls Tryz.prog 45 #[.agg #[.int .i64 (t.1 : Int), .int .i64 (t.2.1 : Int), .int .i64 (t.2.2 : Int)], .pointer (some ⟨q, 0, none⟩)] w (Has w (crossB p t)) := by
 obtain ⟨f, o, l⟩ := t
 dsimp only at hf ho hl ⊢
 unfold crossB
 dsimp only
 obtain ⟨W0, hW0⟩ : ∃ W0, W0 = w.alloc (.cells #[.int .i64 (f : Int), .int .i64 (o : Int), .int .i64 (l : Int)] 84) := ⟨_, rfl⟩
 have hF : Fr No w W0 := by rw [hW0]; exact (Fr.refl _ _).alloc _
 have bB : Bk W0 w.heap.size 84 #[.int .i64 (f : Int), .int .i64 (o : Int), .int .i64 (l : Int)] := by rw [hW0]; exact Bk.made _ _ _
 have x0 := bB.cell 0
 have x1 := bB.cell 1
 have x2 := bB.cell 2
 have x3 := (hq.fr hF (fun e => e)).cell 0
 simp only [List.getElem?_toArray, List.getElem?_cons_zero, List.getElem?_cons_succ] at x0 x1 x2 x3
 have y : ∀ i, i < 100 → W0.cell? ⟨T, i, none⟩ = some (.int .i64 (p i)) := fun i hi => by rw [(hT.fr hF (fun e => e)).cell, intsA_at 100 p hi]
 have y0 := y f hf
 have y1 := y o ho
 have y2 := y l hl
 have hf2 : ((f : Nat) : Int) < 100 := by omega
 have ho2 : ((o : Nat) : Int) < 100 := by omega
 have hl2 : ((l : Nat) : Int) < 100 := by omega
 generalize p f = pf at *
 generalize p o = po at *
 generalize p l = pl at *
 have HF := Lib.hid hF
 have HS : Hid ((fun V => V.cell? ⟨q, 0, none⟩ = some (.pointer (some ⟨T, 0, none⟩)) ∧ V.cell? ⟨w.heap.size, 0, none⟩ = some (.int .i64 (f : Int)) ∧ V.cell? ⟨w.heap.size, 1, none⟩ = some (.int .i64 (o : Int)) ∧ V.cell? ⟨w.heap.size, 2, none⟩ = some (.int .i64 (l : Int)) ∧ V.cell? ⟨T, f, none⟩ = some (.int .i64 pf) ∧ V.cell? ⟨T, o, none⟩ = some (.int .i64 po) ∧ V.cell? ⟨T, l, none⟩ = some (.int .i64 pl)) W0.drew) := Lib.hid ⟨x3, x0, x1, x2, y0, y1, y2⟩
 have hwe := hW0.symm
 clear hT hq hF bB x0 x1 x2 x3 y y0 y1 y2 hW0
 by_cases h1 : pf < po
 ·have d1 : decide (pf < po) = true := decide_eq_true h1
  by_cases h2 : po < pl
  ·have d2 : decide (po < pl) = true := decide_eq_true h2
   have HR : Hid (decide (pf < po ∧ po < pl) = true) := Lib.hid (decide_eq_true ⟨h1, h2⟩)
   generalize decide (pf < po ∧ po < pl) = r at *
   clear h1 h2
   go_enter Tryz.func45, Tryz.ntmps45
   go_wp2
   refine wp_region_held_drew (S := fun V => V.cell? ⟨q, 0, none⟩ = some (.pointer (some ⟨T, 0, none⟩)) ∧ V.cell? ⟨w.heap.size, 0, none⟩ = some (.int .i64 (f : Int)) ∧ V.cell? ⟨w.heap.size, 1, none⟩ = some (.int .i64 (o : Int)) ∧ V.cell? ⟨w.heap.size, 2, none⟩ = some (.int .i64 (l : Int)) ∧ V.cell? ⟨T, f, none⟩ = some (.int .i64 pf) ∧ V.cell? ⟨T, o, none⟩ = some (.int .i64 po) ∧ V.cell? ⟨T, l, none⟩ = some (.int .i64 pl)) (by kernel_rfl) (HS.out) (fun hHeld => ?_)
   refine any_u 4 (.pointer (some ⟨T, 0, none⟩)) (i := 0) rfl rfl ?_
   simp only [Act.put, szA, szB, szC]
   refine any_u 5 (.pointer (some ⟨w.heap.size, 0, none⟩)) (i := 1) rfl rfl ?_
   simp only [Act.put, szA, szB, szC]
   refine any_u 6 (.int .i64 (f : Int)) (i := 2) rfl rfl ?_
   simp only [Act.put, szA, szB, szC]
   refine any_u 7 (.pointer (some ⟨T, 0, none⟩)) (i := 3) rfl rfl ?_
   simp only [Act.put, szA, szB, szC]
   refine any_u 8 (.pointer (some ⟨T, f, none⟩)) (i := 4) rfl rfl ?_
   simp only [Act.put, szA, szB, szC]
   refine any_u 9 (.int .i64 pf) (i := 5) rfl rfl ?_
   simp only [Act.put, szA, szB, szC]
   refine any_u 10 (.pointer (some ⟨T, 0, none⟩)) (i := 6) rfl rfl ?_
   simp only [Act.put, szA, szB, szC]
   refine any_u 11 (.pointer (some ⟨w.heap.size, 1, none⟩)) (i := 7) rfl rfl ?_
   simp only [Act.put, szA, szB, szC]
   refine any_u 12 (.int .i64 (o : Int)) (i := 8) rfl rfl ?_
   simp only [Act.put, szA, szB, szC]
   refine any_u 13 (.pointer (some ⟨T, 0, none⟩)) (i := 9) rfl rfl ?_
   simp only [Act.put, szA, szB, szC]
   refine any_u 14 (.pointer (some ⟨T, o, none⟩)) (i := 10) rfl rfl ?_
   simp only [Act.put, szA, szB, szC]
   refine any_u 15 (.int .i64 po) (i := 11) rfl rfl ?_
   simp only [Act.put, szA, szB, szC]
   refine any_u 16 (.bool true) (i := 12) rfl rfl ?_
   simp only [Act.put, szA, szB, szC]
   refine any_u 17 (.bool true) (i := 13) rfl rfl ?_
   simp only [Act.put, szA, szB, szC]
   refine any_u 18 (.pointer (some ⟨T, 0, none⟩)) (i := 14) rfl rfl ?_
   simp only [Act.put, szA, szB, szC]
   refine any_u 19 (.pointer (some ⟨w.heap.size, 1, none⟩)) (i := 15) rfl rfl ?_
   simp only [Act.put, szA, szB, szC]
   refine any_u 20 (.int .i64 (o : Int)) (i := 16) rfl rfl ?_
   simp only [Act.put, szA, szB, szC]
   refine any_u 21 (.pointer (some ⟨T, 0, none⟩)) (i := 17) rfl rfl ?_
   simp only [Act.put, szA, szB, szC]
   refine any_u 22 (.pointer (some ⟨T, o, none⟩)) (i := 18) rfl rfl ?_
   simp only [Act.put, szA, szB, szC]
   refine any_u 23 (.int .i64 po) (i := 19) rfl rfl ?_
   simp only [Act.put, szA, szB, szC]
   refine any_u 24 (.pointer (some ⟨T, 0, none⟩)) (i := 20) rfl rfl ?_
   simp only [Act.put, szA, szB, szC]
   refine any_u 25 (.pointer (some ⟨w.heap.size, 2, none⟩)) (i := 21) rfl rfl ?_
   simp only [Act.put, szA, szB, szC]
   refine any_u 26 (.int .i64 (l : Int)) (i := 22) rfl rfl ?_
   simp only [Act.put, szA, szB, szC]
   refine any_u 27 (.pointer (some ⟨T, 0, none⟩)) (i := 23) rfl rfl ?_
   simp only [Act.put, szA, szB, szC]
   refine any_u 28 (.pointer (some ⟨T, l, none⟩)) (i := 24) rfl rfl ?_
   simp only [Act.put, szA, szB, szC]
   refine any_u 29 (.int .i64 pl) (i := 25) rfl rfl ?_
   simp only [Act.put, szA, szB, szC]
   refine any_u 30 (.bool true) (i := 26) rfl rfl ?_
   simp only [Act.put, szA, szB, szC]
   refine any_u 31 (.bool true) (i := 27) rfl rfl ?_
   simp only [Act.put, szA, szB, szC]
   refine any_u 3 (.bool true) (i := 28) rfl rfl ?_
   simp only [Act.put, szA, szB, szC]
   refine wpAnyH_done (by kernel_rfl) ?_ _
   clear hHeld
   go_wp2
   go_ret
   exact ⟨by rw [HR.out]; rfl, HF.out.drew⟩
  ·have d2 : decide (po < pl) = false := decide_eq_false h2
   have HR : Hid (decide (pf < po ∧ po < pl) = false) := Lib.hid (decide_eq_false (fun q => h2 q.2))
   generalize decide (pf < po ∧ po < pl) = r at *
   clear h1 h2
   go_enter Tryz.func45, Tryz.ntmps45
   go_wp2
   refine wp_region_held_drew (S := fun V => V.cell? ⟨q, 0, none⟩ = some (.pointer (some ⟨T, 0, none⟩)) ∧ V.cell? ⟨w.heap.size, 0, none⟩ = some (.int .i64 (f : Int)) ∧ V.cell? ⟨w.heap.size, 1, none⟩ = some (.int .i64 (o : Int)) ∧ V.cell? ⟨w.heap.size, 2, none⟩ = some (.int .i64 (l : Int)) ∧ V.cell? ⟨T, f, none⟩ = some (.int .i64 pf) ∧ V.cell? ⟨T, o, none⟩ = some (.int .i64 po) ∧ V.cell? ⟨T, l, none⟩ = some (.int .i64 pl)) (by kernel_rfl) (HS.out) (fun hHeld => ?_)
   refine any_u 4 (.pointer (some ⟨T, 0, none⟩)) (i := 0) rfl rfl ?_
   simp only [Act.put, szA, szB, szC]
   refine any_u 5 (.pointer (some ⟨w.heap.size, 0, none⟩)) (i := 1) rfl rfl ?_
   simp only [Act.put, szA, szB, szC]
   refine any_u 6 (.int .i64 (f : Int)) (i := 2) rfl rfl ?_
   simp only [Act.put, szA, szB, szC]
   refine any_u 7 (.pointer (some ⟨T, 0, none⟩)) (i := 3) rfl rfl ?_
   simp only [Act.put, szA, szB, szC]
   refine any_u 8 (.pointer (some ⟨T, f, none⟩)) (i := 4) rfl rfl ?_
   simp only [Act.put, szA, szB, szC]
   refine any_u 9 (.int .i64 pf) (i := 5) rfl rfl ?_
   simp only [Act.put, szA, szB, szC]
   refine any_u 10 (.pointer (some ⟨T, 0, none⟩)) (i := 6) rfl rfl ?_
   simp only [Act.put, szA, szB, szC]
   refine any_u 11 (.pointer (some ⟨w.heap.size, 1, none⟩)) (i := 7) rfl rfl ?_
   simp only [Act.put, szA, szB, szC]
   refine any_u 12 (.int .i64 (o : Int)) (i := 8) rfl rfl ?_
   simp only [Act.put, szA, szB, szC]
   refine any_u 13 (.pointer (some ⟨T, 0, none⟩)) (i := 9) rfl rfl ?_
   simp only [Act.put, szA, szB, szC]
   refine any_u 14 (.pointer (some ⟨T, o, none⟩)) (i := 10) rfl rfl ?_
   simp only [Act.put, szA, szB, szC]
   refine any_u 15 (.int .i64 po) (i := 11) rfl rfl ?_
   simp only [Act.put, szA, szB, szC]
   refine any_u 16 (.bool true) (i := 12) rfl rfl ?_
   simp only [Act.put, szA, szB, szC]
   refine any_u 17 (.bool true) (i := 13) rfl rfl ?_
   simp only [Act.put, szA, szB, szC]
   refine any_u 18 (.pointer (some ⟨T, 0, none⟩)) (i := 14) rfl rfl ?_
   simp only [Act.put, szA, szB, szC]
   refine any_u 19 (.pointer (some ⟨w.heap.size, 1, none⟩)) (i := 15) rfl rfl ?_
   simp only [Act.put, szA, szB, szC]
   refine any_u 20 (.int .i64 (o : Int)) (i := 16) rfl rfl ?_
   simp only [Act.put, szA, szB, szC]
   refine any_u 21 (.pointer (some ⟨T, 0, none⟩)) (i := 17) rfl rfl ?_
   simp only [Act.put, szA, szB, szC]
   refine any_u 22 (.pointer (some ⟨T, o, none⟩)) (i := 18) rfl rfl ?_
   simp only [Act.put, szA, szB, szC]
   refine any_u 23 (.int .i64 po) (i := 19) rfl rfl ?_
   simp only [Act.put, szA, szB, szC]
   refine any_u 24 (.pointer (some ⟨T, 0, none⟩)) (i := 20) rfl rfl ?_
   simp only [Act.put, szA, szB, szC]
   refine any_u 25 (.pointer (some ⟨w.heap.size, 2, none⟩)) (i := 21) rfl rfl ?_
   simp only [Act.put, szA, szB, szC]
   refine any_u 26 (.int .i64 (l : Int)) (i := 22) rfl rfl ?_
   simp only [Act.put, szA, szB, szC]
   refine any_u 27 (.pointer (some ⟨T, 0, none⟩)) (i := 23) rfl rfl ?_
   simp only [Act.put, szA, szB, szC]
   refine any_u 28 (.pointer (some ⟨T, l, none⟩)) (i := 24) rfl rfl ?_
   simp only [Act.put, szA, szB, szC]
   refine any_u 29 (.int .i64 pl) (i := 25) rfl rfl ?_
   simp only [Act.put, szA, szB, szC]
   refine any_u 30 (.bool false) (i := 26) rfl rfl ?_
   simp only [Act.put, szA, szB, szC]
   refine any_u 31 (.bool false) (i := 27) rfl rfl ?_
   simp only [Act.put, szA, szB, szC]
   refine any_u 3 (.bool false) (i := 28) rfl rfl ?_
   simp only [Act.put, szA, szB, szC]
   refine wpAnyH_done (by kernel_rfl) ?_ _
   clear hHeld
   go_wp2
   go_ret
   exact ⟨by rw [HR.out]; rfl, HF.out.drew⟩
 ·have d1 : decide (pf < po) = false := decide_eq_false h1
  have HR : Hid (decide (pf < po ∧ po < pl) = false) := Lib.hid (decide_eq_false (fun q => h1 q.1))
  generalize decide (pf < po ∧ po < pl) = r at *
  clear h1
  go_enter Tryz.func45, Tryz.ntmps45
  go_wp2
  refine wp_region_held_drew (S := fun V => V.cell? ⟨q, 0, none⟩ = some (.pointer (some ⟨T, 0, none⟩)) ∧ V.cell? ⟨w.heap.size, 0, none⟩ = some (.int .i64 (f : Int)) ∧ V.cell? ⟨w.heap.size, 1, none⟩ = some (.int .i64 (o : Int)) ∧ V.cell? ⟨w.heap.size, 2, none⟩ = some (.int .i64 (l : Int)) ∧ V.cell? ⟨T, f, none⟩ = some (.int .i64 pf) ∧ V.cell? ⟨T, o, none⟩ = some (.int .i64 po) ∧ V.cell? ⟨T, l, none⟩ = some (.int .i64 pl)) (by kernel_rfl) (HS.out) (fun hHeld => ?_)
  refine any_u 4 (.pointer (some ⟨T, 0, none⟩)) (i := 0) rfl rfl ?_
  simp only [Act.put, szA, szB, szC]
  refine any_u 5 (.pointer (some ⟨w.heap.size, 0, none⟩)) (i := 1) rfl rfl ?_
  simp only [Act.put, szA, szB, szC]
  refine any_u 6 (.int .i64 (f : Int)) (i := 2) rfl rfl ?_
  simp only [Act.put, szA, szB, szC]
  refine any_u 7 (.pointer (some ⟨T, 0, none⟩)) (i := 3) rfl rfl ?_
  simp only [Act.put, szA, szB, szC]
  refine any_u 8 (.pointer (some ⟨T, f, none⟩)) (i := 4) rfl rfl ?_
  simp only [Act.put, szA, szB, szC]
  refine any_u 9 (.int .i64 pf) (i := 5) rfl rfl ?_
  simp only [Act.put, szA, szB, szC]
  refine any_u 10 (.pointer (some ⟨T, 0, none⟩)) (i := 6) rfl rfl ?_
  simp only [Act.put, szA, szB, szC]
  refine any_u 11 (.pointer (some ⟨w.heap.size, 1, none⟩)) (i := 7) rfl rfl ?_
  simp only [Act.put, szA, szB, szC]
  refine any_u 12 (.int .i64 (o : Int)) (i := 8) rfl rfl ?_
  simp only [Act.put, szA, szB, szC]
  refine any_u 13 (.pointer (some ⟨T, 0, none⟩)) (i := 9) rfl rfl ?_
  simp only [Act.put, szA, szB, szC]
  refine any_u 14 (.pointer (some ⟨T, o, none⟩)) (i := 10) rfl rfl ?_
  simp only [Act.put, szA, szB, szC]
  refine any_u 15 (.int .i64 po) (i := 11) rfl rfl ?_
  simp only [Act.put, szA, szB, szC]
  refine any_u 16 (.bool false) (i := 12) rfl rfl ?_
  simp only [Act.put, szA, szB, szC]
  refine any_u 17 (.bool false) (i := 13) rfl rfl ?_
  simp only [Act.put, szA, szB, szC]
  refine any_v 18 (i := 14) rfl rfl ?_
  simp only [Act.put, szA, szB, szC]
  refine any_v 19 (i := 15) rfl rfl ?_
  simp only [Act.put, szA, szB, szC]
  refine any_v 20 (i := 16) rfl rfl ?_
  simp only [Act.put, szA, szB, szC]
  refine any_v 21 (i := 17) rfl rfl ?_
  simp only [Act.put, szA, szB, szC]
  refine any_v 22 (i := 18) rfl rfl ?_
  simp only [Act.put, szA, szB, szC]
  refine any_v 23 (i := 19) rfl rfl ?_
  simp only [Act.put, szA, szB, szC]
  refine any_v 24 (i := 20) rfl rfl ?_
  simp only [Act.put, szA, szB, szC]
  refine any_v 25 (i := 21) rfl rfl ?_
  simp only [Act.put, szA, szB, szC]
  refine any_v 26 (i := 22) rfl rfl ?_
  simp only [Act.put, szA, szB, szC]
  refine any_v 27 (i := 23) rfl rfl ?_
  simp only [Act.put, szA, szB, szC]
  refine any_v 28 (i := 24) rfl rfl ?_
  simp only [Act.put, szA, szB, szC]
  refine any_v 29 (i := 25) rfl rfl ?_
  simp only [Act.put, szA, szB, szC]
  refine any_v 30 (i := 26) rfl rfl ?_
  simp only [Act.put, szA, szB, szC]
  refine any_u 31 (.bool false) (i := 27) rfl rfl ?_
  simp only [Act.put, szA, szB, szC]
  refine any_u 3 (.bool false) (i := 28) rfl rfl ?_
  simp only [Act.put, szA, szB, szC]
  refine wpAnyH_done (by kernel_rfl) ?_ _
  clear hHeld
  go_wp2
  go_ret
  exact ⟨by rw [HR.out]; rfl, HF.out.drew⟩
set_option maxHeartbeats 1000000 in
theorem idxB17 (l : List Tr) (A : Option Addr) (n c q : Nat) (p : Tr → Bool) (w : World) (hsl : Sl w w.heap.size A (l.flatMap arcC)) (hn : l.length = n) (hnm : n ≤ 1099511627776)
  (hf : ∀ x ∈ l, ∀ W, Fr No w W → Calls Tryz.prog 45 #[.agg #[.int .i64 (x.1 : Int), .int .i64 (x.2.1 : Int), .int .i64 (x.2.2 : Int)], .pointer (some ⟨q, 0, none⟩)] W (Has W (p x))) :
  Calls Tryz.prog 65 #[.slice A n c, .func (.func 45) #[] #[.pointer (some ⟨q, 0, none⟩)]] w (At w (l.any p)) := by
 have Hf := Lib.hid hf
 have Hn := Lib.hid hn
 have Hsl := Lib.hid hsl
 clear hf hn hsl
 go_enter Tryz.func65, Tryz.ntmps65
 go_wp2
 go_loopw [8] (fun i wr => ∃ k : Nat, k ≤ n ∧ i = .int .i64 k ∧ Hid ((l.take k).any p = false) ∧ Fr No w wr) (fun i _ => n - (Go.RowKit.intOf i).toNat)
 case atStart => exact ⟨0, Nat.zero_le _, rfl, Lib.hid (by simp), Fr.refl _ _⟩
 case round =>
  obtain ⟨k, hk, rfl, hpre, hfr⟩ := hrel
  by_cases hlt : k < n
  ·have hkl : k < l.length := by rw [Hn.out]; exact hlt
   obtain ⟨ad, rfl, hab, c0, c1, c2⟩ := (Hsl.out.since hfr).arc hkl
   have hx := Lib.hid (Hf.out l[k] (List.getElem_mem hkl) wr hfr)
   have Hst := Lib.hid (any_step p l k hkl hpre.out)
   have Hfd := Lib.hid (any_found p l k hkl)
   generalize l[k] = x at *
   obtain ⟨x1, x2, x3⟩ := x
   dsimp only at hx c0 c1 c2
   by_cases hpx : p (x1, x2, x3) = true
   ·rw [hpx] at hx Hst
    go_wp2_with fail
    refine (hx.out).mono ?_
    rintro e w1 ⟨rfl, hf1⟩
    go_wp2
    go_ret
    exact ⟨hfr.trans' hf1 (fun _ _ h => h), k, rfl, by rw [Hfd.out hpx]; simp⟩
   ·rw [Bool.not_eq_true] at hpx
    rw [hpx] at hx Hst
    go_wp2_with fail
    refine (hx.out).mono ?_
    rintro e w1 ⟨rfl, hf1⟩
    go_wp2
    go_roundw
    case rel => exact ⟨k + 1, by omega, by go_num, Lib.hid Hst.out, hfr.trans' hf1 (fun _ _ h => h)⟩
    case measure => simp [Go.RowKit.intOf]; omega
  ·obtain rfl : k = n := by omega
   go_wp2
   go_ret
   refine ⟨hfr, -1, rfl, ?_⟩
   have h1 := hpre.out
   rw [List.take_of_length_le (by rw [Hn.out]; exact Nat.le_refl _)] at h1
   rw [h1]
   rfl
set_option maxHeartbeats 1000000 in
theorem hasB17 (l : List Tr) (A : Option Addr) (n c q : Nat) (p : Tr → Bool) (w : World) (hsl : Sl w w.heap.size A (l.flatMap arcC)) (hn : l.length = n) (hnm : n ≤ 1099511627776)
  (hf : ∀ x ∈ l, ∀ W, Fr No w W → Calls Tryz.prog 45 #[.agg #[.int .i64 (x.1 : Int), .int .i64 (x.2.1 : Int), .int .i64 (x.2.2 : Int)], .pointer (some ⟨q, 0, none⟩)] W (Has W (p x))) :
  Calls Tryz.prog 46 #[.slice A n c, .func (.func 45) #[] #[.pointer (some ⟨q, 0, none⟩)]] w (Has w (l.any p)) := by
 have Hc := Lib.hid (idxB17 l A n c q p w hsl hn hnm hf)
 generalize l.any p = b at *
 clear hf hn hsl
 go_enter Tryz.func46, Tryz.ntmps46
 go_wp2_with fail
 refine (Hc.out).mono ?_
 rintro e w1 ⟨hf1, r, rfl, hr⟩
 go_wp2
 go_ret
 exact ⟨by rw [← hr]; rfl, hf1⟩
set_option maxRecDepth 100000 in
set_option maxHeartbeats 4000000 in
theorem none17 (p : Nat → Int) (T n c : Nat) (A : Option Addr) (bs : List Tr) (r : Bool) (w : World) (hT : Bk w T 58 (intsA 100 p)) (hs : Sl w w.heap.size A (bs.flatMap arcC)) (hn : bs.length = n) (hnm : n ≤ 1048576) (hlt : ∀ t ∈ bs, t.1 < 100 ∧ t.2.1 < 100 ∧ t.2.2 < 100) (hr : r = true ↔ ∀ t ∈ bs, ¬ (p t.1 < p t.2.1 ∧ p t.2.1 < p t.2.2)) :
  Calls Tryz.prog 29 #[.pointer (some ⟨T, 0, none⟩), .slice A n c] w (Has w r) := by
 have hmf : ∀ (fn : Fn) (first cap : Array Value) (w : World), (Instr.makeFunc fn first cap).run Tryz.prog w = .ok (.func fn first cap) w := fun _ _ _ _ => rfl
 have hR : r = !(bs.any (crossB p)) := by
  rw [Bool.eq_iff_iff, hr, Bool.not_eq_true', ← Bool.not_eq_true, List.any_eq_true]
  unfold crossB
  simp
 obtain ⟨W0, hW0⟩ : ∃ W0, W0 = w.alloc (.cells #[.pointer (some ⟨T, 0, none⟩)] 62) := ⟨_, rfl⟩
 have hF : Fr No w W0 := by rw [hW0]; exact (Fr.refl _ _).alloc _
 have bq : Bk W0 w.heap.size 62 #[.pointer (some ⟨T, 0, none⟩)] := by rw [hW0]; exact Bk.made _ _ _
 have HC := Lib.hid (hasB17 bs A n c w.heap.size (crossB p) W0 (hs.since hF) hn (by omega) (fun t ht W hW => none1_17 p t w.heap.size T W ((hT.fr hF (fun e => e)).fr hW (fun e => e)) (bq.fr hW (fun e => e)) (hlt t ht).1 (hlt t ht).2.1 (hlt t ht).2.2))
 have HF := Lib.hid hF
 have hwe := hW0.symm
 rw [hR]
 generalize bs.any (crossB p) = b at *
 clear hT hs hn hlt hr hR hF bq hW0
 go_enter Tryz.func29, Tryz.ntmps29
 go_wp2_with fail
 refine (HC.out).mono ?_
 rintro e w1 ⟨rfl, f1⟩
 go_wp2
 go_ret
 exact ⟨rfl, HF.out.trans' f1 (fun _ _ e => e)⟩
theorem firstD17 {x : PCt} {h : List Nd} (hm : mayH x h = true) {k : Nat} (hk : k < h.length) {d : Int} (hd : x.has d = true) : firstP (qU x h (k : Int) d) h.length = firstU x h k d ∧ lastP (qU x h (k : Int) d) h.length = lastU x h k d := by
 have e : qU x h (k : Int) d = fun m => inN x h k m d := by
  funext m
  unfold qU uGood
  rw [decide_eq_true (by omega), hm, hd, Bool.true_and, Bool.true_and, Bool.true_and, Int.toNat_natCast]
 rw [e]
 exact ⟨rfl, rfl⟩
set_option maxRecDepth 100000 in
set_option maxHeartbeats 16000000 in
theorem bars17 (x : Ctl) (h : List Ndl) (A : Option Addr) (n c : Nat) (L : Option Addr) (lc : Nat) (ls : List IL) (w : World) (hI : In16 x h A n c w) (hm : mayH x.p (ndsOf h) = true) (hO : OfL (ndsOf h) ls) (hL : Ils w L ls) (hln : ls.length = n) :
  Calls Tryz.prog 30 #[x.agg, .slice A n c, .slice L n lc] w fun e w' => ∃ G gc bs, e = .returned (.slice G (List.length bs) gc) ∧ BarsL x.p (ndsOf h) x.cls.length 0 0 bs ∧ bs.length ≤ 4096 ∧ Sl w' w'.heap.size G (bs.flatMap arcC) ∧ Fr No w w' := by
 have hlen : (ndsOf h).length = n := by rw [ndsOf_len]; exact hI.len
 have hn24 := hI.n24
 have hC4 : x.cls.length ≤ 4 := (nice_of_ok (mayH_cat hm)).few.n
 have Hhas := Lib.hid (fun (d : Nat) (hd : d < x.cls.length) => show x.p.has (d : Int) = true by rw [has_eq]; exact decide_eq_true (by omega))
 have HF := Lib.hid (fun (d f : Nat) (hd : d < x.cls.length) (hf : f < n) W (hW : Fr No w W) => show Calls Tryz.prog 47 #[x.agg, .slice A n c, .int .i64 (f : Int), .int .i64 (d : Int)] W fun e w' => e = .returned (.int .i64 (firstU x.p (ndsOf h) f (d : Int))) ∧ Fr No W w' by
  have q := first_any x h A n c f d W (hI.cl.since hW) hI.big (hI.nd.since hW) hI.len (by omega) hI.nc hI.few
  rw [← (firstD17 hm (k := f) (by omega) (Hhas.out d hd)).1, hlen]
  exact q)
 have HLa := Lib.hid (fun (d f : Nat) (hd : d < x.cls.length) (hf : f < n) W (hW : Fr No w W) => show Calls Tryz.prog 48 #[x.agg, .slice A n c, .int .i64 (f : Int), .int .i64 (d : Int)] W fun e w' => e = .returned (.int .i64 (((lastU x.p (ndsOf h) f (d : Int)).toNat : Nat) : Int)) ∧ Fr No W w' by
  have q := last_any x h A n c f d W (hI.cl.since hW) hI.big (hI.nd.since hW) hI.len (by omega) hI.nc hI.few
  have q2 := (firstD17 hm (k := f) (by omega) (Hhas.out d hd)).2
  have q3 := lastU_nat (x := x.p) (h := ndsOf h) (k := f) (by omega) (d : Int)
  rw [show (((lastU x.p (ndsOf h) f (d : Int)).toNat : Nat) : Int) = lastU x.p (ndsOf h) f (d : Int) by omega, ← q2, hlen]
  exact q)
 have HLt := Lib.hid (fun (d f : Nat) (hf : f < n) => show (lastU x.p (ndsOf h) f (d : Int)).toNat < n by
  have q3 := lastU_nat (x := x.p) (h := ndsOf h) (k := f) (by omega) (d : Int)
  omega)
 have HTd0 := Lib.hid (fun (o f l : Nat) (ho : o < n) (hl : l < n) W (hW : Fr No w W) => tied17 (ndsOf h) n lc L ls o f l W (hL.since hW) hO hln hn24 ho hl)
 have Hnd := Lib.hid (fun (k : Nat) (hk : k < h.length) W (hW : Fr No w W) => (hI.nd.since hW).sl.nd hk)
 have Hbar := Lib.hid (fun (d f o : Nat) (hf : f < h.length) (ho : o < h.length) => show barB x.p (ndsOf h) d f o = (decide (firstU x.p (ndsOf h) f (d : Int) = (f : Int)) && (decide (h[o].n.cls = (d : Int)) && (decide (h[o].n.saga ≠ h[f].n.saga) && (depB (ndsOf h) o f || depB (ndsOf h) (lastU x.p (ndsOf h) f (d : Int)).toNat o)))) by
  unfold barB
  rw [ndsOf_at ho, ndsOf_at hf])
 have HY := Lib.hid (fun (D F O : Nat) (bs : List Tr) (hb : BarsL x.p (ndsOf h) D F O bs) (hF : F < n) (hO : O < n) (e : barB x.p (ndsOf h) D F O = true) => hb.yes (by omega) (by omega) e)
 have HNo := Lib.hid (fun (D F O : Nat) (bs : List Tr) (hb : BarsL x.p (ndsOf h) D F O bs) (e : barB x.p (ndsOf h) D F O = false) => hb.no e)
 have HRw := Lib.hid (fun (D F : Nat) (bs : List Tr) (hb : BarsL x.p (ndsOf h) D F n bs) => show BarsL x.p (ndsOf h) D (F + 1) 0 bs from BarsL.row (by rw [hlen]; exact hb))
 have HSk := Lib.hid (fun (D F : Nat) (bs : List Tr) (hb : BarsL x.p (ndsOf h) D F 0 bs) (e : firstU x.p (ndsOf h) F (D : Int) ≠ (F : Int)) => hb.skip e)
 have HCl := Lib.hid (fun (D : Nat) (bs : List Tr) (hb : BarsL x.p (ndsOf h) D n 0 bs) => show BarsL x.p (ndsOf h) (D + 1) 0 0 bs from BarsL.cls (by rw [hlen]; exact hb))
 have HNil := Lib.hid (BarsL.nil x.p (ndsOf h))
 have Hn := Lib.hid hI.len
 clear hI hm hO hL hln Hhas
 generalize hBL : BarsL x.p (ndsOf h) = BL at *
 clear hBL
 unfold Ctl.agg at HF HLa ⊢
 obtain ⟨Z, hZ⟩ : ∃ Z, Z = x.arr := ⟨_, rfl⟩
 rw [← hZ] at HF HLa ⊢
 rw [Ctl.arr_eq] at hZ
 obtain ⟨W0, hW0⟩ : ∃ W0, W0 = w.alloc (.cells Z 26) := ⟨_, rfl⟩
 have bZ : Bk W0 w.heap.size 26 Z := by rw [hW0]; exact Bk.made w _ _
 have HF0 : Hid (Fr No w W0) := Lib.hid (by rw [hW0]; exact (Fr.refl _ _).alloc _)
 have HLd : Hid (∀ V, Fr No W0 V → LdO V 26 ⟨w.heap.size, 0, none⟩ (.agg Z) ∧ V.cell? ⟨w.heap.size, 0, none⟩ = some (.slice x.cA x.cls.length x.cc)) := Lib.hid (fun V h => ⟨ld_cat hZ (bZ.fr h (fun e => e)), by rw [(bZ.fr h (fun e => e)).cell, hZ]; rfl⟩)
 have Hsz : Hid (W0.heap.size = w.heap.size + 1) := Lib.hid (by rw [hW0]; simp)
 have hwe := hW0.symm
 have HL := Lib.hid (fun V (hV : Fr No W0 V) => (HLd.out V hV).1)
 have c0 := (HLd.out _ (Fr.refl _ _)).2
 clear hZ hW0 bZ HLd
 have HFr := Lib.hid (fun W (hW : Fr No W0 W) => show Fr No w W from HF0.out.trans' hW (fun _ _ e => e))
 generalize x.cls.length = C at *
 generalize x.cA = cA at *
 generalize x.cc = cc at *
 go_enter Tryz.func30, Tryz.ntmps30
 go_wp2
 clear hwe c0
 go_loopw [7, 16] (fun lv dv wr => ∃ (d t gc : Nat) (G : Option Addr) (bs : List Tr), d ≤ C ∧ lv = .slice G t gc ∧ dv = .int .i64 (d : Int) ∧ bs.length = t ∧ t ≤ d * 576 ∧ Hid (wr.ownsRow (w.heap.size + 1) 84 3 (.slice G t gc) t (bs.flatMap arcC)) ∧ Hid (BL d 0 0 bs) ∧ Hid (Fr No W0 wr)) (fun _ dv _ => C - (Go.RowKit.intOf dv).toNat)
 case atStart => exact ⟨0, 0, 0, none, [], Nat.zero_le _, rfl, rfl, rfl, Nat.le_refl _, Lib.hid (World.ownsRow_nil _ _ _ _), HNil, Lib.hid (Fr.refl _ _)⟩
 case round =>
  clear HNil
  obtain ⟨d, t, gc, G, bs, hd, rfl, rfl, hbs, ht, hown, hbl, hfr⟩ := hrel
  by_cases hdC : d < C
  ·have hdc : ((d : Nat) : Int) < (C : Int) := by omega
   have HFd := Lib.hid (fun f hf W hW => HF.out d f hdC hf W hW)
   have HLd := Lib.hid (fun f hf W hW => HLa.out d f hdC hf W hW)
   go_wp2
   go_loopw [7, 21] (fun lv fv wx => ∃ (f t gc : Nat) (G : Option Addr) (bs : List Tr), f ≤ n ∧ lv = .slice G t gc ∧ fv = .int .i64 (f : Int) ∧ bs.length = t ∧ t ≤ d * 576 + f * 24 ∧ Hid (wx.ownsRow (w.heap.size + 1) 84 3 (.slice G t gc) t (bs.flatMap arcC)) ∧ Hid (BL d f 0 bs) ∧ Hid (Fr No W0 wx)) (fun _ fv _ => n - (Go.RowKit.intOf fv).toNat)
   case atStart => exact ⟨0, t, gc, G, bs, Nat.zero_le _, rfl, rfl, hbs, by omega, hown, hbl, hfr⟩
   case round =>
    clear hown hbl hfr hbs ht
    obtain ⟨f, t, gc, G, bs, hf, rfl, rfl, hbs, ht, hown, hbl, hfr⟩ := hrel
    by_cases hfn : f < n
    ·have hfn2 : ((f : Nat) : Int) < (n : Int) := by omega
     have hfh : f < h.length := by rw [Hn.out]; exact hfn
     have HLw := Lib.hid (HL.out wr hfr.out)
     have HCf := Lib.hid (HFd.out f hfn wr (HFr.out wr hfr.out))
     have HSkf := Lib.hid (fun e => HSk.out d f bs hbl.out e)
     obtain ⟨fu, hfu⟩ : ∃ u, u = firstU x.p (ndsOf h) f (d : Int) := ⟨_, rfl⟩
     rw [← hfu] at HCf HSkf
     have Hfu := Lib.hid hfu
     clear hfu
     by_cases hff : fu = (f : Int)
     ·have d1 : (fu == (f : Int)) = true := by simp [hff]
      have d2 : (fu != (f : Int)) = false := by simp [hff]
      have d3 : decide (fu ≠ (f : Int)) = false := by simp [hff]
      have Hff := Lib.hid hff
      clear hff HSkf
      go_wp2_with (first
       | ((with_reducible refine wpl_ld ?_ ?_ HLw.out ?_); (· rfl); (· rfl); simp only [Act.put, szA, szB, szC]))
      refine (HCf.out).mono ?_
      rintro e w1 ⟨rfl, f1⟩
      have K1 := Lib.hid (own_fr hown.out f1 (fun _ _ e => e))
      have D1 := Lib.hid (hfr.out.trans' f1 (fun _ _ e => e))
      have HLw1 := Lib.hid (HL.out w1 D1.out)
      have HCl1 := Lib.hid (HLd.out f hfn w1 (HFr.out w1 D1.out))
      have hlun := HLt.out d f hfn
      have Hbarf := Lib.hid (fun o ho => Hbar.out d f o hfh ho)
      rw [← Hfu.out] at Hbarf
      obtain ⟨lu, hlu⟩ : ∃ u, u = (lastU x.p (ndsOf h) f (d : Int)).toNat := ⟨_, rfl⟩
      have HYf := Lib.hid (fun O bs hb hF hO e => HY.out d f O bs hb hF hO e)
      rw [← hlu] at HCl1 hlun Hbarf HYf
      clear f1 hown hfr HCf HLw hlu
      go_wp2_with (first
       | ((with_reducible refine wpl_ld ?_ ?_ HLw1.out ?_); (· rfl); (· rfl); simp only [Act.put, szA, szB, szC]))
      refine (HCl1.out).mono ?_
      rintro e w2 ⟨rfl, f2⟩
      have K2 := Lib.hid (own_fr K1.out f2 (fun _ _ e => e))
      have D2 := Lib.hid (D1.out.trans' f2 (fun _ _ e => e))
      clear f2 K1 D1 HLw1 HCl1
      go_wp2
      go_loopw [7, 38] (fun lv ov wx => ∃ (o t gc : Nat) (G : Option Addr) (bs : List Tr), o ≤ n ∧ lv = .slice G t gc ∧ ov = .int .i64 (o : Int) ∧ bs.length = t ∧ t ≤ d * 576 + f * 24 + o ∧ Hid (wx.ownsRow (w.heap.size + 1) 84 3 (.slice G t gc) t (bs.flatMap arcC)) ∧ Hid (BL d f o bs) ∧ Hid (Fr No W0 wx)) (fun _ ov _ => n - (Go.RowKit.intOf ov).toNat)
      case atStart => exact ⟨0, t, gc, G, bs, Nat.zero_le _, rfl, rfl, hbs, by omega, K2, hbl, D2⟩
      case round =>
       clear K2 D2 hbl hbs ht
       obtain ⟨o, t, gc, G, bs, ho, rfl, rfl, hbs, ht, hown, hbl, hfr⟩ := hrel
       by_cases hon : o < n
       ·have hon2 : ((o : Nat) : Int) < (n : Int) := by omega
        have hoh : o < h.length := by rw [Hn.out]; exact hon
        have Hb := Lib.hid (Hbarf.out o hoh)
        have HYo := Lib.hid (fun e => HYf.out o bs hbl.out hfn hon e)
        have HNo1 := Lib.hid (fun e => HNo.out d f o bs hbl.out e)
        obtain ⟨ad, rfl, hab, a0, a1, a2, a3, a4, a5⟩ := Hnd.out o hoh wr (HFr.out wr hfr.out)
        obtain ⟨W1, hW1⟩ : ∃ W1, W1 = wr.alloc (.cells #[.int .i64 h[o].n.saga, .int .i64 h[o].n.cls, .int .i64 h[o].n.step, .bool h[o].n.back, .slice h[o].rA h[o].n.rd.length h[o].rc, .slice h[o].wA h[o].n.wt.length h[o].wc] 37) := ⟨_, rfl⟩
        have f1 : Fr No wr W1 := by rw [hW1]; exact (Fr.refl _ _).alloc _
        have bx : Bk W1 wr.heap.size 37 #[.int .i64 h[o].n.saga, .int .i64 h[o].n.cls, .int .i64 h[o].n.step, .bool h[o].n.back, .slice h[o].rA h[o].n.rd.length h[o].rc, .slice h[o].wA h[o].n.wt.length h[o].wc] := by rw [hW1]; exact Bk.made _ _ _
        have HS : Hid (∀ V, Fr No W1.drew V → V.cell? ⟨wr.heap.size, 1, none⟩ = some (.int .i64 h[o].n.cls) ∧ V.cell? ⟨wr.heap.size, 0, none⟩ = some (.int .i64 h[o].n.saga) ∧ V.cell? (ad.add (f * 6)) = some (.int .i64 h[f].n.saga)) := Lib.hid (fun V hV => by
         have g : Fr No W1 V := ⟨hV.same, hV.size, hV.block⟩
         have b1 := bx.fr g (fun e => e)
         have q0 := b1.cell 0
         have q1 := b1.cell 1
         simp only [List.getElem?_toArray, List.getElem?_cons_zero, List.getElem?_cons_succ] at q0 q1
         obtain ⟨ad', e', _, p0, _⟩ := Hnd.out f hfh V (HFr.out V ((hfr.out.trans' f1 (fun _ _ e => e)).trans' g (fun _ _ e => e)))
         have e2 : ad = ad' := Option.some.inj e'
         rw [← e2] at p0
         exact ⟨q1, q0, p0⟩)
        have D1 : Hid (Fr No w W1.drew) := Lib.hid (HFr.out W1 (hfr.out.trans' f1 (fun _ _ e => e))).drew
        have DW : Hid (Fr No W0 W1.drew) := Lib.hid (hfr.out.trans' f1 (fun _ _ e => e)).drew
        have K1 : Hid (W1.drew.ownsRow (w.heap.size + 1) 84 3 (.slice G t gc) t (bs.flatMap arcC)) := Lib.hid (own_fr hown.out f1.drew (fun _ _ e => e))
        have HTd := Lib.hid (fun W hW => HTd0.out o f lu hon hlun W hW)
        have hwe := hW1.symm
        clear hW1 f1 bx hown hfr hbl
        generalize (depB (ndsOf h) o f || depB (ndsOf h) lu o) = b at *
        generalize h[f].n.saga = sf at *
        generalize h[o] = y at *
        generalize y.n.saga = so at *
        generalize y.n.cls = co at *
        generalize y.n.step = sto at *
        generalize y.n.back = ko at *
        generalize y.n.rd.length = no at *
        generalize y.n.wt.length = mo at *
        generalize y.rA = Ro at *
        generalize y.rc = rco at *
        generalize y.wA = Vo at *
        generalize y.wc = wco at *
        rw [decide_eq_true Hff.out, Bool.true_and] at Hb
        by_cases h1 : co = (d : Int)
        ·have g1 : (co == (d : Int)) = true := by simp [h1]
         rw [decide_eq_true h1, Bool.true_and] at Hb
         by_cases h2 : so = sf
         ·have g2 : (so == sf) = true := by simp [h2]
          have g3 : (so != sf) = false := by simp [h2]
          rw [decide_eq_false (fun q => q h2), Bool.false_and] at Hb
          have HN2 := Lib.hid (HNo1.out Hb.out)
          clear h1 h2 Hb HNo1 HYo HTd
          go_wp2
          refine wp_region_held_drew (S := fun V => V.cell? ⟨wr.heap.size, 1, none⟩ = some (.int .i64 co) ∧ V.cell? ⟨wr.heap.size, 0, none⟩ = some (.int .i64 so) ∧ V.cell? (ad.add (f * 6)) = some (.int .i64 sf)) (by kernel_rfl) (HS.out _ (Fr.refl _ _)) (fun hHeld => ?_)
          refine any_u 43 (.pointer (some ⟨wr.heap.size, 1, none⟩)) (i := 0) rfl rfl ?_
          simp only [Act.put, szA, szB, szC]
          refine any_u 44 (.int .i64 co) (i := 1) rfl rfl ?_
          simp only [Act.put, szA, szB, szC]
          refine any_u 45 (.int .i64 (d : Int)) (i := 2) rfl rfl ?_
          simp only [Act.put, szA, szB, szC]
          refine any_u 46 (.bool true) (i := 3) rfl rfl ?_
          simp only [Act.put, szA, szB, szC]
          refine any_u 47 (.bool true) (i := 4) rfl rfl ?_
          simp only [Act.put, szA, szB, szC]
          refine any_u 48 (.pointer (some ⟨wr.heap.size, 0, none⟩)) (i := 5) rfl rfl ?_
          simp only [Act.put, szA, szB, szC]
          refine any_u 49 (.int .i64 so) (i := 6) rfl rfl ?_
          simp only [Act.put, szA, szB, szC]
          refine any_u 50 (.slice (some ad) n c) (i := 7) rfl rfl ?_
          simp only [Act.put, szA, szB, szC]
          refine any_u 51 (.int .i64 (f : Int)) (i := 8) rfl rfl ?_
          simp only [Act.put, szA, szB, szC]
          refine any_u 52 (.pointer (some (ad.add (f * 6)))) (i := 9) rfl rfl ?_
          simp only [Act.put, szA, szB, szC]
          refine any_u 53 (.pointer (some (ad.add (f * 6)))) (i := 10) rfl rfl ?_
          simp only [Act.put, szA, szB, szC]
          refine any_u 54 (.int .i64 sf) (i := 11) rfl rfl ?_
          simp only [Act.put, szA, szB, szC]
          refine any_u 55 (.bool false) (i := 12) rfl rfl ?_
          simp only [Act.put, szA, szB, szC]
          refine any_u 56 (.bool false) (i := 13) rfl rfl ?_
          simp only [Act.put, szA, szB, szC]
          refine any_u 57 (.bool false) (i := 14) rfl rfl ?_
          simp only [Act.put, szA, szB, szC]
          refine any_v 58 (i := 15) rfl rfl ?_
          simp only [Act.put, szA, szB, szC]
          refine any_v 59 (i := 16) rfl rfl ?_
          simp only [Act.put, szA, szB, szC]
          refine any_v 60 (i := 17) rfl rfl ?_
          simp only [Act.put, szA, szB, szC]
          refine any_v 61 (i := 18) rfl rfl ?_
          simp only [Act.put, szA, szB, szC]
          refine any_v 62 (i := 19) rfl rfl ?_
          simp only [Act.put, szA, szB, szC]
          refine any_u 63 (.bool false) (i := 20) rfl rfl ?_
          simp only [Act.put, szA, szB, szC]
          refine wpAnyH_done (by kernel_rfl) ?_ _
          clear hHeld
          go_wp2
          go_roundw
          case rel => exact ⟨o + 1, t, gc, G, bs, by omega, rfl, by go_num, hbs, by omega, K1, HN2, DW⟩
          case measure => simp [Go.RowKit.intOf]; omega
         ·have g2 : (so == sf) = false := by simp [h2]
          have g3 : (so != sf) = true := by simp [h2]
          rw [decide_eq_true h2, Bool.true_and] at Hb
          clear h1 h2
          go_wp2
          refine wp_region_held_drew (S := fun V => V.cell? ⟨wr.heap.size, 1, none⟩ = some (.int .i64 co) ∧ V.cell? ⟨wr.heap.size, 0, none⟩ = some (.int .i64 so) ∧ V.cell? (ad.add (f * 6)) = some (.int .i64 sf)) (by kernel_rfl) (HS.out _ (Fr.refl _ _)) (fun hHeld => ?_)
          refine any_u 43 (.pointer (some ⟨wr.heap.size, 1, none⟩)) (i := 0) rfl rfl ?_
          simp only [Act.put, szA, szB, szC]
          refine any_u 44 (.int .i64 co) (i := 1) rfl rfl ?_
          simp only [Act.put, szA, szB, szC]
          refine any_u 45 (.int .i64 (d : Int)) (i := 2) rfl rfl ?_
          simp only [Act.put, szA, szB, szC]
          refine any_u 46 (.bool true) (i := 3) rfl rfl ?_
          simp only [Act.put, szA, szB, szC]
          refine any_u 47 (.bool true) (i := 4) rfl rfl ?_
          simp only [Act.put, szA, szB, szC]
          refine any_u 48 (.pointer (some ⟨wr.heap.size, 0, none⟩)) (i := 5) rfl rfl ?_
          simp only [Act.put, szA, szB, szC]
          refine any_u 49 (.int .i64 so) (i := 6) rfl rfl ?_
          simp only [Act.put, szA, szB, szC]
          refine any_u 50 (.slice (some ad) n c) (i := 7) rfl rfl ?_
          simp only [Act.put, szA, szB, szC]
          refine any_u 51 (.int .i64 (f : Int)) (i := 8) rfl rfl ?_
          simp only [Act.put, szA, szB, szC]
          refine any_u 52 (.pointer (some (ad.add (f * 6)))) (i := 9) rfl rfl ?_
          simp only [Act.put, szA, szB, szC]
          refine any_u 53 (.pointer (some (ad.add (f * 6)))) (i := 10) rfl rfl ?_
          simp only [Act.put, szA, szB, szC]
          refine any_u 54 (.int .i64 sf) (i := 11) rfl rfl ?_
          simp only [Act.put, szA, szB, szC]
          refine any_u 55 (.bool true) (i := 12) rfl rfl ?_
          simp only [Act.put, szA, szB, szC]
          refine any_u 56 (.bool true) (i := 13) rfl rfl ?_
          simp only [Act.put, szA, szB, szC]
          refine any_u 57 (.bool true) (i := 14) rfl rfl ?_
          simp only [Act.put, szA, szB, szC]
          refine any_u 58 (.slice L n lc) (i := 15) rfl rfl ?_
          simp only [Act.put, szA, szB, szC]
          refine any_u 59 (.int .i64 (o : Int)) (i := 16) rfl rfl ?_
          simp only [Act.put, szA, szB, szC]
          refine any_u 60 (.int .i64 (f : Int)) (i := 17) rfl rfl ?_
          simp only [Act.put, szA, szB, szC]
          refine any_u 61 (.int .i64 (lu : Int)) (i := 18) rfl rfl ?_
          simp only [Act.put, szA, szB, szC]
          refine wpAnyH_ready (rs := [19]) (by kernel_rfl) (by simp) ?_
          refine AllReadyH.cons rfl (fun K' hK => ?_) AllReadyH.nil
          go_simp
          go_at_call 49
          refine (HTd.out _ D1.out).mono ?_
          rintro e' w5 ⟨rfl, f5⟩
          have F5 := Lib.hid f5
          have F5d := Lib.hid (f5.drew)
          clear f5
          dsimp only
          refine hK.out _ _ (HS.out _ F5.out) (fun hHeld => ?_)
          clear hK
          try simp only [Act.put, szA, szB, szC]
          refine any_u 63 (.bool b) (i := 20) rfl rfl ?_
          simp only [Act.put, szA, szB, szC]
          refine wpAnyH_done (by kernel_rfl) ?_ _
          clear hHeld
          have K5 := Lib.hid (own_fr K1.out F5.out (fun _ _ e => e))
          have D5 := Lib.hid (DW.out.trans' F5.out (fun _ _ e => e))
          clear K1 DW HTd HS
          cases b
          ·have HN2 := Lib.hid (HNo1.out Hb.out)
           clear HNo1 HYo Hb
           go_wp2
           go_roundw
           case rel => exact ⟨o + 1, t, gc, G, bs, by omega, rfl, by go_num, hbs, by omega, K5, HN2, D5⟩
           case measure => simp [Go.RowKit.intOf]; omega
          ·have HN2 := Lib.hid (HYo.out Hb.out)
           have hsz : w.heap.size + 1 ≤ w5.heap.size := by rw [← Hsz.out]; exact D5.out.size
           clear HNo1 HYo Hb
           go_wp2_with (at_builtin; refine wpList_append_elem rfl _ _ _ rfl (w.heap.size + 1) 84 (.agg #[.int .i64 0, .int .i64 0, .int .i64 0]) 3 24 Tryz.underlying68 info_bar17 rfl (by omega) (.slice G t gc) t (bs.flatMap arcC) #[.int .i64 (f : Int), .int .i64 (o : Int), .int .i64 (lu : Int)] rfl (by intro u hu; simp at hu; rcases hu with rfl | rfl | rfl <;> rfl) rfl w5.heap.size rfl rfl K5.out (by unfold maxLen; omega) (by omega) hsz ?r2)
           case r2 =>
            intro A1 c1 w6 hown1 hf1 hg1
            have K6 : Hid (w6.ownsRow (w.heap.size + 1) 84 3 (.slice A1 (t + 1) c1) (t + 1) ((bs ++ [(f, o, lu)]).flatMap arcC)) := Lib.hid (by rw [arcs_snoc16]; exact hown1)
            have D6 : Hid (Fr No W0 w6) := Lib.hid (D5.out.trans' hf1 (fun k hk e => by
             have q1 := (K5.out.lt k e).1
             have q2 := Hsz.out
             omega))
            clear hown1 hf1 hg1 K5 D5
            go_wp2
            go_roundw
            case rel => exact ⟨o + 1, t + 1, c1, A1, bs ++ [(f, o, lu)], by omega, by go_num, by go_num, by simp [hbs], by omega, K6, HN2, D6⟩
            case measure => simp [Go.RowKit.intOf]; omega
        ·have g1 : (co == (d : Int)) = false := by simp [h1]
         rw [decide_eq_false h1, Bool.false_and] at Hb
         have HN2 := Lib.hid (HNo1.out Hb.out)
         clear h1 Hb HNo1 HYo HTd
         go_wp2
         refine wp_region_held_drew (S := fun V => V.cell? ⟨wr.heap.size, 1, none⟩ = some (.int .i64 co) ∧ V.cell? ⟨wr.heap.size, 0, none⟩ = some (.int .i64 so) ∧ V.cell? (ad.add (f * 6)) = some (.int .i64 sf)) (by kernel_rfl) (HS.out _ (Fr.refl _ _)) (fun hHeld => ?_)
         refine any_u 43 (.pointer (some ⟨wr.heap.size, 1, none⟩)) (i := 0) rfl rfl ?_
         simp only [Act.put, szA, szB, szC]
         refine any_u 44 (.int .i64 co) (i := 1) rfl rfl ?_
         simp only [Act.put, szA, szB, szC]
         refine any_u 45 (.int .i64 (d : Int)) (i := 2) rfl rfl ?_
         simp only [Act.put, szA, szB, szC]
         refine any_u 46 (.bool false) (i := 3) rfl rfl ?_
         simp only [Act.put, szA, szB, szC]
         refine any_u 47 (.bool false) (i := 4) rfl rfl ?_
         simp only [Act.put, szA, szB, szC]
         refine any_v 48 (i := 5) rfl rfl ?_
         simp only [Act.put, szA, szB, szC]
         refine any_v 49 (i := 6) rfl rfl ?_
         simp only [Act.put, szA, szB, szC]
         refine any_v 50 (i := 7) rfl rfl ?_
         simp only [Act.put, szA, szB, szC]
         refine any_v 51 (i := 8) rfl rfl ?_
         simp only [Act.put, szA, szB, szC]
         refine any_v 52 (i := 9) rfl rfl ?_
         simp only [Act.put, szA, szB, szC]
         refine any_v 53 (i := 10) rfl rfl ?_
         simp only [Act.put, szA, szB, szC]
         refine any_v 54 (i := 11) rfl rfl ?_
         simp only [Act.put, szA, szB, szC]
         refine any_v 55 (i := 12) rfl rfl ?_
         simp only [Act.put, szA, szB, szC]
         refine any_u 56 (.bool false) (i := 13) rfl rfl ?_
         simp only [Act.put, szA, szB, szC]
         refine any_u 57 (.bool false) (i := 14) rfl rfl ?_
         simp only [Act.put, szA, szB, szC]
         refine any_v 58 (i := 15) rfl rfl ?_
         simp only [Act.put, szA, szB, szC]
         refine any_v 59 (i := 16) rfl rfl ?_
         simp only [Act.put, szA, szB, szC]
         refine any_v 60 (i := 17) rfl rfl ?_
         simp only [Act.put, szA, szB, szC]
         refine any_v 61 (i := 18) rfl rfl ?_
         simp only [Act.put, szA, szB, szC]
         refine any_v 62 (i := 19) rfl rfl ?_
         simp only [Act.put, szA, szB, szC]
         refine any_u 63 (.bool false) (i := 20) rfl rfl ?_
         simp only [Act.put, szA, szB, szC]
         refine wpAnyH_done (by kernel_rfl) ?_ _
         clear hHeld
         go_wp2
         go_roundw
         case rel => exact ⟨o + 1, t, gc, G, bs, by omega, rfl, by go_num, hbs, by omega, K1, HN2, DW⟩
         case measure => simp [Go.RowKit.intOf]; omega
       ·obtain rfl : o = n := by omega
        have HN2 := Lib.hid (HRw.out d f bs hbl.out)
        clear hbl
        go_wp2
        go_roundw
        case rel => exact ⟨f + 1, t, gc, G, bs, by omega, rfl, by go_num, hbs, by omega, hown, HN2, hfr⟩
        case measure => simp [Go.RowKit.intOf]; omega
     ·have d1 : (fu == (f : Int)) = false := by simp [hff]
      have d2 : (fu != (f : Int)) = true := by simp [hff]
      have d3 : decide (fu ≠ (f : Int)) = true := by simp [hff]
      have HN2 := Lib.hid (HSkf.out hff)
      clear hff HSkf
      go_wp2_with (first
       | ((with_reducible refine wpl_ld ?_ ?_ HLw.out ?_); (· rfl); (· rfl); simp only [Act.put, szA, szB, szC]))
      refine (HCf.out).mono ?_
      rintro e w1 ⟨rfl, f1⟩
      have K1 := Lib.hid (own_fr hown.out f1 (fun _ _ e => e))
      have D1 := Lib.hid (hfr.out.trans' f1 (fun _ _ e => e))
      clear f1 hown hfr HCf HLw
      go_wp2
      go_roundw
      case rel => exact ⟨f + 1, t, gc, G, bs, by omega, rfl, by go_num, hbs, by omega, K1, HN2, D1⟩
      case measure => simp [Go.RowKit.intOf]; omega
    ·obtain rfl : f = n := by omega
     have HN2 := Lib.hid (HCl.out d bs hbl.out)
     clear hbl
     go_wp2
     go_roundw
     case rel => exact ⟨d + 1, t, gc, G, bs, by omega, rfl, by go_num, hbs, by omega, hown, HN2, hfr⟩
     case measure => simp [Go.RowKit.intOf]; omega
  ·obtain rfl : d = C := by omega
   subst hbs
   go_wp2
   go_ret
   exact ⟨G, gc, bs, rfl, hbl.out, by omega, Sl.ofOwn hown.out, HFr.out _ hfr.out⟩
end Go.Proofs.YtmeimhpllemjfaaGreat
/- Package witness: all orders of a short history are tried. -/
namespace Go.Proofs.YtmeimhpllemjfaaGreat
open Go.RowKit

theorem fair_split {x : PCt} {h : List Nd} {p : Nat → Int} {C : Nat} {bs : List Tr} (hm : mayH x h = true) (hb : BarsL x h C 0 0 bs) (hC : ∀ i, i < h.length → ∃ d : Nat, d < C ∧ (ndAt h i).cls = (d : Int)) (ho : ownP h.length p) :
  fairP x h p ↔ keepP h p ∧ ∀ t ∈ bs, ¬ (p t.1 < p t.2.1 ∧ p t.2.1 < p t.2.2) :=
 ⟨fun hf => ⟨hf.1, (bars_fair hm hb hC hf.1 ho).2 hf⟩, fun q => (bars_fair hm hb hC q.1 ho).1 q.2⟩
theorem clsOf17 {x : Ctl} {h : List Nd} (hm : mayH x.p h = true) : ∀ i, i < h.length → ∃ d : Nat, d < x.cls.length ∧ (ndAt h i).cls = (d : Int) := fun i hi => by
 have pa := (selfOk_parts (ndOk_self (mayH_at hm hi))).2.1
 rw [has_eq, decide_eq_true_eq] at pa
 exact ⟨(ndAt h i).cls.toNat, by omega, by omega⟩
theorem BarsL.lt {x : PCt} {h : List Nd} {D F O : Nat} {bs : List Tr} (hb : BarsL x h D F O bs) {n : Nat} (hn : h.length = n) (h24 : n ≤ 24) : ∀ t ∈ bs, t.1 < 100 ∧ t.2.1 < 100 ∧ t.2.2 < 100 := fun t ht => by
 obtain ⟨d, f, o, _, h1, h2, _, rfl⟩ := (hb t).1 ht
 have := lastU_nat (x := x) (h := h) (k := f) h1 (d : Int)
 refine ⟨?_, ?_, ?_⟩ <;> dsimp only <;> omega
structure Leaf17 (x : PCt) (h : List Nd) (C n : Nat) (L : Option Addr) (lc : Nat) (ls : List IL) (G : Option Addr) (gc : Nat) (bs : List Tr) (bo bb : Nat) (w : World) : Prop where
 may : mayH x h = true
 len : h.length = n
 n24 : n ≤ 24
 o : Bk w bo 63 #[.slice L n lc]
 b : Bk w bb 68 #[.slice G bs.length gc]
 il : Ils w L ls
 of : OfL h ls
 ll : ls.length = n
 bars : BarsL x h C 0 0 bs
 few : bs.length ≤ 4096
 sl : Sl w w.heap.size G (bs.flatMap arcC)
 cls : ∀ i, i < h.length → ∃ d : Nat, d < C ∧ (ndAt h i).cls = (d : Int)
theorem Leaf17.since {x : PCt} {h : List Nd} {C n lc gc bo bb : Nat} {L G : Option Addr} {ls : List IL} {bs : List Tr} {w W : World} (H : Leaf17 x h C n L lc ls G gc bs bo bb w) (hW : Fr No w W) : Leaf17 x h C n L lc ls G gc bs bo bb W :=
 ⟨H.may, H.len, H.n24, H.o.fr hW (fun e => e), H.b.fr hW (fun e => e), H.il.since hW, H.of, H.ll, H.bars, H.few, H.sl.since hW, H.cls⟩
set_option maxRecDepth 100000 in
set_option maxHeartbeats 2000000 in
theorem search1_17 {x : PCt} {h : List Nd} {C n lc gc bo bb : Nat} {L G : Option Addr} {ls : List IL} {bs : List Tr} (T : Nat) (P : List Nat) (q : Nat → Int) (r : Bool) (w : World) (H : Leaf17 x h C n L lc ls G gc bs bo bb w) (hP : okS n P) (hl : P.length = n) (hq : ∀ k, k < n → q k = atS P k) (hT : Bk w T 58 (intsA 100 q)) (hr : r = true ↔ fairP x h (atS P)) :
  Calls Tryz.prog 35 #[.pointer (some ⟨T, 0, none⟩), .pointer (some ⟨bo, 0, none⟩), .pointer (some ⟨bb, 0, none⟩)] w (Has w r) := by
 have hown : ownP h.length q := fun i k hi hk e => by
  rw [H.len] at hi hk
  rw [hq i hi, hq k hk] at e
  exact atS_own hP hl i k hi hk e
 have hr2 : r = true ↔ keepP h q ∧ ∀ t ∈ bs, ¬ (q t.1 < q t.2.1 ∧ q t.2.1 < q t.2.2) := by
  rw [hr, ← fair_split H.may H.bars H.cls hown]
  exact ⟨fair_congr (fun i hi => (hq i (by rw [← H.len]; exact hi)).symm), fair_congr (fun i hi => hq i (by rw [← H.len]; exact hi))⟩
 obtain ⟨r1, h1⟩ : ∃ r : Bool, r = true ↔ keepP h q := by classical exact ⟨decide _, decide_eq_true_iff⟩
 obtain ⟨r2, h2⟩ : ∃ r : Bool, r = true ↔ ∀ t ∈ bs, ¬ (q t.1 < q t.2.1 ∧ q t.2.1 < q t.2.2) := by classical exact ⟨decide _, decide_eq_true_iff⟩
 have hrr : r = (r1 && r2) := by rw [Bool.eq_iff_iff, Bool.and_eq_true, hr2, h1, h2]
 subst hrr
 have HK := Lib.hid (keeps17 q h T n lc L ls r1 w hT H.il H.of H.ll H.n24 h1)
 have HN := Lib.hid (fun W (hW : Fr No w W) => none17 q T bs.length gc G bs r2 W (hT.fr hW (fun e => e)) (H.sl.since hW) rfl (by have := H.few; omega) (H.bars.lt H.len H.n24) h2)
 have HB := Lib.hid (fun W (hW : Fr No w W) => (H.b.fr hW (fun e => e)).cell 0)
 have c0 := H.o.cell 0
 simp only [List.getElem?_toArray, List.getElem?_cons_zero] at c0 HB
 generalize bs.length = m at *
 clear H hP hl hq hT hr hown hr2 h1 h2
 go_enter Tryz.func35, Tryz.ntmps35
 go_wp2_with fail
 refine (HK.out).mono ?_
 rintro e w1 ⟨rfl, f1⟩
 have HN1 := Lib.hid (HN.out w1 f1)
 have c1 := HB.out w1 f1
 have F1 := Lib.hid f1
 clear f1 HN HB HK c0
 cases r1
 ·go_wp2
  go_ret
  exact ⟨rfl, F1.out⟩
 ·go_wp2_with fail
  refine (HN1.out).mono ?_
  rintro e w2 ⟨rfl, f2⟩
  go_wp2
  go_ret
  exact ⟨by rw [Bool.true_and]; rfl, F1.out.trans' f2 (fun _ _ e => e)⟩
structure TryB (n bn bi bt bo bb T : Nat) (w : World) : Prop where
 n : Bk w bn 3 #[.int .i64 (n : Int)]
 i : Bk w bi 75 #[.func (.func 35) #[] #[.pointer (some ⟨bo, 0, none⟩), .pointer (some ⟨bb, 0, none⟩)]]
 t : Bk w bt 92 #[.func (.func 54) #[] #[.pointer (some ⟨bn, 0, none⟩), .pointer (some ⟨bi, 0, none⟩), .pointer (some ⟨T, 0, none⟩), .pointer (some ⟨bt, 0, none⟩)]]
theorem TryB.fr {n bn bi bt bo bb T : Nat} {q : Nat → Int} {w W : World} (h : TryB n bn bi bt bo bb T w) (hT : Bk w T 58 (intsA 100 q)) (hf : Fr (fun x => x = T) w W) : TryB n bn bi bt bo bb T W :=
 ⟨h.n.fr hf (h.n.apart hT (by decide)), h.i.fr hf (h.i.apart hT (by decide)), h.t.fr hf (h.t.apart hT (by decide))⟩
theorem atS_at {P : List Nat} {k : Nat} (hk : k < P.length) : atS P k = ((P[k] : Nat) : Int) := by
 unfold atS
 rw [List.getD_eq_getElem?_getD, List.getElem?_eq_getElem hk]
 rfl
theorem atS_snoc {P : List Nat} {q : Nat → Int} {i v : Nat} (hi : P.length = i) (hq : ∀ k, k < i → q k = atS P k) : ∀ k, k < i + 1 → (fun k => if k = i then (v : Int) else q k) k = atS (P ++ [v]) k := fun k hk => by
 dsimp only
 by_cases e : k = i
 ·rw [if_pos e, atS_at (by simp; omega)]
  simp [e, ← hi]
 ·rw [if_neg e, hq k (by omega), atS_at (by omega), atS_at (by simp; omega), List.getElem_append_left (by omega)]
set_option maxRecDepth 100000 in
set_option maxHeartbeats 8000000 in
theorem try17 (x : PCt) (h : List Nd) (n bn bi bt bo bb T : Nat) (V0 : World) (hn : h.length = n) (hn7 : n ≤ 7) (hB : ∀ W, Fr (fun k => k = T) V0 W → TryB n bn bi bt bo bb T W)
  (hLf : ∀ (P : List Nat) (q : Nat → Int) (r : Bool) W, Fr (fun k => k = T) V0 W → okS n P → P.length = n → (∀ k, k < n → q k = atS P k) → Bk W T 58 (intsA 100 q) → (r = true ↔ fairP x h (atS P)) → Calls Tryz.prog 35 #[.pointer (some ⟨T, 0, none⟩), .pointer (some ⟨bo, 0, none⟩), .pointer (some ⟨bb, 0, none⟩)] W (Has W r)) :
  ∀ (cnt : Nat) (P : List Nat) (q : Nat → Int) (r : Bool) (w : World), P.length + cnt = n → okS n P → (∀ k, k < P.length → q k = atS P k) → Fr (fun k => k = T) V0 w → Bk w T 58 (intsA 100 q) → (r = true ↔ srcP x h P) →
   Calls Tryz.prog 54 #[.int .i64 (P.length : Int), .pointer (some ⟨bn, 0, none⟩), .pointer (some ⟨bi, 0, none⟩), .pointer (some ⟨T, 0, none⟩), .pointer (some ⟨bt, 0, none⟩)] w fun e w' => e = .returned (.bool r) ∧ ∃ q', (∀ k, k < P.length → q' k = atS P k) ∧ Bk w' T 58 (intsA 100 q') ∧ Fr (fun k => k = T) w w' := by
 intro cnt
 induction cnt with
 | zero =>
  intro P q r w hl hP hq hV hT hr
  have hl2 : P.length = n := by omega
  rw [hl2] at hq ⊢
  have HC := Lib.hid (hLf P q r w hV hP hl2 hq hT (by rw [hr]; exact srcP_full (by rw [hn]; exact hP) (by omega)))
  have hb := hB w hV
  have c0 := hb.n.cell 0
  have c1 := hb.i.cell 0
  simp only [List.getElem?_toArray, List.getElem?_cons_zero] at c0 c1
  have HT := Lib.hid hT
  have Hq := Lib.hid hq
  have d1 : ((n : Int) == (n : Int)) = true := by simp
  clear hb hP hq hV hT hr hl hl2 hB hLf hn
  go_enter Tryz.func54, Tryz.ntmps54
  go_wp2
  go_step3
  go_wp2_with fail
  refine (HC.out).mono ?_
  rintro e w1 ⟨rfl, f1⟩
  have F1 := Lib.hid f1
  clear f1 HC c0 c1
  go_wp2
  try rw [Exit.noGoto_ret]
  go_ret
  exact ⟨rfl, q, Hq.out, HT.out.fr F1.out (fun e => e), F1.out.weak (fun _ _ e => e.elim)⟩
 | succ cnt ih =>
  intro P q r w hl hP hq hV hT hr
  have HIH := Lib.hid (fun (v : Nat) (q' : Nat → Int) (r' : Bool) W (hW : Fr (fun k => k = T) w W) (hv : v < n) (hn' : v ∉ P) (hq' : ∀ k, k < P.length + 1 → q' k = atS (P ++ [v]) k) (hT' : Bk W T 58 (intsA 100 q')) (hr' : r' = true ↔ srcP x h (P ++ [v])) => ih (P ++ [v]) q' r' W (by simp; omega) (okS_more hP hv hn') (by rw [List.length_append]; exact hq') (hV.trans' hW (fun _ _ e => e)) hT' hr')
  have Hdec := Lib.hid (fun (v : Nat) => show ∃ r : Bool, r = true ↔ srcP x h (P ++ [v]) by classical exact ⟨decide _, decide_eq_true_iff⟩)
  have Hyes := Lib.hid (fun (v : Nat) (hv : v < n) (hn' : v ∉ P) (e : srcP x h (P ++ [v])) => show r = true from hr.2 ((srcP_step (by omega)).2 ⟨v, by omega, hn', e⟩))
  have Hno := Lib.hid (fun (e : ∀ v, v < n → v ∉ P → ¬ srcP x h (P ++ [v])) => show r = false by
   cases r
   ·rfl
   ·obtain ⟨v, h1, h2, h3⟩ := (srcP_step (by omega)).1 (hr.1 rfl)
    exact absurd h3 (e v (by omega) h2))
  have Hsn := Lib.hid (fun (q' : Nat → Int) (v : Nat) (e : ∀ k, k < P.length → q' k = atS P k) => atS_snoc (P := P) (q := q') (i := P.length) (v := v) rfl e)
  have Hpos := Lib.hid (fun (v : Nat) (e : v ∈ P) => show ∃ k : Nat, k < P.length ∧ atS P k = (v : Int) by
   obtain ⟨k, hk, e'⟩ := List.getElem_of_mem e
   exact ⟨k, hk, by rw [atS_at hk, e']⟩)
  have Hmem := Lib.hid (fun (v k : Nat) (hk : k < P.length) (e : atS P k = (v : Int)) => show v ∈ P by
   rw [atS_at hk] at e
   have e2 : P[k] = v := by omega
   rw [← e2]
   exact List.getElem_mem hk)
  have hc : (((P.length + 1 : Nat)) : Int) = (P.length : Int) + 1 := by omega
  simp only [List.length_append, List.length_singleton, hc] at HIH
  clear hc
  obtain ⟨i, hi⟩ : ∃ i, P.length = i := ⟨_, rfl⟩
  rw [hi] at HIH Hsn Hpos Hmem hq hl ⊢
  have hin : i < n := by omega
  have hb := hB w hV
  have c0 := hb.n.cell 0
  simp only [List.getElem?_toArray, List.getElem?_cons_zero] at c0
  have HBt := Lib.hid (fun W (hW : Fr (fun k => k = T) w W) => ((hb.fr hT hW).t).cell 0)
  simp only [List.getElem?_toArray, List.getElem?_cons_zero] at HBt
  have HT := Lib.hid hT
  have Hq := Lib.hid hq
  have d1 : ((i : Int) == (n : Int)) = false := by simp; omega
  have hi1 : (0 : Int) ≤ (i : Int) := by omega
  have hi2 : ((i : Nat) : Int) ≤ 100 := by omega
  have hi3 : ((i : Nat) : Int) < 100 := by omega
  clear hb hP hq hV hT hr hl hB hLf hn ih hi
  generalize srcP x h = sp at *
  generalize atS P = aP at *
  go_enter Tryz.func54, Tryz.ntmps54
  go_wp2
  go_step3
  go_wp2
  go_step3
  go_wp2
  clear c0
  go_loopw [16] (fun iv wr => ∃ (v : Nat) (q' : Nat → Int), v ≤ n ∧ iv = .int .i64 (v : Int) ∧ Hid (∀ v', v' < v → v' ∉ P → ¬ sp (P ++ [v'])) ∧ Hid (∀ k, k < i → q' k = aP k) ∧ Hid (Bk wr T 58 (intsA 100 q')) ∧ Hid (Fr (fun k => k = T) w wr)) (fun iv _ => n - (Go.RowKit.intOf iv).toNat)
  case atStart => exact ⟨0, q, Nat.zero_le _, rfl, Lib.hid (fun v' hv' => by omega), Hq, HT, Lib.hid (Fr.refl _ _)⟩
  case round =>
   clear Hq HT
   obtain ⟨v, q', hv, rfl, hpre, hq', hT', hfr⟩ := hrel
   by_cases hvn : v < n
   ·have hvn2 : ((v : Nat) : Int) < (n : Int) := by omega
    have hnx : Hid ((v ∈ P ∨ ¬ sp (P ++ [v])) → ∀ v', v' < v + 1 → v' ∉ P → ¬ sp (P ++ [v'])) := Lib.hid (fun e v' h1 h2 => by
     by_cases s : v' = v
     ·rw [s] at h2 ⊢
      rcases e with e | e
      ·exact absurd e h2
      ·exact e
     ·exact hpre.out v' (by omega) h2)
    clear hpre
    go_wp2
    go_loopw [22] (fun jv wv => ∃ k : Nat, k ≤ i ∧ jv = .int .i64 (k : Int) ∧ Hid (∀ k', k' < k → aP k' ≠ (v : Int)) ∧ Hid (Bk wv T 58 (intsA 100 q')) ∧ Hid (Fr (fun k => k = T) w wv)) (fun jv _ => i - (Go.RowKit.intOf jv).toNat)
    case atStart => exact ⟨0, Nat.zero_le _, rfl, Lib.hid (fun k' hk' => by omega), hT', hfr⟩
    case round =>
     clear hT' hfr
     obtain ⟨k, hk, rfl, hne, hT', hfr⟩ := hrel
     by_cases hki : k < i
     ·have hki2 : ((k : Nat) : Int) < (i : Int) := by omega
      have x0 : wr.cell? ⟨T, k, none⟩ = some (.int .i64 (q' k)) := by rw [hT'.out.cell, intsA_at 100 q' (by omega)]
      have e0 := hq'.out k hki
      rw [e0] at x0
      have hst : Hid (aP k ≠ (v : Int) → ∀ k', k' < k + 1 → aP k' ≠ (v : Int)) := Lib.hid (fun e k' h1 => by
       by_cases s : k' = k
       ·rw [s]; exact e
       ·exact hne.out k' (by omega))
      have hmm := Lib.hid (fun e => Hmem.out v k hki e)
      clear hne e0
      generalize aP k = y at *
      by_cases hy : y = (v : Int)
      ·have d2 : ((v : Int) == y) = true := by simp [hy]
       have HS := Lib.hid (hnx.out (.inl (hmm.out hy)))
       clear hst hmm hnx hy
       go_wp2
       try rw [Exit.noGoto_ret]
       go_roundw
       case rel => exact ⟨v + 1, q', by omega, by go_num, HS, hq', hT', hfr⟩
       case measure => simp [Go.RowKit.intOf]; omega
      ·have d2 : ((v : Int) == y) = false := by
        rw [beq_eq_false_iff_ne]
        exact fun e => hy e.symm
       have HS := Lib.hid (hst.out hy)
       clear hst hmm hy
       go_wp2
       try rw [Exit.noGoto_ret]
       go_roundw
       case rel => exact ⟨k + 1, by omega, by go_num, HS, hT', hfr⟩
       case measure => simp [Go.RowKit.intOf]; omega
     ·obtain rfl : k = i := by omega
      have hnP : v ∉ P := fun e => by
       obtain ⟨j, h1, h2⟩ := Hpos.out v e
       exact hne.out j h1 h2
      obtain ⟨r1, hr1⟩ := Hdec.out v
      obtain ⟨q2, hq2⟩ : ∃ q2 : Nat → Int, q2 = fun j => if j = k then (v : Int) else q' j := ⟨_, rfl⟩
      have HQ2 : Hid (∀ j, j < k + 1 → q2 j = atS (P ++ [v]) j) := Lib.hid (by rw [hq2]; exact Hsn.out q' v hq'.out)
      have HQ3 : Hid (∀ j, j < k → q2 j = aP j) := Lib.hid (fun j hj => by rw [hq2]; dsimp only; rw [if_neg (by omega)]; exact hq'.out j hj)
      obtain ⟨V, hV⟩ : ∃ V, V = wr.setCell ⟨T, k, none⟩ (.int .i64 (v : Int)) := ⟨_, rfl⟩
      have hTV : Bk V T 58 (intsA 100 q2) := by
       have := hT'.out.put k (.int .i64 (v : Int))
       rw [intsA_put] at this
       rw [hV, hq2]
       exact this
      have x0 : wr.cell? ⟨T, k, none⟩ = some (.int .i64 (q' k)) := by rw [hT'.out.cell, intsA_at 100 q' (by omega)]
      have z0 := hT'.out.frozen k
      have hFV : Fr (fun x => x = T) w V := hfr.out.trans' (by rw [hV]; exact (Fr.refl (fun x => x = T) wr).setCell (p := ⟨T, k, none⟩) (.inl rfl) _) (fun _ _ e => e)
      have x3 := HBt.out V hFV
      have HC := Lib.hid (HIH.out v q2 r1 V hFV hvn hnP HQ2.out hTV hr1)
      have HY := Lib.hid (fun e => Hyes.out v hvn hnP (hr1.1 e))
      have HN2 := Lib.hid (fun (e : r1 = false) => hnx.out (.inr (fun s => by rw [hr1.2 s] at e; cases e)))
      have HFV := Lib.hid hFV
      have HA := Lib.hid (fun (q3 : Nat → Int) (e : ∀ j, j < k + 1 → q3 j = atS (P ++ [v]) j) => show ∀ j, j < k → q3 j = aP j from fun j hj => by
       rw [e j (by omega), ← HQ2.out j (by omega)]
       exact HQ3.out j hj)
      have hwe := hV.symm
      clear hV hTV hFV hT' hfr hnP hr1 hq2 hne hq' hnx HQ2 HQ3
      go_wp2_with fail
      refine (HC.out).mono ?_
      rintro e w3 ⟨rfl, q3, hq3, hT3, f3⟩
      have HQ4 := Lib.hid (HA.out q3 hq3)
      have HT3 := Lib.hid hT3
      have HF3 := Lib.hid (HFV.out.trans' f3 (fun _ _ e => e))
      clear hq3 hT3 f3 HA HC hwe x0 z0 x3 HFV
      cases r1
      ·have HS := Lib.hid (HN2.out rfl)
       clear HN2 HY
       go_wp2
       try rw [Exit.noGoto_ret]
       go_roundw
       case rel => exact ⟨v + 1, q3, by omega, by go_num, HS, HQ4, HT3, HF3⟩
       case measure => simp [Go.RowKit.intOf]; omega
      ·have HE := Lib.hid (HY.out rfl)
       clear HN2 HY
       go_wp2
       try rw [Exit.noGoto_ret]
       go_ret
       exact ⟨by rw [HE.out]; rfl, q3, HQ4.out, HT3.out, HF3.out⟩
   ·obtain rfl : v = n := by omega
    have HE := Lib.hid (Hno.out hpre.out)
    clear hpre
    go_wp2
    try rw [Exit.noGoto_ret]
    go_ret
    exact ⟨by rw [HE.out]; rfl, q', hq'.out, hT'.out, hfr.out⟩
set_option maxRecDepth 100000 in
set_option maxHeartbeats 4000000 in
theorem any17 {x : PCt} {h : List Nd} {C n lc gc bo bb : Nat} {L G : Option Addr} {ls : List IL} {bs : List Tr} (r : Bool) (w : World) (H : Leaf17 x h C n L lc ls G gc bs bo bb w) (hn7 : n ≤ 7) (hr : r = true ↔ freeB x h = true) :
  Calls Tryz.prog 34 #[.int .i64 (n : Int), .func (.func 35) #[] #[.pointer (some ⟨bo, 0, none⟩), .pointer (some ⟨bb, 0, none⟩)]] w (Has w r) := by
 have hmf : ∀ (fn : Fn) (first cap : Array Value) (w : World), (Instr.makeFunc fn first cap).run Tryz.prog w = .ok (.func fn first cap) w := fun _ _ _ _ => rfl
 have hz := zero_pl17
 obtain ⟨V0, hV0⟩ : ∃ V0, V0 = (((w.alloc (.cells #[.int .i64 (n : Int)] 3)).alloc (.cells #[.func (.func 35) #[] #[.pointer (some ⟨bo, 0, none⟩), .pointer (some ⟨bb, 0, none⟩)]] 75)).alloc (.cells (intsA 100 fun _ => 0) 58)).alloc (.cells #[.func (.func 54) #[] #[.pointer (some ⟨w.heap.size, 0, none⟩), .pointer (some ⟨w.heap.size + 1, 0, none⟩), .pointer (some ⟨w.heap.size + 1 + 1, 0, none⟩), .pointer (some ⟨w.heap.size + 1 + 1 + 1, 0, none⟩)]] 92) := ⟨_, rfl⟩
 have hF : Fr No w V0 := by rw [hV0]; exact ((((Fr.refl No w).alloc _).alloc _).alloc _).alloc _
 have b0 := Bk.made w 3 #[.int .i64 (n : Int)]
 have b1 := Bk.made (w.alloc (.cells #[.int .i64 (n : Int)] 3)) 75 #[.func (.func 35) #[] #[.pointer (some ⟨bo, 0, none⟩), .pointer (some ⟨bb, 0, none⟩)]]
 have b2 := Bk.made ((w.alloc (.cells #[.int .i64 (n : Int)] 3)).alloc (.cells #[.func (.func 35) #[] #[.pointer (some ⟨bo, 0, none⟩), .pointer (some ⟨bb, 0, none⟩)]] 75)) 58 (intsA 100 fun _ => 0)
 have b3 := Bk.made (((w.alloc (.cells #[.int .i64 (n : Int)] 3)).alloc (.cells #[.func (.func 35) #[] #[.pointer (some ⟨bo, 0, none⟩), .pointer (some ⟨bb, 0, none⟩)]] 75)).alloc (.cells (intsA 100 fun _ => 0) 58)) 92 #[.func (.func 54) #[] #[.pointer (some ⟨w.heap.size, 0, none⟩), .pointer (some ⟨w.heap.size + 1, 0, none⟩), .pointer (some ⟨w.heap.size + 1 + 1, 0, none⟩), .pointer (some ⟨w.heap.size + 1 + 1 + 1, 0, none⟩)]]
 simp only [World.size_alloc] at b1 b2 b3
 have hT : Bk V0 (w.heap.size + 1 + 1) 58 (intsA 100 fun _ => 0) := by rw [hV0]; exact b2.alloc _
 have hB : TryB n w.heap.size (w.heap.size + 1) (w.heap.size + 1 + 1 + 1) bo bb (w.heap.size + 1 + 1) V0 := ⟨by rw [hV0]; exact ((b0.alloc _).alloc _).alloc _, by rw [hV0]; exact (b1.alloc _).alloc _, by rw [hV0]; exact b3⟩
 have hN : ∀ W, Fr (fun k => k = w.heap.size + 1 + 1) V0 W → Fr No w W := fun W hW => hF.trans' hW (fun i hi e => by omega)
 have HC := Lib.hid (try17 x h n w.heap.size (w.heap.size + 1) (w.heap.size + 1 + 1 + 1) bo bb (w.heap.size + 1 + 1) V0 H.len hn7 (fun W hW => hB.fr hT hW) (fun P q r W hW hP hl hq hTW hr => search1_17 _ P q r W (H.since (hN W hW)) hP hl hq hTW hr) n [] (fun _ => 0) r V0 (by simp) ⟨List.nodup_nil, fun v hv => by cases hv⟩ (fun k hk => by simp at hk) (Fr.refl _ _) hT (by rw [hr, srcP_good H.may]))
 have x3 := hB.t.cell 0
 simp only [List.getElem?_toArray, List.getElem?_cons_zero] at x3
 rw [show ((([] : List Nat).length : Nat) : Int) = 0 from rfl] at HC
 have HN := Lib.hid hN
 clear H hr hT hB hF b0 b1 b2 b3 hN
 go_enter Tryz.func34, Tryz.ntmps34
 go_wp2_with fail
 rw [← hV0]
 refine (HC.out).mono ?_
 rintro e w3 ⟨rfl, q3, -, -, f3⟩
 have F3 := Lib.hid (HN.out w3 f3)
 clear HC f3 HN hV0 hmf hz
 go_wp2
 go_ret
 exact ⟨rfl, F3.out⟩
end Go.Proofs.YtmeimhpllemjfaaGreat
/- Package witness: where each node stands in an order; Keeps, Fair, Search, Find. -/
namespace Go.Proofs.YtmeimhpllemjfaaGreat
open Go.RowKit

theorem pl_results17 {fn : Func} {i j : Nat} (hfn : fn.results = #[.cell i 58, .tmp j]) {tmps : Array Value} {W : World} {H : Nat} {p : Nat → Int} {f : Value} (h : Bk W H 58 (intsA 100 p)) (h1 : tmps.getD i undef = .pointer (some ⟨H, 0, none⟩)) (h2 : tmps.getD j undef = f) :
  (results fn tmps).run Tryz.prog W = .ok (.tuple #[.agg (intsA 100 p), f]) W := by
 have hl : (loadVar 58 ⟨H, 0, none⟩).run Tryz.prog W = .ok (.agg (intsA 100 p)) W := ld_pl17 h
 have e1 : tmps[i]?.getD undef = .pointer (some ⟨H, 0, none⟩) := by simpa using h1
 have e2 : tmps[j]?.getD undef = f := by simpa using h2
 unfold results
 rw [hfn]
 simp [e1, e2, asAddr, hl]
def PlacesC (w : World) (n : Nat) (b : Bool) (l : List Int) (e : Ending) (w' : World) : Prop := ∃ p : Nat → Int, e = .returned (.tuple #[.agg (intsA 100 p), .bool b]) ∧ (b = true → ∀ i, i < n → p i = plc l i) ∧ Fr No w w'
set_option maxRecDepth 100000 in
set_option maxHeartbeats 8000000 in
theorem places17 (x : Ctl) (h : List Ndl) (A : Option Addr) (n c : Nat) (l : List Int) (L : Option Addr) (m lc : Nat) (w : World) (hI : In16 x h A n c w) (hl : Sl w w.heap.size L (ints l)) (hm : l.length = m) (hmm : m ≤ 1048576) :
  Calls Tryz.prog 24 #[x.agg, .slice A n c, .slice L m lc] w (PlacesC w n (mayH x.p (ndsOf h) && isOrd n l) l) := by
 have hz := zero_pl17
 have hbd := build_pl17
 have hn24 := hI.n24
 have HM := Lib.hid (fun W (hW : Fr No w W) => mayU_any x h A n c W (hI.cl.since hW) hI.big (hI.nd.since hW) hI.len (by omega) hI.nc hI.few)
 have HIx := Lib.hid (fun (e : m = n) (k : Int) W (hW : Fr No w W) => show Calls Tryz.prog 41 #[.slice L m lc, .int .i64 k] W fun e w' => e = .returned (.int .i64 (plF l n k)) ∧ Fr No W w' by
  have q := indexI17 l L m lc k W (hl.since hW) hm hmm
  rw [e] at q ⊢
  exact q)
 have Hnm := Lib.hid (fun (e : m ≠ n) => show isOrd n l = false by
  unfold isOrd
  rw [hm, decide_eq_false e, Bool.and_false])
 have Hbad := Lib.hid (fun (e : m = n) (i : Nat) (hi : i < n) (q : plF l n (i : Int) < 0) => show isOrd n l = false by
  cases s : isOrd n l
  ·rfl
  ·have := (ord_plF (by rw [hm, e])).1 s i hi
   omega)
 have Hall := Lib.hid (fun (e : m = n) (q : ∀ i : Nat, i < n → 0 ≤ plF l n i) => show isOrd n l = true from (ord_plF (by rw [hm, e])).2 q)
 have Hplc := Lib.hid (fun (e : isOrd n l = true) (i : Nat) (hi : i < n) => plF_plc e hi)
 have Hlt := Lib.hid (fun (i : Int) (q : 0 ≤ plF l n i) => show plF l n i < n by
  rcases plF_rng l n i with e | ⟨j, e, hj, _⟩
  ·omega
  ·omega)
 clear hI hl hm
 generalize mayH x.p (ndsOf h) = mh at *
 generalize isOrd n l = io at *
 unfold Ctl.agg at HM ⊢
 obtain ⟨Z, hZ⟩ : ∃ Z, Z = x.arr := ⟨_, rfl⟩
 rw [← hZ] at HM ⊢
 rw [Ctl.arr_eq] at hZ
 obtain ⟨W0, hW0⟩ : ∃ W0, W0 = w.alloc (.cells Z 26) := ⟨_, rfl⟩
 have bZ : Bk W0 w.heap.size 26 Z := by rw [hW0]; exact Bk.made w _ _
 have HF0 : Hid (Fr No w W0) := Lib.hid (by rw [hW0]; exact (Fr.refl _ _).alloc _)
 have HL := Lib.hid (fun V (hV : Fr No W0 V) => show LdO V 26 ⟨w.heap.size, 0, none⟩ (.agg Z) from ld_cat hZ (bZ.fr hV (fun e => e)))
 have HFr := Lib.hid (fun W (hW : Fr No W0 W) => show Fr No w W from HF0.out.trans' hW (fun _ _ e => e))
 obtain ⟨V0, hV0⟩ : ∃ V0, V0 = W0.alloc (.cells (intsA 100 fun _ => 0) 58) := ⟨_, rfl⟩
 have hs0 : W0.heap.size = w.heap.size + 1 := by rw [hW0]; simp
 have hFV : Fr No W0 V0 := by rw [hV0]; exact (Fr.refl _ _).alloc _
 have bR : Bk V0 (w.heap.size + 1) 58 (intsA 100 fun _ => 0) := by
  have := Bk.made W0 58 (intsA 100 fun _ => 0)
  rw [← hV0, hs0] at this
  exact this
 have hsV : V0.heap.size = w.heap.size + 1 + 1 := by rw [hV0, World.size_alloc, hs0]
 have HFV := Lib.hid hFV
 have HR := Lib.hid (fun V (hV : Fr No V0 V) => bR.fr hV (fun e => e))
 have HF2 := Lib.hid (fun V (hV : Fr No V0 V) => show Fr No w V from HFr.out V (hFV.trans' hV (fun _ _ e => e)))
 have HLv := Lib.hid (HL.out V0 hFV)
 have HM0 := Lib.hid (HM.out V0 (HFr.out V0 hFV))
 have Hsz := Lib.hid hsV
 have hwe := hW0.symm
 have hve := hV0.symm
 clear hZ hW0 bZ hFV bR hV0 HM HL hsV
 by_cases hmn : m = n
 ·obtain rfl : n = m := hmn.symm
  have HIy := Lib.hid (HIx.out rfl)
  have Hbd2 := Lib.hid (Hbad.out rfl)
  have Hal2 := Lib.hid (Hall.out rfl)
  have d0 : ((n : Int) == (n : Int)) = true := by simp
  have d0' : ((n : Int) != (n : Int)) = false := by simp
  clear HIx Hnm Hbad Hall
  cases mh
  ·have HRb := Lib.hid (fun V hV => HR.out V hV)
   go_enter Tryz.func24, Tryz.ntmps24
   go_wp2_with (first
    | ((with_reducible refine wpl_ldg ?_ ?_ HLv.out ?_); (· rfl); (· rfl); simp only [Act.put, szA, szB, szC]))
   refine (HM0.out).mono ?_
   rintro e w1 ⟨rfl, f1⟩
   have b1 := HR.out w1 f1
   have g1 := HF2.out w1 f1
   have hst := Lib.hid (st_pl17 (q := fun _ => 0) b1)
   obtain ⟨W4, hW4⟩ : ∃ V, Hid (V = w1.setRow (w.heap.size + 1) (intsA 100 fun _ => 0)) := ⟨_, Lib.hid rfl⟩
   have b4 : Hid (Bk W4 (w.heap.size + 1) 58 (intsA 100 fun _ => 0)) := Lib.hid (by rw [hW4.out]; exact bk_row12 b1 _)
   have HZ : Hid (Fr No w W4) := Lib.hid (by rw [hW4.out]; exact fr_row12 g1 (.inr (by omega)) _)
   rw [← hW4.out] at hst
   clear b1 f1 g1 HM0 HLv HR HF2
   go_wp2_with (first
    | ((with_reducible refine wpl_st ?_ ?_ ?_ hst.out ?_); (· rfl); (· rfl); (· rfl); simp only [Act.put]))
   exact bodyPost_ret (pl_results17 Tryz.results24 (p := fun _ => 0) (f := .bool false) b4.out rfl rfl) rfl ⟨_, by rfl, fun e => (by simp at e), HZ.out⟩
  ·go_enter Tryz.func24, Tryz.ntmps24
   go_wp2_with (first
    | ((with_reducible refine wpl_ldg ?_ ?_ HLv.out ?_); (· rfl); (· rfl); simp only [Act.put, szA, szB, szC]))
   refine (HM0.out).mono ?_
   rintro e w1 ⟨rfl, f1⟩
   have b1 := HR.out w1 f1
   have g1 := HF2.out w1 f1
   obtain ⟨Q, hQ⟩ : ∃ Q, Q = w1.heap.size := ⟨_, rfl⟩
   have hQR : w.heap.size + 1 < Q := by rw [hQ]; exact b1.lt
   obtain ⟨W1, hW1⟩ : ∃ W1, W1 = w1.alloc (.cells (intsA 100 fun _ => 0) 58) := ⟨_, rfl⟩
   have bQ : Hid (Bk W1 Q 58 (intsA 100 fun _ => 0)) := Lib.hid (by rw [hW1, hQ]; exact Bk.made _ _ _)
   have bR : Hid (Bk W1 (w.heap.size + 1) 58 (intsA 100 fun _ => 0)) := Lib.hid (by rw [hW1]; exact b1.alloc _)
   have HG1 : Hid (Fr No w W1) := Lib.hid (by rw [hW1]; exact g1.alloc _)
   have HQR := Lib.hid hQR
   have HG2 := Lib.hid (fun V (hV : Fr (fun k => k = Q) W1 V) => show Fr No w V from HG1.out.trans' hV (fun i hi e => by have := HQR.out; omega))
   have HR2 := Lib.hid (fun V (hV : Fr (fun k => k = Q) W1 V) => show Bk V (w.heap.size + 1) 58 (intsA 100 fun _ => 0) from bR.out.fr hV (fun e => by have := HQR.out; omega))
   have hqe := hW1.symm
   clear f1 b1 g1 HM0 HLv HR HF2 hW1 bR hQR
   go_wp2
   rw [← hQ]
   clear hqe hwe hve hs0 hQ
   go_loopw [25] (fun iv wr => ∃ (i : Nat) (q : Nat → Int), i ≤ n ∧ iv = .int .i64 (i : Int) ∧ Hid (∀ k, k < i → q k = plF l n (k : Int) ∧ 0 ≤ plF l n (k : Int)) ∧ Hid (Bk wr Q 58 (intsA 100 q)) ∧ Hid (Fr (fun k => k = Q) W1 wr)) (fun iv _ => n - (Go.RowKit.intOf iv).toNat)
   case atStart => exact ⟨0, fun _ => 0, Nat.zero_le _, rfl, Lib.hid (fun k hk => by omega), bQ, Lib.hid (Fr.refl _ _)⟩
   case round =>
    clear bQ
    obtain ⟨i, q, hi, rfl, hq, hB, hfr⟩ := hrel
    by_cases hlt : i < n
    ·have hin : ((i : Nat) : Int) < (n : Int) := by omega
     have HC := Lib.hid (HIy.out (i : Int) wr (HG2.out wr hfr.out))
     have Hb3 := Lib.hid (fun s => Hbd2.out i hlt s)
     have Hl3 := Lib.hid (fun s => Hlt.out (i : Int) s)
     have Hq3 := Lib.hid (fun (s : 0 ≤ plF l n (i : Int)) => show ∀ k, k < i + 1 → (fun k => if k = i then plF l n (i : Int) else q k) k = plF l n (k : Int) ∧ 0 ≤ plF l n (k : Int) from fun k hk => by
      dsimp only
      by_cases e : k = i
      ·rw [if_pos e, e]; exact ⟨rfl, s⟩
      ·rw [if_neg e]; exact hq.out k (by omega))
     obtain ⟨j, hj⟩ : ∃ j, j = plF l n (i : Int) := ⟨_, rfl⟩
     rw [← hj] at HC Hb3 Hl3 Hq3
     clear hj hq
     by_cases hneg : j < 0
     ·have HE := Lib.hid (Hb3.out hneg)
      have d1 : decide (j < 0) = true := decide_eq_true hneg
      clear Hb3 Hl3 Hq3
      go_wp2_with fail
      refine (HC.out).mono ?_
      rintro e w3 ⟨rfl, f3⟩
      have hfr3 := hfr.out.trans' f3 (fun _ _ e => e.elim)
      have b3 := HR2.out w3 hfr3
      have g3 := HG2.out w3 hfr3
      have hst := Lib.hid (st_pl17 (q := fun _ => 0) b3)
      obtain ⟨W4, hW4⟩ : ∃ V, Hid (V = w3.setRow (w.heap.size + 1) (intsA 100 fun _ => 0)) := ⟨_, Lib.hid rfl⟩
      have b4 : Hid (Bk W4 (w.heap.size + 1) 58 (intsA 100 fun _ => 0)) := Lib.hid (by rw [hW4.out]; exact bk_row12 b3 _)
      have HZ : Hid (Fr No w W4) := Lib.hid (by rw [hW4.out]; exact fr_row12 g3 (.inr (by omega)) _)
      rw [← hW4.out] at hst
      clear b3 f3 g3 hfr3 HC hB hfr
      go_wp2_with (first
       | ((with_reducible refine wpl_st ?_ ?_ ?_ hst.out ?_); (· rfl); (· rfl); (· rfl); simp only [Act.put]))
      exact bodyPost_ret (pl_results17 Tryz.results24 (p := fun _ => 0) (f := .bool false) b4.out rfl rfl) rfl ⟨_, by (rw [HE.out]; rfl), fun e => (by simp [HE.out] at e), HZ.out⟩
     ·have d1 : decide (j < 0) = false := decide_eq_false hneg
      have hi100 : ((i : Nat) : Int) < 100 := by omega
      have hi0 : (0 : Int) ≤ (i : Int) := by omega
      have Hq4 := Lib.hid (Hq3.out (by omega))
      clear Hb3 Hl3 Hq3 hneg
      go_wp2_with fail
      refine (HC.out).mono ?_
      rintro e w3 ⟨rfl, f3⟩
      have b3 := hB.out.fr f3 (fun e => e)
      have x0 : w3.cell? ⟨Q, i, none⟩ = some (.int .i64 (q i)) := by rw [b3.cell, intsA_at 100 q (by omega)]
      have z0 := b3.frozen i
      have HB4 : Hid (Bk (w3.setCell ⟨Q, i, none⟩ (.int .i64 j)) Q 58 (intsA 100 (fun k => if k = i then j else q k))) := Lib.hid (by
       have := b3.put i (.int .i64 j)
       rw [intsA_put] at this
       exact this)
      have HF4 : Hid (Fr (fun k => k = Q) W1 (w3.setCell ⟨Q, i, none⟩ (.int .i64 j))) := Lib.hid ((hfr.out.trans' f3 (fun _ _ e => e.elim)).setCell (.inl rfl) _)
      clear f3 b3 HC hB hfr
      go_wp2
      go_roundw
      case rel => exact ⟨i + 1, _, by omega, by go_num, Hq4, HB4, HF4⟩
      case measure => simp [Go.RowKit.intOf]; omega
    ·obtain rfl : i = n := by omega
     have HE := Lib.hid (Hal2.out (fun k hk => (hq.out k hk).2))
     have HP := Lib.hid (fun k hk => ((hq.out k hk).1).trans (Hplc.out HE.out k hk))
     have b3 := HR2.out wr hfr.out
     have g3 := HG2.out wr hfr.out
     have hld := Lib.hid (ld_pl17 hB.out)
     have hst := Lib.hid (st_pl17 (q := q) b3)
     obtain ⟨W4, hW4⟩ : ∃ V, Hid (V = wr.setRow (w.heap.size + 1) (intsA 100 q)) := ⟨_, Lib.hid rfl⟩
     have b4 : Hid (Bk W4 (w.heap.size + 1) 58 (intsA 100 q)) := Lib.hid (by rw [hW4.out]; exact bk_row12 b3 _)
     have HZ : Hid (Fr No w W4) := Lib.hid (by rw [hW4.out]; exact fr_row12 g3 (.inr (by omega)) _)
     rw [← hW4.out] at hst
     clear b3 g3 hB hfr hq Hplc
     go_wp2_with (first
      | ((with_reducible refine wpl_ld ?_ ?_ hld.out ?_); (· rfl); (· rfl); simp only [Act.put, szA, szB, szC])
      | ((with_reducible refine wpl_st ?_ ?_ ?_ hst.out ?_); (· rfl); (· rfl); (· rfl); simp only [Act.put]))
     exact bodyPost_ret (pl_results17 Tryz.results24 (p := q) (f := .bool true) b4.out rfl rfl) rfl ⟨q, by rw [HE.out]; rfl, fun _ => HP.out, HZ.out⟩
 ·have d0 : ((m : Int) == (n : Int)) = false := by simp; omega
  have d0' : ((m : Int) != (n : Int)) = true := by simp; omega
  have HE := Lib.hid (Hnm.out hmn)
  have b1 := HR.out V0 (Fr.refl _ _)
  have g1 := HF2.out V0 (Fr.refl _ _)
  clear HIx Hnm Hbad Hall HM0 HLv hmn Hlt Hplc
  go_enter Tryz.func24, Tryz.ntmps24
  have hst := Lib.hid (st_pl17 (q := fun _ => 0) b1)
  obtain ⟨W4, hW4⟩ : ∃ V, Hid (V = V0.setRow (w.heap.size + 1) (intsA 100 fun _ => 0)) := ⟨_, Lib.hid rfl⟩
  have b4 : Hid (Bk W4 (w.heap.size + 1) 58 (intsA 100 fun _ => 0)) := Lib.hid (by rw [hW4.out]; exact bk_row12 b1 _)
  have HZ : Hid (Fr No w W4) := Lib.hid (by rw [hW4.out]; exact fr_row12 g1 (.inr (by omega)) _)
  rw [← hW4.out] at hst
  clear b1 g1 HR HF2
  go_wp2_with (first
   | ((with_reducible refine wpl_st ?_ ?_ ?_ hst.out ?_); (· rfl); (· rfl); (· rfl); simp only [Act.put]))
  exact bodyPost_ret (pl_results17 Tryz.results24 (p := fun _ => 0) (f := .bool false) b4.out rfl rfl) rfl ⟨_, by (rw [HE.out, Bool.and_false]), fun e => (by simp [HE.out] at e), HZ.out⟩
end Go.Proofs.YtmeimhpllemjfaaGreat
/- Package witness: Search, Find. -/
namespace Go.Proofs.YtmeimhpllemjfaaGreat
open Go.RowKit

theorem ofH17 (x : Ctl) (h : List Ndl) (A : Option Addr) (n c : Nat) (w : World) (hI : In16 x h A n c w) : Calls Tryz.prog 26 #[.slice A n c] w fun e w' => ∃ L ls lc, e = .returned (.slice L n lc) ∧ ls.length = n ∧ Ils w' L ls ∧ OfL (ndsOf h) ls ∧ Fr No w w' := by
 refine (of15 h A n c w hI.nd hI.len (by have := hI.n24; omega) hI.nc (fun a b ha hb V hV => conflictU_any h[a] h[b] V ((hI.nd.all _ (List.getElem_mem ha)).since hV) ((hI.nd.all _ (List.getElem_mem hb)).since hV) (hI.few.all _ (List.getElem_mem ha)).1 (hI.few.all _ (List.getElem_mem ha)).2 (hI.few.all _ (List.getElem_mem hb)).1 (hI.few.all _ (List.getElem_mem hb)).2)).mono ?_
 rintro e w' ⟨L, ls, lc, rfl, hO, hL, hf⟩
 have hn : ls.length = n := by rw [hL.len, ndsOf_len]; exact hI.len
 exact ⟨L, ls, lc, by rw [hn], hn, hO.ils, hL, hf⟩
theorem bars_any17 (x : PCt) (h : List Nd) : ∀ D, ∃ bs, BarsL x h D 0 0 bs
 | 0 => ⟨[], BarsL.nil x h⟩
 | D + 1 => by
  obtain ⟨bs, hb⟩ := bars_any17 x h D
  have key : ∀ F, F ≤ h.length → ∃ bs, BarsL x h D F 0 bs := fun F => by
   induction F with
   | zero => intro _; exact ⟨bs, hb⟩
   | succ F ih =>
    intro hF
    obtain ⟨bs, hb⟩ := ih (by omega)
    have key2 : ∀ O, O ≤ h.length → ∃ bs, BarsL x h D F O bs := fun O => by
     induction O with
     | zero => intro _; exact ⟨bs, hb⟩
     | succ O ih2 =>
      intro hO
      obtain ⟨bs, hb⟩ := ih2 (by omega)
      cases e : barB x h D F O
      ·exact ⟨bs, hb.no e⟩
      ·exact ⟨_, hb.yes (by omega) (by omega) e⟩
    obtain ⟨bs, hb⟩ := key2 h.length (Nat.le_refl _)
    exact ⟨bs, hb.row⟩
  obtain ⟨bs, hb⟩ := key h.length (Nat.le_refl _)
  exact ⟨bs, hb.cls⟩
set_option maxRecDepth 100000 in
set_option maxHeartbeats 4000000 in
theorem searchW17 (x : Ctl) (h : List Ndl) (A : Option Addr) (n c : Nat) (w : World) (hI : In16 x h A n c w) : Calls Tryz.prog 14 #[x.agg, .slice A n c] w (Has w (goodH x.p (ndsOf h) && decide (n ≤ 7))) := by
 have hmf : ∀ (fn : Fn) (first cap : Array Value) (w : World), (Instr.makeFunc fn first cap).run Tryz.prog w = .ok (.func fn first cap) w := fun _ _ _ _ => rfl
 have hlen : (ndsOf h).length = n := by rw [ndsOf_len]; exact hI.len
 have hn24 := hI.n24
 have HM := Lib.hid (fun W (hW : Fr No w W) => mayU_any x h A n c W (hI.cl.since hW) hI.big (hI.nd.since hW) hI.len (by omega) hI.nc hI.few)
 have HO := Lib.hid (fun W (hW : Fr No w W) => ofH17 x h A n c W (hI.since hW))
 have HBr := Lib.hid (fun (L2 : Option Addr) (lc2 : Nat) (ls : List IL) W (hW : Fr No w W) (hmm : mayH x.p (ndsOf h) = true) (hO : OfL (ndsOf h) ls) (hL : Ils W L2 ls) (hln : ls.length = n) => bars17 x h A n c L2 lc2 ls W (hI.since hW) hmm hO hL hln)
 have Hbad := Lib.hid (fun (e : mayH x.p (ndsOf h) = false) => show goodH x.p (ndsOf h) = false by unfold goodH; rw [e]; rfl)
 have Hgood := Lib.hid (fun (e : mayH x.p (ndsOf h) = true) => show goodH x.p (ndsOf h) = true ↔ freeB x.p (ndsOf h) = true by unfold goodH; rw [e, Bool.true_and])
 have Hcls := Lib.hid (fun (e : mayH x.p (ndsOf h) = true) => clsOf17 e)
 clear hI
 obtain ⟨g, hg⟩ : ∃ g, g = goodH x.p (ndsOf h) := ⟨_, rfl⟩
 obtain ⟨mh, hmh⟩ : ∃ b, b = mayH x.p (ndsOf h) := ⟨_, rfl⟩
 rw [← hg] at Hbad Hgood ⊢
 rw [← hmh] at HM
 have Hmh := Lib.hid hmh
 clear hg hmh
 unfold Ctl.agg at HM HBr ⊢
 obtain ⟨Z, hZ⟩ : ∃ Z, Z = x.arr := ⟨_, rfl⟩
 rw [← hZ] at HM HBr ⊢
 rw [Ctl.arr_eq] at hZ
 obtain ⟨W0, hW0⟩ : ∃ W0, W0 = w.alloc (.cells Z 26) := ⟨_, rfl⟩
 have bZ : Bk W0 w.heap.size 26 Z := by rw [hW0]; exact Bk.made w _ _
 have HF0 : Hid (Fr No w W0) := Lib.hid (by rw [hW0]; exact (Fr.refl _ _).alloc _)
 have HL := Lib.hid (fun V (hV : Fr No W0 V) => show LdO V 26 ⟨w.heap.size, 0, none⟩ (.agg Z) from ld_cat hZ (bZ.fr hV (fun e => e)))
 have HFr := Lib.hid (fun W (hW : Fr No W0 W) => show Fr No w W from HF0.out.trans' hW (fun _ _ e => e))
 have HL0 := Lib.hid (HL.out W0 (Fr.refl _ _))
 have HM0 := Lib.hid (HM.out W0 HF0.out)
 have hwe := hW0.symm
 clear hZ hW0 bZ HM
 by_cases h7 : n ≤ 7
 ·have d0 : decide ((n : Int) > 7) = false := decide_eq_false (by omega)
  rw [decide_eq_true h7, Bool.and_true]
  cases mh
  ·have HE := Lib.hid (Hbad.out Hmh.out.symm)
   clear Hbad Hgood HBr HO Hcls
   go_enter Tryz.func14, Tryz.ntmps14
   go_wp2_with (first
    | ((with_reducible refine wpl_ldg ?_ ?_ HL0.out ?_); (· rfl); (· rfl); simp only [Act.put, szA, szB, szC]))
   refine (HM0.out).mono ?_
   rintro e w1 ⟨rfl, f1⟩
   go_wp2
   go_ret
   exact ⟨by rw [HE.out]; rfl, HFr.out _ f1⟩
  ·have HMy := Lib.hid Hmh.out.symm
   have Hg := Lib.hid (Hgood.out HMy.out)
   have Hc := Lib.hid (Hcls.out HMy.out)
   have HlenH := Lib.hid hlen
   clear Hbad Hgood Hcls Hmh hlen
   go_enter Tryz.func14, Tryz.ntmps14
   go_wp2_with (first
    | ((with_reducible refine wpl_ldg ?_ ?_ HL0.out ?_); (· rfl); (· rfl); simp only [Act.put, szA, szB, szC]))
   refine (HM0.out).mono ?_
   rintro e w1 ⟨rfl, f1⟩
   have D1 := Lib.hid f1
   have HO1 := Lib.hid (HO.out w1 (HFr.out w1 f1))
   clear f1 HM0 HL0 HO hwe
   go_wp2_with fail
   refine (HO1.out).mono ?_
   rintro e w2 ⟨L2, ls, lc2, rfl, hn2, hI2, hO2, f2⟩
   obtain ⟨bo, hbo⟩ : ∃ b, Hid (b = w2.heap.size) := ⟨_, Lib.hid rfl⟩
   obtain ⟨V2, hV2⟩ : ∃ V, V = w2.alloc (.cells #[.slice L2 n lc2] 63) := ⟨_, rfl⟩
   have fV2 : Fr No w2 V2 := by rw [hV2]; exact (Fr.refl _ _).alloc _
   have bV2 : Bk V2 w2.heap.size 63 #[.slice L2 n lc2] := by rw [hV2]; exact Bk.made _ _ _
   have D2 := Lib.hid ((D1.out.trans' f2 (fun _ _ e => e)).trans' fV2 (fun _ _ e => e))
   have HLc := Lib.hid (HL.out V2 D2.out)
   have HB2 := Lib.hid (HBr.out L2 lc2 ls V2 (HFr.out V2 D2.out) HMy.out hO2 (hI2.since fV2) hn2)
   have c2 := bV2.cell 0
   simp only [List.getElem?_toArray, List.getElem?_cons_zero] at c2
   have HbV2 := Lib.hid bV2
   have HIl := Lib.hid (hI2.since fV2)
   have HOf := Lib.hid hO2
   have Hn2 := Lib.hid hn2
   have hve := hV2.symm
   clear f2 hn2 hI2 hO2 HO1 D1 hV2 fV2 bV2 HBr HL
   go_wp2_with (first
    | ((with_reducible refine wpl_ld ?_ ?_ HLc.out ?_); (· rfl); (· rfl); simp only [Act.put, szA, szB, szC]))
   refine (HB2.out).mono ?_
   rintro e w3 ⟨G, gc, bs, rfl, hb, hfew, hsl, f3⟩
   obtain ⟨V3, hV3⟩ : ∃ V, V = w3.alloc (.cells #[.slice G bs.length gc] 68) := ⟨_, rfl⟩
   have fV3 : Fr No w3 V3 := by rw [hV3]; exact (Fr.refl _ _).alloc _
   have bV3 : Bk V3 w3.heap.size 68 #[.slice G bs.length gc] := by rw [hV3]; exact Bk.made _ _ _
   have f23 : Fr No V2 V3 := f3.trans' fV3 (fun _ _ e => e)
   have D3 := Lib.hid (D2.out.trans' f23 (fun _ _ e => e))
   have HC := Lib.hid (any17 g V3 ⟨HMy.out, HlenH.out, hn24, HbV2.out.fr f23 (fun e => e), bV3, HIl.out.since f23, HOf.out, Hn2.out, hb, hfew, hsl.since fV3, Hc.out⟩ h7 Hg.out)
   have hve3 := hV3.symm
   generalize bs.length = bl at *
   clear hb hfew hsl f3 hV3 fV3 bV3 f23 HB2 HLc D2 c2 HbV2 HIl HOf Hn2 Hc Hg hve
   go_wp2_with fail
   refine (HC.out).mono ?_
   rintro e w4 ⟨rfl, f4⟩
   go_wp2
   go_ret
   exact ⟨rfl, HFr.out _ (D3.out.trans' f4 (fun _ _ e => e))⟩
 ·have d0 : decide ((n : Int) > 7) = true := decide_eq_true (by omega)
  rw [decide_eq_false h7, Bool.and_false]
  clear Hbad Hgood HBr HO Hcls HM0 HL0
  go_enter Tryz.func14, Tryz.ntmps14
  go_wp2
  go_ret
  exact ⟨rfl, HF0.out⟩
theorem nums_ordI (t : List Nat) : nums t = ints (ordI t) := by simp [nums, ints, ordI]
theorem ordH_fair {x : PCt} {h : List Nd} (hg : goodH x h = true) : isOrd h.length (ordI (ordH x h)) = true ∧ fairP x h (plc (ordI (ordH x h))) := by
 have h0 := hg
 unfold goodH at h0
 rw [Bool.and_eq_true] at h0
 unfold ordH
 rw [if_pos hg, ord_arcs h0.2 (Nat.le_refl _)]
 exact told_fair h0.1 h0.2
theorem ordH_len {x : PCt} {h : List Nd} {n : Nat} (hn : h.length = n) : (decide ((ordH x h).length = n) && mayH x h) = goodH x h := by
 cases hg : goodH x h
 ·have e : ordH x h = [] := by unfold ordH; rw [hg]; rfl
  rw [e]
  cases hm : mayH x h
  ·rw [Bool.and_false]
  ·rw [Bool.and_true]
   refine decide_eq_false (fun q => ?_)
   have hz : h.length = 0 := by rw [hn, ← q]; rfl
   have hf : freeB x h = true := freeB_iff.2 fun i hw => by
    cases hw with
    | one q => have := arcA_lt _ _ q; omega
    | more _ q => have := arcA_lt _ _ q; omega
   unfold goodH at hg
   rw [hm, hf] at hg
   cases hg
 ·have h0 := hg
  unfold goodH at h0
  rw [Bool.and_eq_true] at h0
  rw [h0.1, Bool.and_true]
  refine decide_eq_true ?_
  unfold ordH
  rw [if_pos hg, ordT_len]
  exact hn
set_option maxRecDepth 100000 in
set_option maxHeartbeats 4000000 in
theorem findW17 (x : Ctl) (h : List Ndl) (A : Option Addr) (n c : Nat) (w : World) (hI : In16 x h A n c w) : Calls Tryz.prog 17 #[x.agg, .slice A n c] w fun e w' => ∃ L lc, e = .returned (.tuple #[.slice L (ordH x.p (ndsOf h)).length lc, .bool (goodH x.p (ndsOf h))]) ∧ Sl w' w'.heap.size L (nums (ordH x.p (ndsOf h))) ∧ Fr No w w' := by
 have hlen : (ndsOf h).length = n := by rw [ndsOf_len]; exact hI.len
 have hn24 := hI.n24
 have HM := Lib.hid (fun W (hW : Fr No w W) => mayU_any x h A n c W (hI.cl.since hW) hI.big (hI.nd.since hW) hI.len (by omega) hI.nc hI.few)
 have HO := Lib.hid (fun W (hW : Fr No w W) => orderOf16 x h A n c W (hI.since hW))
 have hR := ordH_len (x := x.p) hlen
 rw [← hR]
 clear hI hR
 generalize ordH x.p (ndsOf h) = R at *
 generalize mayH x.p (ndsOf h) = mh at *
 generalize R.length = rl at *
 obtain ⟨gg, hgg⟩ : ∃ b, b = (decide (rl = n) && mh) := ⟨_, rfl⟩
 rw [← hgg]
 have Hgg := Lib.hid hgg
 clear hgg
 unfold Ctl.agg at HM HO ⊢
 obtain ⟨Z, hZ⟩ : ∃ Z, Z = x.arr := ⟨_, rfl⟩
 rw [← hZ] at HM HO ⊢
 rw [Ctl.arr_eq] at hZ
 obtain ⟨W0, hW0⟩ : ∃ W0, W0 = w.alloc (.cells Z 26) := ⟨_, rfl⟩
 have bZ : Bk W0 w.heap.size 26 Z := by rw [hW0]; exact Bk.made w _ _
 have HF0 : Hid (Fr No w W0) := Lib.hid (by rw [hW0]; exact (Fr.refl _ _).alloc _)
 have HL := Lib.hid (fun V (hV : Fr No W0 V) => show LdO V 26 ⟨w.heap.size, 0, none⟩ (.agg Z) from ld_cat hZ (bZ.fr hV (fun e => e)))
 have HFr := Lib.hid (fun W (hW : Fr No W0 W) => show Fr No w W from HF0.out.trans' hW (fun _ _ e => e))
 have HL0 := Lib.hid (HL.out W0 (Fr.refl _ _))
 have HO0 := Lib.hid (HO.out W0 HF0.out)
 have hwe := hW0.symm
 clear hZ hW0 bZ HO
 go_enter Tryz.func17, Tryz.ntmps17
 go_wp2_with (first
  | ((with_reducible refine wpl_ld ?_ ?_ HL0.out ?_); (· rfl); (· rfl); simp only [Act.put, szA, szB, szC]))
 refine (HO0.out).mono ?_
 rintro e w1 ⟨L, lc, rfl, hs, f1⟩
 have D1 := Lib.hid f1
 have HS1 := Lib.hid hs
 have HM1 := Lib.hid (HM.out w1 (HFr.out w1 f1))
 have HL1 := Lib.hid (HL.out w1 f1)
 clear f1 hs HM HL HL0 HO0 hwe
 by_cases hrn : rl = n
 ·have d1 : ((rl : Int) == (n : Int)) = true := by simp [hrn]
  have HE : Hid (gg = mh) := Lib.hid (by rw [Hgg.out, decide_eq_true hrn, Bool.true_and])
  clear hrn
  go_wp2_with (first
   | ((with_reducible refine wpl_ldg ?_ ?_ HL1.out ?_); (· rfl); (· rfl); simp only [Act.put, szA, szB, szC]))
  refine (HM1.out).mono ?_
  rintro e w2 ⟨rfl, f2⟩
  go_wp2
  refine bodyPost_ret (results_tmp2 rfl _ _ _) rfl ?_
  exact ⟨L, lc, by rw [HE.out]; rfl, HS1.out.since f2, HFr.out _ (D1.out.trans' f2 (fun _ _ e => e))⟩
 ·have d1 : ((rl : Int) == (n : Int)) = false := by simp; omega
  have HE : Hid (gg = false) := Lib.hid (by rw [Hgg.out, decide_eq_false hrn, Bool.false_and])
  clear hrn
  go_wp2
  refine bodyPost_ret (results_tmp2 rfl _ _ _) rfl ?_
  exact ⟨L, lc, by rw [HE.out]; rfl, HS1.out, HFr.out _ D1.out⟩
end Go.Proofs.YtmeimhpllemjfaaGreat
/- Package witness: Keeps, Fair; the contracts. -/
namespace Go.Proofs.YtmeimhpllemjfaaGreat
open Go.RowKit

set_option maxRecDepth 100000 in
set_option maxHeartbeats 4000000 in
theorem keepsW17 (x : Ctl) (h : List Ndl) (A : Option Addr) (n c : Nat) (l : List Int) (L : Option Addr) (m lc : Nat) (w : World) (hI : In16 x h A n c w) (hl : Sl w w.heap.size L (ints l)) (hm : l.length = m) (hmm : m ≤ 1048576) (r : Bool) (hr : r = true ↔ mayH x.p (ndsOf h) = true ∧ isOrd n l = true ∧ keepP (ndsOf h) (plc l)) :
  Calls Tryz.prog 10 #[x.agg, .slice A n c, .slice L m lc] w (Has w r) := by
 have hz := zero_pl17
 have hlen : (ndsOf h).length = n := by rw [ndsOf_len]; exact hI.len
 have HP := Lib.hid (fun W (hW : Fr No w W) => places17 x h A n c l L m lc W (hI.since hW) (hl.since hW) hm hmm)
 have HO := Lib.hid (fun W (hW : Fr No w W) => ofH17 x h A n c W (hI.since hW))
 have Hnot := Lib.hid (fun (e : (mayH x.p (ndsOf h) && isOrd n l) = false) => show r = false by
  cases r
  ·rfl
  ·obtain ⟨h1, h2, -⟩ := hr.1 rfl
   rw [h1, h2] at e
   cases e)
 have Hk := Lib.hid (fun (e : (mayH x.p (ndsOf h) && isOrd n l) = true) (p : Nat → Int) (hp : ∀ i, i < n → p i = plc l i) => show r = true ↔ keepP (ndsOf h) p by
  rw [Bool.and_eq_true] at e
  rw [hr]
  exact ⟨fun q => keep_congr (fun i hi => (hp i (by omega)).symm) q.2.2, fun q => ⟨e.1, e.2, keep_congr (fun i hi => hp i (by omega)) q⟩⟩)
 have hn24 := hI.n24
 clear hI
 generalize hbo : (mayH x.p (ndsOf h) && isOrd n l) = b at *
 clear hl hm hbo
 unfold Ctl.agg at HP ⊢
 obtain ⟨Z, hZ⟩ : ∃ Z, Z = x.arr := ⟨_, rfl⟩
 rw [← hZ] at HP ⊢
 rw [Ctl.arr_eq] at hZ
 obtain ⟨W0, hW0⟩ : ∃ W0, W0 = w.alloc (.cells Z 26) := ⟨_, rfl⟩
 have bZ : Bk W0 w.heap.size 26 Z := by rw [hW0]; exact Bk.made w _ _
 have HF0 : Hid (Fr No w W0) := Lib.hid (by rw [hW0]; exact (Fr.refl _ _).alloc _)
 have HL := Lib.hid (fun V (hV : Fr No W0 V) => show LdO V 26 ⟨w.heap.size, 0, none⟩ (.agg Z) from ld_cat hZ (bZ.fr hV (fun e => e)))
 have HFr := Lib.hid (fun W (hW : Fr No W0 W) => show Fr No w W from HF0.out.trans' hW (fun _ _ e => e))
 have HL0 := Lib.hid (HL.out W0 (Fr.refl _ _))
 have HP0 := Lib.hid (HP.out W0 HF0.out)
 have hwe := hW0.symm
 clear hZ hW0 bZ HP
 go_enter Tryz.func10, Tryz.ntmps10
 go_wp2_with (first
  | ((with_reducible refine wpl_ld ?_ ?_ HL0.out ?_); (· rfl); (· rfl); simp only [Act.put, szA, szB, szC]))
 refine (HP0.out).mono ?_
 rintro e w1 ⟨p, rfl, hp, f1⟩
 have hst : Hid (StO (w1.alloc (.cells (intsA 100 fun _ => 0) 58)) 58 ⟨w1.heap.size, 0, none⟩ (.agg (intsA 100 p)) (w1.alloc (.cells (intsA 100 p) 58))) := Lib.hid (by
  have q := st_pl17 (q := p) (Bk.made w1 58 (intsA 100 fun _ => 0))
  rwa [World.setRow_alloc_new] at q)
 obtain ⟨V1, hV1⟩ : ∃ V1, Hid (V1 = w1.alloc (.cells (intsA 100 p) 58)) := ⟨_, Lib.hid rfl⟩
 obtain ⟨T, hTq⟩ : ∃ T, Hid (T = w1.heap.size) := ⟨_, Lib.hid rfl⟩
 have HT1 : Hid (Bk V1 T 58 (intsA 100 p)) := Lib.hid (by rw [hV1.out, hTq.out]; exact Bk.made _ _ _)
 have D1 : Hid (Fr No W0 V1) := Lib.hid (by rw [hV1.out]; exact f1.alloc _)
 have Hp := Lib.hid hp
 rw [← hV1.out] at hst
 clear f1 hp HP0 HL0 hwe
 cases b
 ·have HE := Lib.hid (Hnot.out rfl)
  clear Hk Hnot HT1 Hp HO
  go_wp2_with (first
   | ((with_reducible refine wpl_st ?_ ?_ ?_ hst.out ?_); (· rfl); (· rfl); (· rfl); simp only [Act.put]))
  go_ret
  exact ⟨by rw [HE.out]; rfl, HFr.out _ D1.out⟩
 ·have HO1 := Lib.hid (HO.out V1 (HFr.out V1 D1.out))
  have Hk1 := Lib.hid (Hk.out rfl p (Hp.out rfl))
  clear Hk Hnot HO Hp
  go_wp2_with (first
   | ((with_reducible refine wpl_st ?_ ?_ ?_ hst.out ?_); (· rfl); (· rfl); (· rfl); simp only [Act.put]))
  refine (HO1.out).mono ?_
  rintro e w2 ⟨L2, ls, lc2, rfl, hn2, hI2, hO2, f2⟩
  have HK := Lib.hid (keeps17 p (ndsOf h) T n lc2 L2 ls r w2 (HT1.out.fr f2 (fun e => e)) hI2 hO2 hn2 hn24 Hk1.out)
  have D2 := Lib.hid (D1.out.trans' f2 (fun _ _ e => e))
  rw [hTq.out] at HK
  clear hn2 hI2 hO2 f2 HO1 Hk1 HT1 D1
  go_wp2_with fail
  refine (HK.out).mono ?_
  rintro e w3 ⟨rfl, f3⟩
  go_wp2
  go_ret
  exact ⟨rfl, HFr.out _ (D2.out.trans' f3 (fun _ _ e => e))⟩
set_option maxRecDepth 100000 in
set_option maxHeartbeats 4000000 in
theorem fairW17 (x : Ctl) (h : List Ndl) (A : Option Addr) (n c : Nat) (l : List Int) (L : Option Addr) (m lc : Nat) (w : World) (hI : In16 x h A n c w) (hl : Sl w w.heap.size L (ints l)) (hm : l.length = m) (hmm : m ≤ 1048576) (r : Bool) (hr : r = true ↔ mayH x.p (ndsOf h) = true ∧ isOrd n l = true ∧ fairP x.p (ndsOf h) (plc l)) :
  Calls Tryz.prog 12 #[x.agg, .slice A n c, .slice L m lc] w (Has w r) := by
 have hz := zero_pl17
 have hlen : (ndsOf h).length = n := by rw [ndsOf_len]; exact hI.len
 have HP := Lib.hid (fun W (hW : Fr No w W) => places17 x h A n c l L m lc W (hI.since hW) (hl.since hW) hm hmm)
 have HO := Lib.hid (fun W (hW : Fr No w W) => ofH17 x h A n c W (hI.since hW))
 have Hnot := Lib.hid (fun (e : (mayH x.p (ndsOf h) && isOrd n l) = false) => show r = false by
  cases r
  ·rfl
  ·obtain ⟨h1, h2, -⟩ := hr.1 rfl
   rw [h1, h2] at e
   cases e)
 have Hmo := Lib.hid (fun (e : (mayH x.p (ndsOf h) && isOrd n l) = true) => show mayH x.p (ndsOf h) = true by
  rw [Bool.and_eq_true] at e
  exact e.1)
 have Hf := Lib.hid (fun (e : (mayH x.p (ndsOf h) && isOrd n l) = true) (p : Nat → Int) (hp : ∀ i, i < n → p i = plc l i) (bs : List Tr) (hb : BarsL x.p (ndsOf h) x.cls.length 0 0 bs) => show r = true ↔ keepP (ndsOf h) p ∧ ∀ t ∈ bs, ¬ (p t.1 < p t.2.1 ∧ p t.2.1 < p t.2.2) by
  rw [Bool.and_eq_true] at e
  have hown : ownP (ndsOf h).length p := fun i k hi hk q => by
   rw [hlen] at hi hk
   rw [hp i hi, hp k hk] at q
   exact ord_own e.2 i k hi hk q
  rw [← fair_split e.1 hb (clsOf17 e.1) hown, hr]
  exact ⟨fun q => fair_congr (fun i hi => (hp i (by omega)).symm) q.2.2, fun q => ⟨e.1, e.2, fair_congr (fun i hi => hp i (by omega)) q⟩⟩)
 have HBr := Lib.hid (fun (L2 : Option Addr) (lc2 : Nat) (ls : List IL) W (hW : Fr No w W) (hmm : mayH x.p (ndsOf h) = true) (hO : OfL (ndsOf h) ls) (hL : Ils W L2 ls) (hln : ls.length = n) => bars17 x h A n c L2 lc2 ls W (hI.since hW) hmm hO hL hln)
 have hn24 := hI.n24
 have HlenH := Lib.hid hlen
 have HBx := Lib.hid (bars_any17 x.p (ndsOf h) x.cls.length)
 clear hI
 generalize hbo : (mayH x.p (ndsOf h) && isOrd n l) = b at *
 clear hl hm hbo
 unfold Ctl.agg at HP HBr ⊢
 obtain ⟨Z, hZ⟩ : ∃ Z, Z = x.arr := ⟨_, rfl⟩
 rw [← hZ] at HP HBr ⊢
 rw [Ctl.arr_eq] at hZ
 obtain ⟨W0, hW0⟩ : ∃ W0, W0 = w.alloc (.cells Z 26) := ⟨_, rfl⟩
 have bZ : Bk W0 w.heap.size 26 Z := by rw [hW0]; exact Bk.made w _ _
 have HF0 : Hid (Fr No w W0) := Lib.hid (by rw [hW0]; exact (Fr.refl _ _).alloc _)
 have HL := Lib.hid (fun V (hV : Fr No W0 V) => show LdO V 26 ⟨w.heap.size, 0, none⟩ (.agg Z) from ld_cat hZ (bZ.fr hV (fun e => e)))
 have HFr := Lib.hid (fun W (hW : Fr No W0 W) => show Fr No w W from HF0.out.trans' hW (fun _ _ e => e))
 have HL0 := Lib.hid (HL.out W0 (Fr.refl _ _))
 have HP0 := Lib.hid (HP.out W0 HF0.out)
 have hwe := hW0.symm
 clear hZ hW0 bZ HP
 go_enter Tryz.func12, Tryz.ntmps12
 go_wp2_with (first
  | ((with_reducible refine wpl_ld ?_ ?_ HL0.out ?_); (· rfl); (· rfl); simp only [Act.put, szA, szB, szC]))
 refine (HP0.out).mono ?_
 rintro e w1 ⟨p, rfl, hp, f1⟩
 have hst : Hid (StO (w1.alloc (.cells (intsA 100 fun _ => 0) 58)) 58 ⟨w1.heap.size, 0, none⟩ (.agg (intsA 100 p)) (w1.alloc (.cells (intsA 100 p) 58))) := Lib.hid (by
  have q := st_pl17 (q := p) (Bk.made w1 58 (intsA 100 fun _ => 0))
  rwa [World.setRow_alloc_new] at q)
 obtain ⟨V1, hV1⟩ : ∃ V1, Hid (V1 = w1.alloc (.cells (intsA 100 p) 58)) := ⟨_, Lib.hid rfl⟩
 obtain ⟨T, hTq⟩ : ∃ T, Hid (T = w1.heap.size) := ⟨_, Lib.hid rfl⟩
 have HT1 : Hid (Bk V1 T 58 (intsA 100 p)) := Lib.hid (by rw [hV1.out, hTq.out]; exact Bk.made _ _ _)
 have D1 : Hid (Fr No W0 V1) := Lib.hid (by rw [hV1.out]; exact f1.alloc _)
 have Hp := Lib.hid hp
 rw [← hV1.out] at hst
 clear f1 hp HP0 HL0 hwe
 cases b
 ·have HE := Lib.hid (Hnot.out rfl)
  clear Hf Hnot HT1 Hp HO HBr Hmo
  go_wp2_with (first
   | ((with_reducible refine wpl_st ?_ ?_ ?_ hst.out ?_); (· rfl); (· rfl); (· rfl); simp only [Act.put]))
  go_ret
  exact ⟨by rw [HE.out]; rfl, HFr.out _ D1.out⟩
 ·have HO1 := Lib.hid (HO.out V1 (HFr.out V1 D1.out))
  have Hf1 := Lib.hid (fun bs hb => Hf.out rfl p (Hp.out rfl) bs hb)
  have HMy := Lib.hid (Hmo.out rfl)
  clear Hf Hnot HO Hp Hmo
  go_wp2_with (first
   | ((with_reducible refine wpl_st ?_ ?_ ?_ hst.out ?_); (· rfl); (· rfl); (· rfl); simp only [Act.put]))
  refine (HO1.out).mono ?_
  rintro e w2 ⟨L2, ls, lc2, rfl, hn2, hI2, hO2, f2⟩
  obtain ⟨r1, h1⟩ : ∃ r : Bool, r = true ↔ keepP (ndsOf h) p := by classical exact ⟨decide _, decide_eq_true_iff⟩
  have D2 := Lib.hid (D1.out.trans' f2 (fun _ _ e => e))
  have HT2 := Lib.hid (HT1.out.fr f2 (fun e => e))
  have HK := Lib.hid (keeps17 p (ndsOf h) T n lc2 L2 ls r1 w2 HT2.out hI2 hO2 hn2 hn24 h1)
  have HBr2 := Lib.hid (fun W (hW : Fr No w2 W) => HBr.out L2 lc2 ls W (HFr.out W (D2.out.trans' hW (fun _ _ e => e))) HMy.out hO2 (hI2.since hW) hn2)
  have Hr1 := Lib.hid h1
  rw [hTq.out] at HK
  clear hn2 hI2 hO2 f2 HO1 HT1 D1 HBr h1
  go_wp2_with fail
  refine (HK.out).mono ?_
  rintro e w3 ⟨rfl, f3⟩
  have D3 := Lib.hid (D2.out.trans' f3 (fun _ _ e => e))
  have HT3 := Lib.hid (HT2.out.fr f3 (fun e => e))
  have HL3 := Lib.hid (HL.out w3 D3.out)
  have HB3 := Lib.hid (HBr2.out w3 f3)
  clear f3 HK HT2 D2 HBr2 HL
  cases r1
  ·have HE : Hid (r = false) := Lib.hid (by
    obtain ⟨bs, hb⟩ : ∃ bs, BarsL x.p (ndsOf h) x.cls.length 0 0 bs := HBx.out
    cases r
    ·rfl
    ·have := Hr1.out.2 ((Hf1.out bs hb).1 rfl).1
     cases this)
   clear Hf1 HB3 HL3 HBx
   go_wp2
   go_ret
   exact ⟨by rw [HE.out]; rfl, HFr.out _ D3.out⟩
  ·go_wp2_with (first
    | ((with_reducible refine wpl_ldg ?_ ?_ HL3.out ?_); (· rfl); (· rfl); simp only [Act.put, szA, szB, szC])
    | ((with_reducible refine wpl_ld ?_ ?_ HL3.out ?_); (· rfl); (· rfl); simp only [Act.put, szA, szB, szC]))
   refine (HB3.out).mono ?_
   rintro e w4 ⟨G, gc, bs, rfl, hb, hfew, hsl, f4⟩
   have HE : Hid (r = true ↔ ∀ t ∈ bs, ¬ (p t.1 < p t.2.1 ∧ p t.2.1 < p t.2.2)) := Lib.hid (by
    rw [Hf1.out bs hb]
    exact ⟨fun q => q.2, fun q => ⟨Hr1.out.1 (by first | rfl | trivial), q⟩⟩)
   have D4 := Lib.hid (D3.out.trans' f4 (fun _ _ e => e))
   have HN := Lib.hid (none17 p T bs.length gc G bs r w4 (HT3.out.fr f4 (fun e => e)) hsl rfl (by omega) (hb.lt HlenH.out hn24) HE.out)
   rw [hTq.out] at HN
   clear hb hfew hsl f4 HE D3 HB3 HL3 Hf1 HT3 HBx
   go_wp2_with fail
   refine (HN.out).mono ?_
   rintro e w5 ⟨rfl, f5⟩
   go_wp2
   go_ret
   exact ⟨rfl, HFr.out _ (D4.out.trans' f5 (fun _ _ e => e))⟩
theorem fairC17 : FairC17 := fun x h A n c l L m lc w hI hl hm hmm r hr => fairW17 x h A n c l L m lc w hI hl hm hmm r hr
theorem findC17 : FindC17 := fun x h A n c w hI _ => by
 have hlen : (ndsOf h).length = n := by rw [ndsOf_len]; exact hI.len
 refine (findW17 x h A n c w hI).mono ?_
 rintro e w' ⟨L, lc, rfl, hs, hf⟩
 refine ⟨L, lc, ordI (ordH x.p (ndsOf h)), by rw [ordI_len], fun hg => ⟨?_, by rw [← nums_ordI]; exact hs⟩, fun hg => ?_, hf⟩
 ·have := ordH_fair hg
  rw [hlen] at this
  exact this
 ·unfold ordH
  rw [hg]
  rfl
end Go.Proofs.YtmeimhpllemjfaaGreat
