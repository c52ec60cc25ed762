/- Maps whose keys are ints from 0 to a bound, as plain functions: made, looked up, written, cleared, copied, gone through. No program is spoken of. -/
import Derived.Test.YtmeimhpllemjfaaGreatRef4
import Derived.Maps.RangeWalk
import Derived.Lib.SlKeysI
import Derived.Laws.IdiomCopy
namespace Go.Proofs.YtmeimhpllemjfaaGreat
open Go.RowKit

section
variable {w w' : World} {g : Nat} {t : TypeId} {cs : Array Value} {S : Nat → Prop}
def putMany (cs : Array Value) : Nat → List Value → Array Value
 | _, [] => cs
 | o, v :: r => putMany (cs.setIfInBounds o v) (o + 1) r
theorem putMany_size (vs : List Value) : ∀ (cs : Array Value) (o : Nat), (putMany cs o vs).size = cs.size := by
 induction vs with
 | nil => intro cs o; rfl
 | cons v r ih => intro cs o; rw [putMany, ih]; simp
theorem putMany_at (vs : List Value) : ∀ (cs : Array Value) (o j : Nat), o + vs.length ≤ cs.size → (putMany cs o vs)[j]? = if o ≤ j ∧ j < o + vs.length then vs[j - o]? else cs[j]? := by
 induction vs with
 | nil => intro cs o j _; rw [if_neg (by simp)]; rfl
 | cons v r ih =>
  intro cs o j h
  rw [List.length_cons] at h
  rw [putMany, ih _ _ _ (by simp; omega), List.length_cons]
  by_cases h1 : o + 1 ≤ j ∧ j < o + 1 + r.length
  ·rw [if_pos h1, if_pos (by omega)]
   obtain ⟨k, hk⟩ : ∃ k, j - o = k + 1 := ⟨j - o - 1, by omega⟩
   rw [hk, show j - (o + 1) = k by omega]
   rfl
  ·rw [if_neg h1]
   by_cases h2 : j = o
   ·subst h2
    rw [if_pos (by omega), Nat.sub_self, Array.getElem?_setIfInBounds, if_pos rfl, if_pos (by omega)]
    rfl
   ·rw [if_neg (by omega), Array.getElem?_setIfInBounds, if_neg (fun e => h2 e.symm)]
theorem Bk.putMany (vs : List Value) : ∀ {w : World} {cs : Array Value} (o : Nat), Bk w g t cs → Bk (w.setCells g o vs) g t (YtmeimhpllemjfaaGreat.putMany cs o vs) := by
 induction vs with
 | nil => intro w cs o h; exact h
 | cons v r ih => intro w cs o h; exact ih (o + 1) (h.put o v)
theorem Fr.setCells (vs : List Value) : ∀ {w : World} (o : Nat), Fr S w' w → (S g ∨ w'.heap.size ≤ g) → Fr S w' (w.setCells g o vs) := by
 induction vs with
 | nil => intro w o h _; exact h
 | cons v r ih => intro w o h hg; exact ih (o + 1) (h.setCell (p := ⟨g, o, none⟩) hg v) hg
theorem Bk.drew (h : Bk w g t cs) : Bk w.drew g t cs := h
theorem Bk.setCell_other {g' i : Nat} (h : Bk w g t cs) (hne : g ≠ g') (u : Value) : Bk (w.setCell ⟨g', i, none⟩ u) g t cs := (heap_setCell_other w _ _ _ hne).trans h
end
def heldR : Value → Option (DataW Value × List MemPlace) := fun v => some (.held v, [])
def kI (i : Nat) : Lit := .int .i64 (i : Int)
theorem kI_inj {i j : Nat} (h : kI i = kI j) : i = j := by simp only [kI, Lit.int.injEq, true_and] at h; omega
theorem kI_key (i : Nat) : WideAt.IsKeyLit (kI i) := trivial
theorem kI_wf {i : Nat} (h : i < 9223372036854775808) : (Lit.int .i64 (i : Int)).wf = true := by
 have e1 : IntKind.i64.min = -9223372036854775808 := by decide
 have e2 : IntKind.i64.max = 9223372036854775807 := by decide
 simp only [Lit.wf, e1, e2, Bool.and_eq_true, decide_eq_true_eq]
 omega
structure MD (D : DataW Value) (n : Nat) (f : Nat → Option Value) : Prop where
 has : ∀ kl, Maps.has D kl = true ↔ ∃ i, i < n ∧ (f i).isSome = true ∧ kl = kI i
 at_ : ∀ i v, i < n → f i = some v → ∀ z, D.atKey (kI i) z = .held v
theorem MD.congr {D : DataW Value} {n : Nat} {f g : Nat → Option Value} (h : MD D n f) (e : ∀ i, i < n → f i = g i) : MD D n g :=
 ⟨fun kl => (h.has kl).trans ⟨fun ⟨i, hi, hs, hk⟩ => ⟨i, hi, by rw [← e i hi]; exact hs, hk⟩, fun ⟨i, hi, hs, hk⟩ => ⟨i, hi, by rw [e i hi]; exact hs, hk⟩⟩, fun i v hi hv => h.at_ i v hi (by rw [e i hi]; exact hv)⟩
theorem MD.key {D : DataW Value} {n : Nat} {f : Nat → Option Value} (h : MD D n f) {i : Nat} (hi : i < n) : Maps.has D (kI i) = (f i).isSome := by
 cases hs : (f i).isSome with
 | true => exact (h.has _).2 ⟨i, hi, hs, rfl⟩
 | false =>
  cases hh : Maps.has D (kI i) with
  | false => rfl
  | true =>
   obtain ⟨j, hj, hs', e⟩ := (h.has _).1 hh
   rw [kI_inj e, hs'] at hs
   cases hs
theorem MD.empty (n : Nat) : MD (.map []) n (fun _ => none) :=
 ⟨fun kl => ⟨fun h => (by cases h), fun ⟨_, _, h, _⟩ => (by cases h)⟩, fun _ _ _ h => (by cases h)⟩
theorem MD.put {D : DataW Value} {n : Nat} {f : Nat → Option Value} (h : MD D n f) (hm : Maps.IsMap D) {i : Nat} (hi : i < n) (v : Value) : MD (D.put (kI i) (.held v)) n (upd f i (some v)) := by
 refine ⟨fun kl => ?_, fun j u hj hu z => ?_⟩
 ·by_cases e : kl = kI i
  ·subst e
   rw [Maps.has_put_same hm (kI_key i)]
   exact ⟨fun _ => ⟨i, hi, by rw [upd_same]; rfl, rfl⟩, fun _ => rfl⟩
  ·rw [Maps.has_put_other e, h.has kl]
   constructor
   ·rintro ⟨j, hj, hs, rfl⟩
    exact ⟨j, hj, by rw [upd_other _ _ _ _ (fun e' => e (by rw [e']))]; exact hs, rfl⟩
   ·rintro ⟨j, hj, hs, rfl⟩
    rw [upd_other _ _ _ _ (fun e' => e (by rw [e']))] at hs
    exact ⟨j, hj, hs, rfl⟩
 ·by_cases e : j = i
  ·subst e
   rw [upd_same] at hu
   injection hu with hu
   rw [Maps.atKey_put_same hm (kI_key j), hu]
  ·rw [upd_other _ _ _ _ e] at hu
   rw [Maps.atKey_put_other (fun e' => e (kI_inj e'))]
   exact h.at_ j u hj hu z

theorem below_len : ∀ (n : Nat) (l : List Nat), l.Nodup → (∀ x ∈ l, x < n) → l.length ≤ n
 | 0, l, _, h => by
  cases l with
  | nil => exact Nat.le_refl _
  | cons x r => exact absurd (h x (by simp)) (by omega)
 | n + 1, l, hd, h => by
  have hr := below_len n (l.erase n) (hd.erase n) (fun x hx => by
   have h1 := (hd.mem_erase_iff).1 hx
   have h2 := h x h1.2
   have h3 := h1.1
   omega)
  have := List.length_erase (a := n) (l := l)
  split at this <;> omega

section
variable {P : Program} {k : TypeId} {w w' : World} {m n : Nat} {f g : Nat → Option Value}
def MI (P : Program) (k : TypeId) (w : World) (m n : Nat) (f : Nat → Option Value) : Prop :=
 ∃ D, w.ownsMap P k heldR m (Maps.size D) D ∧ MD D n f
theorem own_tight {H : Type} {R : Value → Option (DataW H × List MemPlace)} {b c : Nat} {D : DataW H} (h : w.ownsMap P k R b c D) : w.ownsMap P k R b (Maps.size D) D := by
 obtain ⟨es, clock, hb, F, hs, rfl⟩ := h
 exact ⟨es, clock, hb, F, by rw [Maps.size_eq, length_read]; exact Nat.le_refl _, rfl⟩
theorem own_block {H : Type} {R : Value → Option (DataW H × List MemPlace)} {b c : Nat} {D : DataW H} (h : w.ownsMap P k R b c D) (e : w'.heap[b]? = w.heap[b]?) : w'.ownsMap P k R b c D := by
 obtain ⟨es, clock, hb, r⟩ := h
 exact ⟨es, clock, e.trans hb, r⟩
theorem MI.lt (h : MI P k w m n f) : m < w.heap.size := by
 obtain ⟨D, ho, _⟩ := h
 exact ho.lt
theorem MI.block (h : MI P k w m n f) (e : w'.heap[m]? = w.heap[m]?) : MI P k w' m n f := by
 obtain ⟨D, ho, hd⟩ := h
 exact ⟨D, own_block ho e, hd⟩
theorem MI.fr {S : Nat → Prop} (h : MI P k w m n f) (hf : Fr S w w') (hs : ¬ S m) : MI P k w' m n f := h.block (hf.block m h.lt hs)
theorem MI.alloc (h : MI P k w m n f) (o : Obj) : MI P k (w.alloc o) m n f := h.fr ((Fr.refl No w).alloc o) (fun e => e)
theorem MI.congr (h : MI P k w m n f) (e : ∀ i, i < n → f i = g i) : MI P k w m n g := by
 obtain ⟨D, ho, hd⟩ := h
 exact ⟨D, ho, hd.congr e⟩
theorem MI.apart {g' : Nat} {t' : TypeId} {cs' : Array Value} (h : MI P k w m n f) (h' : Bk w g' t' cs') : m ≠ g' := by
 rintro rfl
 obtain ⟨D, ⟨es, clock, hb, _⟩, _⟩ := h
 have := hb.symm.trans h'
 cases this
theorem MI.made (w : World) (P : Program) (k : TypeId) (n : Nat) : MI P k (w.alloc (.map #[] 0)) w.heap.size n (fun _ => none) := ⟨.map [], own_tight (World.ownsMap_made w P k heldR), MD.empty n⟩
theorem MD.size_le {D : DataW Value} {c : Nat} (hd : MD D n f) (ho : w.ownsMap P k heldR m c D) (K : Maps.Keyed P k) : Maps.size D ≤ n := by
 obtain ⟨es, rfl, hp, hk⟩ := ho.entries K
 rw [Maps.size_eq]
 have hf : ∀ p ∈ es, ∃ i, i < n ∧ p.1 = kI i := fun p hp' => by
  obtain ⟨i, hi, _, e⟩ := (hd.has p.1).1 (by rw [Maps.has_eq]; exact List.any_eq_true.2 ⟨p, hp', WideAt.sameKey_self (hk p hp')⟩)
  exact ⟨i, hi, e⟩
 have := below_len n (es.map fun p => (intOf p.1).toNat) (List.pairwise_map.2 (hp.imp_of_mem fun {p q} hp' hq' hne e => hne (by
  obtain ⟨i, _, hi⟩ := hf p hp'
  obtain ⟨j, _, hj⟩ := hf q hq'
  rw [hi, hj] at e ⊢
  simp only [kI, intOf, Int.toNat_natCast] at e
  rw [e]))) (fun x hx => by
   obtain ⟨p, hp', rfl⟩ := List.mem_map.1 hx
   obtain ⟨i, hi, e⟩ := hf p hp'
   rw [e]
   simp only [kI, intOf, Int.toNat_natCast]
   exact hi)
 simpa using this
variable {t e : TypeId} (hk : P.underlying k = some (.int .i64)) (ht : P.underlying t = some (.map k e))
include hk ht
theorem MI.store (h : MI P k w m n f) {i : Nat} (hi : i < n) (hn : n ≤ 1099511627776) (v : Value) :
  ∃ w', (Instr.mapUpdate t (.map (some m)) (.int .i64 i) v).run P w = .ok () w' ∧ MI P k w' m n (upd f i (some v)) ∧ Fr (fun x => x = m) w w' ∧ w'.heap.size = w.heap.size := by
 obtain ⟨D, ho, hd⟩ := h
 have K := Maps.int_keyed hk
 have hsz := hd.size_le ho K
 have hmx : (1099511627776 : Nat) < maxLen := by decide
 obtain ⟨w', hrun, ho', hturn⟩ := ho.store (val := v) K ht (by omega) (Maps.keyOf_int_mk hk (kI_wf (i := i) (by omega))) rfl
 refine ⟨w', hrun, ⟨_, own_tight ho', hd.put ho.isMap hi v⟩, (Fr.refl _ w).grown hturn.grown (fun j e => .inl (by cases e; rfl)), ?_⟩
 obtain ⟨es, clock, es', clock', _, rfl⟩ := hturn
 simp [ChangeMaps.setBlock]
theorem MI.look (h : MI P k w m n f) {i : Nat} (hi : i < n) (hn : n ≤ 1099511627776) {z : Value} (hz : (zeroValue e).run P w = .ok z w) :
  (Instr.lookup t (.map (some m)) (.int .i64 i) true).run P w = .ok (.tuple #[(f i).getD z, .bool (f i).isSome]) w := by
 obtain ⟨D, ho, hd⟩ := h
 obtain ⟨v, ps, hrun, hv⟩ := ho.look_ok (Maps.int_keyed hk) ht hz (zd := .held z) (zp := []) rfl (Maps.keyOf_int_mk hk (kI_wf (i := i) (by omega)))
 have hkey := hd.key hi
 have ev : v = (f i).getD z := by
  have hv' : (some (DataW.held v, []) : Option (DataW Value × List MemPlace)) = some (D.atKey (kI i) (.held z), ps) := hv
  injection hv' with hv'
  injection hv' with hv' _
  cases hfi : f i with
  | none =>
   rw [hfi] at hkey
   rw [Maps.atKey_of_not_has hkey] at hv'
   injection hv' with hv'
  | some u =>
   rw [hd.at_ i u hi hfi] at hv'
   injection hv' with hv'
 rw [hrun, ev]
 rw [show Maps.has D (.int .i64 (i : Int)) = (f i).isSome from hkey]
omit hk ht
theorem MI.keys (h : MI P k w m n f) (hk : P.underlying k = some (.int .i64)) : ∃ D c, w.ownsMap P k heldR m c D ∧ Maps.size D ≤ n ∧ ∀ ss : List Int, ss.Perm (intKeys D) → ss.mergeSort (fun x y => decide (x ≤ y)) = ((List.range n).filter fun i => (f i).isSome).map fun (i : Nat) => (i : Int) := by
 obtain ⟨D, ho, hd⟩ := h
 have K := Maps.int_keyed hk
 refine ⟨D, _, ho, hd.size_le ho K, fun ss hp => ?_⟩
 have hnd : (((List.range n).filter fun i => (f i).isSome).map fun (i : Nat) => (i : Int)).Pairwise (· < ·) := by
  refine List.pairwise_map.2 ((List.Pairwise.filter _ List.pairwise_lt_range).imp fun {a b} h => ?_)
  omega
 obtain ⟨es, rfl, hpw, hke⟩ := ho.entries K
 have h2 : (((List.range n).filter fun i => (f i).isSome).map fun (i : Nat) => (i : Int)).Perm (intKeys (.map es)) := by
  refine perm_intKeys hpw (fun p hp' => ?_) (hnd.imp fun {a b} h => by omega) (fun x => ?_)
  ·obtain ⟨i, _, _, e⟩ := (hd.has p.1).1 (by rw [Maps.has_eq]; exact List.any_eq_true.2 ⟨p, hp', WideAt.sameKey_self (hke p hp')⟩)
   exact ⟨_, e⟩
  ·rw [hd.has]
   simp only [List.mem_map, List.mem_filter, List.mem_range]
   constructor
   ·rintro ⟨i, ⟨h1, h2⟩, rfl⟩
    exact ⟨i, h1, h2, rfl⟩
   ·rintro ⟨i, h1, h2, e⟩
    simp only [kI, Lit.int.injEq, true_and] at e
    exact ⟨i, ⟨h1, h2⟩, e.symm⟩
 refine (mergeSort_of_perm_i (hp.trans h2.symm)).trans (List.mergeSort_of_pairwise (hnd.imp fun {a b} h => ?_))
 simp only [decide_eq_true_eq]
 omega
end
end Go.Proofs.YtmeimhpllemjfaaGreat
/- Rows of cells in the middle of a block; what turns but some cells of one block. -/
namespace Go.Proofs.YtmeimhpllemjfaaGreat
open Go.RowKit

theorem putMany_out (vs : List Value) : ∀ (cs : Array Value) (o j : Nat), (j < o ∨ o + vs.length ≤ j) → (putMany cs o vs)[j]? = cs[j]? := by
 induction vs with
 | nil => intro cs o j _; rfl
 | cons v r ih =>
  intro cs o j h
  rw [List.length_cons] at h
  rw [putMany, ih _ _ _ (by omega), Array.getElem?_setIfInBounds, if_neg (by omega)]

section
variable {w w' w'' : World} {g a b : Nat}
end

structure Rg (w : World) (t : TypeId) (k g o c : Nat) (xs : List Value) : Prop where
 le : xs.length ≤ c * k
 bk : ∃ cs, Bk w g t cs ∧ o + c * k ≤ cs.size ∧ ∀ j u, xs[j]? = some u → cs[o + j]? = some u
section
variable {w w' : World} {t : TypeId} {k g o c a b : Nat} {xs : List Value} {S : Nat → Prop}
theorem Rg.lt (h : Rg w t k g o c xs) : g < w.heap.size := by
 obtain ⟨_, cs, hb, _⟩ := h
 exact hb.lt
theorem Rg.cell (h : Rg w t k g o c xs) {j : Nat} {u : Value} (hu : xs[j]? = some u) : w.cell? ⟨g, o + j, none⟩ = some u := by
 obtain ⟨_, cs, hb, _, hc⟩ := h
 exact (hb.cell _).trans (hc j u hu)
theorem Rg.there (h : Rg w t k g o c xs) {j : Nat} (hj : j < c * k) : (w.cell? ⟨g, o + j, none⟩).isSome = true := by
 obtain ⟨_, cs, hb, hs, _⟩ := h
 rw [hb.cell, Array.getElem?_eq_getElem (by omega)]
 rfl
theorem Rg.froz (h : Rg w t k g o c xs) (j : Nat) : w.frozen? ⟨g, j, none⟩ = false := by
 obtain ⟨_, cs, hb, _⟩ := h
 exact hb.frozen j
theorem Rg.sl (h : Rg w t k g o c xs) : Sl w w.heap.size (some ⟨g, o, none⟩) xs := fun _ => ⟨_, rfl, h.lt, fun j u hu => by
 have e : (⟨g, o, none⟩ : Addr).add j = ⟨g, o + j, none⟩ := by cases j <;> simp [Addr.add]
 rw [e]
 exact h.cell hu⟩
theorem Rg.put (h : Rg w t k g o c xs) (i : Nat) (vs ys : List Value) (hv : i + vs.length ≤ c * k) (hl : ys.length ≤ c * k)
  (hy : ∀ j u, ys[j]? = some u → (i ≤ j ∧ vs[j - i]? = some u) ∨ ((j < i ∨ i + vs.length ≤ j) ∧ xs[j]? = some u)) : Rg (w.setCells g (o + i) vs) t k g o c ys := by
 obtain ⟨_, cs, hb, hs, hc⟩ := h
 refine ⟨hl, _, hb.putMany vs (o + i), by rw [putMany_size]; exact hs, fun j u hu => ?_⟩
 rcases hy j u hu with ⟨h1, h2⟩ | ⟨h1, h2⟩
 ·have h3 := (List.getElem?_eq_some_iff.1 h2).1
  rw [putMany_at vs cs (o + i) (o + j) (by omega), if_pos (by omega), show o + j - (o + i) = j - i by omega]
  exact h2
 ·rw [putMany_out vs cs (o + i) (o + j) (by omega)]
  exact hc j u h2
theorem Rg.ofOwn {base n : Nat} {A : Option Addr} (h : w.ownsRow base t k (.slice A n c) n xs) (hn : 0 < n) : ∃ g, A = some ⟨g, 0, none⟩ ∧ base ≤ g ∧ n ≤ c ∧ c ≤ maxLen ∧ Rg w t k g 0 c xs := by
 have h1 := h.1
 rcases h.2 with ⟨_, h0⟩ | ⟨g, cap, cur, hv, hb, hg, h2, h3, h4, h5⟩
 ·omega
 ·injection hv with e1 e2 e3
  subst e1 e3
  refine ⟨g, rfl, hb, h2, h3, ?_, cur, hg, by omega, fun j u hu => ?_⟩
  ·rw [h1]; exact Nat.mul_le_mul_right k h2
  ·have hj := (List.getElem?_eq_some_iff.1 hu).1
   rw [← h5, List.getElem?_take, if_pos (by omega)] at hu
   rw [Nat.zero_add]
   simpa using hu
end

end Go.Proofs.YtmeimhpllemjfaaGreat
