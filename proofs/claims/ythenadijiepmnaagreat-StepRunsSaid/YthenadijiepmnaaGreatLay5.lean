/- Rows of cells in the middle of a block, and pages and lists of pages of package pages in memory. -/
import Derived.Test.YthenadijiepmnaaGreatRgt5
import Derived.Laws.IdiomCopy
namespace Go.Proofs.YthenadijiepmnaaGreat
open Go.RowKit

theorem putMany_out (vs : List Value) : ∀ (cs : Array Value) (o j : Nat), (j < o ∨ o + vs.length ≤ j) → (putMany cs o vs)[j]? = cs[j]? := by
  induction vs with
  | nil => intro cs o j _; rfl
  | cons v r ih =>
    intro cs o j h
    rw [List.length_cons] at h
    rw [putMany, ih _ _ _ (by omega), Array.getElem?_setIfInBounds, if_neg (by omega)]

/-- From w to w' nothing has turned but the cells from a on, to b, of block g, and what is new. -/
structure Fc (g a b : Nat) (w w' : World) : Prop where
  fr : Fr (fun k => k = g) w w'
  mid : ∀ t cs, Bk w g t cs → ∃ cs', Bk w' g t cs' ∧ cs'.size = cs.size ∧ ∀ k, k < a ∨ b ≤ k → cs'[k]? = cs[k]?
section
variable {w w' w'' : World} {g a b : Nat}
theorem Fc.refl (g a b : Nat) (w : World) : Fc g a b w w := ⟨Fr.refl _ _, fun _ cs h => ⟨cs, h, rfl, fun _ _ => rfl⟩⟩
theorem Fc.of0 (g a b : Nat) (h : Fr No w w') : Fc g a b w w' := ⟨h.weak (fun _ _ e => e.elim), fun _ cs hb => ⟨cs, hb.fr h (fun e => e), rfl, fun _ _ => rfl⟩⟩
theorem Fc.trans (h : Fc g a b w w') (k : Fc g a b w' w'') : Fc g a b w w'' := by
  refine ⟨h.fr.trans' k.fr (fun _ _ e => e), fun t cs hb => ?_⟩
  obtain ⟨c1, b1, s1, e1⟩ := h.mid t cs hb
  obtain ⟨c2, b2, s2, e2⟩ := k.mid t c1 b1
  exact ⟨c2, b2, s2.trans s1, fun k hk => (e2 k hk).trans (e1 k hk)⟩
theorem Fc.size (h : Fc g a b w w') : w.heap.size ≤ w'.heap.size := h.fr.size
theorem Fc.drew (h : Fc g a b w w') : Fc g a b w w'.drew := ⟨h.fr.drew, h.mid⟩
theorem Fc.cells (h : Fc g a b w w') {o : Nat} (vs : List Value) (ha : a ≤ o) (hb : o + vs.length ≤ b) : Fc g a b w (w'.setCells g o vs) := by
  refine ⟨h.fr.setCells vs o (.inl rfl), fun t cs hbk => ?_⟩
  obtain ⟨c1, b1, s1, e1⟩ := h.mid t cs hbk
  exact ⟨_, b1.putMany vs o, (putMany_size vs c1 o).trans s1, fun k hk => (putMany_out vs c1 o k (by omega)).trans (e1 k hk)⟩
theorem Fc.cell (h : Fc g a b w w') {o : Nat} (v : Value) (ha : a ≤ o) (hb : o < b) : Fc g a b w (w'.setCell ⟨g, o, none⟩ v) := h.cells [v] ha hb
theorem Fc.more (h : Fc g a b w w') {a' b' : Nat} (ha : a' ≤ a) (hb : b ≤ b') : Fc g a' b' w w' := ⟨h.fr, fun t cs hbk => by
  obtain ⟨c1, b1, s1, e1⟩ := h.mid t cs hbk
  exact ⟨c1, b1, s1, fun k hk => e1 k (by omega)⟩⟩
/-- A write into a block that is new, or into g where it may be. -/
theorem Fc.fresh (h : Fr (fun k => w.heap.size ≤ k) w w') : Fc g a b w w' := Fc.of0 g a b (h.weak (S' := No) (fun i hi e => by omega))
end

/-- From cell o of block g on there is room for c elements of k cells, the first of which hold xs. -/
structure Rg (w : World) (t : TypeId) (k g o c : Nat) (xs : List Value) : Prop where
  le : xs.length ≤ c * k
  bk : ∃ cs, Bk w g t cs ∧ o + c * k ≤ cs.size ∧ ∀ j u, xs[j]? = some u → cs[o + j]? = some u
section
variable {w w' : World} {t : TypeId} {k g o c a b : Nat} {xs : List Value} {S : Nat → Prop}
theorem Rg.lt (h : Rg w t k g o c xs) : g < w.heap.size := by
  obtain ⟨_, cs, hb, _⟩ := h
  exact hb.lt
theorem Rg.cell (h : Rg w t k g o c xs) {j : Nat} {u : Value} (hu : xs[j]? = some u) : w.cell? ⟨g, o + j, none⟩ = some u := by
  obtain ⟨_, cs, hb, _, hc⟩ := h
  exact (hb.cell _).trans (hc j u hu)
theorem Rg.cell0 (h : Rg w t k g o c xs) {u : Value} (hu : xs[0]? = some u) : w.cell? ⟨g, o, none⟩ = some u := h.cell (j := 0) hu
theorem Rg.there (h : Rg w t k g o c xs) {j : Nat} (hj : j < c * k) : (w.cell? ⟨g, o + j, none⟩).isSome = true := by
  obtain ⟨_, cs, hb, hs, _⟩ := h
  rw [hb.cell, Array.getElem?_eq_getElem (by omega)]
  rfl
theorem Rg.froz (h : Rg w t k g o c xs) (j : Nat) : w.frozen? ⟨g, j, none⟩ = false := by
  obtain ⟨_, cs, hb, _⟩ := h
  exact hb.frozen j
theorem Rg.sl (h : Rg w t k g o c xs) : Sl w w.heap.size (some ⟨g, o, none⟩) xs := fun _ => ⟨_, rfl, h.lt, fun j u hu => by
  have e : (⟨g, o, none⟩ : Addr).add j = ⟨g, o + j, none⟩ := by cases j <;> simp [Addr.add]
  rw [e]
  exact h.cell hu⟩
theorem Rg.fr (h : Rg w t k g o c xs) (hf : Fr S w w') (hg : ¬ S g) : Rg w' t k g o c xs := by
  obtain ⟨hl, cs, hb, hs, hc⟩ := h
  exact ⟨hl, cs, hb.fr hf hg, hs, hc⟩
theorem Rg.drew (h : Rg w t k g o c xs) : Rg w.drew t k g o c xs := ⟨h.le, h.bk⟩
theorem Rg.fc {g' : Nat} (h : Rg w t k g o c xs) (hf : Fc g' a b w w') (hap : g ≠ g' ∨ o + c * k ≤ a ∨ b ≤ o) : Rg w' t k g o c xs := by
  by_cases hg : g = g'
  · subst hg
    obtain ⟨hl, cs, hb, hs, hc⟩ := h
    obtain ⟨c1, b1, s1, e1⟩ := hf.mid t cs hb
    refine ⟨hl, c1, b1, by omega, fun j u hu => ?_⟩
    have hj := (List.getElem?_eq_some_iff.1 hu).1
    rw [e1 (o + j) (by omega)]
    exact hc j u hu
  · exact h.fr hf.fr hg
/-- What stands there once some cells have been written. -/
theorem Rg.put (h : Rg w t k g o c xs) (i : Nat) (vs ys : List Value) (hv : i + vs.length ≤ c * k) (hl : ys.length ≤ c * k)
    (hy : ∀ j u, ys[j]? = some u → (i ≤ j ∧ vs[j - i]? = some u) ∨ ((j < i ∨ i + vs.length ≤ j) ∧ xs[j]? = some u)) : Rg (w.setCells g (o + i) vs) t k g o c ys := by
  obtain ⟨_, cs, hb, hs, hc⟩ := h
  refine ⟨hl, _, hb.putMany vs (o + i), by rw [putMany_size]; exact hs, fun j u hu => ?_⟩
  rcases hy j u hu with ⟨h1, h2⟩ | ⟨h1, h2⟩
  · have h3 := (List.getElem?_eq_some_iff.1 h2).1
    rw [putMany_at vs cs (o + i) (o + j) (by omega), if_pos (by omega), show o + j - (o + i) = j - i by omega]
    exact h2
  · rw [putMany_out vs cs (o + i) (o + j) (by omega)]
    exact hc j u h2
theorem Rg.put1 (h : Rg w t k g o c xs) (i : Nat) (v : Value) (hi : i < xs.length) : Rg (w.setCell ⟨g, o + i, none⟩ v) t k g o c (xs.set i v) := by
  have hle := h.le
  refine h.put i [v] (xs.set i v) (by simp; omega) (by simpa using hle) (fun j u hu => ?_)
  rw [List.getElem?_set] at hu
  by_cases e : i = j
  · subst e
    rw [if_pos rfl, if_pos hi] at hu
    exact .inl ⟨Nat.le_refl _, by simpa using hu⟩
  · rw [if_neg e] at hu
    exact .inr ⟨by simp; omega, hu⟩
/-- Less of the same. -/
theorem Rg.part (h : Rg w t k g o c xs) (i c' : Nat) (ys : List Value) (hc : i + c' ≤ c) (hl : ys.length ≤ c' * k) (hy : ∀ j u, ys[j]? = some u → xs[i * k + j]? = some u) : Rg w t k g (o + i * k) c' ys := by
  obtain ⟨_, cs, hb, hs, hcc⟩ := h
  have h1 : i * k + c' * k ≤ c * k := by rw [← Nat.add_mul]; exact Nat.mul_le_mul_right k hc
  exact ⟨hl, cs, hb, by omega, fun j u hu => by rw [Nat.add_assoc]; exact hcc _ u (hy j u hu)⟩
theorem Rg.ofOwn {base n : Nat} {A : Option Addr} (h : w.ownsRow base t k (.slice A n c) n xs) (hn : 0 < n) : ∃ g, A = some ⟨g, 0, none⟩ ∧ base ≤ g ∧ n ≤ c ∧ c ≤ maxLen ∧ Rg w t k g 0 c xs := by
  have h1 := h.1
  rcases h.2 with ⟨_, h0⟩ | ⟨g, cap, cur, hv, hb, hg, h2, h3, h4, h5⟩
  · omega
  · injection hv with e1 e2 e3
    subst e1 e3
    refine ⟨g, rfl, hb, h2, h3, ?_, cur, hg, by omega, fun j u hu => ?_⟩
    · rw [h1]; exact Nat.mul_le_mul_right k h2
    · have hj := (List.getElem?_eq_some_iff.1 hu).1
      rw [← h5, List.getElem?_take, if_pos (by omega)] at hu
      rw [Nat.zero_add]
      simpa using hu
theorem Rg.apart {t' : TypeId} {k' g' o' c' : Nat} {ys : List Value} (h : Rg w t k g o c xs) (h' : Rg w t' k' g' o' c' ys) (hne : t ≠ t') : g ≠ g' := by
  obtain ⟨_, cs, hb, _⟩ := h
  obtain ⟨_, cs', hb', _⟩ := h'
  exact hb.apart hb' hne
theorem Rg.apartB {t' : TypeId} {g' : Nat} {cs : Array Value} (h : Rg w t k g o c xs) (h' : Bk w g' t' cs) (hne : t ≠ t') : g ≠ g' := by
  obtain ⟨_, cs, hb, _⟩ := h
  exact hb.apart h' hne
theorem Rg.shape (h : Rg w t k g o c xs) (hc : 0 < c * k) : ∃ m, w.shape? g = some (t, m) ∧ m ≠ 0 := by
  obtain ⟨_, cs, hb, hs, _⟩ := h
  exact ⟨cs.size, by unfold World.shape?; rw [show w.heap[g]? = _ from hb], by omega⟩
end

/-- A page in memory: its block, its first cell, how many pairs it has, and for how many there is room. -/
structure Pgh where
  g : Nat
  o : Nat
  n : Nat
  c : Nat
def Pgh.val (h : Pgh) : Value := .slice (some ⟨h.g, h.o, none⟩) h.n h.c
structure PgA (w : World) (h : Pgh) (l : Pg) : Prop where
  len : h.n = l.length
  le : h.n ≤ h.c
  max : h.c ≤ maxLen
  rg : Rg w 54 2 h.g h.o h.c (prs l)
/-- Two pages share no cell. -/
def Apt (x y : Pgh) : Prop := x.g ≠ y.g ∨ x.o + x.c * 2 ≤ y.o ∨ y.o + y.c * 2 ≤ x.o
theorem Apt.symm {x y : Pgh} (h : Apt x y) : Apt y x := by
  unfold Apt at h ⊢
  omega
/-- What lay in S, and what has come since. -/
def Sx (S : Nat → Prop) (w w' : World) : Nat → Prop := fun k => S k ∨ (w.heap.size ≤ k ∧ k < w'.heap.size)
/-- A list of pages (some) in memory, in the blocks S. -/
structure LsN (w : World) (S : Nat → Prop) (q o c : Nat) (hs : List Pgh) (P : List Pg) : Prop where
  len : hs.length = P.length
  le : hs.length ≤ c
  max : c ≤ maxLen
  hd : Rg w 105 1 q o c (hs.map Pgh.val)
  pg : ∀ i (h1 : i < hs.length) (h2 : i < P.length), PgA w hs[i] P[i]
  ap : hs.Pairwise Apt
  sq : S q
  sg : ∀ h ∈ hs, S h.g
  lt : ∀ k, S k → k < w.heap.size
section
variable {w w' w'' : World} {S S' T : Nat → Prop} {q o c : Nat} {hs : List Pgh} {P : List Pg}
theorem PgA.fr {h : Pgh} {l : Pg} (p : PgA w h l) (hf : Fr T w w') (hg : ¬ T h.g) : PgA w' h l := ⟨p.len, p.le, p.max, p.rg.fr hf hg⟩
theorem PgA.fc {h : Pgh} {l : Pg} {g a b : Nat} (p : PgA w h l) (hf : Fc g a b w w') (hg : h.g ≠ g ∨ h.o + h.c * 2 ≤ a ∨ b ≤ h.o) : PgA w' h l := ⟨p.len, p.le, p.max, p.rg.fc hf hg⟩
theorem LsN.fr (h : LsN w S q o c hs P) (hf : Fr T w w') (hs' : ∀ k, S k → ¬ T k) : LsN w' S q o c hs P :=
  ⟨h.len, h.le, h.max, h.hd.fr hf (hs' q h.sq), fun i h1 h2 => (h.pg i h1 h2).fr hf (hs' _ (h.sg _ (List.getElem_mem h1))), h.ap, h.sq, h.sg, fun k hk => Nat.lt_of_lt_of_le (h.lt k hk) hf.size⟩
theorem LsN.mono (h : LsN w S q o c hs P) (h1 : ∀ k, S k → S' k) (h2 : ∀ k, S' k → k < w.heap.size) : LsN w S' q o c hs P :=
  ⟨h.len, h.le, h.max, h.hd, h.pg, h.ap, h1 q h.sq, fun x hx => h1 _ (h.sg x hx), h2⟩
theorem LsN.hdr (h : LsN w S q o c hs P) {i : Nat} (hi : i < hs.length) : w.cell? ⟨q, o + i, none⟩ = some hs[i].val := h.hd.cell (by simp [hi])
theorem Sx.lt (h : ∀ k, S k → k < w.heap.size) (hf : w.heap.size ≤ w'.heap.size) : ∀ k, Sx S w w' k → k < w'.heap.size := fun k hk => by
  rcases hk with hk | hk
  · have := h k hk; omega
  · exact hk.2
theorem Sx.trans (h1 : w.heap.size ≤ w'.heap.size) (h2 : w'.heap.size ≤ w''.heap.size) : ∀ k, Sx (Sx S w w') w' w'' k → Sx S w w'' k := fun k hk => by
  rcases hk with (hk | hk) | hk
  · exact .inl hk
  · exact .inr ⟨hk.1, by omega⟩
  · exact .inr ⟨by omega, hk.2⟩
theorem Fr.sx (h : Fr S w w') (k : Fr (Sx S w w') w' w'') : Fr S w w'' := h.trans' k (fun i hi e => e.elim id (fun e => by omega))
/-- One page in the place of another one. -/
theorem LsN.set (h : LsN w S q o c hs P) {i : Nat} (hi : i < hs.length) {x : Pgh} {l : Pg} (hf : Fc hs[i].g hs[i].o (hs[i].o + hs[i].c * 2) w w') (hp : PgA w' x l)
    (hx : (x.g = hs[i].g ∧ hs[i].o ≤ x.o ∧ x.o + x.c * 2 ≤ hs[i].o + hs[i].c * 2) ∨ w.heap.size ≤ x.g) :
    LsN (w'.setCell ⟨q, o + i, none⟩ x.val) (Sx S w (w'.setCell ⟨q, o + i, none⟩ x.val)) q o c (hs.set i x) (P.set i l) ∧ Fr S w (w'.setCell ⟨q, o + i, none⟩ x.val) := by
  have hiP : i < P.length := by rw [← h.len]; exact hi
  have hpi := h.pg i hi hiP
  have hqi : q ≠ hs[i].g := h.hd.apart hpi.rg (by decide)
  have hqlt := h.lt q h.sq
  have hgS := h.sg _ (List.getElem_mem hi)
  have hq' : Rg w' 105 1 q o c (hs.map Pgh.val) := h.hd.fc hf (.inl hqi)
  have hqx : q ≠ x.g := hq'.apart hp.rg (by decide)
  have hfw : Fr S w w' := hf.fr.weak (fun k _ e => e ▸ hgS)
  have hset : Fr (fun k => k = q) w' (w'.setCell ⟨q, o + i, none⟩ x.val) := (Fr.refl (fun k => k = q) w').setCell (p := ⟨q, o + i, none⟩) (.inl rfl) _
  have hsz : w'.heap.size ≤ (w'.setCell ⟨q, o + i, none⟩ x.val).heap.size := hset.size
  have hfr : Fr S w (w'.setCell ⟨q, o + i, none⟩ x.val) := hfw.setCell (.inl h.sq) _
  have hapi : ∀ j (hj : j < hs.length), j ≠ i → Apt hs[j] hs[i] := fun j hj hne => by
    have hP := List.pairwise_iff_getElem.1 h.ap
    rcases Nat.lt_or_gt_of_ne hne with h1 | h1
    · exact hP j i hj hi h1
    · exact (hP i j hi hj h1).symm
  have hapx : ∀ j (hj : j < hs.length), j ≠ i → Apt hs[j] x := fun j hj hne => by
    have h1 := hapi j hj hne
    have h2 := h.lt _ (h.sg _ (List.getElem_mem hj))
    unfold Apt at h1 ⊢
    omega
  refine ⟨⟨by simp [h.len], by simpa using h.le, h.max, ?_, fun j h1 h2 => ?_, ?_, .inl h.sq, fun y hy => ?_, Sx.lt h.lt (Nat.le_trans hf.size hsz)⟩, hfr⟩
  · rw [List.map_set]
    exact hq'.put1 i x.val (by simpa using hi)
  · by_cases e : j = i
    · subst e
      simp only [List.getElem_set_self]
      exact hp.fr hset (fun e => hqx e.symm)
    · simp only [List.getElem_set_ne (Ne.symm e)]
      rw [List.length_set] at h1 h2
      have h3 := hapi j h1 e
      have hpj := h.pg j h1 h2
      exact (hpj.fc hf h3).fr hset (fun e => h.hd.apart hpj.rg (by decide) e.symm)
  · refine List.pairwise_iff_getElem.2 fun j1 j2 h1 h2 hlt => ?_
    have h1' : j1 < hs.length := by simpa using h1
    have h2' : j2 < hs.length := by simpa using h2
    have hP := List.pairwise_iff_getElem.1 h.ap
    by_cases e1 : j1 = i
    · subst e1
      rw [List.getElem_set_self, List.getElem_set_ne (by omega)]
      exact (hapx j2 h2' (by omega)).symm
    · rw [List.getElem_set_ne (Ne.symm e1)]
      by_cases e2 : j2 = i
      · subst e2
        rw [List.getElem_set_self]
        exact hapx j1 h1' e1
      · rw [List.getElem_set_ne (Ne.symm e2)]
        exact hP j1 j2 h1' h2' hlt
  · rcases List.mem_or_eq_of_mem_set hy with hy | hy
    · exact .inl (h.sg y hy)
    · subst hy
      rcases hx with hx | hx
      · rw [hx.1]; exact .inl hgS
      · exact .inr ⟨hx, Nat.lt_of_lt_of_le hp.rg.lt hsz⟩
end
end Go.Proofs.YthenadijiepmnaaGreat
