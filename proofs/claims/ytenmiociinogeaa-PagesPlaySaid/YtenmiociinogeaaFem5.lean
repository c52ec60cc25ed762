/- Tables of 1000 numbers or flags, and what the law 'PagesFew' keeps in them. -/
import Derived.Test.YtenmiociinogeaaOrm5
namespace Go.Proofs.Ytenmiociinogeaa
open Go.RowKit

/-- A table of n values, as cells. -/
def tab (n : Nat) (f : Nat → Value) : Array Value := ((List.range n).map f).toArray
theorem tab_size (n : Nat) (f : Nat → Value) : (tab n f).size = n := by simp [tab]
theorem tab_at (n : Nat) (f : Nat → Value) (i : Nat) (hi : i < n) : (tab n f)[i]? = some (f i) := by simp [tab, hi]
theorem tab_congr (n : Nat) (f g : Nat → Value) (h : ∀ i, i < n → f i = g i) : tab n f = tab n g := by
  unfold tab
  congr 1
  exact List.map_congr_left (fun i hi => h i (by simpa using hi))
theorem tab_put (n : Nat) (f : Nat → Value) (i : Nat) (u : Value) : (tab n f).setIfInBounds i u = tab n (fun k => if k = i then u else f k) := by
  refine Array.ext_getElem? fun j => ?_
  rw [Array.getElem?_setIfInBounds, tab_size]
  by_cases hj : j < n
  · rw [tab_at n _ j hj, tab_at n _ j hj]
    by_cases h : i = j
    · subst h
      rw [if_pos rfl, if_pos hj, if_pos rfl]
    · rw [if_neg h, if_neg (fun e => h e.symm)]
  · rw [Array.getElem?_eq_none (by rw [tab_size]; omega), Array.getElem?_eq_none (by rw [tab_size]; omega)]
    split
    · rw [if_neg (by omega)]
    · rfl
theorem zero_nums (w : World) : (zeroValue 56).run Try.prog w = .ok (.agg (tab 1000 fun _ => .int .i64 0)) w := by
  obtain ⟨i, hi, hz⟩ := Option.map_eq_some_iff.1 (show (Try.prog.info? 56).map (·.zero) = some (some (.agg (tab 1000 fun _ => .int .i64 0))) by kernel_rfl)
  simp [zeroValue, typeInfo, hi, hz]
theorem zero_bools (w : World) : (zeroValue 57).run Try.prog w = .ok (.agg (tab 1000 fun _ => .bool false)) w := by
  obtain ⟨i, hi, hz⟩ := Option.map_eq_some_iff.1 (show (Try.prog.info? 57).map (·.zero) = some (some (.agg (tab 1000 fun _ => .bool false))) by kernel_rfl)
  simp [zeroValue, typeInfo, hi, hz]

/-- One op that came in. -/
structure Op5 where
  kind : Nat
  k : Int
  v : Int
def Op5.cells (o : Op5) : List Value := [.int .u8 o.kind, .int .i64 o.k, .int .i64 o.v]
theorem Op5.cells_len (o : Op5) : o.cells.length = 3 := rfl
structure Op5.Fit (o : Op5) : Prop where
  kind : o.kind < 256
  k : -9223372036854775808 ≤ o.k ∧ o.k < 9223372036854775808
  v : -9223372036854775808 ≤ o.v ∧ o.v < 9223372036854775808
theorem Sl.op5 {w : World} {B : Nat} {A : Option Addr} {ops : List Op5} (h : Sl w B A (ops.flatMap Op5.cells)) {k : Nat} (hk : k < ops.length) :
    ∃ ad, A = some ad ∧ ad.block < B ∧ w.cell? (ad.add (k * 3)) = some (.int .u8 ops[k].kind) ∧ w.cell? ⟨(ad.add (k * 3)).block, (ad.add (k * 3)).off + 1, none⟩ = some (.int .i64 ops[k].k) ∧
      w.cell? ⟨(ad.add (k * 3)).block, (ad.add (k * 3)).off + 2, none⟩ = some (.int .i64 ops[k].v) := by
  obtain ⟨ad, e, hb, hc⟩ := h.row 3 Op5.cells_len hk (by omega)
  exact ⟨ad, e, hb, hc 0 _ rfl, hc 1 _ rfl, hc 2 _ rfl⟩

theorem valDel {P : List Pg} (hi : InvP P) (k j : Nat) : valP (delQ P k).flatten j = if j = k then none else valP P.flatten j := by
  unfold delQ
  cases h : valP P.flatten k with
  | none =>
    simp only [Option.isSome_none, Bool.false_eq_true, if_false]
    split
    · next e => rw [e, h]
    · rfl
  | some v =>
    have hne : P ≠ [] := by rintro rfl; simp [valP] at h
    simp only [Option.isSome_some, if_true]
    rw [(delP_both hi hne k).1, valP_out]
theorem delQ_inv {P : List Pg} (hi : InvP P) (k : Nat) : InvP (delQ P k) := by
  unfold delQ
  split
  · next h =>
    have hne : P ≠ [] := by rintro rfl; simp [valP] at h
    exact (delP_both hi hne k).2
  · exact hi
theorem valPut {P : List Pg} (hi : InvP P) (k j : Nat) (v : Int) : valP (putP P k v).flatten j = if j = k then some v else valP P.flatten j := by
  rw [putP_pairs hi, valP_ins hi.rise]

/-- What the law keeps: the store's pages, the last value of each key, which keys are there. -/
structure Few (w1 w : World) (s gl gi : Nat) (S : Nat → Prop) (P : List Pg) (f : Nat → Int) : Prop where
  inv : InvP P
  ps : PS w S s P
  lo : ∀ k, S k → w1.heap.size ≤ k
  nl : ¬ S gl
  ni : ¬ S gi
  bl : Bk w gl 56 (tab 1000 fun k => .int .i64 (f k))
  bi : Bk w gi 57 (tab 1000 fun k => .bool (valP P.flatten k).isSome)
  val : ∀ k v, valP P.flatten k = some v → f k = v
  fr : Fr No w1 w
  hl : w1.heap.size ≤ gl
  hi : w1.heap.size ≤ gi
section
variable {w1 w w' : World} {s gl gi : Nat} {S : Nat → Prop} {P : List Pg} {f : Nat → Int}
theorem Few.since (h : Few w1 w s gl gi S P f) (hf : Fr No w w') : Few w1 w' s gl gi S P f :=
  ⟨h.inv, h.ps.fr hf (fun _ _ e => e), h.lo, h.nl, h.ni, h.bl.fr hf (fun e => e), h.bi.fr hf (fun e => e), h.val, h.fr.trans' hf (fun _ _ e => e), h.hl, h.hi⟩
theorem Few.at (h : Few w1 w s gl gi S P f) {k : Nat} (hk : k < 1000) : w.cell? ⟨gl, k, none⟩ = some (.int .i64 (f k)) ∧ w.cell? ⟨gi, k, none⟩ = some (.bool (valP P.flatten k).isSome) :=
  ⟨by rw [h.bl.cell, tab_at _ _ _ hk], by rw [h.bi.cell, tab_at _ _ _ hk]⟩
/-- What is there behind a call that turned the store alone. -/
theorem Few.call {Q : List Pg} (h : Few w1 w s gl gi S P f) (hL : Left w S s Q w') :
    ∃ S', PS w' S' s Q ∧ (∀ k, S' k → w1.heap.size ≤ k) ∧ ¬ S' gl ∧ ¬ S' gi ∧ Bk w' gl 56 (tab 1000 fun k => .int .i64 (f k)) ∧ Bk w' gi 57 (tab 1000 fun k => .bool (valP P.flatten k).isSome) ∧ Fr No w1 w' := by
  obtain ⟨S', h1, h2, h3⟩ := hL
  have hsz := h.fr.size
  have q : ∀ g, g < w.heap.size → ¬ S g → ¬ S' g := fun g hg hn e => (h3 g e).elim hn (fun e => by omega)
  refine ⟨S', h1, fun k e => ?_, q gl h.bl.lt h.nl, q gi h.bi.lt h.ni, h.bl.fr h2 h.nl, h.bi.fr h2 h.ni, h.fr.trans' h2 (fun k hk e => by have := h.lo k e; omega)⟩
  rcases h3 k e with e | e
  · exact h.lo k e
  · omega
theorem Few.ne (h : Few w1 w s gl gi S P f) : gl ≠ gi := h.bl.apart h.bi (by decide)
theorem Few.del (h : Few w1 w s gl gi S P f) {k : Nat} (hL : Left w S s (delQ P k) w') :
    ∃ S', Bk w' gi 57 (tab 1000 fun k => .bool (valP P.flatten k).isSome) ∧ Fr No w1 w' ∧ Few w1 (w'.setCell ⟨gi, k, none⟩ (.bool false)) s gl gi S' (delQ P k) f := by
  have hne := h.ne
  obtain ⟨S', p1, p2, p3, p4, p5, p6, p7⟩ := h.call hL
  have f1 : Fr (fun x => x = gi) w' (w'.setCell ⟨gi, k, none⟩ (.bool false)) := (Fr.refl (fun x => x = gi) w').setCell (p := ⟨gi, k, none⟩) (.inl rfl) _
  refine ⟨S', p6, p7, delQ_inv h.inv k, p1.fr f1 (fun x e e2 => p4 (e2 ▸ e)), p2, p3, p4, p5.fr f1 hne, ?_, fun j v e => ?_, p7.setCell (.inr h.hi) _, h.hl, h.hi⟩
  · have q := p6.put k (.bool false)
    rw [tab_put] at q
    rw [tab_congr 1000 _ (fun j => if j = k then Value.bool false else .bool (valP P.flatten j).isSome) (fun j _ => by rw [valDel h.inv]; split <;> rfl)]
    exact q
  · rw [valDel h.inv] at e
    split at e
    · cases e
    · exact h.val j v e
theorem Few.put (h : Few w1 w s gl gi S P f) {k : Nat} (hk : k < 1000) {v : Int} (hL : Left w S s (putP P k v) w') :
    ∃ S', Bk w' gl 56 (tab 1000 fun k => .int .i64 (f k)) ∧ Bk (w'.setCell ⟨gl, k, none⟩ (.int .i64 v)) gi 57 (tab 1000 fun k => .bool (valP P.flatten k).isSome) ∧ Fr No w1 w' ∧
      Few w1 ((w'.setCell ⟨gl, k, none⟩ (.int .i64 v)).setCell ⟨gi, k, none⟩ (.bool true)) s gl gi S' (putP P k v) (fun j => if j = k then v else f j) := by
  have hne := h.ne
  obtain ⟨S', p1, p2, p3, p4, p5, p6, p7⟩ := h.call hL
  have f1 : Fr (fun x => x = gl) w' (w'.setCell ⟨gl, k, none⟩ (.int .i64 v)) := (Fr.refl (fun x => x = gl) w').setCell (p := ⟨gl, k, none⟩) (.inl rfl) _
  have f2 : Fr (fun x => x = gi) (w'.setCell ⟨gl, k, none⟩ (.int .i64 v)) ((w'.setCell ⟨gl, k, none⟩ (.int .i64 v)).setCell ⟨gi, k, none⟩ (.bool true)) := (Fr.refl (fun x => x = gi) _).setCell (p := ⟨gi, k, none⟩) (.inl rfl) _
  have b2 := p6.fr f1 hne.symm
  refine ⟨S', p5, b2, p7, putP_inv h.inv hk v, (p1.fr f1 (fun x e e2 => p3 (e2 ▸ e))).fr f2 (fun x e e2 => p4 (e2 ▸ e)), p2, p3, p4, ?_, ?_, fun j u e => ?_, (p7.setCell (.inr h.hl) _).setCell (.inr h.hi) _, h.hl, h.hi⟩
  · have q := (p5.put k (.int .i64 v)).fr f2 hne
    rw [tab_put] at q
    rw [tab_congr 1000 _ (fun j => if j = k then Value.int .i64 v else .int .i64 (f j)) (fun j _ => by split <;> rfl)]
    exact q
  · have q := b2.put k (.bool true)
    rw [tab_put] at q
    rw [tab_congr 1000 _ (fun j => if j = k then Value.bool true else .bool (valP P.flatten j).isSome) (fun j _ => by rw [valPut h.inv]; split <;> rfl)]
    exact q
  · rw [valPut h.inv] at e
    split at e
    · next ejk => injection e with e; simp only [ejk, if_true]; exact e
    · next ejk => simp only [ejk, if_false]; exact h.val j u e
end
/-- The pairs from page i's first key to the one ahead of the next page's: one page. -/
theorem page_len {P : List Pg} (h : InvP P) {i : Nat} (hi : i < P.length) (z : Int) (hz : z = if h2 : i + 1 < P.length then (headK P[i + 1] : Int) - 1 else 999) :
    1 ≤ (scanP P.flatten (headK P[i]) z).length ∧ (scanP P.flatten (headK P[i]) z).length ≤ 8 := by
  have hP : P = P.take i ++ P[i] :: P.drop (i + 1) := by
    rw [← List.drop_eq_getElem_cons hi, List.take_append_drop]
  have h1 : InvP (P.take i ++ P[i] :: P.drop (i + 1)) := hP ▸ h
  have h2 := h1.page
  rw [← hP] at h2
  have h3 : nextK (P.drop (i + 1)) = z := by
    rw [hz]
    split
    · next h4 => rw [List.drop_eq_getElem_cons h4]; rfl
    · next h4 => rw [List.drop_of_length_le (by omega)]; rfl
  rw [h3] at h2
  rw [h2]
  exact h.one _ (List.getElem_mem hi)
theorem some_pages {P : List Pg} (h : InvP P) : (0 < P.length) = (0 < P.flatten.length) := by
  cases P with
  | nil => simp
  | cons p r =>
    have := (h.one p (by simp)).1
    simp
    omega
theorem i64_row' {w : World} {B : Nat} {A : Option Addr} {P : List Pg} (h : Sl w B A (P.map fun q => Value.int .i64 (headK q : Int))) {i : Nat} (hi : i < P.length) : ∃ ad, A = some ad ∧ ad.block < B ∧ w.cell? (ad.add i) = some (.int .i64 (headK P[i] : Int)) := by
  obtain ⟨ad, e, hb, hc⟩ := h.at (k := i) (by simpa using hi)
  exact ⟨ad, e, hb, by simpa using hc⟩
theorem head_lt {P : List Pg} (h : InvP P) {i : Nat} (hi : i < P.length) : headK P[i] < 1000 := by
  have h1 := (h.one _ (List.getElem_mem hi)).1
  have h2 : P[i][0] ∈ P.flatten := List.mem_flatten.2 ⟨_, List.getElem_mem hi, List.getElem_mem _⟩
  have h3 := h.key _ h2
  have h4 : headK P[i] = P[i][0].1 := by
    generalize hq : P[i] = q at *
    cases q with
    | nil => simp at h1
    | cons y ys => rfl
  rw [h4]
  exact h3
end Go.Proofs.Ytenmiociinogeaa
