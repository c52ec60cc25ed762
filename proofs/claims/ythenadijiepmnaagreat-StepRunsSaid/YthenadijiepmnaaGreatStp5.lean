/- Lists of pages in memory: a page more, a page less. -/
import Derived.Test.YthenadijiepmnaaGreatIns5
import Derived.Test.YthenadijiepmnaaGreatHom5
namespace Go.Proofs.YthenadijiepmnaaGreat
open Go.RowKit

/-- A list with one element less. -/
def outL {α : Type} (xs : List α) (i : Nat) : List α := xs.take i ++ xs.drop (i + 1)
theorem outL_len {α : Type} (xs : List α) (i : Nat) (hi : i < xs.length) : (outL xs i).length = xs.length - 1 := by
  unfold outL
  simp only [List.length_append, List.length_take, List.length_drop]
  omega
theorem outL_at {α : Type} {xs : List α} {i j : Nat} {u : α} (hi : i < xs.length) (h : (outL xs i)[j]? = some u) : (j < i ∧ xs[j]? = some u) ∨ (i ≤ j ∧ xs[j + 1]? = some u) := by
  unfold outL at h
  have hl : (xs.take i).length = i := by rw [List.length_take]; omega
  by_cases h1 : j < i
  · rw [List.getElem?_append_left (by omega), List.getElem?_take, if_pos h1] at h
    exact .inl ⟨h1, h⟩
  · rw [List.getElem?_append_right (by omega), hl, List.getElem?_drop, show i + 1 + (j - i) = j + 1 by omega] at h
    exact .inr ⟨by omega, h⟩
theorem outL_sub {α : Type} (xs : List α) (i : Nat) : (outL xs i).Sublist xs := by
  unfold outL
  rw [← List.eraseIdx_eq_take_drop_succ]
  exact List.eraseIdx_sublist xs i
theorem outL_map {α β : Type} (f : α → β) (xs : List α) (i : Nat) : (outL xs i).map f = outL (xs.map f) i := by simp [outL]
theorem insL_map {α β : Type} (f : α → β) (xs us : List α) (i : Nat) : (insL xs us i).map f = insL (xs.map f) (us.map f) i := by simp [insL]

section
variable {w w' : World} {S : Nat → Prop} {q o c : Nat} {hs : List Pgh} {P : List Pg}
theorem LsN.at (h : LsN w S q o c hs P) {i : Nat} {x : Pgh} {l : Pg} (hx : hs[i]? = some x) (hl : P[i]? = some l) : PgA w x l := by
  obtain ⟨h1, rfl⟩ := List.getElem?_eq_some_iff.1 hx
  obtain ⟨h2, rfl⟩ := List.getElem?_eq_some_iff.1 hl
  exact h.pg i h1 h2
/-- One page more. -/
theorem LsN.ins (h : LsN w S q o c hs P) {i q' o' c' : Nat} {x : Pgh} {l : Pg} (hi : i ≤ hs.length) (hp : PgA w x l) (hap : ∀ y ∈ hs, Apt y x) (hxS : S x.g)
    (hc : hs.length + 1 ≤ c') (hcm : c' ≤ maxLen) (hr : Rg w' 105 1 q' o' c' (insL (hs.map Pgh.val) [x.val] i)) (hf : Fc q o (o + c) w w') (hq : (q' = q ∧ o' = o ∧ c' = c) ∨ w.heap.size ≤ q') :
    LsN w' (Sx S w w') q' o' c' (insL hs [x] i) (insL P [l] i) ∧ Fr S w w' := by
  have hfr : Fr S w w' := hf.fr.weak (fun k _ e => e ▸ h.sq)
  have hgq : ∀ y (m : Pg), PgA w y m → y.g ≠ q := fun y m p => fun e => h.hd.apart p.rg (by decide) e.symm
  have hmem : ∀ y ∈ insL hs [x] i, y ∈ hs ∨ y = x := fun y hy => by
    unfold insL at hy
    rcases List.mem_append.1 hy with hy | hy
    · rcases List.mem_append.1 hy with hy | hy
      · exact .inl (List.mem_of_mem_take hy)
      · exact .inr (List.mem_singleton.1 hy)
    · exact .inl (List.mem_of_mem_drop hy)
  refine ⟨⟨by rw [insL_len, insL_len, h.len]; rfl, by rw [insL_len]; exact hc, hcm, by rw [insL_map]; exact hr, fun j h1 h2 => ?_, ?_, ?_, fun y hy => ?_, Sx.lt h.lt hf.size⟩, hfr⟩
  · have a1 := List.getElem?_eq_getElem h1
    have a2 := List.getElem?_eq_getElem h2
    generalize (insL hs [x] i)[j] = y at *
    generalize (insL P [l] i)[j] = m at *
    have hP : i ≤ P.length := by rw [← h.len]; exact hi
    have key : PgA w y m := by
      rcases insL_at hi a1 with ⟨b1, b2⟩ | ⟨b1, b2, b3⟩ | ⟨b1, b2⟩ <;> rcases insL_at hP a2 with ⟨d1, d2⟩ | ⟨d1, d2, d3⟩ | ⟨d1, d2⟩ <;> (try simp only [List.length_cons, List.length_nil] at *) <;>
        first | omega | exact h.at b2 d2 | skip
      rw [show j - i = 0 by omega] at b3 d3
      simp at b3 d3
      subst b3 d3
      exact hp
    exact key.fc hf (.inl (hgq y m key))
  · unfold insL
    rw [List.pairwise_append, List.pairwise_append]
    have hsub := List.pairwise_append.1 (by rw [List.take_append_drop]; exact h.ap : (hs.take i ++ hs.drop i).Pairwise Apt)
    refine ⟨⟨hsub.1, List.pairwise_singleton _ _, fun a ha b hb => ?_⟩, hsub.2.1, fun a ha b hb => ?_⟩
    · rw [List.mem_singleton.1 hb]
      exact hap a (List.mem_of_mem_take ha)
    · rcases List.mem_append.1 ha with ha | ha
      · exact hsub.2.2 a ha b hb
      · rw [List.mem_singleton.1 ha]
        exact (hap b (List.mem_of_mem_drop hb)).symm
  · rcases hq with hq | hq
    · exact .inl (hq.1 ▸ h.sq)
    · exact .inr ⟨hq, hr.lt⟩
  · rcases hmem y hy with hy | hy
    · exact .inl (h.sg y hy)
    · exact .inl (hy ▸ hxS)
/-- One page less. -/
theorem LsN.out (h : LsN w S q o c hs P) {i : Nat} (hi : i < hs.length) (hr : Rg w' 105 1 q o c (outL (hs.map Pgh.val) i)) (hf : Fc q o (o + hs.length) w w') :
    LsN w' (Sx S w w') q o c (outL hs i) (outL P i) ∧ Fr S w w' := by
  have hfr : Fr S w w' := hf.fr.weak (fun k _ e => e ▸ h.sq)
  have hP : i < P.length := by rw [← h.len]; exact hi
  have hle := h.le
  refine ⟨⟨by rw [outL_len _ _ hi, outL_len _ _ hP, h.len], by rw [outL_len _ _ hi]; omega, h.max, by rw [outL_map]; exact hr, fun j h1 h2 => ?_, h.ap.sublist (outL_sub _ _), .inl h.sq, fun y hy => .inl (h.sg y ((outL_sub _ _).subset hy)), Sx.lt h.lt hf.size⟩, hfr⟩
  have a1 := List.getElem?_eq_getElem h1
  have a2 := List.getElem?_eq_getElem h2
  generalize (outL hs i)[j] = y at *
  generalize (outL P i)[j] = m at *
  have key : PgA w y m := by
    rcases outL_at hi a1 with ⟨b1, b2⟩ | ⟨b1, b2⟩ <;> rcases outL_at hP a2 with ⟨d1, d2⟩ | ⟨d1, d2⟩ <;> first | omega | exact h.at b2 d2
  exact key.fc hf (.inl (fun e => h.hd.apart key.rg (by decide) e.symm))
end
end Go.Proofs.YthenadijiepmnaaGreat
/- Package pages: a pair comes into a page, and a page is split. -/
namespace Go.Proofs.YthenadijiepmnaaGreat
open Go.RowKit

section
variable {w w' : World} {S : Nat → Prop} {q o c : Nat} {hs : List Pgh} {P : List Pg}
theorem LsN.lenP (h : LsN w S q o c hs P) {i : Nat} (hi : i < hs.length) : i < P.length := by rw [← h.len]; exact hi
/-- A list in the place of another one: what a call leaves. -/
def LLeft (w : World) (S : Nat → Prop) (P' : List Pg) (e : Ending) (w' : World) : Prop :=
  ∃ q' o' c' hs', e = .returned (.slice (some ⟨q', o', none⟩) hs'.length c') ∧ LsN w' (Sx S w w') q' o' c' hs' P' ∧ Fr S w w'
theorem LLeft.sx {w1 w2 : World} {P' : List Pg} {e : Ending} (hlt : ∀ k, S k → k < w.heap.size) (hf : Fr S w w1) (h : LLeft w1 (Sx S w w1) P' e w2) : LLeft w S P' e w2 := by
  obtain ⟨q', o', c', hs', rfl, h1, h2⟩ := h
  have h3 := hf.sx h2
  exact ⟨q', o', c', hs', rfl, h1.mono (Sx.trans hf.size h2.size) (Sx.lt hlt h3.size), h3⟩
theorem set_ins {α : Type} (l : List α) (i : Nat) (x y : α) (hi : i < l.length) : insL (l.set i x) [y] (i + 1) = l.take i ++ [x, y] ++ l.drop (i + 1) := by
  unfold insL
  rw [← set_as l i x hi, List.take_append_of_le_length (by simp; omega), List.drop_append_of_le_length (by simp; omega), List.take_of_length_le (by simp; omega), List.drop_eq_nil_of_le (by simp; omega)]
  simp

set_option maxHeartbeats 4000000 in
set_option maxRecDepth 100000 in
theorem split_any (i : Nat) (h : LsN w S q o c hs P) (hn : hs.length ≤ 2000) (hi : i < hs.length) (h5 : 5 ≤ (P.getD i []).length) (h9 : (P.getD i []).length ≤ 1000) :
    Calls Tryz.prog 64 #[.slice (some ⟨q, o, none⟩) hs.length c, .int .i64 i] w (LLeft w S (setP P i 1 [(P.getD i []).take 4, (P.getD i []).drop 4])) := by
  have hiP := h.lenP hi
  have hgd : P.getD i [] = P[i] := by simp [List.getD, hiP]
  rw [hgd] at h5 h9 ⊢
  have hp := h.pg i hi hiP
  obtain ⟨x, hx⟩ : ∃ x, x = hs[i] := ⟨_, rfl⟩
  have hcell := h.hdr hi
  obtain ⟨l, hl⟩ : ∃ l, l = P[i] := ⟨_, rfl⟩
  rw [← hx] at hp hcell
  rw [← hl] at hp h5 h9 ⊢
  have hlen := hp.len
  have hle := hp.le
  have hmax := hp.max
  have hp4 : PgA w ⟨x.g, x.o, 4, 4⟩ (l.take 4) := ⟨by rw [List.length_take]; show 4 = min 4 l.length; omega, Nat.le_refl _, by show 4 ≤ maxLen; unfold maxLen; omega, by
    have := hp.rg.part 0 4 (prs (l.take 4)) (by omega) (by rw [prs_len, List.length_take]; omega) (fun j u hu => by
      rw [← prs_take, List.getElem?_take] at hu
      split at hu
      · rw [Nat.zero_mul, Nat.zero_add]; exact hu
      · cases hu)
    simpa using this⟩
  have hp5 : PgA w ⟨x.g, x.o + 8, x.n - 4, x.c - 4⟩ (l.drop 4) := ⟨by rw [List.length_drop, ← hlen], by show x.n - 4 ≤ x.c - 4; omega, by show x.c - 4 ≤ maxLen; omega, by
    have := hp.rg.part 4 (x.c - 4) (prs (l.drop 4)) (by omega) (by rw [prs_len, List.length_drop]; omega) (fun j u hu => by
      rw [← prs_drop, List.getElem?_drop] at hu
      exact hu)
    exact this⟩
  have hset := h.set hi (x := ⟨x.g, x.o, 4, 4⟩) (l := l.take 4) (Fc.refl _ _ _ w) hp4 (.inl (by rw [← hx]; exact ⟨rfl, Nat.le_refl _, by show x.o + 4 * 2 ≤ x.o + x.c * 2; omega⟩))
  obtain ⟨w1, hw1⟩ : ∃ w1, w1 = w.setCell ⟨q, o + i, none⟩ (Pgh.val ⟨x.g, x.o, 4, 4⟩) := ⟨_, rfl⟩
  rw [← hw1] at hset
  obtain ⟨hL1, hF1⟩ := hset
  have hqx : x.g ≠ q := fun e => h.hd.apart hp.rg (by decide) e.symm
  have hp51 : PgA w1 ⟨x.g, x.o + 8, x.n - 4, x.c - 4⟩ (l.drop 4) := by
    rw [hw1]
    exact hp5.fr ((Fr.refl (fun k => k = q) w).setCell (p := ⟨q, o + i, none⟩) (.inl rfl) _) hqx
  have hxm : x ∈ hs := hx ▸ List.getElem_mem hi
  have hap : ∀ y ∈ hs.set i ⟨x.g, x.o, 4, 4⟩, Apt y ⟨x.g, x.o + 8, x.n - 4, x.c - 4⟩ := fun y hy => by
    obtain ⟨j, hj, rfl⟩ := List.mem_iff_getElem.1 hy
    have hj' : j < hs.length := by simpa using hj
    by_cases e : j = i
    · subst e
      rw [List.getElem_set_self]
      right; left
      show x.o + 4 * 2 ≤ x.o + 8
      omega
    · rw [List.getElem_set_ne (Ne.symm e)]
      have hA : Apt hs[j] hs[i] := by
        have hP := List.pairwise_iff_getElem.1 h.ap
        rcases Nat.lt_or_gt_of_ne e with h1 | h1
        · exact hP j i hj' hi h1
        · exact (hP i j hi hj' h1).symm
      rw [← hx] at hA
      unfold Apt at hA ⊢
      simp only
      omega
  have hn1 : (hs.set i ⟨x.g, x.o, 4, 4⟩).length = hs.length := by simp
  have hxS : Sx S w w1 x.g := .inl (h.sg x hxm)
  obtain ⟨pv, hpv⟩ : ∃ pv : Value, pv = Pgh.val ⟨x.g, x.o + 8, x.n - 4, x.c - 4⟩ := ⟨_, rfl⟩
  have Hins : Hid (∀ W, Fr No w1 W → ∀ b, Bk W b 105 #[pv] → w1.heap.size ≤ b → Calls Tryz.prog 102 #[.slice (some ⟨q, o, none⟩) hs.length c, .int .i64 ((i : Int) + 1), .slice (some ⟨b, 0, none⟩) 1 1] W (LLeft w1 (Sx S w w1) (setP P i 1 [l.take 4, l.drop 4]))) := Lib.hid (fun W hW b hb hbl => by
    have hLW := hL1.since hW
    have hc := insPg_any (g := q) (o := o) (n := hs.length) (c := c) (i := i + 1) (b := b) (xs := (hs.set i ⟨x.g, x.o, 4, 4⟩).map Pgh.val) (us := [pv]) (w := W) (by simp) (by omega) (by omega) (by rw [← hn1]; exact hLW.le) hLW.max
      (by intro u hu; obtain ⟨y, _, rfl⟩ := List.mem_map.1 hu; rfl) rfl (by intro u hu; rw [List.mem_singleton.1 hu, hpv]; rfl) hLW.hd ⟨by simp, _, hb, by simp, fun j u hu => by rw [Nat.zero_add]; simpa using hu⟩
      (fun e => by have := hL1.lt q hL1.sq; omega)
    refine hc.mono ?_
    rintro e w2 ⟨q', o', c', rfl, a1, a2, a3, a4, a5⟩
    rw [Nat.mul_one] at a3 a4
    rw [hpv] at a3
    have := hLW.ins (i := i + 1) (x := ⟨x.g, x.o + 8, x.n - 4, x.c - 4⟩) (l := l.drop 4) (by rw [hn1]; omega) (hp51.since hW) hap hxS (by rw [hn1]; exact a1) a2 a3 a4 a5
    rw [set_ins P i _ _ hiP] at this
    have hfx := (hW.weak (S' := Sx S w w1) (fun _ _ e => e.elim)).trans' this.2 (fun _ _ e => e)
    refine ⟨q', o', c', _, by rw [insL_len, hn1]; rfl, this.1.mono (fun k hk => ?_) (fun k hk => ?_), hfx⟩
    · have h6 := hW.size
      rcases hk with hk | hk
      · exact .inl hk
      · exact .inr ⟨by omega, hk.2⟩
    · have h7 := hfx.size
      rcases hk with hk | hk
      · have := hL1.lt k hk; omega
      · exact hk.2)
  have HL : Hid (∀ e w2, LLeft w1 (Sx S w w1) (setP P i 1 [l.take 4, l.drop 4]) e w2 → LLeft w S (setP P i 1 [l.take 4, l.drop 4]) e w2) := Lib.hid (fun e w2 h2 => h2.sx h.lt hF1)
  have hfz := h.hd.froz (o + i)
  unfold Pgh.val at hcell hpv hw1
  have Hw1 := Lib.hid hw1
  have hx5 : 5 ≤ x.n := by omega
  have hcm : x.c ≤ 9223372036854775807 := by unfold maxLen at hmax; omega
  have hx9 : x.n ≤ 1000 := by omega
  generalize setP P i 1 [l.take 4, l.drop 4] = P' at *
  have hin : i < hs.length := hi
  clear hw1 hp hp4 hp5 hp51 hL1 hF1 hap h hx hl hgd hqx hxm hn1 hxS hlen hiP hi
  generalize hs.length = n at *
  obtain ⟨xg, xo, xn, xc⟩ := x
  simp only at *
  have hc4 : xc ≠ 4 := by omega
  have hc5 : 4 ≤ xc := by omega
  have hc6 : 4 ≤ xn := by omega
  have hc7 : (4 : Int) ≤ (xc : Int) := by omega
  have hc8 : (4 : Int) ≤ (xn : Int) := by omega
  go_enter Tryz.func64, Tryz.ntmps64
  go_wp2_with fail
  have hsz : w1.heap.size = w.heap.size := by rw [Hw1.out]; simp [World.setCell]
  rw [← Hw1.out]
  refine (Hins.out _ ((Fr.refl No w1).alloc _) w.heap.size (by rw [hpv, ← hsz]; exact Bk.made w1 _ _) (by omega)).mono ?_
  intro e w2 hL
  obtain ⟨q', o', c', hs', rfl, r1, r2⟩ := HL.out e w2 hL
  clear HL Hins Hw1
  go_wp2
  go_ret
  exact ⟨q', o', c', hs', rfl, r1, r2⟩

/-- Pages once a pair has come into one of them. -/
def withP (P : List Pg) (i : Nat) (L : Pg) : List Pg := if 8 < L.length then setP P i 1 [L.take 4, L.drop 4] else setP P i 1 [L]

set_option maxHeartbeats 4000000 in
set_option maxRecDepth 100000 in
theorem with_any (i a : Nat) (k : Nat) (v : Int) (h : LsN w S q o c hs P) (hn : hs.length ≤ 2000) (hi : i < hs.length) (ha : a ≤ (P.getD i []).length) (h9 : (P.getD i []).length ≤ 900) :
    Calls Tryz.prog 45 #[.slice (some ⟨q, o, none⟩) hs.length c, .int .i64 i, .int .i64 a, .agg #[.int .i64 k, .int .i64 v]] w (LLeft w S (withP P i (insL (P.getD i []) [(k, v)] a))) := by
  have hiP := h.lenP hi
  have hgd : P.getD i [] = P[i] := by simp [List.getD, hiP]
  rw [hgd] at ha h9 ⊢
  have hp := h.pg i hi hiP
  obtain ⟨x, hx⟩ : ∃ x, x = hs[i] := ⟨_, rfl⟩
  obtain ⟨l, hl⟩ : ∃ l, l = P[i] := ⟨_, rfl⟩
  rw [← hx] at hp
  rw [← hl] at hp ha h9 ⊢
  have hlen := hp.len
  have hle := hp.le
  have hmax := hp.max
  have hcell : Hid (∀ W, Fr No w W → W.cell? ⟨q, o + i, none⟩ = some x.val) := Lib.hid (fun W hW => by rw [hx]; exact (h.since hW).hdr hi)
  have Hins : Hid (∀ W, Fr No w W → ∀ b, Bk W b 54 #[.int .i64 k, .int .i64 v] → w.heap.size ≤ b → Calls Tryz.prog 63 #[x.val, .int .i64 a, .slice (some ⟨b, 0, none⟩) 1 1] W fun e w3 =>
      ∃ y : Pgh, e = .returned y.val ∧ y.n = x.n + 1 ∧ (w3.cell? ⟨q, o + i, none⟩).isSome = true ∧ w3.frozen? ⟨q, o + i, none⟩ = false ∧
        LsN (w3.setCell ⟨q, o + i, none⟩ y.val) (Sx S w (w3.setCell ⟨q, o + i, none⟩ y.val)) q o c (hs.set i y) (P.set i (insL l [(k, v)] a)) ∧ Fr S w (w3.setCell ⟨q, o + i, none⟩ y.val)) := Lib.hid (fun W hW b hb hbl => by
    have hLW := h.since hW
    have hpW := hp.since hW
    have hxg := h.lt _ (h.sg x (hx ▸ List.getElem_mem hi))
    have hc := insPr_any (g := x.g) (o := x.o) (n := x.n) (c := x.c) (i := a) (b := b) (xs := prs l) (us := [.int .i64 k, .int .i64 v]) (w := W) (by rw [prs_len, hlen]) (by omega) (by omega) hle hmax (prs_one l) rfl
      (by intro u hu; simp at hu; rcases hu with rfl | rfl <;> rfl) hpW.rg ⟨by simp, _, hb, by simp, fun j u hu => by rw [Nat.zero_add]; simpa using hu⟩ (fun e => by omega)
    refine hc.mono ?_
    rintro e w3 ⟨g', o', c', rfl, a1, a2, a3, a4, a5⟩
    have hy : PgA w3 ⟨g', o', x.n + 1, c'⟩ (insL l [(k, v)] a) := ⟨by rw [insL_len, ← hlen]; rfl, a1, a2, by
      have e1 : prs (insL l [(k, v)] a) = insL (prs l) [.int .i64 k, .int .i64 v] (a * 2) := by
        unfold insL
        rw [prs_app, prs_app, prs_take, prs_drop]
        rfl
      rw [e1]
      exact a3⟩
    have hset := hLW.set hi (x := ⟨g', o', x.n + 1, c'⟩) (l := insL l [(k, v)] a) (by rw [← hx]; exact a4) hy (by
      rw [← hx]
      rcases a5 with ⟨e1, e2, e3⟩ | e1
      · exact .inl ⟨e1, by show x.o ≤ o'; omega, Nat.le_of_eq (by show o' + c' * 2 = _; rw [e2, e3])⟩
      · exact .inr e1)
    have hq3 : Rg w3 105 1 q o c (hs.map Pgh.val) := hLW.hd.fc a4 (.inl (fun e => h.hd.apart hp.rg (by decide) e))
    have hlc := h.le
    refine ⟨⟨g', o', x.n + 1, c'⟩, rfl, rfl, hq3.there (by omega), hq3.froz _, hset.1.mono (fun k hk => ?_) (fun k hk => ?_), (hW.weak (S' := S) (fun _ _ e => e.elim)).trans' hset.2 (fun _ _ e => e)⟩
    · have h6 := hW.size
      rcases hk with hk | hk
      · exact .inl hk
      · exact .inr ⟨by omega, hk.2⟩
    · have h7 := hW.size
      have h8 := hset.2.size
      rcases hk with hk | hk
      · have := h.lt k hk; omega
      · exact hk.2)
  have Hlt := Lib.hid h.lt
  have HLs := Lib.hid (show ∀ W y, LsN W (Sx S w W) q o c (hs.set i y) (P.set i (insL l [(k, v)] a)) → Fr S w W → 8 < l.length + 1 → Calls Tryz.prog 64 #[.slice (some ⟨q, o, none⟩) hs.length c, .int .i64 i] W (LLeft w S (withP P i (insL l [(k, v)] a))) from fun W y hW hF h8 => by
    have hg2 : (P.set i (insL l [(k, v)] a)).getD i [] = insL l [(k, v)] a := by simp [List.getD, hiP]
    have hl2 : (insL l [(k, v)] a).length = l.length + 1 := by rw [insL_len]; rfl
    have hs := split_any i hW (by simpa using hn) (by simpa using hi) (by rw [hg2, hl2]; omega) (by rw [hg2, hl2]; omega)
    rw [hg2] at hs
    have e1 : setP (P.set i (insL l [(k, v)] a)) i 1 [(insL l [(k, v)] a).take 4, (insL l [(k, v)] a).drop 4] = withP P i (insL l [(k, v)] a) := by
      unfold withP
      rw [if_pos (by omega)]
      unfold setP
      rw [set_take _ _ _ _ (Nat.le_refl i), set_drop _ _ _ _ (by omega)]
    rw [e1, List.length_set] at hs
    exact hs.mono (fun e w2 h2 => h2.sx Hlt.out hF))
  have HEn := Lib.hid (show ∀ W y, LsN W (Sx S w W) q o c (hs.set i y) (P.set i (insL l [(k, v)] a)) → Fr S w W → ¬ 8 < l.length + 1 → LLeft w S (withP P i (insL l [(k, v)] a)) (.returned (.slice (some ⟨q, o, none⟩) hs.length c)) W from fun W y hW hF h8 => by
    have hl2 : (insL l [(k, v)] a).length = l.length + 1 := by rw [insL_len]; rfl
    refine ⟨q, o, c, hs.set i y, by rw [List.length_set], ?_, hF⟩
    unfold withP
    rw [if_neg (by omega)]
    unfold setP
    rw [set_as _ _ _ hiP]
    exact hW)
  have Hc4 := Lib.hid (show ∀ W y, LsN W (Sx S w W) q o c (hs.set i y) (P.set i (insL l [(k, v)] a)) → W.cell? ⟨q, o + i, none⟩ = some y.val from fun W y hW => by
    have := hW.hdr (i := i) (by simpa using hi)
    simpa using this)
  have h8b := hlen
  have hin : i < hs.length := hi
  have hx9 : x.n ≤ 1000 := by omega
  have Hlen := Lib.hid hlen
  clear hp hgd hle hmax h hx hl hlen hiP hi ha h8b
  generalize withP P i (insL l [(k, v)] a) = P' at *
  generalize hs.length = n at *
  have hn0 : (n : Int) ≠ 0 := by omega
  have hnb : ((n : Int) == 0) = false := by simp; omega
  have hc1 := hcell.out _ ((Fr.refl No w).alloc (.cells #[.int .i64 (k : Int), .int .i64 v] 54))
  have hc2 := hcell.out _ (((Fr.refl No w).alloc (.cells #[.int .i64 (k : Int), .int .i64 v] 54)).alloc (.cells #[.int .i64 (k : Int), .int .i64 v] 54))
  obtain ⟨xg, xo, xn, xc⟩ := x
  unfold Pgh.val at hc1 hc2
  simp only at *
  have b1 := Bk.made w 54 #[.int .i64 (k : Int), .int .i64 v]
  have x0 : (w.alloc (.cells #[.int .i64 (k : Int), .int .i64 v] 54)).cell? ⟨w.heap.size, 0, none⟩ = some (.int .i64 (k : Int)) := b1.cell 0
  have x1 : (w.alloc (.cells #[.int .i64 (k : Int), .int .i64 v] 54)).cell? ⟨w.heap.size, 1, none⟩ = some (.int .i64 v) := b1.cell 1
  clear b1
  go_enter Tryz.func45, Tryz.ntmps45
  go_wp2_with fail

  first | go_region_with (first
    | (go_at_call 63
       refine (Hins.out _ (by first | exact (((Fr.refl No w).alloc _).drew).alloc _ | exact (((Fr.refl No w).alloc _).alloc _).drew) (w.heap.size + 1) (by first | exact Bk.made1 w _ _ _ | exact (Bk.made1 w _ _ _).drew) (by omega)).mono ?_
       rintro e w3 ⟨⟨yg, yo, yn, yc⟩, rfl, hyn, z0, z1, hL, hF⟩
       have HL := Lib.hid hL
       have HF := Lib.hid hF
       obtain ⟨u0, z2⟩ := Option.isSome_iff_exists.1 z0
       clear hL hF z0
       dsimp only [Pgh.val] at hyn HL HF ⊢)) | fail
  all_goals
    subst hyn
    obtain ⟨w4, hw4⟩ : ∃ w4, w4 = w3.setCell ⟨q, o + i, none⟩ (.slice (some ⟨yg, yo, none⟩) (xn + 1) yc) := ⟨_, rfl⟩
    rw [← hw4] at HL HF ⊢
    have hc4 := Hc4.out w4 _ HL.out
    dsimp only [Pgh.val] at hc4
    clear hw4 hc1 hc2 x0 x1 z1 z2 Hins hcell
    by_cases h8 : 8 < xn + 1
    · have hsp := HLs.out w4 _ HL.out HF.out (by rw [← Hlen.out]; exact h8)
      have h8' : (8 : Int) < (xn : Int) + 1 := by omega
      clear HLs HEn HL HF Hc4 h8
      go_wp2_with fail
      refine hsp.mono ?_
      rintro e w5 ⟨q', o', c', hs', rfl, r1, r2⟩
      clear hsp
      go_wp2
      go_ret
      exact ⟨q', o', c', hs', rfl, r1, r2⟩
    · have hen := Lib.hid (HEn.out w4 _ HL.out HF.out (by rw [← Hlen.out]; exact h8))
      have h8' : ¬ (8 : Int) < (xn : Int) + 1 := by omega
      clear HLs HEn HL HF Hc4 h8
      go_wp2
      go_ret
      exact hen.out
end
end Go.Proofs.YthenadijiepmnaaGreat
/- Package pages: the first pair of a store. -/
namespace Go.Proofs.YthenadijiepmnaaGreat
open Go.RowKit

set_option maxHeartbeats 4000000 in
set_option maxRecDepth 100000 in
theorem with_none (A : Option Addr) (c k : Nat) (v : Int) (w : World) :
    Calls Tryz.prog 45 #[.slice A 0 c, .int .i64 0, .int .i64 0, .agg #[.int .i64 k, .int .i64 v]] w fun e w' =>
      ∃ q o c' hs, e = .returned (.slice (some ⟨q, o, none⟩) hs.length c') ∧ LsN w' (fun x => w.heap.size ≤ x ∧ x < w'.heap.size) q o c' hs [[(k, v)]] ∧ Fr No w w' := by
  have Hins : Hid (∀ W b, Bk W b 54 #[.int .i64 k, .int .i64 v] → Calls Tryz.prog 63 #[.slice none 0 0, .int .i64 0, .slice (some ⟨b, 0, none⟩) 1 1] W fun e w3 =>
      ∃ yc, e = .returned (.slice (some ⟨W.heap.size, 0, none⟩) 1 yc) ∧ PgA w3 ⟨W.heap.size, 0, 1, yc⟩ [(k, v)] ∧ Fr No W w3) := Lib.hid (fun W b hb => by
    refine (insPr_end_grow (n := 0) (c := 0) (b := b) (xs := []) (us := [.int .i64 k, .int .i64 v]) (w := W) none rfl (by omega) rfl rfl (by intro u hu; simp at hu; rcases hu with rfl | rfl <;> rfl) ⟨by simp, _, hb, by simp, fun j u hu => by rw [Nat.zero_add]; simpa using hu⟩ (.inr ⟨rfl, rfl⟩)).mono ?_
    rintro e w3 ⟨yc, rfl, a1, a2, a3, a4⟩
    exact ⟨yc, rfl, ⟨rfl, a1, a2, a3⟩, a4⟩)
  have hmk : ∀ W : World, (Instr.makeSlice 68 (.int .i64 1) (.int .i64 1)).run Tryz.prog W = .ok (.slice (some ⟨W.heap.size, 0, none⟩) 1 1) (W.alloc (.cells #[.slice none 0 0] 105)) := fun W => by
    obtain ⟨i, hi, hz, hs, hb⟩ := info_parts info_page
    have hr := run_make (P := Tryz.prog) W 68 105 i _ Tryz.underlying68 hi hz .i64 .i64 1 1 (by omega) (by omega) (by rw [hb]; omega) (by omega)
    rw [hs] at hr
    rw [show madeCells (Value.agg #[.slice none 0 0]).cells (Int.toNat 1 * 1) = #[.slice none 0 0] by first | rfl | (unfold madeCells; rw [show Array.range (Int.toNat 1 * 1) = #[0] by first | rfl | decide]; simp [Value.cells])] at hr
    exact hr
  have b1 := Bk.made w 54 #[.int .i64 (k : Int), .int .i64 v]
  have x0 : (w.alloc (.cells #[.int .i64 (k : Int), .int .i64 v] 54)).cell? ⟨w.heap.size, 0, none⟩ = some (.int .i64 (k : Int)) := b1.cell 0
  have x1 : (w.alloc (.cells #[.int .i64 (k : Int), .int .i64 v] 54)).cell? ⟨w.heap.size, 1, none⟩ = some (.int .i64 v) := b1.cell 1
  clear b1
  go_enter Tryz.func45, Tryz.ntmps45
  go_wp2_with fail
  obtain ⟨w2, hw2⟩ : ∃ w2, w2 = ((w.alloc (.cells #[.int .i64 (k : Int), .int .i64 v] 54)).alloc (.cells #[.slice none 0 0] 105)) := ⟨_, rfl⟩
  have hsz : w2.heap.size = w.heap.size + 2 := by rw [hw2]; simp
  have hf : Fr No w w2 := by rw [hw2]; exact ((Fr.refl No w).alloc _).alloc _
  have d1 : Bk w2 w.heap.size 54 #[.int .i64 (k : Int), .int .i64 v] := by rw [hw2]; exact (Bk.made w _ _).alloc _
  have d2 : Bk w2 (w.heap.size + 1) 105 #[.slice none 0 0] := by rw [hw2]; exact Bk.made1 w _ _ _
  rw [← hw2]
  obtain ⟨z, Hzw⟩ : ∃ z, Hid (z = w.heap.size) := ⟨_, Lib.hid rfl⟩
  rw [← Hzw.out] at hsz d1 d2 ⊢
  have y0 : w2.cell? ⟨z, 0, none⟩ = some (.int .i64 (k : Int)) := d1.cell 0
  have y1 : w2.cell? ⟨z, 1, none⟩ = some (.int .i64 v) := d1.cell 1
  have y2 : w2.cell? ⟨z + 1, 0, none⟩ = some (.slice none 0 0) := d2.cell 0
  have y3 : (w2.alloc (.cells #[.int .i64 (k : Int), .int .i64 v] 54)).cell? ⟨z + 1, 0, none⟩ = some (.slice none 0 0) := (d2.alloc _).cell 0
  have D2 := Lib.hid d2
  have Hf := Lib.hid hf
  have Hsz := Lib.hid hsz
  clear d1 d2 hf hsz hw2 x0 x1 hmk
  first | go_region_with (first
    | (go_at_call 63
       refine (Hins.out _ w2.heap.size (by first | exact Bk.made w2 _ _ | exact (Bk.made w2 _ _).drew)).mono ?_
       rintro e w3 ⟨yc, rfl, hP, hF⟩
       have HP := Lib.hid hP
       have HF := Lib.hid hF
       have D3 := ((D2.out.alloc (.cells #[.int .i64 (k : Int), .int .i64 v] 54)).drew).fr hF (fun e => e)
       have z2 : w3.cell? ⟨z + 1, 0, none⟩ = some (.slice none 0 0) := D3.cell 0
       have z1 := D3.frozen 0
       have HD := Lib.hid D3
       clear hP hF D3)) | fail
  all_goals
    have hsz := Hsz.out
    have e3 : ((w2.alloc (.cells #[.int .i64 (k : Int), .int .i64 v] 54)).drew).heap.size = z + 3 := by show (w2.alloc _).heap.size = _; rw [World.size_alloc]; omega
    rw [e3] at HP
    rw [show w2.heap.size + 1 = z + 3 by omega]
    have HR : Hid (LsN (w3.setCell ⟨z + 1, 0, none⟩ (.slice (some ⟨z + 3, 0, none⟩) 1 yc)) (fun x => z ≤ x ∧ x < (w3.setCell ⟨z + 1, 0, none⟩ (.slice (some ⟨z + 3, 0, none⟩) 1 yc)).heap.size) (z + 1) 0 1 [⟨z + 3, 0, 1, yc⟩] [[(k, v)]] ∧ Fr No w (w3.setCell ⟨z + 1, 0, none⟩ (.slice (some ⟨z + 3, 0, none⟩) 1 yc))) := Lib.hid (by
      have hst : Fr (fun x => x = z + 1) w3 (w3.setCell ⟨z + 1, 0, none⟩ (.slice (some ⟨z + 3, 0, none⟩) 1 yc)) := (Fr.refl (fun x => x = z + 1) w3).setCell (p := ⟨z + 1, 0, none⟩) (.inl rfl) _
      have hs1 := hst.size
      have hg := HP.out.rg.lt
      simp only at hg
      have hq := HD.out.put 0 (.slice (some ⟨z + 3, 0, none⟩) 1 yc)
      refine ⟨⟨rfl, by simp, by unfold maxLen; omega, ⟨by simp, _, hq, by simp, fun j u hu => ?_⟩, fun i h1 h2 => ?_, List.pairwise_singleton _ _, ⟨by omega, by have := hq.lt; omega⟩, fun h hh => ?_, fun x hx => hx.2⟩, ?_⟩
      · rcases j with _ | j
        · simpa [Pgh.val] using hu
        · simp at hu
      · obtain rfl : i = 0 := by simp at h1; omega
        exact HP.out.fr hst (by show ¬ (z + 3 = z + 1); omega)
      · rw [List.mem_singleton.1 hh]
        exact ⟨by show z ≤ z + 3; omega, by show z + 3 < _; omega⟩
      · exact ((((Hf.out.alloc _).drew).trans' HF.out (fun _ _ e => e))).trans' hst (fun i hi e => by have := Hzw.out; omega))
    have hc4 : (w3.setCell ⟨z + 1, 0, none⟩ (.slice (some ⟨z + 3, 0, none⟩) 1 yc)).cell? ⟨z + 1, 0, none⟩ = some (.slice (some ⟨z + 3, 0, none⟩) 1 yc) := HR.out.1.hdr (i := 0) (by simp)
    clear HP HF HD Hf D2 z1 z2 y0 y1 y2 y3 Hins
    generalize (w3.setCell ⟨z + 1, 0, none⟩ (.slice (some ⟨z + 3, 0, none⟩) 1 yc)) = w4 at *
    go_wp2
    go_ret
    have hr := HR.out
    rw [Hzw.out] at hr
    exact ⟨_, 0, 1, [⟨_, 0, 1, yc⟩], by rw [Hzw.out]; rfl, hr⟩
end Go.Proofs.YthenadijiepmnaaGreat
/- Package pages: a store in memory; a value is put, and got. -/
namespace Go.Proofs.YthenadijiepmnaaGreat
open Go.RowKit

/-- A store of package pages at s, in the blocks S: its pages. -/
def PS (w : World) (S : Nat → Prop) (s : Nat) (P : List Pg) : Prop :=
  ∃ v, Bk w s 70 #[v] ∧ S s ∧ (∀ k, S k → k < w.heap.size) ∧
    ((P = [] ∧ ∃ A c, v = .slice A 0 c) ∨ (P ≠ [] ∧ ∃ q o c hs, v = .slice (some ⟨q, o, none⟩) hs.length c ∧ LsN w S q o c hs P))
section
variable {w w' : World} {S S' : Nat → Prop} {s : Nat} {P : List Pg}
theorem PS.fr {T : Nat → Prop} (h : PS w S s P) (hf : Fr T w w') (hs : ∀ k, S k → ¬ T k) : PS w' S s P := by
  obtain ⟨v, h1, h2, h3, h4⟩ := h
  refine ⟨v, h1.fr hf (hs s h2), h2, fun k hk => Nat.lt_of_lt_of_le (h3 k hk) hf.size, ?_⟩
  rcases h4 with h4 | ⟨hne, q, o, c, l, e, h5⟩
  · exact .inl h4
  · exact .inr ⟨hne, q, o, c, l, e, h5.fr hf hs⟩
theorem PS.lt (h : PS w S s P) : ∀ k, S k → k < w.heap.size := by
  obtain ⟨v, _, _, h3, _⟩ := h
  exact h3
theorem PS.self (h : PS w S s P) : S s := by
  obtain ⟨v, _, h2, _⟩ := h
  exact h2
/-- What a call leaves of a store. -/
def Left (w : World) (S : Nat → Prop) (s : Nat) (P : List Pg) (w' : World) : Prop := ∃ S', PS w' S' s P ∧ Fr S w w' ∧ ∀ x, S' x → S x ∨ w.heap.size ≤ x
theorem ps_zero : ∃ cs, (∀ W, (zeroValue 70).run Tryz.prog W = .ok (.agg cs) W) ∧ ∀ (W : World) (s : Nat), Bk W s 70 cs → PS W (fun k => k = s) s [] :=
  ⟨#[.slice none 0 0], Tryz.zeroValue70, fun _ _ h => ⟨_, h, rfl, fun _ e => e ▸ h.lt, .inl ⟨rfl, none, 0, rfl⟩⟩⟩
/-- A list that a call has left is stored. -/
theorem PS.store {w1 : World} {v0 : Value} (hS : S s) {q o c : Nat} {hs : List Pgh} {P' : List Pg} (hL : LsN w1 (Sx S w w1) q o c hs P') (hF : Fr S w w1) (hne : P' ≠ []) (hb : Bk w1 s 70 #[v0]) :
    Left w S s P' (w1.setCell ⟨s, 0, none⟩ (.slice (some ⟨q, o, none⟩) hs.length c)) := by
  have hst : Fr (fun k => k = s) w1 (w1.setCell ⟨s, 0, none⟩ (.slice (some ⟨q, o, none⟩) hs.length c)) := (Fr.refl (fun k => k = s) w1).setCell (p := ⟨s, 0, none⟩) (.inl rfl) _
  have hsz := hst.size
  refine ⟨Sx S w w1, ⟨_, hb.put 0 _, .inl hS, fun k hk => Nat.lt_of_lt_of_le (hL.lt k hk) hsz, .inr ⟨hne, q, o, c, hs, by simp, ?_⟩⟩, hF.setCell (.inl hS) _, fun x hx => hx.imp_right (fun e => e.1)⟩
  refine ⟨hL.len, hL.le, hL.max, hL.hd.fr hst (fun e => hL.hd.apartB hb (by decide) e), fun i a1 a2 => (hL.pg i a1 a2).fr hst (fun e => (hL.pg i a1 a2).rg.apartB hb (by decide) e), hL.ap, hL.sq, hL.sg, fun k hk => Nat.lt_of_lt_of_le (hL.lt k hk) hsz⟩
/-- An empty list is stored. -/
theorem PS.store0 {w1 : World} {v0 : Value} (hS : S s) (hlt : ∀ k, S k → k < w.heap.size) {A : Option Addr} {c : Nat} (hF : Fr S w w1) (hb : Bk w1 s 70 #[v0]) :
    Left w S s [] (w1.setCell ⟨s, 0, none⟩ (.slice A 0 c)) := by
  have hst : Fr (fun k => k = s) w1 (w1.setCell ⟨s, 0, none⟩ (.slice A 0 c)) := (Fr.refl (fun k => k = s) w1).setCell (p := ⟨s, 0, none⟩) (.inl rfl) _
  have hsz := hst.size
  have hsz2 := hF.size
  exact ⟨S, ⟨_, hb.put 0 _, hS, fun k hk => by have := hlt k hk; omega, .inl ⟨rfl, A, c, by simp⟩⟩, hF.setCell (.inl hS) _, fun x hx => .inl hx⟩

theorem pos_lt {q : Pg} (hr : Rise q) {k : Nat} (h : hasK q k = true) : posP q k < q.length := ((hasK_pos q hr k).1 h).1
theorem pos_key {q : Pg} (hr : Rise q) {k : Nat} (h : hasK q k = true) (hl : posP q k < q.length) : q[posP q k].1 = k := ((hasK_pos q hr k).1 h).2
theorem pos_split {q : Pg} (hr : Rise q) (k : Nat) : (∀ x ∈ q.take (posP q k), x.1 < k) ∧ (∀ x ∈ q.drop (posP q k), k ≤ x.1) := by
  constructor
  · intro x hx
    obtain ⟨j, hj, rfl⟩ := List.mem_iff_getElem.1 hx
    have hj' : j < posP q k ∧ j < q.length := by rw [List.length_take] at hj; omega
    rw [List.getElem_take]
    exact (posP_iff q hr k j hj'.2).2 hj'.1
  · intro x hx
    obtain ⟨j, hj, rfl⟩ := List.mem_iff_getElem.1 hx
    have hj' : posP q k + j < q.length := by simp at hj; omega
    rw [List.getElem_drop]
    have := posP_iff q hr k (posP q k + j) hj'
    omega
/-- A new pair comes to its place. -/
theorem ins_pos {q : Pg} (hr : Rise q) {k : Nat} (v : Int) (h : hasK q k = false) : insP q k v = insL q [(k, v)] (posP q k) := by
  obtain ⟨h1, h2⟩ := pos_split hr k
  have h3 : ∀ x ∈ q.drop (posP q k), k < x.1 := fun x hx => by
    have := h2 x hx
    have h4 : x.1 ≠ k := fun e => by
      have : hasK q k = true := List.any_eq_true.2 ⟨x, List.mem_of_mem_drop hx, by simpa using e⟩
      rw [h] at this; cases this
    omega
  conv => lhs; rw [← List.take_append_drop (posP q k) q]
  have := insP_left (l := q.drop (posP q k)) (v := v) h1
  rw [this]
  have h5 := insP_right (l := []) (v := v) h3
  rw [List.nil_append] at h5
  rw [h5]
  unfold insL
  simp [insP]
/-- A pair that is there gets another value. -/
theorem set_pos {q : Pg} (hr : Rise q) {k : Nat} (v : Int) (h : hasK q k = true) : insP q k v = q.set (posP q k) (k, v) := by
  have hl := pos_lt hr h
  have hk := pos_key hr h hl
  rw [← ins_has q hr k v h]
  apply List.ext_getElem
  · simp
  · intro j h1 h2
    have hj : j < q.length := by simpa using h1
    rw [List.getElem_map]
    unfold rep
    by_cases e : j = posP q k
    · subst e
      rw [if_pos hk, List.getElem_set_self]
    · rw [List.getElem_set_ne (Ne.symm e), if_neg (fun e2 => e ?_)]
      have hP := List.pairwise_iff_getElem.1 hr
      rcases Nat.lt_trichotomy j (posP q k) with h3 | h3 | h3
      · have := hP j (posP q k) hj hl h3; omega
      · exact h3
      · have := hP (posP q k) j hl hj h3; omega

/-- What stands in one page has turned. -/
theorem LsN.turn {q o c : Nat} {hs : List Pgh} (h : LsN w S q o c hs P) {i : Nat} (hi : i < hs.length) {l : Pg} (hf : Fc hs[i].g hs[i].o (hs[i].o + hs[i].c * 2) w w') (hp : PgA w' hs[i] l) : LsN w' S q o c hs (P.set i l) ∧ Fr S w w' := by
  have hgS := h.sg _ (List.getElem_mem hi)
  have hfr : Fr S w w' := hf.fr.weak (fun k _ e => e ▸ hgS)
  refine ⟨⟨by simp [h.len], h.le, h.max, h.hd.fc hf (.inl (h.hd.apart (h.pg i hi (by rw [← h.len]; exact hi)).rg (by decide))), fun j h1 h2 => ?_, h.ap, h.sq, h.sg, fun k hk => Nat.lt_of_lt_of_le (h.lt k hk) hf.size⟩, hfr⟩
  by_cases e : j = i
  · subst e
    rw [List.getElem_set_self]
    exact hp
  · rw [List.getElem_set_ne (Ne.symm e)]
    rw [List.length_set] at h2
    refine (h.pg j h1 h2).fc hf ?_
    have hP := List.pairwise_iff_getElem.1 h.ap
    rcases Nat.lt_or_gt_of_ne e with h3 | h3
    · exact hP j i h1 hi h3
    · exact (hP i j hi h1 h3).symm

theorem prs_set (q : Pg) (i k : Nat) (v : Int) (hi : i < q.length) (hk : q[i].1 = k) : (prs q).set (i * 2 + 1) (.int .i64 v) = prs (q.set i (k, v)) := by
  apply List.ext_getElem?
  intro j
  rw [List.getElem?_set]
  by_cases hj : j / 2 < q.length
  · have h1 := prs_at (q.set i (k, v)) (j / 2) (by rw [List.length_set]; exact hj)
    have h2 := prs_at q (j / 2) hj
    rw [List.getElem_set] at h1
    have hj2 : j = j / 2 * 2 ∨ j = j / 2 * 2 + 1 := by omega
    by_cases e : i = j / 2
    · rw [if_pos e] at h1
      rcases hj2 with hj2 | hj2
      · rw [if_neg (by omega)]
        rw [← hj2] at h1 h2
        rw [h1.1, h2.1]
        have h3 : q[j / 2].1 = q[i].1 := by congr 2; exact e.symm
        rw [h3, hk]
      · rw [if_pos (by omega), if_pos (by rw [prs_len]; omega)]
        rw [← hj2] at h1
        rw [h1.2]
    · rw [if_neg e] at h1
      rw [if_neg (by omega)]
      rcases hj2 with hj2 | hj2
      · rw [← hj2] at h1 h2
        rw [h1.1, h2.1]
      · rw [← hj2] at h1 h2
        rw [h1.2, h2.2]
  · rw [if_neg (by omega), List.getElem?_eq_none (by rw [prs_len]; omega), List.getElem?_eq_none (by rw [prs_len, List.length_set]; omega)]
/-- A store's list lies apart from its own cell. -/
theorem LsN.less {q o c : Nat} {hs : List Pgh} {cs : Array Value} (h : LsN w S q o c hs P) (hb : Bk w s 70 cs) : LsN w (fun k => S k ∧ k ≠ s) q o c hs P :=
  ⟨h.len, h.le, h.max, h.hd, h.pg, h.ap, ⟨h.sq, h.hd.apartB hb (by decide)⟩, fun x hx => by
    obtain ⟨i, hi, rfl⟩ := List.mem_iff_getElem.1 hx
    exact ⟨h.sg _ hx, (h.pg i hi (by rw [← h.len]; exact hi)).rg.apartB hb (by decide)⟩, fun k hk => h.lt k hk.1⟩
/-- What a call has left of a store's list is stored. -/
theorem PS.closed {W W' : World} {v0 : Value} {q o c : Nat} {hs : List Pgh} {P' : List Pg} (hb : Bk w s 70 #[v0]) (hS : S s) (hlt : ∀ k, S k → k < w.heap.size) (hW : Fr No w W)
    (hL : LsN W' (Sx (fun k => S k ∧ k ≠ s) W W') q o c hs P') (hF : Fr (fun k => S k ∧ k ≠ s) W W') (hne : P' ≠ []) :
    Bk W' s 70 #[v0] ∧ Left w S s P' (W'.setCell ⟨s, 0, none⟩ (.slice (some ⟨q, o, none⟩) hs.length c)) := by
  have hb1 : Bk W' s 70 #[v0] := (hb.fr hW (fun e => e)).fr hF (fun e => e.2 rfl)
  have hs1 := hW.size
  have hs2 := hF.size
  refine ⟨hb1, PS.store hS (hL.mono (fun k hk => ?_) (fun k hk => ?_)) ((hW.weak (S' := S) (fun _ _ e => e.elim)).trans' hF (fun _ _ e => e.1)) hne hb1⟩
  · rcases hk with hk | hk
    · exact .inl hk.1
    · exact .inr ⟨by omega, hk.2⟩
  · rcases hk with hk | hk
    · have := hlt k hk; omega
    · exact hk.2

set_option maxHeartbeats 4000000 in
set_option maxRecDepth 100000 in
theorem pPut_any (k : Nat) (hk : k < 1000) (v : Int) (hi : InvP P) (h : PS w S s P) :
    Calls Tryz.prog 25 #[.pointer (some ⟨s, 0, none⟩), .int .i64 k, .int .i64 v] w fun e w' => e = .returned (.int .i64 0) ∧ Left w S s (putP P k v) w' := by
  have ht := pTakes_some ⟨s, 0, none⟩ k w
  rw [show decide (0 ≤ (k : Int) ∧ (k : Int) ≤ 999) = true by simp; omega] at ht
  obtain ⟨v0, hb, hS, hlt, hcase⟩ := h
  have Hb := Lib.hid hb
  have Hlt := Lib.hid hlt
  have HS := Lib.hid hS
  rcases hcase with ⟨rfl, A, c, rfl⟩ | ⟨hne, q, o, c, hs, rfl, hL⟩
  · have hfd := lfind_none A c k w
    have hw := fun W => with_none A c k v W
    have x0 : w.cell? ⟨s, 0, none⟩ = some (.slice A 0 c) := hb.cell 0
    have hput : putP [] k v = [[(k, v)]] := by unfold putP; rw [if_pos rfl]
    rw [hput]
    clear hb hlt hS hput
    go_enter Tryz.func25, Tryz.ntmps25
    go_wp2_with fail
    refine ht.mono ?_
    rintro e w1 ⟨rfl, rfl⟩
    go_wp2_with fail
    refine hfd.mono ?_
    rintro e w2 ⟨rfl, hf2⟩
    have x2 : w2.cell? ⟨s, 0, none⟩ = some (.slice A 0 c) := (Hb.out.fr hf2 (fun e => e)).cell 0
    have Hf2 := Lib.hid hf2
    clear hf2 x0 hfd ht
    go_wp2_with fail
    refine (hw _).mono ?_
    rintro e w3 ⟨q', o', c', hs', rfl, hL3, hf3⟩
    have Hb3 := Lib.hid ((Hb.out.fr Hf2.out (fun e => e)).fr hf3 (fun e => e))
    have x3 : w3.cell? ⟨s, 0, none⟩ = some (.slice A 0 c) := Hb3.out.cell 0
    have z3 := Hb3.out.frozen 0
    have HR : Hid (Left w1 S s [[(k, v)]] (w3.setCell ⟨s, 0, none⟩ (.slice (some ⟨q', o', none⟩) hs'.length c'))) := Lib.hid (by
      have hsz := Hf2.out.size
      have hsz3 := hf3.size
      have hF : Fr S w1 w3 := (Hf2.out.weak (S' := S) (fun _ _ e => e.elim)).trans' hf3 (fun _ _ e => e.elim)
      refine PS.store HS.out (hL3.mono (fun x hx => .inr ⟨by omega, hx.2⟩) (fun x hx => ?_)) hF (by simp) Hb3.out
      rcases hx with hx | hx
      · have := Hlt.out x hx; omega
      · exact hx.2)
    clear hL3 hf3 Hb3 hw x2
    go_wp2
    go_ret
    exact ⟨rfl, HR.out⟩
  · have hfd := lfind_any S q o c hs P hi hne k w hL
    have hat := atP_lt P k hne
    have hlen := hi.len
    have hll := hL.len
    have hats : atP P k < hs.length := by omega
    have hgd : P.getD (atP P k) [] = P[atP P k] := by simp [List.getD, hat]
    have hrise : Rise P[atP P k] := by
      obtain ⟨X, Y, hXY⟩ := List.append_of_mem (List.getElem_mem hat)
      have hr := hi.rise
      rw [hXY, List.flatten_append, List.flatten_cons] at hr
      exact (Rise.app (Rise.app hr).2.1).1
    have hone := hi.one _ (List.getElem_mem hat)
    rw [hgd] at hfd
    have x0 : w.cell? ⟨s, 0, none⟩ = some (.slice (some ⟨q, o, none⟩) hs.length c) := hb.cell 0
    have hput : putP P k v = withP P (atP P k) (insP P[atP P k] k v) := by
      unfold putP withP
      rw [if_neg hne, hgd]
    have HL := Lib.hid hL
    cases hb0 : hasK P[atP P k] k with
    | true =>
      have hpl := pos_lt hrise hb0
      have hset := set_pos hrise v hb0
      have hput2 : putP P k v = P.set (atP P k) (P[atP P k].set (posP P[atP P k] k) (k, v)) := by
        rw [hput, hset]
        unfold withP setP
        rw [if_neg (by rw [List.length_set]; omega), set_as _ _ _ hat]
      rw [hput2]
      rw [hb0] at hfd
      have hp := hL.pg _ hats hat
      have hR : Hid (∀ W, Fr No w W → W.cell? ⟨s, 0, none⟩ = some (.slice (some ⟨q, o, none⟩) hs.length c) ∧ W.cell? ⟨q, o + atP P k, none⟩ = some hs[atP P k].val ∧
          (∃ u, W.cell? ⟨hs[atP P k].g, hs[atP P k].o + posP P[atP P k] k * 2 + 1, none⟩ = some u) ∧ W.frozen? ⟨hs[atP P k].g, hs[atP P k].o + posP P[atP P k] k * 2 + 1, none⟩ = false ∧
          Left w S s (P.set (atP P k) (P[atP P k].set (posP P[atP P k] k) (k, v))) (W.setCell ⟨hs[atP P k].g, hs[atP P k].o + posP P[atP P k] k * 2 + 1, none⟩ (.int .i64 v))) := Lib.hid (fun W hW => by
        have hbW := hb.fr hW (fun e => e)
        have hLW := hL.since hW
        have hpW := hp.since hW
        have hgs : hs[atP P k].g ≠ s := hpW.rg.apartB hbW (by decide)
        have hsz := hW.size
        have hpr := (hpW.pair hpl)
        refine ⟨hbW.cell 0, hLW.hdr hats, ⟨_, hpr.2⟩, hpW.rg.froz _, ?_⟩
        have hle := hpW.le
        have hln := hpW.len
        have hfc : Fc hs[atP P k].g hs[atP P k].o (hs[atP P k].o + hs[atP P k].c * 2) W (W.setCell ⟨hs[atP P k].g, hs[atP P k].o + posP P[atP P k] k * 2 + 1, none⟩ (.int .i64 v)) := (Fc.refl _ _ _ W).cell _ (by omega) (by omega)
        have hpg : PgA (W.setCell ⟨hs[atP P k].g, hs[atP P k].o + posP P[atP P k] k * 2 + 1, none⟩ (.int .i64 v)) hs[atP P k] (P[atP P k].set (posP P[atP P k] k) (k, v)) := by
          refine ⟨by rw [List.length_set]; exact hpW.len, hle, hpW.max, ?_⟩
          have hput3 := hpW.rg.put1 (posP P[atP P k] k * 2 + 1) (.int .i64 v) (by rw [prs_len]; omega)
          have e1 := prs_set P[atP P k] (posP P[atP P k] k) k v hpl (pos_key hrise hb0 hpl)
          rw [← e1]
          have := hput3
          rwa [← Nat.add_assoc] at this
        have ht2 := hLW.turn hats hfc hpg
        have hlW : ∀ k, S k → k < W.heap.size := hLW.lt
        exact ⟨S, ⟨_, hbW.fr hfc.fr hgs.symm, hS, fun k hk => Nat.lt_of_lt_of_le (hlW k hk) hfc.size, .inr ⟨fun e => hne (by simpa using congrArg List.length e), q, o, c, hs, rfl, ht2.1⟩⟩, (hW.weak (S' := S) (fun _ _ e => e.elim)).trans' ht2.2 (fun _ _ e => e), fun x hx => .inl hx⟩)
      have hle := hp.le
      have hln := hp.len
      have hps : posP P[atP P k] k < hs[atP P k].n := by rw [hln]; exact hpl
      generalize (P.set (atP P k) (P[atP P k].set (posP P[atP P k] k) (k, v))) = P' at *
      generalize posP P[atP P k] k = ps at *
      clear hp hset hput hput2 hrise hgd hone hpl hb0
      generalize hs[atP P k] = x at *
      generalize atP P k = a at *
      clear hln
      clear hL HL hll hat hlen
      generalize hs.length = z at *
      obtain ⟨xg, xo, xn, xc⟩ := x
      simp only at hR hps hle
      clear hb hlt hS
      go_enter Tryz.func25, Tryz.ntmps25
      go_wp2_with fail
      refine ht.mono ?_
      rintro e w1 ⟨rfl, rfl⟩
      go_wp2_with fail
      refine hfd.mono ?_
      rintro e w2 ⟨rfl, hf2⟩
      obtain ⟨y0, y1, ⟨u, y2⟩, y3, hleft⟩ := hR.out _ hf2
      unfold Pgh.val at y1
      simp only at y1
      have HLf := Lib.hid hleft
      clear hR hf2 x0 hfd ht hleft
      go_wp2
      go_ret
      exact ⟨rfl, HLf.out⟩
    | false =>
      have hins := ins_pos hrise v hb0
      rw [hput, hins]
      rw [hb0] at hfd
      have hne2 : withP P (atP P k) (insL P[atP P k] [(k, v)] (posP P[atP P k] k)) ≠ [] := by
        unfold withP setP
        split <;> simp
      have hw := Lib.hid (show ∀ W, Fr No w W → W.cell? ⟨s, 0, none⟩ = some (.slice (some ⟨q, o, none⟩) hs.length c) ∧ Calls Tryz.prog 45 #[.slice (some ⟨q, o, none⟩) hs.length c, .int .i64 (atP P k), .int .i64 (posP P[atP P k] k), .agg #[.int .i64 k, .int .i64 v]] W (fun e W' => ∃ q' o' c' n', e = .returned (.slice (some ⟨q', o', none⟩) n' c') ∧ W'.cell? ⟨s, 0, none⟩ = some (.slice (some ⟨q, o, none⟩) hs.length c) ∧ W'.frozen? ⟨s, 0, none⟩ = false ∧ Left w S s (withP P (atP P k) (insL P[atP P k] [(k, v)] (posP P[atP P k] k))) (W'.setCell ⟨s, 0, none⟩ (.slice (some ⟨q', o', none⟩) n' c'))) from fun W hW => by
        have hbW := hb.fr hW (fun e => e)
        have hwa := with_any (atP P k) (posP P[atP P k] k) k v ((hL.since hW).less hbW) (by omega) hats (by rw [hgd]; exact posP_le _ _) (by rw [hgd]; omega)
        rw [hgd] at hwa
        refine ⟨hbW.cell 0, hwa.mono ?_⟩
        rintro e W' ⟨q', o', c', hs', rfl, h1, h2⟩
        have h3 := PS.closed hb hS hlt hW h1 h2 hne2
        exact ⟨q', o', c', hs'.length, rfl, h3.1.cell 0, h3.1.frozen 0, h3.2⟩)
      generalize withP P (atP P k) (insL P[atP P k] [(k, v)] (posP P[atP P k] k)) = P' at *
      generalize posP P[atP P k] k = ps at *
      generalize atP P k = a at *
      generalize hs.length = z at *
      clear hb hlt hS hne2 hL HL hll hat hlen hput hrise hgd hone hb0 hins
      go_enter Tryz.func25, Tryz.ntmps25
      go_wp2_with fail
      refine ht.mono ?_
      rintro e w1 ⟨rfl, rfl⟩
      go_wp2_with fail
      refine hfd.mono ?_
      rintro e w2 ⟨rfl, hf2⟩
      obtain ⟨y0, hcal⟩ := hw.out _ hf2
      clear hw hf2 x0 hfd ht
      go_wp2_with fail
      refine hcal.mono ?_
      rintro e w3 ⟨q', o', c', n', rfl, z0, z1, hleft⟩
      have HLf := Lib.hid hleft
      clear hcal hleft y0
      go_wp2
      go_ret
      exact ⟨rfl, HLf.out⟩
end
end Go.Proofs.YthenadijiepmnaaGreat
