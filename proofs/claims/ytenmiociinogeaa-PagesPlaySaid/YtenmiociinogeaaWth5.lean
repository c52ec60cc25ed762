/- Package pages: a pair comes into a page, and a page is split. -/
import Derived.Test.YtenmiociinogeaaLst5
namespace Go.Proofs.Ytenmiociinogeaa
open Go.RowKit

section
variable {w w' : World} {S : Nat → Prop} {q o c : Nat} {hs : List Pgh} {P : List Pg}
theorem LsN.lenP (h : LsN w S q o c hs P) {i : Nat} (hi : i < hs.length) : i < P.length := by rw [← h.len]; exact hi
/-- A list in the place of another one: what a call leaves. -/
def LLeft (w : World) (S : Nat → Prop) (P' : List Pg) (e : Ending) (w' : World) : Prop :=
  ∃ q' o' c' hs', e = .returned (.slice (some ⟨q', o', none⟩) hs'.length c') ∧ LsN w' (Sx S w w') q' o' c' hs' P' ∧ Fr S w w'
theorem LLeft.sx {w1 w2 : World} {P' : List Pg} {e : Ending} (hlt : ∀ k, S k → k < w.heap.size) (hf : Fr S w w1) (h : LLeft w1 (Sx S w w1) P' e w2) : LLeft w S P' e w2 := by
  obtain ⟨q', o', c', hs', rfl, h1, h2⟩ := h
  have h3 := hf.sx h2
  exact ⟨q', o', c', hs', rfl, h1.mono (Sx.trans hf.size h2.size) (Sx.lt hlt h3.size), h3⟩
theorem set_ins {α : Type} (l : List α) (i : Nat) (x y : α) (hi : i < l.length) : insL (l.set i x) [y] (i + 1) = l.take i ++ [x, y] ++ l.drop (i + 1) := by
  unfold insL
  rw [← set_as l i x hi, List.take_append_of_le_length (by simp; omega), List.drop_append_of_le_length (by simp; omega), List.take_of_length_le (by simp; omega), List.drop_eq_nil_of_le (by simp; omega)]
  simp

set_option maxHeartbeats 4000000 in
set_option maxRecDepth 100000 in
theorem split_any (i : Nat) (h : LsN w S q o c hs P) (hn : hs.length ≤ 2000) (hi : i < hs.length) (h5 : 5 ≤ (P.getD i []).length) (h9 : (P.getD i []).length ≤ 1000) :
    Calls Try.prog 44 #[.slice (some ⟨q, o, none⟩) hs.length c, .int .i64 i] w (LLeft w S (setP P i 1 [(P.getD i []).take 4, (P.getD i []).drop 4])) := by
  have hiP := h.lenP hi
  have hgd : P.getD i [] = P[i] := by simp [List.getD, hiP]
  rw [hgd] at h5 h9 ⊢
  have hp := h.pg i hi hiP
  obtain ⟨x, hx⟩ : ∃ x, x = hs[i] := ⟨_, rfl⟩
  have hcell := h.hdr hi
  obtain ⟨l, hl⟩ : ∃ l, l = P[i] := ⟨_, rfl⟩
  rw [← hx] at hp hcell
  rw [← hl] at hp h5 h9 ⊢
  have hlen := hp.len
  have hle := hp.le
  have hmax := hp.max
  have hp4 : PgA w ⟨x.g, x.o, 4, 4⟩ (l.take 4) := ⟨by rw [List.length_take]; show 4 = min 4 l.length; omega, Nat.le_refl _, by show 4 ≤ maxLen; unfold maxLen; omega, by
    have := hp.rg.part 0 4 (prs (l.take 4)) (by omega) (by rw [prs_len, List.length_take]; omega) (fun j u hu => by
      rw [← prs_take, List.getElem?_take] at hu
      split at hu
      · rw [Nat.zero_mul, Nat.zero_add]; exact hu
      · cases hu)
    simpa using this⟩
  have hp5 : PgA w ⟨x.g, x.o + 8, x.n - 4, x.c - 4⟩ (l.drop 4) := ⟨by rw [List.length_drop, ← hlen], by show x.n - 4 ≤ x.c - 4; omega, by show x.c - 4 ≤ maxLen; omega, by
    have := hp.rg.part 4 (x.c - 4) (prs (l.drop 4)) (by omega) (by rw [prs_len, List.length_drop]; omega) (fun j u hu => by
      rw [← prs_drop, List.getElem?_drop] at hu
      exact hu)
    exact this⟩
  have hset := h.set hi (x := ⟨x.g, x.o, 4, 4⟩) (l := l.take 4) (Fc.refl _ _ _ w) hp4 (.inl (by rw [← hx]; exact ⟨rfl, Nat.le_refl _, by show x.o + 4 * 2 ≤ x.o + x.c * 2; omega⟩))
  obtain ⟨w1, hw1⟩ : ∃ w1, w1 = w.setCell ⟨q, o + i, none⟩ (Pgh.val ⟨x.g, x.o, 4, 4⟩) := ⟨_, rfl⟩
  rw [← hw1] at hset
  obtain ⟨hL1, hF1⟩ := hset
  have hqx : x.g ≠ q := fun e => h.hd.apart hp.rg (by decide) e.symm
  have hp51 : PgA w1 ⟨x.g, x.o + 8, x.n - 4, x.c - 4⟩ (l.drop 4) := by
    rw [hw1]
    exact hp5.fr ((Fr.refl (fun k => k = q) w).setCell (p := ⟨q, o + i, none⟩) (.inl rfl) _) hqx
  have hxm : x ∈ hs := hx ▸ List.getElem_mem hi
  have hap : ∀ y ∈ hs.set i ⟨x.g, x.o, 4, 4⟩, Apt y ⟨x.g, x.o + 8, x.n - 4, x.c - 4⟩ := fun y hy => by
    obtain ⟨j, hj, rfl⟩ := List.mem_iff_getElem.1 hy
    have hj' : j < hs.length := by simpa using hj
    by_cases e : j = i
    · subst e
      rw [List.getElem_set_self]
      right; left
      show x.o + 4 * 2 ≤ x.o + 8
      omega
    · rw [List.getElem_set_ne (Ne.symm e)]
      have hA : Apt hs[j] hs[i] := by
        have hP := List.pairwise_iff_getElem.1 h.ap
        rcases Nat.lt_or_gt_of_ne e with h1 | h1
        · exact hP j i hj' hi h1
        · exact (hP i j hi hj' h1).symm
      rw [← hx] at hA
      unfold Apt at hA ⊢
      simp only
      omega
  have hn1 : (hs.set i ⟨x.g, x.o, 4, 4⟩).length = hs.length := by simp
  have hxS : Sx S w w1 x.g := .inl (h.sg x hxm)
  obtain ⟨pv, hpv⟩ : ∃ pv : Value, pv = Pgh.val ⟨x.g, x.o + 8, x.n - 4, x.c - 4⟩ := ⟨_, rfl⟩
  have Hins : Hid (∀ W, Fr No w1 W → ∀ b, Bk W b 72 #[pv] → w1.heap.size ≤ b → Calls Try.prog 53 #[.slice (some ⟨q, o, none⟩) hs.length c, .int .i64 ((i : Int) + 1), .slice (some ⟨b, 0, none⟩) 1 1] W (LLeft w1 (Sx S w w1) (setP P i 1 [l.take 4, l.drop 4]))) := Lib.hid (fun W hW b hb hbl => by
    have hLW := hL1.since hW
    have hc := insPg_any (g := q) (o := o) (n := hs.length) (c := c) (i := i + 1) (b := b) (xs := (hs.set i ⟨x.g, x.o, 4, 4⟩).map Pgh.val) (us := [pv]) (w := W) (by simp) (by omega) (by omega) (by rw [← hn1]; exact hLW.le) hLW.max
      (by intro u hu; obtain ⟨y, _, rfl⟩ := List.mem_map.1 hu; rfl) rfl (by intro u hu; rw [List.mem_singleton.1 hu, hpv]; rfl) hLW.hd ⟨by simp, _, hb, by simp, fun j u hu => by rw [Nat.zero_add]; simpa using hu⟩
      (fun e => by have := hL1.lt q hL1.sq; omega)
    refine hc.mono ?_
    rintro e w2 ⟨q', o', c', rfl, a1, a2, a3, a4, a5⟩
    rw [Nat.mul_one] at a3 a4
    rw [hpv] at a3
    have := hLW.ins (i := i + 1) (x := ⟨x.g, x.o + 8, x.n - 4, x.c - 4⟩) (l := l.drop 4) (by rw [hn1]; omega) (hp51.since hW) hap hxS (by rw [hn1]; exact a1) a2 a3 a4 a5
    rw [set_ins P i _ _ hiP] at this
    have hfx := (hW.weak (S' := Sx S w w1) (fun _ _ e => e.elim)).trans' this.2 (fun _ _ e => e)
    refine ⟨q', o', c', _, by rw [insL_len, hn1]; rfl, this.1.mono (fun k hk => ?_) (fun k hk => ?_), hfx⟩
    · have h6 := hW.size
      rcases hk with hk | hk
      · exact .inl hk
      · exact .inr ⟨by omega, hk.2⟩
    · have h7 := hfx.size
      rcases hk with hk | hk
      · have := hL1.lt k hk; omega
      · exact hk.2)
  have HL : Hid (∀ e w2, LLeft w1 (Sx S w w1) (setP P i 1 [l.take 4, l.drop 4]) e w2 → LLeft w S (setP P i 1 [l.take 4, l.drop 4]) e w2) := Lib.hid (fun e w2 h2 => h2.sx h.lt hF1)
  have hfz := h.hd.froz (o + i)
  unfold Pgh.val at hcell hpv hw1
  have Hw1 := Lib.hid hw1
  have hx5 : 5 ≤ x.n := by omega
  have hcm : x.c ≤ 9223372036854775807 := by unfold maxLen at hmax; omega
  have hx9 : x.n ≤ 1000 := by omega
  generalize setP P i 1 [l.take 4, l.drop 4] = P' at *
  have hin : i < hs.length := hi
  clear hw1 hp hp4 hp5 hp51 hL1 hF1 hap h hx hl hgd hqx hxm hn1 hxS hlen hiP hi
  generalize hs.length = n at *
  obtain ⟨xg, xo, xn, xc⟩ := x
  simp only at *
  have hc4 : xc ≠ 4 := by omega
  have hc5 : 4 ≤ xc := by omega
  have hc6 : 4 ≤ xn := by omega
  have hc7 : (4 : Int) ≤ (xc : Int) := by omega
  have hc8 : (4 : Int) ≤ (xn : Int) := by omega
  go_enter Try.func44, Try.ntmps44
  go_wp2_with fail
  have hsz : w1.heap.size = w.heap.size := by rw [Hw1.out]; simp [World.setCell]
  rw [← Hw1.out]
  refine (Hins.out _ ((Fr.refl No w1).alloc _) w.heap.size (by rw [hpv, ← hsz]; exact Bk.made w1 _ _) (by omega)).mono ?_
  intro e w2 hL
  obtain ⟨q', o', c', hs', rfl, r1, r2⟩ := HL.out e w2 hL
  clear HL Hins Hw1
  go_wp2
  go_ret
  exact ⟨q', o', c', hs', rfl, r1, r2⟩

/-- Pages once a pair has come into one of them. -/
def withP (P : List Pg) (i : Nat) (L : Pg) : List Pg := if 8 < L.length then setP P i 1 [L.take 4, L.drop 4] else setP P i 1 [L]

set_option maxHeartbeats 4000000 in
set_option maxRecDepth 100000 in
theorem with_any (i a : Nat) (k : Nat) (v : Int) (h : LsN w S q o c hs P) (hn : hs.length ≤ 2000) (hi : i < hs.length) (ha : a ≤ (P.getD i []).length) (h9 : (P.getD i []).length ≤ 900) :
    Calls Try.prog 32 #[.slice (some ⟨q, o, none⟩) hs.length c, .int .i64 i, .int .i64 a, .agg #[.int .i64 k, .int .i64 v]] w (LLeft w S (withP P i (insL (P.getD i []) [(k, v)] a))) := by
  have hiP := h.lenP hi
  have hgd : P.getD i [] = P[i] := by simp [List.getD, hiP]
  rw [hgd] at ha h9 ⊢
  have hp := h.pg i hi hiP
  obtain ⟨x, hx⟩ : ∃ x, x = hs[i] := ⟨_, rfl⟩
  obtain ⟨l, hl⟩ : ∃ l, l = P[i] := ⟨_, rfl⟩
  rw [← hx] at hp
  rw [← hl] at hp ha h9 ⊢
  have hlen := hp.len
  have hle := hp.le
  have hmax := hp.max
  have hcell : Hid (∀ W, Fr No w W → W.cell? ⟨q, o + i, none⟩ = some x.val) := Lib.hid (fun W hW => by rw [hx]; exact (h.since hW).hdr hi)
  have Hins : Hid (∀ W, Fr No w W → ∀ b, Bk W b 50 #[.int .i64 k, .int .i64 v] → w.heap.size ≤ b → Calls Try.prog 43 #[x.val, .int .i64 a, .slice (some ⟨b, 0, none⟩) 1 1] W fun e w3 =>
      ∃ y : Pgh, e = .returned y.val ∧ y.n = x.n + 1 ∧ (w3.cell? ⟨q, o + i, none⟩).isSome = true ∧ w3.frozen? ⟨q, o + i, none⟩ = false ∧
        LsN (w3.setCell ⟨q, o + i, none⟩ y.val) (Sx S w (w3.setCell ⟨q, o + i, none⟩ y.val)) q o c (hs.set i y) (P.set i (insL l [(k, v)] a)) ∧ Fr S w (w3.setCell ⟨q, o + i, none⟩ y.val)) := Lib.hid (fun W hW b hb hbl => by
    have hLW := h.since hW
    have hpW := hp.since hW
    have hxg := h.lt _ (h.sg x (hx ▸ List.getElem_mem hi))
    have hc := insPr_any (g := x.g) (o := x.o) (n := x.n) (c := x.c) (i := a) (b := b) (xs := prs l) (us := [.int .i64 k, .int .i64 v]) (w := W) (by rw [prs_len, hlen]) (by omega) (by omega) hle hmax (prs_one l) rfl
      (by intro u hu; simp at hu; rcases hu with rfl | rfl <;> rfl) hpW.rg ⟨by simp, _, hb, by simp, fun j u hu => by rw [Nat.zero_add]; simpa using hu⟩ (fun e => by omega)
    refine hc.mono ?_
    rintro e w3 ⟨g', o', c', rfl, a1, a2, a3, a4, a5⟩
    have hy : PgA w3 ⟨g', o', x.n + 1, c'⟩ (insL l [(k, v)] a) := ⟨by rw [insL_len, ← hlen]; rfl, a1, a2, by
      have e1 : prs (insL l [(k, v)] a) = insL (prs l) [.int .i64 k, .int .i64 v] (a * 2) := by
        unfold insL
        rw [prs_app, prs_app, prs_take, prs_drop]
        rfl
      rw [e1]
      exact a3⟩
    have hset := hLW.set hi (x := ⟨g', o', x.n + 1, c'⟩) (l := insL l [(k, v)] a) (by rw [← hx]; exact a4) hy (by
      rw [← hx]
      rcases a5 with ⟨e1, e2, e3⟩ | e1
      · exact .inl ⟨e1, by show x.o ≤ o'; omega, Nat.le_of_eq (by show o' + c' * 2 = _; rw [e2, e3])⟩
      · exact .inr e1)
    have hq3 : Rg w3 72 1 q o c (hs.map Pgh.val) := hLW.hd.fc a4 (.inl (fun e => h.hd.apart hp.rg (by decide) e))
    have hlc := h.le
    refine ⟨⟨g', o', x.n + 1, c'⟩, rfl, rfl, hq3.there (by omega), hq3.froz _, hset.1.mono (fun k hk => ?_) (fun k hk => ?_), (hW.weak (S' := S) (fun _ _ e => e.elim)).trans' hset.2 (fun _ _ e => e)⟩
    · have h6 := hW.size
      rcases hk with hk | hk
      · exact .inl hk
      · exact .inr ⟨by omega, hk.2⟩
    · have h7 := hW.size
      have h8 := hset.2.size
      rcases hk with hk | hk
      · have := h.lt k hk; omega
      · exact hk.2)
  have Hlt := Lib.hid h.lt
  have HLs := Lib.hid (show ∀ W y, LsN W (Sx S w W) q o c (hs.set i y) (P.set i (insL l [(k, v)] a)) → Fr S w W → 8 < l.length + 1 → Calls Try.prog 44 #[.slice (some ⟨q, o, none⟩) hs.length c, .int .i64 i] W (LLeft w S (withP P i (insL l [(k, v)] a))) from fun W y hW hF h8 => by
    have hg2 : (P.set i (insL l [(k, v)] a)).getD i [] = insL l [(k, v)] a := by simp [List.getD, hiP]
    have hl2 : (insL l [(k, v)] a).length = l.length + 1 := by rw [insL_len]; rfl
    have hs := split_any i hW (by simpa using hn) (by simpa using hi) (by rw [hg2, hl2]; omega) (by rw [hg2, hl2]; omega)
    rw [hg2] at hs
    have e1 : setP (P.set i (insL l [(k, v)] a)) i 1 [(insL l [(k, v)] a).take 4, (insL l [(k, v)] a).drop 4] = withP P i (insL l [(k, v)] a) := by
      unfold withP
      rw [if_pos (by omega)]
      unfold setP
      rw [set_take _ _ _ _ (Nat.le_refl i), set_drop _ _ _ _ (by omega)]
    rw [e1, List.length_set] at hs
    exact hs.mono (fun e w2 h2 => h2.sx Hlt.out hF))
  have HEn := Lib.hid (show ∀ W y, LsN W (Sx S w W) q o c (hs.set i y) (P.set i (insL l [(k, v)] a)) → Fr S w W → ¬ 8 < l.length + 1 → LLeft w S (withP P i (insL l [(k, v)] a)) (.returned (.slice (some ⟨q, o, none⟩) hs.length c)) W from fun W y hW hF h8 => by
    have hl2 : (insL l [(k, v)] a).length = l.length + 1 := by rw [insL_len]; rfl
    refine ⟨q, o, c, hs.set i y, by rw [List.length_set], ?_, hF⟩
    unfold withP
    rw [if_neg (by omega)]
    unfold setP
    rw [set_as _ _ _ hiP]
    exact hW)
  have Hc4 := Lib.hid (show ∀ W y, LsN W (Sx S w W) q o c (hs.set i y) (P.set i (insL l [(k, v)] a)) → W.cell? ⟨q, o + i, none⟩ = some y.val from fun W y hW => by
    have := hW.hdr (i := i) (by simpa using hi)
    simpa using this)
  have h8b := hlen
  have hin : i < hs.length := hi
  have hx9 : x.n ≤ 1000 := by omega
  have Hlen := Lib.hid hlen
  clear hp hgd hle hmax h hx hl hlen hiP hi ha h8b
  generalize withP P i (insL l [(k, v)] a) = P' at *
  generalize hs.length = n at *
  have hn0 : (n : Int) ≠ 0 := by omega
  have hnb : ((n : Int) == 0) = false := by simp; omega
  have hc1 := hcell.out _ ((Fr.refl No w).alloc (.cells #[.int .i64 (k : Int), .int .i64 v] 50))
  have hc2 := hcell.out _ (((Fr.refl No w).alloc (.cells #[.int .i64 (k : Int), .int .i64 v] 50)).alloc (.cells #[.int .i64 (k : Int), .int .i64 v] 50))
  obtain ⟨xg, xo, xn, xc⟩ := x
  unfold Pgh.val at hc1 hc2
  simp only at *
  have b1 := Bk.made w 50 #[.int .i64 (k : Int), .int .i64 v]
  have x0 : (w.alloc (.cells #[.int .i64 (k : Int), .int .i64 v] 50)).cell? ⟨w.heap.size, 0, none⟩ = some (.int .i64 (k : Int)) := b1.cell 0
  have x1 : (w.alloc (.cells #[.int .i64 (k : Int), .int .i64 v] 50)).cell? ⟨w.heap.size, 1, none⟩ = some (.int .i64 v) := b1.cell 1
  clear b1
  go_enter Try.func32, Try.ntmps32
  go_wp2_with fail

  first | go_region_with (first
    | (go_at_call 43
       refine (Hins.out _ (by first | exact (((Fr.refl No w).alloc _).drew).alloc _ | exact (((Fr.refl No w).alloc _).alloc _).drew) (w.heap.size + 1) (by first | exact Bk.made1 w _ _ _ | exact (Bk.made1 w _ _ _).drew) (by omega)).mono ?_
       rintro e w3 ⟨⟨yg, yo, yn, yc⟩, rfl, hyn, z0, z1, hL, hF⟩
       have HL := Lib.hid hL
       have HF := Lib.hid hF
       obtain ⟨u0, z2⟩ := Option.isSome_iff_exists.1 z0
       clear hL hF z0
       dsimp only [Pgh.val] at hyn HL HF ⊢)) | fail
  all_goals
    subst hyn
    obtain ⟨w4, hw4⟩ : ∃ w4, w4 = w3.setCell ⟨q, o + i, none⟩ (.slice (some ⟨yg, yo, none⟩) (xn + 1) yc) := ⟨_, rfl⟩
    rw [← hw4] at HL HF ⊢
    have hc4 := Hc4.out w4 _ HL.out
    dsimp only [Pgh.val] at hc4
    clear hw4 hc1 hc2 x0 x1 z1 z2 Hins hcell
    by_cases h8 : 8 < xn + 1
    · have hsp := HLs.out w4 _ HL.out HF.out (by rw [← Hlen.out]; exact h8)
      have h8' : (8 : Int) < (xn : Int) + 1 := by omega
      clear HLs HEn HL HF Hc4 h8
      go_wp2_with fail
      refine hsp.mono ?_
      rintro e w5 ⟨q', o', c', hs', rfl, r1, r2⟩
      clear hsp
      go_wp2
      go_ret
      exact ⟨q', o', c', hs', rfl, r1, r2⟩
    · have hen := Lib.hid (HEn.out w4 _ HL.out HF.out (by rw [← Hlen.out]; exact h8))
      have h8' : ¬ (8 : Int) < (xn : Int) + 1 := by omega
      clear HLs HEn HL HF Hc4 h8
      go_wp2
      go_ret
      exact hen.out
end
end Go.Proofs.Ytenmiociinogeaa
