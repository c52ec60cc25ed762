/- Package pages: two pages become one. -/
import Derived.Test.YtenmiociinogeaaWot5
namespace Go.Proofs.Ytenmiociinogeaa
open Go.RowKit

section
variable {w w' : World} {S : Nat → Prop} {q o c : Nat} {hs : List Pgh} {P : List Pg}
/-- The library's Delete on a list of pages, and what is left. -/
theorem cut_page (i : Nat) (h : LsN w S q o c hs P) (hn : hs.length ≤ 2000) (hi : i < hs.length) :
    Calls Try.prog 40 #[.slice (some ⟨q, o, none⟩) hs.length c, .int .i64 i, .int .i64 ((i : Int) + 1)] w (LLeft w S (outL P i)) := by
  have hd := delPg q o hs.length c i (hs.map Pgh.val) w (by simp) (by omega) hi h.le h.max (by intro u hu; obtain ⟨y, _, rfl⟩ := List.mem_map.1 hu; rfl) h.hd
  refine hd.mono ?_
  rintro e w2 ⟨rfl, h1, h2⟩
  rw [Nat.mul_one] at h1 h2
  rw [Nat.mul_one] at h1
  have hout := h.out (w' := w2) hi h1 h2
  exact ⟨q, o, c, outL hs i, by rw [outL_len _ _ hi], hout.1, hout.2⟩
theorem prs_snoc (a b : Pg) : prs (a ++ b) = prs a ++ prs b := prs_app a b

/-- Behind the joining of two pages' pairs, ahead of the list's. -/
def Joined (w : World) (S : Nat → Prop) (q o c i : Nat) (hs : List Pgh) (P : List Pg) (W : World) (g' o' n' c' : Nat) : Prop :=
  LsN (W.setCell ⟨q, o + i, none⟩ (.slice (some ⟨g', o', none⟩) n' c')) (Sx S w (W.setCell ⟨q, o + i, none⟩ (.slice (some ⟨g', o', none⟩) n' c'))) q o c (hs.set i ⟨g', o', n', c'⟩) (P.set i (P.getD i [] ++ P.getD (i + 1) [])) ∧
    Fr S w (W.setCell ⟨q, o + i, none⟩ (.slice (some ⟨g', o', none⟩) n' c'))

set_option maxHeartbeats 8000000 in
set_option maxRecDepth 100000 in
theorem join_any (i : Nat) (h : LsN w S q o c hs P) (hn : hs.length ≤ 2000) (hi : i + 1 < hs.length) (hl : ∀ p ∈ P, p.length ≤ 1000) :
    Calls Try.prog 42 #[.slice (some ⟨q, o, none⟩) hs.length c, .int .i64 i] w (LLeft w S (setP P i 2 [P.getD i [] ++ P.getD (i + 1) []])) := by
  have hi0 : i < hs.length := by omega
  have hP0 := h.lenP hi0
  have hP1 := h.lenP hi
  have g0 : P.getD i [] = P[i] := by simp [List.getD, hP0]
  have g1 : P.getD (i + 1) [] = P[i + 1] := by simp [List.getD, hP1]
  have p0 := h.pg i hi0 hP0
  have p1 := h.pg (i + 1) hi hP1
  have l0 := hl _ (List.getElem_mem hP0)
  have l1 := hl _ (List.getElem_mem hP1)
  obtain ⟨x, hx⟩ : ∃ x, x = hs[i] := ⟨_, rfl⟩
  obtain ⟨y, hy⟩ : ∃ y, y = hs[i + 1] := ⟨_, rfl⟩
  have x0 := h.hdr hi0
  have x1 := h.hdr hi
  rw [← hx] at p0 x0
  rw [← hy] at p1 x1
  rw [← g0] at p0 l0
  rw [← g1] at p1 l1
  have e0 := p0.len
  have e1 := p1.len
  have le0 := p0.le
  have mx0 := p0.max
  have hqx : q ≠ x.g := h.hd.apart p0.rg (by decide)
  have hpo : outL (P.set i (P.getD i [] ++ P.getD (i + 1) [])) (i + 1) = setP P i 2 [P.getD i [] ++ P.getD (i + 1) []] := by
    unfold outL setP
    rw [set_drop _ _ _ _ (by omega), show i + 1 + 1 = i + 2 by omega]
    congr 1
    rw [← set_as P i _ hP0, List.take_append_of_le_length (by simp; omega), List.take_of_length_le (by simp; omega)]
  have HE := Lib.hid (show ∀ W g' o' n' c', Joined w S q o c i hs P W g' o' n' c' → Calls Try.prog 40 #[.slice (some ⟨q, o, none⟩) hs.length c, .int .i64 ((i : Int) + 1), .int .i64 ((i : Int) + 2)] (W.setCell ⟨q, o + i, none⟩ (.slice (some ⟨g', o', none⟩) n' c')) (LLeft w S (setP P i 2 [P.getD i [] ++ P.getD (i + 1) []])) from fun W g' o' n' c' hJ => by
    have hc := cut_page (i + 1) hJ.1 (by simpa using hn) (by simpa using hi)
    rw [hpo, List.length_set, show ((i + 1 : Nat) : Int) = (i : Int) + 1 by omega, show (i : Int) + 1 + 1 = (i : Int) + 2 by omega] at hc
    exact hc.mono (fun e w2 h2 => h2.sx h.lt hJ.2))
  have hct : ∀ W, (∃ W0, Fr No w W0 ∧ Fc x.g x.o (x.o + x.c * 2) W0 W) → (W.cell? ⟨q, o + i, none⟩) = some x.val ∧ W.frozen? ⟨q, o + i, none⟩ = false := fun W hW => by
    obtain ⟨W0, f0, f1⟩ := hW
    have hq1 : Rg W 72 1 q o c (hs.map Pgh.val) := (h.since f0).hd.fc f1 (.inl hqx)
    exact ⟨by rw [hx]; exact hq1.cell (by simp [hi0]), hq1.froz _⟩
  have HJ := Lib.hid (show ∀ W g' o' c', (∃ W0, Fr No w W0 ∧ Fc x.g x.o (x.o + x.c * 2) W0 W) → PgA W ⟨g', o', x.n + y.n, c'⟩ (P.getD i [] ++ P.getD (i + 1) []) → ((g' = x.g ∧ o' = x.o ∧ c' = x.c) ∨ w.heap.size ≤ g') → Joined w S q o c i hs P W g' o' (x.n + y.n) c' from fun W g' o' c' hW hp hg => by
    obtain ⟨W0, f0, f1⟩ := hW
    have hs0 := f0.size
    have hs1 := f1.size
    have hset := h.set (w' := W) hi0 (x := ⟨g', o', x.n + y.n, c'⟩) (l := P.getD i [] ++ P.getD (i + 1) []) (by rw [← hx]; exact (Fc.of0 _ _ _ f0).trans f1) hp (by
      rw [← hx]
      rcases hg with ⟨a1, a2, a3⟩ | a1
      · exact .inl ⟨a1, by show x.o ≤ o'; omega, Nat.le_of_eq (by show o' + c' * 2 = _; rw [a2, a3])⟩
      · exact .inr a1)
    exact hset)
  have hwl := h.lt _ (h.sg x (hx ▸ List.getElem_mem hi0))
  have Hct := Lib.hid hct
  have hin : (i : Int) + 1 < (hs.length : Int) := by omega
  have hin0 : i < hs.length := hi0
  have ht : ((i : Int) + 1).toNat = i + 1 := by omega
  have hw1 : IntKind.i64.wrap ((i : Int) + 1) = (i : Int) + 1 := by rw [IntKind.wrap_i64]; omega
  have hge : (0 : Int) ≤ (i : Int) + 1 := by omega
  generalize setP P i 2 [P.getD i [] ++ P.getD (i + 1) []] = P' at *
  obtain ⟨xg, xo, xn, xc⟩ := x
  obtain ⟨yg, yo, yn, yc⟩ := y
  unfold Pgh.val at x0 x1
  simp only at x0 x1 e0 e1 le0 mx0 hwl
  have hn0 : xn ≤ 1000 := by omega
  have hn1 : yn ≤ 1000 := by omega
  obtain ⟨i0, hi2, hz0, hz1, hz2⟩ := info_parts info_pair
  by_cases hroom : xn + yn ≤ xc
  · have s1 : Hid ((prs (P.getD (i + 1) [])).length = yn * 2) := Lib.hid (by rw [prs_len]; omega)
    have s2 : Hid (∀ j u, (prs (P.getD (i + 1) []))[j]? = some u → w.drew.cell? ((⟨yg, yo, none⟩ : Addr).add j) = some u) := Lib.hid (fun j u hu => by rw [Addr.add_lit]; exact p1.rg.drew.cell hu)
    have s3 : Hid (∀ j, j < (prs (P.getD (i + 1) [])).length → (w.drew.cell? ⟨xg, xo + xn * 2 + j, none⟩).isSome = true ∧ w.drew.frozen? ⟨xg, xo + xn * 2 + j, none⟩ = false) := Lib.hid (fun j hj => by
      rw [Nat.add_assoc]
      exact ⟨p0.rg.drew.there (by rw [prs_len] at hj; show xn * 2 + j < xc * 2; omega), p0.rg.drew.froz _⟩)
    obtain ⟨W1, hW1⟩ : ∃ W1, W1 = w.drew.setCells xg (xo + xn * 2) (prs (P.getD (i + 1) [])) := ⟨_, rfl⟩
    have hfc : Fc xg xo (xo + xc * 2) w.drew W1 := by
      rw [hW1]
      exact (Fc.refl xg xo (xo + xc * 2) w.drew).cells _ (by omega) (by rw [prs_len]; omega)
    have hW0 : ∃ W0, Fr No w W0 ∧ Fc xg xo (xo + xc * 2) W0 W1 := ⟨w.drew, (Fr.refl No w).drew, hfc⟩
    have hpg : PgA W1 ⟨xg, xo, xn + yn, xc⟩ (P.getD i [] ++ P.getD (i + 1) []) := ⟨by rw [List.length_append]; show xn + yn = _; omega, hroom, mx0, by
      rw [hW1]
      refine p0.rg.drew.put (xn * 2) _ _ (by rw [prs_len]; show xn * 2 + _ ≤ xc * 2; omega) (by rw [prs_len, List.length_append]; show _ ≤ xc * 2; omega) (fun j u hu => ?_)
      rw [prs_app, List.getElem?_append] at hu
      have hl0 : (prs (P.getD i [])).length = xn * 2 := by rw [prs_len]; omega
      rw [hl0] at hu
      by_cases hj : j < xn * 2
      · rw [if_pos hj] at hu
        exact .inr ⟨.inl hj, hu⟩
      · rw [if_neg hj] at hu
        exact .inl ⟨by omega, hu⟩⟩
    obtain ⟨z0, z1⟩ := hct W1 hW0
    unfold Pgh.val at z0
    simp only at z0
    have HJ1 := Lib.hid (HJ.out W1 xg xo xc hW0 hpg (.inl ⟨rfl, rfl, rfl⟩))
    have hcal := HE.out W1 xg xo (xn + yn) xc HJ1.out
    have HW : Hid (W1 = w.drew.setCells xg (xo + xn * 2) (prs (P.getD (i + 1) []))) := Lib.hid hW1
    have s4 := prs_one (P.getD (i + 1) [])
    have Hs4 := Lib.hid s4
    have Hmx := Lib.hid mx0
    clear s4 hpg hW0 hfc hW1 HJ HJ1 HE Hct hct hpo hP0 hP1 hqx hx hy h hl g0 g1 p0 p1 l0 l1 e0 e1 mx0 hz0 hz2
    have hxc : xc ≤ 9223372036854775807 := by have := Hmx.out; unfold maxLen at this; omega
    generalize hs.length = z at *
    clear hi hi0
    go_enter Try.func42, Try.ntmps42
    go_wp2_with fail
    go_region_law (refine step_append_room rfl (.tmp 11) (.tmp 17) 70 rfl 50 i0 2 Try.underlying70 hi2 hz1 xg xo xn xc (by simp [Act.eval]) ⟨yg, yo, none⟩ yn yc (prs (P.getD (i + 1) [])) (by simp [Act.eval]) s1.out s2.out Hs4.out (by omega) s3.out ?_; rw [← HW.out])
    all_goals
      go_wp2_with fail
      refine hcal.mono ?_
      rintro e w3 ⟨q', o', c', hs', rfl, r1, r2⟩
      clear hcal
      go_wp2
      go_ret
      exact ⟨q', o', c', hs', rfl, r1, r2⟩
  · have s1 : Hid ((prs (P.getD (i + 1) [])).length = yn * 2) := Lib.hid (by rw [prs_len]; omega)
    have s0 : Hid ((prs (P.getD i [])).length = xn * 2) := Lib.hid (by rw [prs_len]; omega)
    have s2 : Hid (∀ j u, (prs (P.getD (i + 1) []))[j]? = some u → w.drew.cell? ((⟨yg, yo, none⟩ : Addr).add j) = some u) := Lib.hid (fun j u hu => by rw [Addr.add_lit]; exact p1.rg.drew.cell hu)
    have s3 : Hid (∀ b, (some ⟨xg, xo, none⟩ : Option Addr) = some b → ∀ j u, (prs (P.getD i []))[j]? = some u → w.drew.cell? (b.add j) = some u) := Lib.hid (fun b hb j u hu => by
      injection hb with hb
      subst hb
      rw [Addr.add_lit]
      exact p0.rg.drew.cell hu)
    have HG := Lib.hid (show ∀ v' W, W.ownsRow w.drew.heap.size 50 2 v' (xn + yn) (prs (P.getD i []) ++ prs (P.getD (i + 1) [])) → w.drew.grownBy W none → 0 < xn + yn → ∃ g' c', v' = .slice (some ⟨g', 0, none⟩) (xn + yn) c' ∧ W.cell? ⟨q, o + i, none⟩ = some (.slice (some ⟨xg, xo, none⟩) xn xc) ∧ W.frozen? ⟨q, o + i, none⟩ = false ∧
        Calls Try.prog 40 #[.slice (some ⟨q, o, none⟩) hs.length c, .int .i64 ((i : Int) + 1), .int .i64 ((i : Int) + 2)] (W.setCell ⟨q, o + i, none⟩ (.slice (some ⟨g', 0, none⟩) (xn + yn) c')) (LLeft w S P') from fun v' W hown hgrow hpos => by
      obtain ⟨A', c', rfl, -, -, -⟩ := own_shape hown
      obtain ⟨g', rfl, hb, hnc, hcm, hrg⟩ := Rg.ofOwn hown hpos
      have hF : Fr No w W := ((Fr.refl No w).drew).grown hgrow (fun k e => by cases e)
      have hW0 : ∃ W0, Fr No w W0 ∧ Fc xg xo (xo + xc * 2) W0 W := ⟨W, hF, Fc.refl _ _ _ W⟩
      obtain ⟨z0, z1⟩ := hct W hW0
      have hpg : PgA W ⟨g', 0, xn + yn, c'⟩ (P.getD i [] ++ P.getD (i + 1) []) := ⟨by rw [List.length_append]; show xn + yn = _; omega, hnc, hcm, by rw [prs_app]; exact hrg⟩
      exact ⟨g', c', rfl, z0, z1, HE.out W g' 0 (xn + yn) c' (HJ.out W g' 0 c' hW0 hpg (.inr hb))⟩)
    have Hs4 := Lib.hid (prs_one (P.getD (i + 1) []))
    have Hmx := Lib.hid mx0
    clear HJ HE Hct hct hpo hP0 hP1 hqx hx hy h hl g0 g1 p0 p1 l0 l1 e0 e1 mx0
    have hxc : xc ≤ 9223372036854775807 := by have := Hmx.out; unfold maxLen at this; omega
    have hpos : 0 < xn + yn := by omega
    generalize hs.length = z at *
    clear hi hi0
    go_enter Try.func42, Try.ntmps42
    go_wp2_with fail
    go_region_law (refine step_append_grows rfl (.tmp 11) (.tmp 17) 70 rfl 50 i0 _ 2 16 Try.underlying70 hi2 hz0 hz1 hz2 rfl (by omega) (some ⟨xg, xo, none⟩) xn xc (prs (P.getD i [])) (by simp [Act.eval]) (fun e => by cases e) s0.out s3.out ⟨yg, yo, none⟩ yn yc (prs (P.getD (i + 1) [])) (by simp [Act.eval]) s1.out s2.out Hs4.out (by omega) (by unfold maxLen; omega) (by omega) ?_
                   intro v' W hown hgrow
                   obtain ⟨g', c', rfl, z0, z1, hcal⟩ := HG.out v' W hown hgrow hpos
                   clear hown hgrow)
    all_goals
      go_wp2_with fail
      refine hcal.mono ?_
      rintro e w3 ⟨q', o', c', hs', rfl, r1, r2⟩
      clear hcal
      go_wp2
      go_ret
      exact ⟨q', o', c', hs', rfl, r1, r2⟩
end
end Go.Proofs.Ytenmiociinogeaa
