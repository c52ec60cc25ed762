/- Package pages: a pair is taken out. -/
import Derived.Test.YtenmiociinogeaaJoi5
namespace Go.Proofs.Ytenmiociinogeaa
open Go.RowKit

/-- The pages once one of them has become L, with what is joined. -/
def delL (P : List Pg) (i : Nat) (L : Pg) : List Pg :=
  if L = [] then setP P i 1 [] else if i + 1 < P.length ∧ L.length + (P.getD (i + 1) []).length ≤ 4 then setP P i 2 [L ++ P.getD (i + 1) []]
  else if 0 < i ∧ (P.getD (i - 1) []).length + L.length ≤ 4 then setP P (i - 1) 2 [P.getD (i - 1) [] ++ L] else setP P i 1 [L]
theorem getD_set_self {α : Type} (P : List α) (i : Nat) (L d : α) (hi : i < P.length) : (P.set i L).getD i d = L := by simp [List.getD, hi]
theorem getD_set_ne {α : Type} (P : List α) (i j : Nat) (L d : α) (h : j ≠ i) : (P.set i L).getD j d = P.getD j d := by simp [List.getD, Ne.symm h]
theorem prs_outL (l : Pg) (a : Nat) : prs (outL l a) = (prs l).take (a * 2) ++ (prs l).drop ((a + 1) * 2) := by
  unfold outL
  rw [prs_app, prs_take, prs_drop]

section
variable {w w' : World} {S : Nat → Prop} {q o c : Nat} {hs : List Pgh} {P : List Pg}
set_option maxHeartbeats 8000000 in
set_option maxRecDepth 100000 in
theorem without_any (i a : Nat) (h : LsN w S q o c hs P) (hn : hs.length ≤ 1000) (hi : i < hs.length) (ha : a < (P.getD i []).length) (hl : ∀ p ∈ P, p.length ≤ 1000) :
    Calls Try.prog 27 #[.slice (some ⟨q, o, none⟩) hs.length c, .int .i64 i, .int .i64 a] w (LLeft w S (delL P i (outL (P.getD i []) a))) := by
  have hP := h.lenP hi
  have g0 : P.getD i [] = P[i] := by simp [List.getD, hP]
  have p0 := h.pg i hi hP
  have l0 := hl _ (List.getElem_mem hP)
  obtain ⟨x, hx⟩ : ∃ x, x = hs[i] := ⟨_, rfl⟩
  have x0 := h.hdr hi
  rw [← hx] at p0 x0
  rw [← g0] at p0 l0
  have e0 := p0.len
  have hqx : q ≠ x.g := h.hd.apart p0.rg (by decide)
  obtain ⟨L, hL⟩ : ∃ L, L = outL (P.getD i []) a := ⟨_, rfl⟩
  have hLl : L.length = x.n - 1 := by rw [hL, outL_len _ _ ha, e0]
  rw [← hL]
  have hd := delPr x.g x.o x.n x.c a (prs (P.getD i [])) w (by rw [prs_len, e0]) (by omega) (by omega) p0.le p0.max (prs_one _) p0.rg
  have hD := hd.mono (R' := fun e w1 => e = .returned (.slice (some ⟨x.g, x.o, none⟩) (x.n - 1) x.c) ∧ w1.cell? ⟨q, o + i, none⟩ = some x.val ∧ w1.frozen? ⟨q, o + i, none⟩ = false ∧
      LsN (w1.setCell ⟨q, o + i, none⟩ (Pgh.val ⟨x.g, x.o, x.n - 1, x.c⟩)) (Sx S w (w1.setCell ⟨q, o + i, none⟩ (Pgh.val ⟨x.g, x.o, x.n - 1, x.c⟩))) q o c (hs.set i ⟨x.g, x.o, x.n - 1, x.c⟩) (P.set i L) ∧ Fr S w (w1.setCell ⟨q, o + i, none⟩ (Pgh.val ⟨x.g, x.o, x.n - 1, x.c⟩))) (by
    rintro e w1 ⟨rfl, h1, h2⟩
    have hle := p0.le
    have hq1 : Rg w1 72 1 q o c (hs.map Pgh.val) := h.hd.fc h2 (.inl hqx)
    have hp : PgA w1 ⟨x.g, x.o, x.n - 1, x.c⟩ L := ⟨by rw [hLl], by show x.n - 1 ≤ x.c; omega, p0.max, by rw [hL, prs_outL]; exact h1⟩
    exact ⟨rfl, by rw [hx]; exact hq1.cell (by simp [hi]), hq1.froz _, h.set hi (by rw [← hx]; exact h2.more (Nat.le_refl _) (by omega)) hp (by rw [← hx]; exact .inl ⟨rfl, Nat.le_refl _, Nat.le_refl _⟩)⟩)
  clear hd
  have hlP1 : ∀ p ∈ P.set i L, p.length ≤ 1000 := fun p hp => by
    rcases List.mem_or_eq_of_mem_set hp with hp | rfl
    · exact hl p hp
    · omega
  have Hlt := Lib.hid h.lt
  -- what each way gives
  have HE : Hid (∀ W, LsN W (Sx S w W) q o c (hs.set i ⟨x.g, x.o, x.n - 1, x.c⟩) (P.set i L) → Fr S w W → x.n - 1 = 0 → Calls Try.prog 40 #[.slice (some ⟨q, o, none⟩) hs.length c, .int .i64 i, .int .i64 ((i : Int) + 1)] W (LLeft w S (delL P i L))) := Lib.hid (fun W hW hF h0 => by
    have hc := cut_page i hW (by simpa using (show hs.length ≤ 2000 by omega)) (by simpa using hi)
    have e1 : outL (P.set i L) i = delL P i L := by
      unfold delL outL setP
      rw [if_pos (List.eq_nil_of_length_eq_zero (by omega)), set_take _ _ _ _ (Nat.le_refl i), set_drop _ _ _ _ (by omega)]
      simp
    rw [e1, List.length_set] at hc
    exact hc.mono (fun e w2 h2 => h2.sx Hlt.out hF))
  have HF1 : Hid (∀ W, LsN W (Sx S w W) q o c (hs.set i ⟨x.g, x.o, x.n - 1, x.c⟩) (P.set i L) → Calls Try.prog 41 #[.slice (some ⟨q, o, none⟩) hs.length c, .int .i64 i] W fun e w' => e = .returned (.bool (fewP (P.set i L) i)) ∧ Fr No W w') := Lib.hid (fun W hW => by
    have := few_any i (by omega) hW (by simp; omega) hlP1
    rwa [List.length_set] at this)
  have HF2 : Hid (∀ W, LsN W (Sx S w W) q o c (hs.set i ⟨x.g, x.o, x.n - 1, x.c⟩) (P.set i L) → Calls Try.prog 41 #[.slice (some ⟨q, o, none⟩) hs.length c, .int .i64 ((i : Int) - 1)] W fun e w' => e = .returned (.bool (decide (0 < i) && fewP (P.set i L) (i - 1))) ∧ Fr No W w') := Lib.hid (fun W hW => by
    by_cases hi0 : i = 0
    · rw [show (decide (0 < i) && fewP (P.set i L) (i - 1)) = false by simp [hi0]]
      exact few_neg _ (by omega) _ _ _ W
    · have := few_any (i - 1) (by omega) hW (by simp; omega) hlP1
      rw [List.length_set, show ((i - 1 : Nat) : Int) = (i : Int) - 1 by omega] at this
      rw [show (decide (0 < i) && fewP (P.set i L) (i - 1)) = fewP (P.set i L) (i - 1) by rw [decide_eq_true (by omega : 0 < i), Bool.true_and]]
      exact this)
  have HJ1 : Hid (∀ W, LsN W (Sx S w W) q o c (hs.set i ⟨x.g, x.o, x.n - 1, x.c⟩) (P.set i L) → Fr S w W → x.n - 1 ≠ 0 → fewP (P.set i L) i = true → Calls Try.prog 42 #[.slice (some ⟨q, o, none⟩) hs.length c, .int .i64 i] W (LLeft w S (delL P i L))) := Lib.hid (fun W hW hF h0 hf => by
    unfold fewP at hf
    rw [decide_eq_true_eq, List.length_set, getD_set_self _ _ _ _ hP, getD_set_ne _ _ _ _ _ (by omega)] at hf
    have hc := join_any i hW (by simp; omega) (by rw [List.length_set, h.len]; exact hf.1) hlP1
    rw [getD_set_self _ _ _ _ hP, getD_set_ne _ _ _ _ _ (by omega)] at hc
    have e1 : setP (P.set i L) i 2 [L ++ P.getD (i + 1) []] = delL P i L := by
      unfold delL setP
      rw [if_neg (by intro e; rw [e] at hLl; simp at hLl; omega), if_pos hf, set_take _ _ _ _ (Nat.le_refl i), set_drop _ _ _ _ (by omega)]
    rw [e1, List.length_set] at hc
    exact hc.mono (fun e w2 h2 => h2.sx Hlt.out hF))
  have HJ2 : Hid (∀ W, LsN W (Sx S w W) q o c (hs.set i ⟨x.g, x.o, x.n - 1, x.c⟩) (P.set i L) → Fr S w W → x.n - 1 ≠ 0 → fewP (P.set i L) i = false → (decide (0 < i) && fewP (P.set i L) (i - 1)) = true → Calls Try.prog 42 #[.slice (some ⟨q, o, none⟩) hs.length c, .int .i64 ((i : Int) - 1)] W (LLeft w S (delL P i L))) := Lib.hid (fun W hW hF h0 hf hf2 => by
    unfold fewP at hf hf2
    rw [decide_eq_false_iff_not, List.length_set, getD_set_self _ _ _ _ hP, getD_set_ne _ _ _ _ _ (by omega)] at hf
    rw [Bool.and_eq_true, decide_eq_true_eq, decide_eq_true_eq, List.length_set] at hf2
    have hi1 : i - 1 + 1 = i := by omega
    rw [hi1, getD_set_self _ _ _ _ hP, getD_set_ne _ _ _ _ _ (by omega)] at hf2
    have hc := join_any (i - 1) hW (by simp; omega) (by rw [List.length_set]; omega) hlP1
    rw [hi1, getD_set_self _ _ _ _ hP, getD_set_ne _ _ _ _ _ (by omega)] at hc
    have e1 : setP (P.set i L) (i - 1) 2 [P.getD (i - 1) [] ++ L] = delL P i L := by
      unfold delL setP
      rw [if_neg (by intro e; rw [e] at hLl; simp at hLl; omega), if_neg hf, if_pos ⟨hf2.1, hf2.2.2⟩, set_take _ _ _ _ (by omega), set_drop _ _ _ _ (by omega)]
    rw [e1, List.length_set, show ((i - 1 : Nat) : Int) = (i : Int) - 1 by omega] at hc
    exact hc.mono (fun e w2 h2 => h2.sx Hlt.out hF))
  have HN : Hid (∀ W, LsN W (Sx S w W) q o c (hs.set i ⟨x.g, x.o, x.n - 1, x.c⟩) (P.set i L) → Fr S w W → x.n - 1 ≠ 0 → fewP (P.set i L) i = false → (decide (0 < i) && fewP (P.set i L) (i - 1)) = false → LLeft w S (delL P i L) (.returned (.slice (some ⟨q, o, none⟩) hs.length c)) W) := Lib.hid (fun W hW hF h0 hf hf2 => by
    unfold fewP at hf hf2
    rw [decide_eq_false_iff_not, List.length_set, getD_set_self _ _ _ _ hP, getD_set_ne _ _ _ _ _ (by omega)] at hf
    have e1 : P.set i L = delL P i L := by
      unfold delL
      rw [if_neg (by intro e; rw [e] at hLl; simp at hLl; omega), if_neg hf, if_neg]
      · unfold setP
        rw [set_as _ _ _ hP]
      · rintro ⟨h5, h6⟩
        rw [decide_eq_true h5, Bool.true_and, decide_eq_false_iff_not, List.length_set, show i - 1 + 1 = i by omega, getD_set_self _ _ _ _ hP, getD_set_ne _ _ _ _ _ (by omega)] at hf2
        exact hf2 ⟨hP, h6⟩
    rw [← e1]
    exact ⟨q, o, c, _, by rw [List.length_set], hW, hF⟩)
  have Hc4 := Lib.hid (show ∀ W, LsN W (Sx S w W) q o c (hs.set i ⟨x.g, x.o, x.n - 1, x.c⟩) (P.set i L) → W.cell? ⟨q, o + i, none⟩ = some (Pgh.val ⟨x.g, x.o, x.n - 1, x.c⟩) from fun W hW => by
    have := hW.hdr (i := i) (by simpa using hi)
    simpa using this)
  have Hfr := Lib.hid (show ∀ W W', LsN W (Sx S w W) q o c (hs.set i ⟨x.g, x.o, x.n - 1, x.c⟩) (P.set i L) ∧ Fr S w W → Fr No W W' → LsN W' (Sx S w W') q o c (hs.set i ⟨x.g, x.o, x.n - 1, x.c⟩) (P.set i L) ∧ Fr S w W' from fun W W' hW hF => by
    have hf1 : Fr S w W' := hW.2.trans' hF (fun _ _ e => e.elim)
    have hs1 := hF.size
    have hs2 := hf1.size
    exact ⟨(hW.1.since hF).mono (fun k hk => hk.imp_right (fun e => ⟨e.1, by omega⟩)) (Sx.lt Hlt.out hs2), hf1⟩)
  have hin : i < hs.length := hi
  have ha2 : a ≤ 1000 := by omega
  have hx2 : x.n ≤ 1000 := by omega
  clear hP g0 p0 l0 hx hqx hL hLl hlP1 e0 h hl ha
  generalize hg : (decide (0 < i) && fewP (P.set i L) (i - 1)) = f2 at *
  generalize fewP (P.set i L) i = f1 at *
  generalize delL P i L = P' at *
  clear hg hi
  generalize hs.length = n at *
  obtain ⟨xg, xo, xn, xc⟩ := x
  unfold Pgh.val at x0 hD Hc4
  simp only at *
  clear Hlt
  go_enter Try.func27, Try.ntmps27
  go_wp2_with fail
  refine hD.mono ?_
  rintro e w1 ⟨rfl, z0, z1, hL1, hF1⟩
  have HB := Lib.hid (And.intro hL1 hF1)
  clear hD hL1 hF1 x0
  generalize xn - 1 = m at *
  by_cases hm : m = 0
  · have hmb : ((m : Int) == 0) = true := by simp [hm]
    have hm1 : (m : Int) = 0 := by omega
    have Hm := Lib.hid hm
    clear hm
    go_wp2_with fail
    obtain ⟨w2, hw2⟩ : ∃ w2, w2 = w1.setCell ⟨q, o + i, none⟩ (.slice (some ⟨xg, xo, none⟩) m xc) := ⟨_, rfl⟩
    rw [← hw2] at HB ⊢
    refine (HE.out w2 HB.out.1 HB.out.2 Hm.out).mono ?_
    rintro e w3 ⟨q', o', c', hs', rfl, r1, r2⟩
    clear HE HF1 HF2 HJ1 HJ2 HN HB Hfr Hc4 hw2 z0 z1
    go_wp2
    go_ret
    exact ⟨q', o', c', hs', rfl, r1, r2⟩
  · have hmb : ((m : Int) == 0) = false := by simp; omega
    have hm1 : ¬ (m : Int) = 0 := by omega
    have Hm := Lib.hid hm
    clear hm HE
    go_wp2_with fail
    obtain ⟨w2, hw2⟩ : ∃ w2, w2 = w1.setCell ⟨q, o + i, none⟩ (.slice (some ⟨xg, xo, none⟩) m xc) := ⟨_, rfl⟩
    rw [← hw2] at HB ⊢
    refine (HF1.out w2 HB.out.1).mono ?_
    rintro e w3 ⟨rfl, hf3⟩
    have HB3 := Lib.hid (Hfr.out _ _ HB.out hf3)
    clear HF1 HB hf3 hw2 z0 z1 Hc4
    cases f1 with
    | true =>
      clear HF2 HJ2 HN
      go_wp2_with fail
      refine (HJ1.out w3 HB3.out.1 HB3.out.2 Hm.out (by first | rfl | trivial)).mono ?_
      rintro e w4 ⟨q', o', c', hs', rfl, r1, r2⟩
      clear HJ1 HB3 Hfr
      go_wp2
      go_ret
      exact ⟨q', o', c', hs', rfl, r1, r2⟩
    | false =>
      clear HJ1
      go_wp2_with fail
      refine (HF2.out w3 HB3.out.1).mono ?_
      rintro e w4 ⟨rfl, hf4⟩
      have HB4 := Lib.hid (Hfr.out _ _ HB3.out hf4)
      clear HF2 HB3 hf4 Hfr
      cases f2 with
      | true =>
        clear HN
        go_wp2_with fail
        refine (HJ2.out w4 HB4.out.1 HB4.out.2 Hm.out (by first | rfl | trivial) (by first | rfl | trivial)).mono ?_
        rintro e w5 ⟨q', o', c', hs', rfl, r1, r2⟩
        clear HJ2 HB4
        go_wp2
        go_ret
        exact ⟨q', o', c', hs', rfl, r1, r2⟩
      | false =>
        clear HJ2
        have HR := Lib.hid (HN.out w4 HB4.out.1 HB4.out.2 Hm.out (by first | rfl | trivial) (by first | rfl | trivial))
        clear HN HB4
        go_wp2
        go_ret
        exact HR.out
end
end Go.Proofs.Ytenmiociinogeaa
