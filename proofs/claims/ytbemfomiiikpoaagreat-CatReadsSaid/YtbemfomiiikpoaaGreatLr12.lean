/- The law 'CatReads', walked. -/
import Derived.Test.YtbemfomiiikpoaaGreatRgt12
import Derived.Test.YtbemfomiiikpoaaGreatGeq12
import Derived.Test.YtbemfomiiikpoaaGreatRsm12
import Derived.Test.YtbemfomiiikpoaaGreatHand
import Derived.Deep.RegionHeld3
namespace Go.Proofs.YtbemfomiiikpoaaGreat
open Go.RowKit

theorem rr_words12 {B q : Nat} {w : World} {st : Option (List Nat)} (h : RR w B q st) : ∃ (A : Option Addr) (n c : Nat), w.cell? ⟨q, 0, none⟩ = some (.slice A n c) ∧ w.cell? ⟨q, 1, none⟩ = some (.bool st.isNone) ∧ ∀ ys, st = some ys → ys.length = n := by
  obtain ⟨A, n, c, b, _, h3⟩ := h
  exact ⟨A, n, c, b.cell 0, b.cell 1, fun ys e => (h3 ys e).1⟩

set_option maxRecDepth 100000 in
set_option maxHeartbeats 8000000 in
theorem catReads_any (xs : List Nat) (A : Option Addr) (n c : Nat) (w : World) (hsl : Sl w w.heap.size A (u64s xs)) (hn : xs.length = n) (hnc : n ≤ c) (hcm : c ≤ maxLen) (hA : A = none → n = 0 ∧ c = 0) (h64 : ∀ u ∈ xs, u < 18446744073709551616) :
    Calls Tryz.prog 4 #[.slice A n c] w (Has w true) := by
  have Hn := Lib.hid hn
  have Hsl := Lib.hid hsl
  have HA := Lib.hid hA
  have H64 := Lib.hid h64
  have Hcm := Lib.hid hcm
  clear hn hsl hA h64 hcm
  go_enter Tryz.func4, Tryz.ntmps4
  go_wp2_with fail
  refine (alive12 _).mono ?_
  rintro e w1 ⟨rfl, hf1⟩
  by_cases h800 : 1500 < n
  · have d0 : decide (1500 < (n : Int)) = true := by simp; omega
    go_wp2
    go_ret
    exact ⟨rfl, hf1⟩
  have d0 : decide (1500 < (n : Int)) = false := by simp; omega
  go_wp2_with fail
  refine (qnew_any xs A n c w1 (Hsl.out.since hf1) Hn.out HA.out (by omega) H64.out).mono ?_
  rintro e w2 ⟨r, rfl, hrB, hrd2, hf2⟩
  have hz2 := hf1.then0 hf2 (fun _ h => h.elim)
  have hrl := hrd2.lt
  have hf3 : Fr No w2 (w2.alloc (.cells #[.slice A n c, .bool false] 46)) := (Fr.refl _ _).alloc _
  have hrd3 := hrd2.fr hf3 (fun e => e) (fun _ e => e.elim)
  have hrr3 : RR (w2.alloc (.cells #[.slice A n c, .bool false] 46)) w.heap.size w2.heap.size (some xs) :=
    ⟨A, n, c, Bk.made _ _ _, hz2.size, fun ys e => by
      simp only [Option.some.injEq] at e
      subst e
      exact ⟨Hn.out, hnc, Hcm.out, Hsl.out.fr (hz2.then0 hf3 (fun _ h => h.elim)) (Nat.le_refl _) (fun _ _ _ e => e), H64.out⟩⟩
  have Hrd3 := Lib.hid hrd3
  have Hrr3 := Lib.hid hrr3
  have Hf1 := Lib.hid hf1
  have Hz2 := Lib.hid hz2
  clear hrd2 hrd3 hrr3 hf1
  go_wp2_with fail
  refine (get12_any r _ _ Hrd3.out (fun k hk => by have h : k < w2.heap.size := hk; simp; omega)).mono ?_
  rintro e w4 ⟨a, rfl, hap, hao, han, hrd4, hf4⟩
  obtain ⟨q, hq⟩ : ∃ q, Hid (q = w2.heap.size) := ⟨_, Lib.hid rfl⟩
  obtain ⟨sz3, hsz3⟩ : ∃ z, Hid (z = (w2.alloc (.cells #[.slice A n c, .bool false] 46)).heap.size) := ⟨_, Lib.hid rfl⟩
  rw [← hsz3.out] at hao
  have hqs : q < sz3 := by rw [hsz3.out, hq.out]; simp
  have hrq : r < q := by rw [hq.out]; exact hrl
  have hq4 : q < w4.heap.size := by have := hf4.size; simp at this; rw [hq.out]; omega
  have hrr4 : RR w4 w.heap.size q (some xs) := by
    rw [hq.out]
    exact Hrr3.out.fr hf4 (fun e => by have e : w2.heap.size = r := e; omega) (fun k e => by have e : k = r := e; have := Hf1.out.size; omega)
  have hz4 : Fr No w w4 := (Hz2.out.alloc _).trans' hf4 (fun i hi e => by have e : i = r := e; have := Hf1.out.size; omega)
  have Hap := Lib.hid hap
  have Hao := Lib.hid hao
  have Han := Lib.hid han
  obtain ⟨Y, hY⟩ : ∃ Y, Y = a.arr := ⟨_, rfl⟩
  have hYA := hY.trans (Ctl.arr_eq a)
  have bY0 := Bk.made w4 26 (brA (.slice none 0 0) fun _ => 0)
  have hst5 := Lib.hid (st_cat (v' := .slice a.cA a.cls.length a.cc) (b' := a.b) rfl hYA rfl bY0)
  obtain ⟨W5, hW5⟩ : ∃ V, Hid (V = (w4.alloc (.cells (brA (.slice none 0 0) fun _ => 0) 26)).setRow w4.heap.size Y) := ⟨_, Lib.hid rfl⟩
  rw [← hW5.out] at hst5
  have ha5 : Fr No w4 W5 := by rw [hW5.out]; exact fr_row12 ((Fr.refl _ _).alloc _) (.inr (Nat.le_refl _)) _
  have HP5 : Hid (Bk W5 w4.heap.size 26 Y) := Lib.hid (by rw [hW5.out]; exact bk_row12 bY0 _)
  have Hrr5 := Lib.hid (hrr4.fr ha5 (fun e => e) (fun _ e => e.elim))
  have Hrd5 := Lib.hid (hrd4.fr ha5 (fun e => e) (fun _ e => e.elim))
  have Hz5 := Lib.hid (hz4.then0 ha5 (fun _ h => h.elim))
  have Ha5 := Lib.hid ha5
  obtain ⟨P, hP⟩ : ∃ P, Hid (P = w4.heap.size) := ⟨_, Lib.hid rfl⟩
  rw [← hP.out] at HP5
  rw [← hq.out]
  have hPq : q < P := by rw [hP.out]; exact hq4
  have HY := Lib.hid hY
  have C5 := Lib.hid (refGet12_own q w.heap.size _ _ Hrr5.out (fun ys e => by simp only [Option.some.injEq] at e; subst e; rw [Hn.out]; omega))
  clear hrr4 hrd4 hap hao han ha5 hz4 bY0 hYA
  unfold Ctl.agg
  rw [← hY]
  unfold brA at hst5
  clear hY
  go_wp2_with (first
    | ((with_reducible refine wpl_st ?_ ?_ ?_ hst5.out ?_); (· rfl); (· rfl); (· rfl); simp only [Act.put]))
  refine (C5.out).mono ?_
  rintro e w5 ⟨b, rfl, hbp, hbo, hrr6, hf6⟩
  have hP6 := HP5.out.fr hf6 (fun e => by have e : P = q := e; omega)
  have hz6 : Fr No w w5 := Hz5.out.trans' hf6 (fun i hi e => by have e : i = q := e; have h1 := hq.out; have h2 := Hz2.out.size; omega)
  have hrd6 := Hrd5.out.frG hf6 (fun e => by have e : r = q := e; omega) (fun k hk e => by have e : k = q := e; have h1 := hq.out; have h : k < w2.heap.size := hk; omega)
  have hao6 : ∀ V, Fr No w5 V → Clss V a.cA a.cls := fun V hV => Hao.out V (((Ha5.out.weak (S' := fun i => i < sz3) (fun _ _ h => h.elim)).trans' (hf6.weak (S' := fun i => i < sz3) (fun i _ e => by have e : i = q := e; omega)) (fun _ _ h => h)).trans' (hV.weak (S' := fun i => i < sz3) (fun _ _ h => h.elim)) (fun _ _ h => h))
  obtain ⟨X, hX⟩ : ∃ X, X = b.arr := ⟨_, rfl⟩
  have hXA := hX.trans (Ctl.arr_eq b)
  have bX0 := Bk.made w5 26 (brA (.slice none 0 0) fun _ => 0)
  have hst6 := Lib.hid (st_cat (v' := .slice b.cA b.cls.length b.cc) (b' := b.b) rfl hXA rfl bX0)
  obtain ⟨Q, hQ⟩ : ∃ Q, Hid (Q = w5.heap.size) := ⟨_, Lib.hid rfl⟩
  obtain ⟨W6, hW6⟩ : ∃ V, Hid (V = (w5.alloc (.cells (brA (.slice none 0 0) fun _ => 0) 26)).setRow w5.heap.size X) := ⟨_, Lib.hid rfl⟩
  rw [← hW6.out] at hst6
  have hF6 : Fr No w5 W6 := by rw [hW6.out]; exact fr_row12 ((Fr.refl _ _).alloc _) (.inr (Nat.le_refl _)) _
  have HQ6 : Hid (Bk W6 Q 26 X) := Lib.hid (by rw [hW6.out, hQ.out]; exact bk_row12 bX0 _)
  have HP7 := Lib.hid (hP6.fr hF6 (fun e => e))
  have hrr7 := hrr6.fr hF6 (fun e => e) (fun _ e => e.elim)
  obtain ⟨A6, n6, c6, g0, g1, g2⟩ := rr_words12 hrr7
  have hql := hrr7.lt
  have Hsm : Hid (PCt.same a.p b.p = true) := Lib.hid (by rw [Hap.out, hbp]; exact PCt.same_refl _)
  have HSame := Lib.hid (fun (W : World) (h : Fr No W6 W) => refSame12_any a b W (hao6 W (hF6.then0 h (fun _ h => h.elim))) (hbo W ((hF6.then0 h (fun _ h => h.elim)).weak (fun _ _ e => e.elim))) Han.out.cls Han.out.cap)
  rw [Hsm.out] at HSame
  have hrd7 := hrd6.fr hF6 (fun e => e) (fun _ e => e.elim)
  obtain ⟨s1, hs1⟩ : ∃ z, Hid ((ctR (some xs)).map (·.2) = z) := ⟨_, Lib.hid rfl⟩
  have hbS : (ctR (some xs)).isSome = s1.isSome := by rw [← hs1.out]; cases ctR (some xs) <;> rfl
  rw [hs1.out] at hrd7 g1 g2
  rw [hbS]
  have HOk := Lib.hid (fun (W : World) (h : Fr No W6 W) => qok_any r s1 W (hrd7.fr h (fun e => e) (fun _ e => e.elim)))
  have HEnd := Lib.hid (fun (W : World) (h : Fr No W6 W) => qend_any r s1 W (hrd7.fr h (fun e => e) (fun _ e => e.elim)))
  have Hz6 := Lib.hid (hz6.then0 hF6 (fun _ h => h.elim))
  have hB0 : ∃ b : Bool, s1.isSome = b ∧ s1.isNone = !b := ⟨s1.isSome, rfl, by cases s1 <;> rfl⟩
  obtain ⟨bb, hb1, hb2⟩ := hB0
  obtain ⟨z, hz⟩ : ∃ z : Bool, z = decide (s1 = some []) := ⟨_, rfl⟩
  rw [hb1] at HOk ⊢
  rw [← hz] at HEnd
  rw [hb2] at g1
  have Hend : Hid (z = (bb && ((n6 : Int) == 0))) := Lib.hid (by
    cases s1 with
    | none =>
      simp at hb1
      subst hb1
      simp [hz]
    | some ys =>
      have := g2 ys rfl
      simp at hb1
      subst hb1
      rw [hz]
      cases ys with
      | nil =>
        simp at this
        simp [← this]
      | cons a s =>
        simp at this
        simp
        omega)
  have HYA2 : Hid (Y = brA (.slice a.cA a.cls.length a.cc) a.b) := Lib.hid (HY.out.trans (Ctl.arr_eq a))
  have HS0 := Lib.hid (fun (W : World) (h : Fr No W6 W) => And.intro ((h.cell (p := ⟨q, 0, none⟩) hql (fun e => e)).trans g0) (And.intro ((h.cell (p := ⟨q, 1, none⟩) hql (fun e => e)).trans g1) (And.intro (ld_cat HYA2.out (HP7.out.fr h (fun e => e))) (ld_cat hXA (HQ6.out.fr h (fun e => e))))))
  unfold Ctl.agg at HSame ⊢
  rw [← HY.out, ← hX] at HSame
  rw [← hX]
  unfold brA at hst6
  clear hz hb1 hb2 g2 hbS hrd7 hrr7 hrd6 hao6 hz6 hf6 hbo hP6 hbp hf4 hf2 hf3 hz2 C5 hrr6 g0 g1 HP5 Hrr5 Hrd5 HQ6 HP7 hX hXA bX0 hst5 hF6
  go_wp2_with (first
    | ((with_reducible refine wpl_st ?_ ?_ ?_ hst6.out ?_); (· rfl); (· rfl); (· rfl); simp only [Act.put]))
  rw [← hP.out, ← hQ.out]
  cases bb
  · have e1 : z = false := by rw [Hend.out]; rfl
    subst e1
    refine wp_region_held_drew (S := fun W => W.cell? ⟨q, 0, none⟩ = some (.slice A6 n6 c6) ∧ W.cell? ⟨q, 1, none⟩ = some (.bool true) ∧ LdO W 26 ⟨P, 0, none⟩ (.agg Y) ∧ LdO W 26 ⟨Q, 0, none⟩ (.agg X)) (by kernel_rfl) (HS0.out _ ((Fr.refl No W6).drew)) (fun hHeld => ?_)
    refine any_take 29 (.bool false) (i := 0) rfl rfl (by kernel_rfl) (by kernel_rfl) (by kernel_rfl) (fun _ _ _ h => h) (by rfl) (by intro w hSw; obtain ⟨hq0, hq1, -, -⟩ := hSw; go_simp; try with_reducible rfl) (by assumption) ?_
    simp only [Act.put, List.setIfInBounds_toArray, List.set_cons_zero, List.set_cons_succ]
    refine any_take 30 (.bool false) (i := 1) rfl rfl (by kernel_rfl) (by kernel_rfl) (by kernel_rfl) (fun _ _ _ h => h) (by rfl) (by intro w hSw; obtain ⟨hq0, hq1, -, -⟩ := hSw; go_simp; try with_reducible rfl) (by assumption) ?_
    simp only [Act.put, List.setIfInBounds_toArray, List.set_cons_zero, List.set_cons_succ]
    refine any_take 31 (.bool true) (i := 2) rfl rfl (by kernel_rfl) (by kernel_rfl) (by kernel_rfl) (fun _ _ _ h => h) (by rfl) (by intro w hSw; obtain ⟨hq0, hq1, -, -⟩ := hSw; go_simp; try with_reducible rfl) (by assumption) ?_
    simp only [Act.put, List.setIfInBounds_toArray, List.set_cons_zero, List.set_cons_succ]
    refine any_take 32 (.bool true) (i := 3) rfl rfl (by kernel_rfl) (by kernel_rfl) (by kernel_rfl) (fun _ _ _ h => h) (by rfl) (by intro w hSw; obtain ⟨hq0, hq1, -, -⟩ := hSw; go_simp; try with_reducible rfl) (by assumption) ?_
    simp only [Act.put, List.setIfInBounds_toArray, List.set_cons_zero, List.set_cons_succ]
    refine any_take 33 (.agg Y) (i := 4) rfl rfl (by kernel_rfl) (by kernel_rfl) (by kernel_rfl) (fun _ _ _ h => h) (by rfl) (by intro w hSw; exact exec_ld rfl hSw.2.2.1) (by assumption) ?_
    simp only [Act.put, List.setIfInBounds_toArray, List.set_cons_zero, List.set_cons_succ]
    refine any_take 34 (.agg X) (i := 5) rfl rfl (by kernel_rfl) (by kernel_rfl) (by kernel_rfl) (fun _ _ _ h => h) (by rfl) (by intro w hSw; exact exec_ld rfl hSw.2.2.2) (by assumption) ?_
    simp only [Act.put, List.setIfInBounds_toArray, List.set_cons_zero, List.set_cons_succ]
    refine wpAnyH_ready (rs := [6]) (by kernel_rfl) (by simp) ?_
    refine AllReadyH.cons rfl (fun K' hK => ?_) AllReadyH.nil
    go_simp
    go_at_call 15
    refine (HSame.out _ ((Fr.refl No W6).drew)).mono ?_
    rintro e' wS ⟨rfl, hfS⟩
    have hFS : Fr No W6 _ := ((Fr.refl No W6).drew).then0 hfS (fun _ h => h.elim)
    dsimp only
    refine hK.out _ _ (HS0.out _ hFS) (fun hHeld => ?_)
    clear hK
    try simp only [Act.put, List.setIfInBounds_toArray, List.set_cons_zero, List.set_cons_succ]
    refine any_take 36 (.bool true) (i := 7) rfl rfl (by kernel_rfl) (by kernel_rfl) (by kernel_rfl) (fun _ _ _ h => h) (by rfl) (by intro w hSw; obtain ⟨hq0, hq1, -, -⟩ := hSw; go_simp; try with_reducible rfl) (by assumption) ?_
    simp only [Act.put, List.setIfInBounds_toArray, List.set_cons_zero, List.set_cons_succ]
    refine any_take 37 (.bool true) (i := 8) rfl rfl (by kernel_rfl) (by kernel_rfl) (by kernel_rfl) (fun _ _ _ h => h) (by rfl) (by intro w hSw; obtain ⟨hq0, hq1, -, -⟩ := hSw; go_simp; try with_reducible rfl) (by assumption) ?_
    simp only [Act.put, List.setIfInBounds_toArray, List.set_cons_zero, List.set_cons_succ]
    refine any_take 38 (.pointer (some ⟨r, 0, none⟩)) (i := 9) rfl rfl (by kernel_rfl) (by kernel_rfl) (by kernel_rfl) (fun _ _ _ h => h) (by rfl) (by intro w hSw; obtain ⟨hq0, hq1, -, -⟩ := hSw; go_simp; try with_reducible rfl) (by assumption) ?_
    simp only [Act.put, List.setIfInBounds_toArray, List.set_cons_zero, List.set_cons_succ]
    refine any_take 40 (.pointer (some ⟨q, 0, none⟩)) (i := 11) rfl rfl (by kernel_rfl) (by kernel_rfl) (by kernel_rfl) (fun _ _ _ h => h) (by rfl) (by intro w hSw; obtain ⟨hq0, hq1, -, -⟩ := hSw; go_simp; try with_reducible rfl) (by assumption) ?_
    simp only [Act.put, List.setIfInBounds_toArray, List.set_cons_zero, List.set_cons_succ]
    refine any_take 41 (.pointer (some ⟨q, 0, none⟩)) (i := 12) rfl rfl (by kernel_rfl) (by kernel_rfl) (by kernel_rfl) (fun _ _ _ h => h) (by rfl) (by intro w hSw; obtain ⟨hq0, hq1, -, -⟩ := hSw; go_simp; try with_reducible rfl) (by assumption) ?_
    simp only [Act.put, List.setIfInBounds_toArray, List.set_cons_zero, List.set_cons_succ]
    refine any_take 42 (.pointer (some ⟨q, 1, none⟩)) (i := 13) rfl rfl (by kernel_rfl) (by kernel_rfl) (by kernel_rfl) (fun _ _ _ h => h) (by rfl) (by intro w hSw; obtain ⟨hq0, hq1, -, -⟩ := hSw; go_simp; try with_reducible rfl) (by assumption) ?_
    simp only [Act.put, List.setIfInBounds_toArray, List.set_cons_zero, List.set_cons_succ]
    refine any_take 43 (.bool true) (i := 14) rfl rfl (by kernel_rfl) (by kernel_rfl) (by kernel_rfl) (fun _ _ _ h => h) (by rfl) (by intro w hSw; obtain ⟨hq0, hq1, -, -⟩ := hSw; go_simp; try with_reducible rfl) (by assumption) ?_
    simp only [Act.put, List.setIfInBounds_toArray, List.set_cons_zero, List.set_cons_succ]
    refine any_take 44 (.bool false) (i := 15) rfl rfl (by kernel_rfl) (by kernel_rfl) (by kernel_rfl) (fun _ _ _ h => h) (by rfl) (by intro w hSw; obtain ⟨hq0, hq1, -, -⟩ := hSw; go_simp; try with_reducible rfl) (by assumption) ?_
    simp only [Act.put, List.setIfInBounds_toArray, List.set_cons_zero, List.set_cons_succ]
    refine wpAnyH_ready (rs := [10]) (by kernel_rfl) (by simp) ?_
    refine AllReadyH.cons rfl (fun K' hK => ?_) AllReadyH.nil
    go_simp
    go_at_call 17
    refine (HOk.out _ hFS).mono ?_
    rintro e' wO ⟨rfl, rfl⟩
    dsimp only
    refine hK.out _ _ (HS0.out _ hFS) (fun hHeld => ?_)
    clear hK
    try simp only [Act.put, List.setIfInBounds_toArray, List.set_cons_zero, List.set_cons_succ]
    refine any_take 45 (.bool true) (i := 16) rfl rfl (by kernel_rfl) (by kernel_rfl) (by kernel_rfl) (fun _ _ _ h => h) (by rfl) (by intro w hSw; obtain ⟨hq0, hq1, -, -⟩ := hSw; go_simp; try with_reducible rfl) (by assumption) ?_
    simp only [Act.put, List.setIfInBounds_toArray, List.set_cons_zero, List.set_cons_succ]
    refine any_take 46 (.bool true) (i := 17) rfl rfl (by kernel_rfl) (by kernel_rfl) (by kernel_rfl) (fun _ _ _ h => h) (by rfl) (by intro w hSw; obtain ⟨hq0, hq1, -, -⟩ := hSw; go_simp; try with_reducible rfl) (by assumption) ?_
    simp only [Act.put, List.setIfInBounds_toArray, List.set_cons_zero, List.set_cons_succ]
    refine any_take 47 (.bool true) (i := 18) rfl rfl (by kernel_rfl) (by kernel_rfl) (by kernel_rfl) (fun _ _ _ h => h) (by rfl) (by intro w hSw; obtain ⟨hq0, hq1, -, -⟩ := hSw; go_simp; try with_reducible rfl) (by assumption) ?_
    simp only [Act.put, List.setIfInBounds_toArray, List.set_cons_zero, List.set_cons_succ]
    refine any_take 48 (.pointer (some ⟨r, 0, none⟩)) (i := 19) rfl rfl (by kernel_rfl) (by kernel_rfl) (by kernel_rfl) (fun _ _ _ h => h) (by rfl) (by intro w hSw; obtain ⟨hq0, hq1, -, -⟩ := hSw; go_simp; try with_reducible rfl) (by assumption) ?_
    simp only [Act.put, List.setIfInBounds_toArray, List.set_cons_zero, List.set_cons_succ]
    refine any_take 50 (.pointer (some ⟨q, 0, none⟩)) (i := 21) rfl rfl (by kernel_rfl) (by kernel_rfl) (by kernel_rfl) (fun _ _ _ h => h) (by rfl) (by intro w hSw; obtain ⟨hq0, hq1, -, -⟩ := hSw; go_simp; try with_reducible rfl) (by assumption) ?_
    simp only [Act.put, List.setIfInBounds_toArray, List.set_cons_zero, List.set_cons_succ]
    refine any_take 51 (.pointer (some ⟨q, 0, none⟩)) (i := 22) rfl rfl (by kernel_rfl) (by kernel_rfl) (by kernel_rfl) (fun _ _ _ h => h) (by rfl) (by intro w hSw; obtain ⟨hq0, hq1, -, -⟩ := hSw; go_simp; try with_reducible rfl) (by assumption) ?_
    simp only [Act.put, List.setIfInBounds_toArray, List.set_cons_zero, List.set_cons_succ]
    refine any_take 52 (.pointer (some ⟨q, 1, none⟩)) (i := 23) rfl rfl (by kernel_rfl) (by kernel_rfl) (by kernel_rfl) (fun _ _ _ h => h) (by rfl) (by intro w hSw; obtain ⟨hq0, hq1, -, -⟩ := hSw; go_simp; try with_reducible rfl) (by assumption) ?_
    simp only [Act.put, List.setIfInBounds_toArray, List.set_cons_zero, List.set_cons_succ]
    refine any_take 53 (.bool true) (i := 24) rfl rfl (by kernel_rfl) (by kernel_rfl) (by kernel_rfl) (fun _ _ _ h => h) (by rfl) (by intro w hSw; obtain ⟨hq0, hq1, -, -⟩ := hSw; go_simp; try with_reducible rfl) (by assumption) ?_
    simp only [Act.put, List.setIfInBounds_toArray, List.set_cons_zero, List.set_cons_succ]
    refine any_take 54 (.bool false) (i := 25) rfl rfl (by kernel_rfl) (by kernel_rfl) (by kernel_rfl) (fun _ _ _ h => h) (by rfl) (by intro w hSw; obtain ⟨hq0, hq1, -, -⟩ := hSw; go_simp; try with_reducible rfl) (by assumption) ?_
    simp only [Act.put, List.setIfInBounds_toArray, List.set_cons_zero, List.set_cons_succ]
    refine wpAnyH_ready (rs := [20]) (by kernel_rfl) (by simp) ?_
    refine AllReadyH.cons rfl (fun K' hK => ?_) AllReadyH.nil
    go_simp
    go_at_call 14
    refine (HEnd.out _ hFS).mono ?_
    rintro e' wE ⟨rfl, hfE⟩
    have hFE : Fr No W6 _ := hFS.then0 hfE (fun _ h => h.elim)
    dsimp only
    refine hK.out _ _ (HS0.out _ hFE) (fun hHeld => ?_)
    clear hK
    try simp only [Act.put, List.setIfInBounds_toArray, List.set_cons_zero, List.set_cons_succ]
    refine any_take 55 (.bool false) (i := 26) rfl rfl (by kernel_rfl) (by kernel_rfl) (by kernel_rfl) (fun _ _ _ h => h) (by rfl) (by intro w hSw; obtain ⟨hq0, hq1, -, -⟩ := hSw; go_simp; try with_reducible rfl) (by assumption) ?_
    simp only [Act.put, List.setIfInBounds_toArray, List.set_cons_zero, List.set_cons_succ]
    refine any_skip 56 (i := 27) rfl rfl (by kernel_rfl) (by kernel_rfl) (by kernel_rfl) (fun _ _ _ h => h) (by rfl) (by assumption) ?_
    simp only [Act.put, List.setIfInBounds_toArray, List.set_cons_zero, List.set_cons_succ]
    refine any_skip 57 (i := 28) rfl rfl (by kernel_rfl) (by kernel_rfl) (by kernel_rfl) (fun _ _ _ h => h) (by rfl) (by assumption) ?_
    simp only [Act.put, List.setIfInBounds_toArray, List.set_cons_zero, List.set_cons_succ]
    refine any_skip 58 (i := 29) rfl rfl (by kernel_rfl) (by kernel_rfl) (by kernel_rfl) (fun _ _ _ h => h) (by rfl) (by assumption) ?_
    simp only [Act.put, List.setIfInBounds_toArray, List.set_cons_zero, List.set_cons_succ]
    refine any_skip 59 (i := 30) rfl rfl (by kernel_rfl) (by kernel_rfl) (by kernel_rfl) (fun _ _ _ h => h) (by rfl) (by assumption) ?_
    simp only [Act.put, List.setIfInBounds_toArray, List.set_cons_zero, List.set_cons_succ]
    refine any_skip 60 (i := 31) rfl rfl (by kernel_rfl) (by kernel_rfl) (by kernel_rfl) (fun _ _ _ h => h) (by rfl) (by assumption) ?_
    simp only [Act.put, List.setIfInBounds_toArray, List.set_cons_zero, List.set_cons_succ]
    refine any_skip 61 (i := 32) rfl rfl (by kernel_rfl) (by kernel_rfl) (by kernel_rfl) (fun _ _ _ h => h) (by rfl) (by assumption) ?_
    simp only [Act.put, List.setIfInBounds_toArray, List.set_cons_zero, List.set_cons_succ]
    refine any_take 62 (.bool false) (i := 33) rfl rfl (by kernel_rfl) (by kernel_rfl) (by kernel_rfl) (fun _ _ _ h => h) (by rfl) (by intro w hSw; obtain ⟨hq0, hq1, -, -⟩ := hSw; go_simp; try with_reducible rfl) (by assumption) ?_
    simp only [Act.put, List.setIfInBounds_toArray, List.set_cons_zero, List.set_cons_succ]
    refine any_take 63 (.bool true) (i := 34) rfl rfl (by kernel_rfl) (by kernel_rfl) (by kernel_rfl) (fun _ _ _ h => h) (by rfl) (by intro w hSw; obtain ⟨hq0, hq1, -, -⟩ := hSw; go_simp; try with_reducible rfl) (by assumption) ?_
    simp only [Act.put, List.setIfInBounds_toArray, List.set_cons_zero, List.set_cons_succ]
    refine any_take 64 (.bool true) (i := 35) rfl rfl (by kernel_rfl) (by kernel_rfl) (by kernel_rfl) (fun _ _ _ h => h) (by rfl) (by intro w hSw; obtain ⟨hq0, hq1, -, -⟩ := hSw; go_simp; try with_reducible rfl) (by assumption) ?_
    simp only [Act.put, List.setIfInBounds_toArray, List.set_cons_zero, List.set_cons_succ]
    refine any_take 2 (.bool true) (i := 36) rfl rfl (by kernel_rfl) (by kernel_rfl) (by kernel_rfl) (fun _ _ _ h => h) (by rfl) (by intro w hSw; obtain ⟨hq0, hq1, -, -⟩ := hSw; go_simp; try with_reducible rfl) (by assumption) ?_
    simp only [Act.put, List.setIfInBounds_toArray, List.set_cons_zero, List.set_cons_succ]
    refine wpAnyH_done (by kernel_rfl) ?_ _
    clear hHeld
    go_wp2
    go_ret
    exact ⟨rfl, Hz6.out.then0 hFE (fun _ h => h.elim)⟩
  · by_cases h6 : n6 = 0
    · subst h6
      have e1 : z = true := by rw [Hend.out]; rfl
      subst e1
      refine wp_region_held_drew (S := fun W => W.cell? ⟨q, 0, none⟩ = some (.slice A6 0 c6) ∧ W.cell? ⟨q, 1, none⟩ = some (.bool false) ∧ LdO W 26 ⟨P, 0, none⟩ (.agg Y) ∧ LdO W 26 ⟨Q, 0, none⟩ (.agg X)) (by kernel_rfl) (HS0.out _ ((Fr.refl No W6).drew)) (fun hHeld => ?_)
      refine any_take 29 (.bool true) (i := 0) rfl rfl (by kernel_rfl) (by kernel_rfl) (by kernel_rfl) (fun _ _ _ h => h) (by rfl) (by intro w hSw; obtain ⟨hq0, hq1, -, -⟩ := hSw; go_simp; try with_reducible rfl) (by assumption) ?_
      simp only [Act.put, List.setIfInBounds_toArray, List.set_cons_zero, List.set_cons_succ]
      refine any_take 30 (.bool true) (i := 1) rfl rfl (by kernel_rfl) (by kernel_rfl) (by kernel_rfl) (fun _ _ _ h => h) (by rfl) (by intro w hSw; obtain ⟨hq0, hq1, -, -⟩ := hSw; go_simp; try with_reducible rfl) (by assumption) ?_
      simp only [Act.put, List.setIfInBounds_toArray, List.set_cons_zero, List.set_cons_succ]
      refine any_take 31 (.bool true) (i := 2) rfl rfl (by kernel_rfl) (by kernel_rfl) (by kernel_rfl) (fun _ _ _ h => h) (by rfl) (by intro w hSw; obtain ⟨hq0, hq1, -, -⟩ := hSw; go_simp; try with_reducible rfl) (by assumption) ?_
      simp only [Act.put, List.setIfInBounds_toArray, List.set_cons_zero, List.set_cons_succ]
      refine any_take 32 (.bool true) (i := 3) rfl rfl (by kernel_rfl) (by kernel_rfl) (by kernel_rfl) (fun _ _ _ h => h) (by rfl) (by intro w hSw; obtain ⟨hq0, hq1, -, -⟩ := hSw; go_simp; try with_reducible rfl) (by assumption) ?_
      simp only [Act.put, List.setIfInBounds_toArray, List.set_cons_zero, List.set_cons_succ]
      refine any_take 33 (.agg Y) (i := 4) rfl rfl (by kernel_rfl) (by kernel_rfl) (by kernel_rfl) (fun _ _ _ h => h) (by rfl) (by intro w hSw; exact exec_ld rfl hSw.2.2.1) (by assumption) ?_
      simp only [Act.put, List.setIfInBounds_toArray, List.set_cons_zero, List.set_cons_succ]
      refine any_take 34 (.agg X) (i := 5) rfl rfl (by kernel_rfl) (by kernel_rfl) (by kernel_rfl) (fun _ _ _ h => h) (by rfl) (by intro w hSw; exact exec_ld rfl hSw.2.2.2) (by assumption) ?_
      simp only [Act.put, List.setIfInBounds_toArray, List.set_cons_zero, List.set_cons_succ]
      refine wpAnyH_ready (rs := [6]) (by kernel_rfl) (by simp) ?_
      refine AllReadyH.cons rfl (fun K' hK => ?_) AllReadyH.nil
      go_simp
      go_at_call 15
      refine (HSame.out _ ((Fr.refl No W6).drew)).mono ?_
      rintro e' wS ⟨rfl, hfS⟩
      have hFS : Fr No W6 _ := ((Fr.refl No W6).drew).then0 hfS (fun _ h => h.elim)
      dsimp only
      refine hK.out _ _ (HS0.out _ hFS) (fun hHeld => ?_)
      clear hK
      try simp only [Act.put, List.setIfInBounds_toArray, List.set_cons_zero, List.set_cons_succ]
      refine any_take 36 (.bool true) (i := 7) rfl rfl (by kernel_rfl) (by kernel_rfl) (by kernel_rfl) (fun _ _ _ h => h) (by rfl) (by intro w hSw; obtain ⟨hq0, hq1, -, -⟩ := hSw; go_simp; try with_reducible rfl) (by assumption) ?_
      simp only [Act.put, List.setIfInBounds_toArray, List.set_cons_zero, List.set_cons_succ]
      refine any_take 37 (.bool true) (i := 8) rfl rfl (by kernel_rfl) (by kernel_rfl) (by kernel_rfl) (fun _ _ _ h => h) (by rfl) (by intro w hSw; obtain ⟨hq0, hq1, -, -⟩ := hSw; go_simp; try with_reducible rfl) (by assumption) ?_
      simp only [Act.put, List.setIfInBounds_toArray, List.set_cons_zero, List.set_cons_succ]
      refine any_take 38 (.pointer (some ⟨r, 0, none⟩)) (i := 9) rfl rfl (by kernel_rfl) (by kernel_rfl) (by kernel_rfl) (fun _ _ _ h => h) (by rfl) (by intro w hSw; obtain ⟨hq0, hq1, -, -⟩ := hSw; go_simp; try with_reducible rfl) (by assumption) ?_
      simp only [Act.put, List.setIfInBounds_toArray, List.set_cons_zero, List.set_cons_succ]
      refine any_take 40 (.pointer (some ⟨q, 0, none⟩)) (i := 11) rfl rfl (by kernel_rfl) (by kernel_rfl) (by kernel_rfl) (fun _ _ _ h => h) (by rfl) (by intro w hSw; obtain ⟨hq0, hq1, -, -⟩ := hSw; go_simp; try with_reducible rfl) (by assumption) ?_
      simp only [Act.put, List.setIfInBounds_toArray, List.set_cons_zero, List.set_cons_succ]
      refine any_take 41 (.pointer (some ⟨q, 0, none⟩)) (i := 12) rfl rfl (by kernel_rfl) (by kernel_rfl) (by kernel_rfl) (fun _ _ _ h => h) (by rfl) (by intro w hSw; obtain ⟨hq0, hq1, -, -⟩ := hSw; go_simp; try with_reducible rfl) (by assumption) ?_
      simp only [Act.put, List.setIfInBounds_toArray, List.set_cons_zero, List.set_cons_succ]
      refine any_take 42 (.pointer (some ⟨q, 1, none⟩)) (i := 13) rfl rfl (by kernel_rfl) (by kernel_rfl) (by kernel_rfl) (fun _ _ _ h => h) (by rfl) (by intro w hSw; obtain ⟨hq0, hq1, -, -⟩ := hSw; go_simp; try with_reducible rfl) (by assumption) ?_
      simp only [Act.put, List.setIfInBounds_toArray, List.set_cons_zero, List.set_cons_succ]
      refine any_take 43 (.bool false) (i := 14) rfl rfl (by kernel_rfl) (by kernel_rfl) (by kernel_rfl) (fun _ _ _ h => h) (by rfl) (by intro w hSw; obtain ⟨hq0, hq1, -, -⟩ := hSw; go_simp; try with_reducible rfl) (by assumption) ?_
      simp only [Act.put, List.setIfInBounds_toArray, List.set_cons_zero, List.set_cons_succ]
      refine any_take 44 (.bool true) (i := 15) rfl rfl (by kernel_rfl) (by kernel_rfl) (by kernel_rfl) (fun _ _ _ h => h) (by rfl) (by intro w hSw; obtain ⟨hq0, hq1, -, -⟩ := hSw; go_simp; try with_reducible rfl) (by assumption) ?_
      simp only [Act.put, List.setIfInBounds_toArray, List.set_cons_zero, List.set_cons_succ]
      refine wpAnyH_ready (rs := [10]) (by kernel_rfl) (by simp) ?_
      refine AllReadyH.cons rfl (fun K' hK => ?_) AllReadyH.nil
      go_simp
      go_at_call 17
      refine (HOk.out _ hFS).mono ?_
      rintro e' wO ⟨rfl, rfl⟩
      dsimp only
      refine hK.out _ _ (HS0.out _ hFS) (fun hHeld => ?_)
      clear hK
      try simp only [Act.put, List.setIfInBounds_toArray, List.set_cons_zero, List.set_cons_succ]
      refine any_take 45 (.bool true) (i := 16) rfl rfl (by kernel_rfl) (by kernel_rfl) (by kernel_rfl) (fun _ _ _ h => h) (by rfl) (by intro w hSw; obtain ⟨hq0, hq1, -, -⟩ := hSw; go_simp; try with_reducible rfl) (by assumption) ?_
      simp only [Act.put, List.setIfInBounds_toArray, List.set_cons_zero, List.set_cons_succ]
      refine any_take 46 (.bool true) (i := 17) rfl rfl (by kernel_rfl) (by kernel_rfl) (by kernel_rfl) (fun _ _ _ h => h) (by rfl) (by intro w hSw; obtain ⟨hq0, hq1, -, -⟩ := hSw; go_simp; try with_reducible rfl) (by assumption) ?_
      simp only [Act.put, List.setIfInBounds_toArray, List.set_cons_zero, List.set_cons_succ]
      refine any_take 47 (.bool true) (i := 18) rfl rfl (by kernel_rfl) (by kernel_rfl) (by kernel_rfl) (fun _ _ _ h => h) (by rfl) (by intro w hSw; obtain ⟨hq0, hq1, -, -⟩ := hSw; go_simp; try with_reducible rfl) (by assumption) ?_
      simp only [Act.put, List.setIfInBounds_toArray, List.set_cons_zero, List.set_cons_succ]
      refine any_take 48 (.pointer (some ⟨r, 0, none⟩)) (i := 19) rfl rfl (by kernel_rfl) (by kernel_rfl) (by kernel_rfl) (fun _ _ _ h => h) (by rfl) (by intro w hSw; obtain ⟨hq0, hq1, -, -⟩ := hSw; go_simp; try with_reducible rfl) (by assumption) ?_
      simp only [Act.put, List.setIfInBounds_toArray, List.set_cons_zero, List.set_cons_succ]
      refine any_take 50 (.pointer (some ⟨q, 0, none⟩)) (i := 21) rfl rfl (by kernel_rfl) (by kernel_rfl) (by kernel_rfl) (fun _ _ _ h => h) (by rfl) (by intro w hSw; obtain ⟨hq0, hq1, -, -⟩ := hSw; go_simp; try with_reducible rfl) (by assumption) ?_
      simp only [Act.put, List.setIfInBounds_toArray, List.set_cons_zero, List.set_cons_succ]
      refine any_take 51 (.pointer (some ⟨q, 0, none⟩)) (i := 22) rfl rfl (by kernel_rfl) (by kernel_rfl) (by kernel_rfl) (fun _ _ _ h => h) (by rfl) (by intro w hSw; obtain ⟨hq0, hq1, -, -⟩ := hSw; go_simp; try with_reducible rfl) (by assumption) ?_
      simp only [Act.put, List.setIfInBounds_toArray, List.set_cons_zero, List.set_cons_succ]
      refine any_take 52 (.pointer (some ⟨q, 1, none⟩)) (i := 23) rfl rfl (by kernel_rfl) (by kernel_rfl) (by kernel_rfl) (fun _ _ _ h => h) (by rfl) (by intro w hSw; obtain ⟨hq0, hq1, -, -⟩ := hSw; go_simp; try with_reducible rfl) (by assumption) ?_
      simp only [Act.put, List.setIfInBounds_toArray, List.set_cons_zero, List.set_cons_succ]
      refine any_take 53 (.bool false) (i := 24) rfl rfl (by kernel_rfl) (by kernel_rfl) (by kernel_rfl) (fun _ _ _ h => h) (by rfl) (by intro w hSw; obtain ⟨hq0, hq1, -, -⟩ := hSw; go_simp; try with_reducible rfl) (by assumption) ?_
      simp only [Act.put, List.setIfInBounds_toArray, List.set_cons_zero, List.set_cons_succ]
      refine any_take 54 (.bool true) (i := 25) rfl rfl (by kernel_rfl) (by kernel_rfl) (by kernel_rfl) (fun _ _ _ h => h) (by rfl) (by intro w hSw; obtain ⟨hq0, hq1, -, -⟩ := hSw; go_simp; try with_reducible rfl) (by assumption) ?_
      simp only [Act.put, List.setIfInBounds_toArray, List.set_cons_zero, List.set_cons_succ]
      refine wpAnyH_ready (rs := [20]) (by kernel_rfl) (by simp) ?_
      refine AllReadyH.cons rfl (fun K' hK => ?_) AllReadyH.nil
      go_simp
      go_at_call 14
      refine (HEnd.out _ hFS).mono ?_
      rintro e' wE ⟨rfl, hfE⟩
      have hFE : Fr No W6 _ := hFS.then0 hfE (fun _ h => h.elim)
      dsimp only
      refine hK.out _ _ (HS0.out _ hFE) (fun hHeld => ?_)
      clear hK
      try simp only [Act.put, List.setIfInBounds_toArray, List.set_cons_zero, List.set_cons_succ]
      refine any_take 55 (.bool true) (i := 26) rfl rfl (by kernel_rfl) (by kernel_rfl) (by kernel_rfl) (fun _ _ _ h => h) (by rfl) (by intro w hSw; obtain ⟨hq0, hq1, -, -⟩ := hSw; go_simp; try with_reducible rfl) (by assumption) ?_
      simp only [Act.put, List.setIfInBounds_toArray, List.set_cons_zero, List.set_cons_succ]
      refine any_take 56 (.pointer (some ⟨q, 0, none⟩)) (i := 27) rfl rfl (by kernel_rfl) (by kernel_rfl) (by kernel_rfl) (fun _ _ _ h => h) (by rfl) (by intro w hSw; obtain ⟨hq0, hq1, -, -⟩ := hSw; go_simp; try with_reducible rfl) (by assumption) ?_
      simp only [Act.put, List.setIfInBounds_toArray, List.set_cons_zero, List.set_cons_succ]
      refine any_take 57 (.pointer (some ⟨q, 0, none⟩)) (i := 28) rfl rfl (by kernel_rfl) (by kernel_rfl) (by kernel_rfl) (fun _ _ _ h => h) (by rfl) (by intro w hSw; obtain ⟨hq0, hq1, -, -⟩ := hSw; go_simp; try with_reducible rfl) (by assumption) ?_
      simp only [Act.put, List.setIfInBounds_toArray, List.set_cons_zero, List.set_cons_succ]
      refine any_take 58 (.pointer (some ⟨q, 0, none⟩)) (i := 29) rfl rfl (by kernel_rfl) (by kernel_rfl) (by kernel_rfl) (fun _ _ _ h => h) (by rfl) (by intro w hSw; obtain ⟨hq0, hq1, -, -⟩ := hSw; go_simp; try with_reducible rfl) (by assumption) ?_
      simp only [Act.put, List.setIfInBounds_toArray, List.set_cons_zero, List.set_cons_succ]
      refine any_take 59 (.slice A6 0 c6) (i := 30) rfl rfl (by kernel_rfl) (by kernel_rfl) (by kernel_rfl) (fun _ _ _ h => h) (by rfl) (by intro w hSw; obtain ⟨hq0, hq1, -, -⟩ := hSw; go_simp; try with_reducible rfl) (by assumption) ?_
      simp only [Act.put, List.setIfInBounds_toArray, List.set_cons_zero, List.set_cons_succ]
      refine any_take 60 (.int .i64 0) (i := 31) rfl rfl (by kernel_rfl) (by kernel_rfl) (by kernel_rfl) (fun _ _ _ h => h) (by rfl) (by intro w hSw; obtain ⟨hq0, hq1, -, -⟩ := hSw; go_simp; try with_reducible rfl) (by assumption) ?_
      simp only [Act.put, List.setIfInBounds_toArray, List.set_cons_zero, List.set_cons_succ]
      refine any_take 61 (.bool true) (i := 32) rfl rfl (by kernel_rfl) (by kernel_rfl) (by kernel_rfl) (fun _ _ _ h => h) (by rfl) (by intro w hSw; obtain ⟨hq0, hq1, -, -⟩ := hSw; go_simp; try with_reducible rfl) (by assumption) ?_
      simp only [Act.put, List.setIfInBounds_toArray, List.set_cons_zero, List.set_cons_succ]
      refine any_take 62 (.bool true) (i := 33) rfl rfl (by kernel_rfl) (by kernel_rfl) (by kernel_rfl) (fun _ _ _ h => h) (by rfl) (by intro w hSw; obtain ⟨hq0, hq1, -, -⟩ := hSw; go_simp; try with_reducible rfl) (by assumption) ?_
      simp only [Act.put, List.setIfInBounds_toArray, List.set_cons_zero, List.set_cons_succ]
      refine any_take 63 (.bool true) (i := 34) rfl rfl (by kernel_rfl) (by kernel_rfl) (by kernel_rfl) (fun _ _ _ h => h) (by rfl) (by intro w hSw; obtain ⟨hq0, hq1, -, -⟩ := hSw; go_simp; try with_reducible rfl) (by assumption) ?_
      simp only [Act.put, List.setIfInBounds_toArray, List.set_cons_zero, List.set_cons_succ]
      refine any_take 64 (.bool true) (i := 35) rfl rfl (by kernel_rfl) (by kernel_rfl) (by kernel_rfl) (fun _ _ _ h => h) (by rfl) (by intro w hSw; obtain ⟨hq0, hq1, -, -⟩ := hSw; go_simp; try with_reducible rfl) (by assumption) ?_
      simp only [Act.put, List.setIfInBounds_toArray, List.set_cons_zero, List.set_cons_succ]
      refine any_take 2 (.bool true) (i := 36) rfl rfl (by kernel_rfl) (by kernel_rfl) (by kernel_rfl) (fun _ _ _ h => h) (by rfl) (by intro w hSw; obtain ⟨hq0, hq1, -, -⟩ := hSw; go_simp; try with_reducible rfl) (by assumption) ?_
      simp only [Act.put, List.setIfInBounds_toArray, List.set_cons_zero, List.set_cons_succ]
      refine wpAnyH_done (by kernel_rfl) ?_ _
      clear hHeld
      go_wp2
      go_ret
      exact ⟨rfl, Hz6.out.then0 hFE (fun _ h => h.elim)⟩
    · have e0 : ((n6 : Int) == 0) = false := by rw [beq_eq_false_iff_ne]; omega
      have e1 : z = false := by rw [Hend.out, e0]; rfl
      subst e1
      refine wp_region_held_drew (S := fun W => W.cell? ⟨q, 0, none⟩ = some (.slice A6 n6 c6) ∧ W.cell? ⟨q, 1, none⟩ = some (.bool false) ∧ LdO W 26 ⟨P, 0, none⟩ (.agg Y) ∧ LdO W 26 ⟨Q, 0, none⟩ (.agg X)) (by kernel_rfl) (HS0.out _ ((Fr.refl No W6).drew)) (fun hHeld => ?_)
      refine any_take 29 (.bool true) (i := 0) rfl rfl (by kernel_rfl) (by kernel_rfl) (by kernel_rfl) (fun _ _ _ h => h) (by rfl) (by intro w hSw; obtain ⟨hq0, hq1, -, -⟩ := hSw; go_simp; try with_reducible rfl) (by assumption) ?_
      simp only [Act.put, List.setIfInBounds_toArray, List.set_cons_zero, List.set_cons_succ]
      refine any_take 30 (.bool true) (i := 1) rfl rfl (by kernel_rfl) (by kernel_rfl) (by kernel_rfl) (fun _ _ _ h => h) (by rfl) (by intro w hSw; obtain ⟨hq0, hq1, -, -⟩ := hSw; go_simp; try with_reducible rfl) (by assumption) ?_
      simp only [Act.put, List.setIfInBounds_toArray, List.set_cons_zero, List.set_cons_succ]
      refine any_take 31 (.bool true) (i := 2) rfl rfl (by kernel_rfl) (by kernel_rfl) (by kernel_rfl) (fun _ _ _ h => h) (by rfl) (by intro w hSw; obtain ⟨hq0, hq1, -, -⟩ := hSw; go_simp; try with_reducible rfl) (by assumption) ?_
      simp only [Act.put, List.setIfInBounds_toArray, List.set_cons_zero, List.set_cons_succ]
      refine any_take 32 (.bool true) (i := 3) rfl rfl (by kernel_rfl) (by kernel_rfl) (by kernel_rfl) (fun _ _ _ h => h) (by rfl) (by intro w hSw; obtain ⟨hq0, hq1, -, -⟩ := hSw; go_simp; try with_reducible rfl) (by assumption) ?_
      simp only [Act.put, List.setIfInBounds_toArray, List.set_cons_zero, List.set_cons_succ]
      refine any_take 33 (.agg Y) (i := 4) rfl rfl (by kernel_rfl) (by kernel_rfl) (by kernel_rfl) (fun _ _ _ h => h) (by rfl) (by intro w hSw; exact exec_ld rfl hSw.2.2.1) (by assumption) ?_
      simp only [Act.put, List.setIfInBounds_toArray, List.set_cons_zero, List.set_cons_succ]
      refine any_take 34 (.agg X) (i := 5) rfl rfl (by kernel_rfl) (by kernel_rfl) (by kernel_rfl) (fun _ _ _ h => h) (by rfl) (by intro w hSw; exact exec_ld rfl hSw.2.2.2) (by assumption) ?_
      simp only [Act.put, List.setIfInBounds_toArray, List.set_cons_zero, List.set_cons_succ]
      refine wpAnyH_ready (rs := [6]) (by kernel_rfl) (by simp) ?_
      refine AllReadyH.cons rfl (fun K' hK => ?_) AllReadyH.nil
      go_simp
      go_at_call 15
      refine (HSame.out _ ((Fr.refl No W6).drew)).mono ?_
      rintro e' wS ⟨rfl, hfS⟩
      have hFS : Fr No W6 _ := ((Fr.refl No W6).drew).then0 hfS (fun _ h => h.elim)
      dsimp only
      refine hK.out _ _ (HS0.out _ hFS) (fun hHeld => ?_)
      clear hK
      try simp only [Act.put, List.setIfInBounds_toArray, List.set_cons_zero, List.set_cons_succ]
      refine any_take 36 (.bool true) (i := 7) rfl rfl (by kernel_rfl) (by kernel_rfl) (by kernel_rfl) (fun _ _ _ h => h) (by rfl) (by intro w hSw; obtain ⟨hq0, hq1, -, -⟩ := hSw; go_simp; try with_reducible rfl) (by assumption) ?_
      simp only [Act.put, List.setIfInBounds_toArray, List.set_cons_zero, List.set_cons_succ]
      refine any_take 37 (.bool true) (i := 8) rfl rfl (by kernel_rfl) (by kernel_rfl) (by kernel_rfl) (fun _ _ _ h => h) (by rfl) (by intro w hSw; obtain ⟨hq0, hq1, -, -⟩ := hSw; go_simp; try with_reducible rfl) (by assumption) ?_
      simp only [Act.put, List.setIfInBounds_toArray, List.set_cons_zero, List.set_cons_succ]
      refine any_take 38 (.pointer (some ⟨r, 0, none⟩)) (i := 9) rfl rfl (by kernel_rfl) (by kernel_rfl) (by kernel_rfl) (fun _ _ _ h => h) (by rfl) (by intro w hSw; obtain ⟨hq0, hq1, -, -⟩ := hSw; go_simp; try with_reducible rfl) (by assumption) ?_
      simp only [Act.put, List.setIfInBounds_toArray, List.set_cons_zero, List.set_cons_succ]
      refine any_take 40 (.pointer (some ⟨q, 0, none⟩)) (i := 11) rfl rfl (by kernel_rfl) (by kernel_rfl) (by kernel_rfl) (fun _ _ _ h => h) (by rfl) (by intro w hSw; obtain ⟨hq0, hq1, -, -⟩ := hSw; go_simp; try with_reducible rfl) (by assumption) ?_
      simp only [Act.put, List.setIfInBounds_toArray, List.set_cons_zero, List.set_cons_succ]
      refine any_take 41 (.pointer (some ⟨q, 0, none⟩)) (i := 12) rfl rfl (by kernel_rfl) (by kernel_rfl) (by kernel_rfl) (fun _ _ _ h => h) (by rfl) (by intro w hSw; obtain ⟨hq0, hq1, -, -⟩ := hSw; go_simp; try with_reducible rfl) (by assumption) ?_
      simp only [Act.put, List.setIfInBounds_toArray, List.set_cons_zero, List.set_cons_succ]
      refine any_take 42 (.pointer (some ⟨q, 1, none⟩)) (i := 13) rfl rfl (by kernel_rfl) (by kernel_rfl) (by kernel_rfl) (fun _ _ _ h => h) (by rfl) (by intro w hSw; obtain ⟨hq0, hq1, -, -⟩ := hSw; go_simp; try with_reducible rfl) (by assumption) ?_
      simp only [Act.put, List.setIfInBounds_toArray, List.set_cons_zero, List.set_cons_succ]
      refine any_take 43 (.bool false) (i := 14) rfl rfl (by kernel_rfl) (by kernel_rfl) (by kernel_rfl) (fun _ _ _ h => h) (by rfl) (by intro w hSw; obtain ⟨hq0, hq1, -, -⟩ := hSw; go_simp; try with_reducible rfl) (by assumption) ?_
      simp only [Act.put, List.setIfInBounds_toArray, List.set_cons_zero, List.set_cons_succ]
      refine any_take 44 (.bool true) (i := 15) rfl rfl (by kernel_rfl) (by kernel_rfl) (by kernel_rfl) (fun _ _ _ h => h) (by rfl) (by intro w hSw; obtain ⟨hq0, hq1, -, -⟩ := hSw; go_simp; try with_reducible rfl) (by assumption) ?_
      simp only [Act.put, List.setIfInBounds_toArray, List.set_cons_zero, List.set_cons_succ]
      refine wpAnyH_ready (rs := [10]) (by kernel_rfl) (by simp) ?_
      refine AllReadyH.cons rfl (fun K' hK => ?_) AllReadyH.nil
      go_simp
      go_at_call 17
      refine (HOk.out _ hFS).mono ?_
      rintro e' wO ⟨rfl, rfl⟩
      dsimp only
      refine hK.out _ _ (HS0.out _ hFS) (fun hHeld => ?_)
      clear hK
      try simp only [Act.put, List.setIfInBounds_toArray, List.set_cons_zero, List.set_cons_succ]
      refine any_take 45 (.bool true) (i := 16) rfl rfl (by kernel_rfl) (by kernel_rfl) (by kernel_rfl) (fun _ _ _ h => h) (by rfl) (by intro w hSw; obtain ⟨hq0, hq1, -, -⟩ := hSw; go_simp; try with_reducible rfl) (by assumption) ?_
      simp only [Act.put, List.setIfInBounds_toArray, List.set_cons_zero, List.set_cons_succ]
      refine any_take 46 (.bool true) (i := 17) rfl rfl (by kernel_rfl) (by kernel_rfl) (by kernel_rfl) (fun _ _ _ h => h) (by rfl) (by intro w hSw; obtain ⟨hq0, hq1, -, -⟩ := hSw; go_simp; try with_reducible rfl) (by assumption) ?_
      simp only [Act.put, List.setIfInBounds_toArray, List.set_cons_zero, List.set_cons_succ]
      refine any_take 47 (.bool true) (i := 18) rfl rfl (by kernel_rfl) (by kernel_rfl) (by kernel_rfl) (fun _ _ _ h => h) (by rfl) (by intro w hSw; obtain ⟨hq0, hq1, -, -⟩ := hSw; go_simp; try with_reducible rfl) (by assumption) ?_
      simp only [Act.put, List.setIfInBounds_toArray, List.set_cons_zero, List.set_cons_succ]
      refine any_take 48 (.pointer (some ⟨r, 0, none⟩)) (i := 19) rfl rfl (by kernel_rfl) (by kernel_rfl) (by kernel_rfl) (fun _ _ _ h => h) (by rfl) (by intro w hSw; obtain ⟨hq0, hq1, -, -⟩ := hSw; go_simp; try with_reducible rfl) (by assumption) ?_
      simp only [Act.put, List.setIfInBounds_toArray, List.set_cons_zero, List.set_cons_succ]
      refine any_take 50 (.pointer (some ⟨q, 0, none⟩)) (i := 21) rfl rfl (by kernel_rfl) (by kernel_rfl) (by kernel_rfl) (fun _ _ _ h => h) (by rfl) (by intro w hSw; obtain ⟨hq0, hq1, -, -⟩ := hSw; go_simp; try with_reducible rfl) (by assumption) ?_
      simp only [Act.put, List.setIfInBounds_toArray, List.set_cons_zero, List.set_cons_succ]
      refine any_take 51 (.pointer (some ⟨q, 0, none⟩)) (i := 22) rfl rfl (by kernel_rfl) (by kernel_rfl) (by kernel_rfl) (fun _ _ _ h => h) (by rfl) (by intro w hSw; obtain ⟨hq0, hq1, -, -⟩ := hSw; go_simp; try with_reducible rfl) (by assumption) ?_
      simp only [Act.put, List.setIfInBounds_toArray, List.set_cons_zero, List.set_cons_succ]
      refine any_take 52 (.pointer (some ⟨q, 1, none⟩)) (i := 23) rfl rfl (by kernel_rfl) (by kernel_rfl) (by kernel_rfl) (fun _ _ _ h => h) (by rfl) (by intro w hSw; obtain ⟨hq0, hq1, -, -⟩ := hSw; go_simp; try with_reducible rfl) (by assumption) ?_
      simp only [Act.put, List.setIfInBounds_toArray, List.set_cons_zero, List.set_cons_succ]
      refine any_take 53 (.bool false) (i := 24) rfl rfl (by kernel_rfl) (by kernel_rfl) (by kernel_rfl) (fun _ _ _ h => h) (by rfl) (by intro w hSw; obtain ⟨hq0, hq1, -, -⟩ := hSw; go_simp; try with_reducible rfl) (by assumption) ?_
      simp only [Act.put, List.setIfInBounds_toArray, List.set_cons_zero, List.set_cons_succ]
      refine any_take 54 (.bool true) (i := 25) rfl rfl (by kernel_rfl) (by kernel_rfl) (by kernel_rfl) (fun _ _ _ h => h) (by rfl) (by intro w hSw; obtain ⟨hq0, hq1, -, -⟩ := hSw; go_simp; try with_reducible rfl) (by assumption) ?_
      simp only [Act.put, List.setIfInBounds_toArray, List.set_cons_zero, List.set_cons_succ]
      refine wpAnyH_ready (rs := [20]) (by kernel_rfl) (by simp) ?_
      refine AllReadyH.cons rfl (fun K' hK => ?_) AllReadyH.nil
      go_simp
      go_at_call 14
      refine (HEnd.out _ hFS).mono ?_
      rintro e' wE ⟨rfl, hfE⟩
      have hFE : Fr No W6 _ := hFS.then0 hfE (fun _ h => h.elim)
      dsimp only
      refine hK.out _ _ (HS0.out _ hFE) (fun hHeld => ?_)
      clear hK
      try simp only [Act.put, List.setIfInBounds_toArray, List.set_cons_zero, List.set_cons_succ]
      refine any_take 55 (.bool true) (i := 26) rfl rfl (by kernel_rfl) (by kernel_rfl) (by kernel_rfl) (fun _ _ _ h => h) (by rfl) (by intro w hSw; obtain ⟨hq0, hq1, -, -⟩ := hSw; go_simp; try with_reducible rfl) (by assumption) ?_
      simp only [Act.put, List.setIfInBounds_toArray, List.set_cons_zero, List.set_cons_succ]
      refine any_take 56 (.pointer (some ⟨q, 0, none⟩)) (i := 27) rfl rfl (by kernel_rfl) (by kernel_rfl) (by kernel_rfl) (fun _ _ _ h => h) (by rfl) (by intro w hSw; obtain ⟨hq0, hq1, -, -⟩ := hSw; go_simp; try with_reducible rfl) (by assumption) ?_
      simp only [Act.put, List.setIfInBounds_toArray, List.set_cons_zero, List.set_cons_succ]
      refine any_take 57 (.pointer (some ⟨q, 0, none⟩)) (i := 28) rfl rfl (by kernel_rfl) (by kernel_rfl) (by kernel_rfl) (fun _ _ _ h => h) (by rfl) (by intro w hSw; obtain ⟨hq0, hq1, -, -⟩ := hSw; go_simp; try with_reducible rfl) (by assumption) ?_
      simp only [Act.put, List.setIfInBounds_toArray, List.set_cons_zero, List.set_cons_succ]
      refine any_take 58 (.pointer (some ⟨q, 0, none⟩)) (i := 29) rfl rfl (by kernel_rfl) (by kernel_rfl) (by kernel_rfl) (fun _ _ _ h => h) (by rfl) (by intro w hSw; obtain ⟨hq0, hq1, -, -⟩ := hSw; go_simp; try with_reducible rfl) (by assumption) ?_
      simp only [Act.put, List.setIfInBounds_toArray, List.set_cons_zero, List.set_cons_succ]
      refine any_take 59 (.slice A6 n6 c6) (i := 30) rfl rfl (by kernel_rfl) (by kernel_rfl) (by kernel_rfl) (fun _ _ _ h => h) (by rfl) (by intro w hSw; obtain ⟨hq0, hq1, -, -⟩ := hSw; go_simp; try with_reducible rfl) (by assumption) ?_
      simp only [Act.put, List.setIfInBounds_toArray, List.set_cons_zero, List.set_cons_succ]
      refine any_take 60 (.int .i64 n6) (i := 31) rfl rfl (by kernel_rfl) (by kernel_rfl) (by kernel_rfl) (fun _ _ _ h => h) (by rfl) (by intro w hSw; obtain ⟨hq0, hq1, -, -⟩ := hSw; go_simp; try with_reducible rfl) (by assumption) ?_
      simp only [Act.put, List.setIfInBounds_toArray, List.set_cons_zero, List.set_cons_succ]
      refine any_take 61 (.bool false) (i := 32) rfl rfl (by kernel_rfl) (by kernel_rfl) (by kernel_rfl) (fun _ _ _ h => h) (by rfl) (by intro w hSw; obtain ⟨hq0, hq1, -, -⟩ := hSw; go_simp; try with_reducible rfl) (by assumption) ?_
      simp only [Act.put, List.setIfInBounds_toArray, List.set_cons_zero, List.set_cons_succ]
      refine any_take 62 (.bool false) (i := 33) rfl rfl (by kernel_rfl) (by kernel_rfl) (by kernel_rfl) (fun _ _ _ h => h) (by rfl) (by intro w hSw; obtain ⟨hq0, hq1, -, -⟩ := hSw; go_simp; try with_reducible rfl) (by assumption) ?_
      simp only [Act.put, List.setIfInBounds_toArray, List.set_cons_zero, List.set_cons_succ]
      refine any_take 63 (.bool true) (i := 34) rfl rfl (by kernel_rfl) (by kernel_rfl) (by kernel_rfl) (fun _ _ _ h => h) (by rfl) (by intro w hSw; obtain ⟨hq0, hq1, -, -⟩ := hSw; go_simp; try with_reducible rfl) (by assumption) ?_
      simp only [Act.put, List.setIfInBounds_toArray, List.set_cons_zero, List.set_cons_succ]
      refine any_take 64 (.bool true) (i := 35) rfl rfl (by kernel_rfl) (by kernel_rfl) (by kernel_rfl) (fun _ _ _ h => h) (by rfl) (by intro w hSw; obtain ⟨hq0, hq1, -, -⟩ := hSw; go_simp; try with_reducible rfl) (by assumption) ?_
      simp only [Act.put, List.setIfInBounds_toArray, List.set_cons_zero, List.set_cons_succ]
      refine any_take 2 (.bool true) (i := 36) rfl rfl (by kernel_rfl) (by kernel_rfl) (by kernel_rfl) (fun _ _ _ h => h) (by rfl) (by intro w hSw; obtain ⟨hq0, hq1, -, -⟩ := hSw; go_simp; try with_reducible rfl) (by assumption) ?_
      simp only [Act.put, List.setIfInBounds_toArray, List.set_cons_zero, List.set_cons_succ]
      refine wpAnyH_done (by kernel_rfl) ?_ _
      clear hHeld
      go_wp2
      go_ret
      exact ⟨rfl, Hz6.out.then0 hFE (fun _ h => h.elim)⟩
end Go.Proofs.YtbemfomiiikpoaaGreat
