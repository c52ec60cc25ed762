/- The law 'KeysSets'. -/
import Derived.Test.YthnpgepniiicaaaLaw4
namespace Go.Proofs.Ythnpgepniiicaaa
open Go.RowKit

theorem hasB_in (l : List Span) (K : Nat) : hasB l (K : Int) = keysOf l K := by simp [hasB]
theorem hasB_out (l : List Span) (k : Int) (h : k < 0 ∨ 999 < k) : hasB l k = false := by
  unfold hasB
  rcases h with h | h
  · rw [show decide (0 ≤ k) = false by simp; omega]; rfl
  · rw [keysOf_far l k.toNat (by omega), Bool.and_false]
theorem oneL_in (K : Nat) (h : K < 1000) : oneL (K : Int) = [((K : Int), (K : Int))] := by unfold oneL; rw [if_pos (by omega)]
theorem oneL_out (k : Int) (h : k < 0 ∨ 999 < k) : oneL k = [] := by unfold oneL; rw [if_neg (by omega)]

set_option maxRecDepth 100000 in
set_option maxHeartbeats 4000000 in
theorem sets_any (l : List Span) (A : Option Addr) (n c : Nat) (k : Int) (w : World) (hA : Sl w w.heap.size A (sps l)) (hn : l.length = n) (hnl : n ≤ 9223372036854775807) :
    Calls Try.prog 3 #[.slice A n c, .int .i64 k] w fun e w' => e = .returned (.bool true) ∧ Fr No w w' := by
  by_cases h1 : 60 < n
  · have e1 : decide ((60 : Int) < (n : Int)) = true := by simp; omega
    go_enter Try.func3, Try.ntmps3
    go_wp2_with fail
    refine (alive4_any _).mono ?_
    rintro e w1 ⟨rfl, hf⟩
    go_wp2
    go_ret
    exact ⟨rfl, hf⟩
  · have e1 : decide ((60 : Int) < (n : Int)) = false := by simp; omega
    have IA : In4 w A n l := ⟨hA, hn, by omega⟩
    have q2 := eqSp
    clear hA hn
    rcases (show (0 ≤ k ∧ k ≤ 999) ∨ (k < 0 ∨ 999 < k) by omega) with hin | hout
    · obtain ⟨K, rfl⟩ := Int.eq_ofNat_of_zero_le hin.1
      have hK : K < 1000 := by omega
      have Hh := Lib.hid (hasB_in l K)
      have Ho := Lib.hid (oneL_in K hK)
      clear hin
      go_enter Try.func3, Try.ntmps3
      go_wp2_with fail
      refine (alive4_any _).mono ?_
      rintro e w1 ⟨rfl, hf1⟩
      go_wp2_with fail
      refine (refOf4_any l n A c w1 (IA.since hf1).sl IA.len (by omega)).mono ?_
      rintro e w2 ⟨g, rfl, hb2, hg2, hf⟩
      have g2 := hf1.trans' hf (fun _ _ e => e)
      clear hf hf1 hg2
      go_wp2_with fail
      refine (kAll_any l A n c w2 (IA.since g2)).mono ?_
      rintro e w3 ⟨B, c2, rfl, hs3, hf⟩
      have g3 := g2.trans' hf (fun _ _ e => e)
      have hb3 := hb2.fr hf (fun e => e)
      have Hs3 := Lib.hid hs3
      clear hf g2 hb2 hs3
      have Hlen := Lib.hid (allL_len (keysOf l))
      have hcl := cnt_bound (keysOf l) 1000
      generalize hal : (allL (keysOf l)).length = al at *
      have Hal := Lib.hid hal
      clear hal
      have hal2 : al ≤ 1000 := by rw [Hlen.out]; exact hcl
      clear hcl
      go_wp2
      go_loopw [7, 8] (fun nv iv wr => ∃ j q : Nat, j ≤ 1000 ∧ iv = .int .i64 j ∧ nv = .int .i64 q ∧ q ≤ j ∧ Hid (q = cnt (keysOf l) j) ∧ Fr No w3 wr) (fun _ i _ => 1000 - (intOf i).toNat)
      case atStart => exact ⟨0, 0, by omega, rfl, rfl, by omega, Lib.hid rfl, Fr.refl _ _⟩
      case round =>
        obtain ⟨j, q, hj, rfl, rfl, hqj, Hq, hfr⟩ := hrel
        have hb := hb3.fr hfr (fun e => e)
        by_cases hlt : j < 1000
        · have a0 := hb.cell j
          rw [flags_at _ _ _ hlt] at a0
          have Hc : Hid (cnt (keysOf l) (j + 1) = q + (keysOf l j).toNat) := Lib.hid (by rw [Hq.out]; rfl)
          cases hs : keysOf l j with
          | false =>
            rw [hs] at a0 Hc
            clear hs hb
            go_wp2
            go_roundw
            case rel => exact ⟨j + 1, q, by omega, by go_num, rfl, by omega, Lib.hid (by rw [Hc.out]; rfl), hfr⟩
            case measure => simp [intOf]; omega
          | true =>
            rw [hs] at a0 Hc
            have hat := allL_at (keysOf l) j hlt hs
            rw [← Hq.out] at hat
            have hqa : q < al := by
              have h3 := cnt_up (keysOf l) (j + 1) 1000 (by omega)
              rw [Hc.out] at h3
              have h4 : q + 1 ≤ cnt (keysOf l) 1000 := by simpa using h3
              have h5 := Hlen.out
              omega
            have hdi : (i64s (allL (keysOf l)))[q]? = some (.int .i64 j) := by
              simp only [i64s, List.getElem?_map, hat]
              rfl
            obtain ⟨ad, rfl, hadB, hcc⟩ := Hs3.out (by intro e; rw [e] at hdi; simp at hdi)
            have hcq : wr.cell? (ad.add q) = some (.int .i64 j) := by
              rw [hfr.cell (by rw [block_add]; exact hadB) (fun e => e)]
              exact hcc q _ hdi
            have eqj : ((j : Int) != (j : Int)) = false := by simp
            clear hs hb hat hdi hcc
            go_wp2
            go_roundw
            case rel => exact ⟨j + 1, q + 1, by omega, by go_num, by go_num, by omega, Lib.hid (by rw [Hc.out]; rfl), hfr⟩
            case measure => simp [intOf]; omega
        · have hqa : q = al := by
            have h1 := Hq.out
            have h2 := Hlen.out
            rw [show j = 1000 by omega] at h1
            omega
          subst hqa
          have g4 := g3.trans' hfr (fun _ _ e => e)
          have eqq : ((q : Int) == (q : Int)) = true := by simp
          clear Hq hb3 hfr Hs3 g3
          have a0 := hb.cell K
          rw [flags_at _ _ _ hK] at a0
          have efl : (keysOf l K == keysOf l K) = true := by simp
          generalize hfl : keysOf l K = fl at *
          clear hfl
          go_wp2_with fail
          refine (kOne_any (K : Int) _).mono ?_
          rw [Ho.out]
          rintro e w5 ⟨A5, c5, rfl, hs5, hf⟩
          have g5 := g4.trans' hf (fun _ _ e => e)
          have hb5 := hb.fr hf (fun e => e)
          clear hf g4 hb
          obtain ⟨ad, rfl, hadB, x0, x1⟩ := hs5.span (k := 0) (by simp)
          have x0' : w5.cell? ad = some (.int .i64 K) := x0
          have x1' : w5.cell? ⟨ad.block, ad.off + 1, none⟩ = some (.int .i64 K) := x1
          clear x0 x1
          have ekk : ((K : Int) == (K : Int)) = true := by simp
          go_wp2_with fail
          refine (kSize_any l A n c w5 (IA.since g5)).mono ?_
          rw [← Hlen.out]
          rintro e w6 ⟨rfl, hf⟩
          have g6 := g5.trans' hf (fun _ _ e => e)
          have hb6 := hb5.fr hf (fun e => e)
          clear hf g5 hb5 hs5
          go_wp2_with fail
          refine (kHas_any l A n c (K : Int) w6 (IA.since g6)).mono ?_
          rw [Hh.out]
          rintro e w7 ⟨rfl, hf⟩
          have g7 := g6.trans' hf (fun _ _ e => e)
          have hb7 := hb6.fr hf (fun e => e)
          clear hf g6 hb6
          go_wp2_with fail
          refine (kPlain_any l A n c w7 (IA.since g7)).mono ?_
          rintro e w8 ⟨A8, c8, rfl, hs8, hf⟩
          have g8 := g7.trans' hf (fun _ _ e => e)
          have hb8 := hb7.fr hf (fun e => e)
          clear hf g7 hb7
          go_wp2_with fail
          refine (refPlain4_any g (keysOf l) w8 hb8).mono ?_
          rintro e w9 ⟨A9, c9, rfl, hs9, hf⟩
          have g9 := g8.trans' hf (fun _ _ e => e)
          have hs89 := hs8.since hf
          have hpl := plainOf_le (keysOf l)
          clear hf g8 hb8 hs8
          generalize hQ : plainOf (keysOf l) = Q at *
          clear hQ
          go_wp2_with fail
          refine (refSame4_any Q Q A8 A9 _ _ c8 c9 w9 hs89 hs9 rfl rfl (by omega) (by omega)).mono ?_
          rw [decide_eq_true (rfl : Q = Q)]
          rintro e w10 ⟨rfl, hf⟩
          have g10 := g9.trans' hf (fun _ _ e => e)
          clear hf g9 hs89 hs9
          go_wp2
          go_ret
          exact ⟨rfl, g10⟩
    · have Hh := Lib.hid (hasB_out l k hout)
      have Ho := Lib.hid (oneL_out k hout)
      rcases hout with hout | hout
      all_goals
        go_enter Try.func3, Try.ntmps3
        go_wp2_with fail
        refine (alive4_any _).mono ?_
        rintro e w1 ⟨rfl, hf1⟩
        go_wp2_with fail
        refine (refOf4_any l n A c w1 (IA.since hf1).sl IA.len (by omega)).mono ?_
        rintro e w2 ⟨g, rfl, hb2, hg2, hf⟩
        have g2 := hf1.trans' hf (fun _ _ e => e)
        clear hf hf1 hg2
        go_wp2_with fail
        refine (kAll_any l A n c w2 (IA.since g2)).mono ?_
        rintro e w3 ⟨B, c2, rfl, hs3, hf⟩
        have g3 := g2.trans' hf (fun _ _ e => e)
        have hb3 := hb2.fr hf (fun e => e)
        have Hs3 := Lib.hid hs3
        clear hf g2 hb2 hs3
        have Hlen := Lib.hid (allL_len (keysOf l))
        have hcl := cnt_bound (keysOf l) 1000
        generalize hal : (allL (keysOf l)).length = al at *
        have Hal := Lib.hid hal
        clear hal
        have hal2 : al ≤ 1000 := by rw [Hlen.out]; exact hcl
        clear hcl
        go_wp2
        go_loopw [7, 8] (fun nv iv wr => ∃ j q : Nat, j ≤ 1000 ∧ iv = .int .i64 j ∧ nv = .int .i64 q ∧ q ≤ j ∧ Hid (q = cnt (keysOf l) j) ∧ Fr No w3 wr) (fun _ i _ => 1000 - (intOf i).toNat)
        case atStart => exact ⟨0, 0, by omega, rfl, rfl, by omega, Lib.hid rfl, Fr.refl _ _⟩
        case round =>
          obtain ⟨j, q, hj, rfl, rfl, hqj, Hq, hfr⟩ := hrel
          have hb := hb3.fr hfr (fun e => e)
          by_cases hlt : j < 1000
          · have a0 := hb.cell j
            rw [flags_at _ _ _ hlt] at a0
            have Hc : Hid (cnt (keysOf l) (j + 1) = q + (keysOf l j).toNat) := Lib.hid (by rw [Hq.out]; rfl)
            cases hs : keysOf l j with
            | false =>
              rw [hs] at a0 Hc
              clear hs hb
              go_wp2
              go_roundw
              case rel => exact ⟨j + 1, q, by omega, by go_num, rfl, by omega, Lib.hid (by rw [Hc.out]; rfl), hfr⟩
              case measure => simp [intOf]; omega
            | true =>
              rw [hs] at a0 Hc
              have hat := allL_at (keysOf l) j hlt hs
              rw [← Hq.out] at hat
              have hqa : q < al := by
                have h3 := cnt_up (keysOf l) (j + 1) 1000 (by omega)
                rw [Hc.out] at h3
                have h4 : q + 1 ≤ cnt (keysOf l) 1000 := by simpa using h3
                have h5 := Hlen.out
                omega
              have hdi : (i64s (allL (keysOf l)))[q]? = some (.int .i64 j) := by
                simp only [i64s, List.getElem?_map, hat]
                rfl
              obtain ⟨ad, rfl, hadB, hcc⟩ := Hs3.out (by intro e; rw [e] at hdi; simp at hdi)
              have hcq : wr.cell? (ad.add q) = some (.int .i64 j) := by
                rw [hfr.cell (by rw [block_add]; exact hadB) (fun e => e)]
                exact hcc q _ hdi
              have eqj : ((j : Int) != (j : Int)) = false := by simp
              clear hs hb hat hdi hcc
              go_wp2
              go_roundw
              case rel => exact ⟨j + 1, q + 1, by omega, by go_num, by go_num, by omega, Lib.hid (by rw [Hc.out]; rfl), hfr⟩
              case measure => simp [intOf]; omega
          · have hqa : q = al := by
              have h1 := Hq.out
              have h2 := Hlen.out
              rw [show j = 1000 by omega] at h1
              omega
            subst hqa
            have g4 := g3.trans' hfr (fun _ _ e => e)
            have eqq : ((q : Int) == (q : Int)) = true := by simp
            clear Hq hb3 hfr Hs3 g3
            go_wp2_with fail
            refine (kOne_any k _).mono ?_
            rw [Ho.out]
            rintro e w5 ⟨A5, c5, rfl, hs5, hf⟩
            have g5 := g4.trans' hf (fun _ _ e => e)
            have hb5 := hb.fr hf (fun e => e)
            clear hf g4 hb

            go_wp2_with fail
            refine (kSize_any l A n c w5 (IA.since g5)).mono ?_
            rw [← Hlen.out]
            rintro e w6 ⟨rfl, hf⟩
            have g6 := g5.trans' hf (fun _ _ e => e)
            have hb6 := hb5.fr hf (fun e => e)
            clear hf g5 hb5 hs5
            go_wp2_with fail
            refine (kHas_any l A n c k w6 (IA.since g6)).mono ?_
            rw [Hh.out]
            rintro e w7 ⟨rfl, hf⟩
            have g7 := g6.trans' hf (fun _ _ e => e)
            have hb7 := hb6.fr hf (fun e => e)
            clear hf g6 hb6
            go_wp2_with fail
            refine (kPlain_any l A n c w7 (IA.since g7)).mono ?_
            rintro e w8 ⟨A8, c8, rfl, hs8, hf⟩
            have g8 := g7.trans' hf (fun _ _ e => e)
            have hb8 := hb7.fr hf (fun e => e)
            clear hf g7 hb7
            go_wp2_with fail
            refine (refPlain4_any g (keysOf l) w8 hb8).mono ?_
            rintro e w9 ⟨A9, c9, rfl, hs9, hf⟩
            have g9 := g8.trans' hf (fun _ _ e => e)
            have hs89 := hs8.since hf
            have hpl := plainOf_le (keysOf l)
            clear hf g8 hb8 hs8
            generalize hQ : plainOf (keysOf l) = Q at *
            clear hQ
            go_wp2_with fail
            refine (refSame4_any Q Q A8 A9 _ _ c8 c9 w9 hs89 hs9 rfl rfl (by omega) (by omega)).mono ?_
            rw [decide_eq_true (rfl : Q = Q)]
            rintro e w10 ⟨rfl, hf⟩
            have g10 := g9.trans' hf (fun _ _ e => e)
            clear hf g9 hs89 hs9
            go_wp2
            go_ret
            exact ⟨rfl, g10⟩
end Go.Proofs.Ythnpgepniiicaaa
