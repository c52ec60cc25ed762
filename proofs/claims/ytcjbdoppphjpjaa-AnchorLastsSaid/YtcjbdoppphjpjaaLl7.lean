/- The law 'AnchorLasts'. -/
import Derived.Test.YtcjbdoppphjpjaaLp7
namespace Go.Proofs.Ytcjbdoppphjpjaa
open Go.RowKit

theorem Env.put {T : Nat → Prop} {w0 w w' : World} {S : Nat → Prop} {d a b : Nat} {D : Dv} (h : Env w0 w S d D a b) (hf : Fr T w w') (hS : ∀ k, S k → ¬ T k) (hT : ∀ k, T k → w0.heap.size ≤ k) : Env w0 w' S d D a b :=
  ⟨h.dd.fr hf hS, h.new, h.fr.trans' hf (fun k hk e => by have := hT k e; omega)⟩
/-- An anchor's four cells. -/
def cell4 (x : Anc) : Array Value := #[.int .i64 x.n, .int .i64 x.e, .int .i64 x.a, .int .i64 x.w]
set_option maxRecDepth 100000 in
set_option maxHeartbeats 4000000 in
theorem lawLasts_any (xs : List Nat) (hx : ∀ u ∈ xs, u < 256) (m : Nat) (A : Option Addr) (c : Nat) (ep : Nat) (hep : ep < 65536) (keep : Bool) (w : World) (h : Sl w w.heap.size A (u8s xs)) (hm : xs.length = m) (hmc : m < 9223372036854775808) :
    Calls Try.prog 5 #[.slice A m c, .int .u16 ep, .bool keep] w fun e w' => e = .returned (.bool true) ∧ Fr No w w' := by
  have C0 := Lib.hid alive7_any
  by_cases hm40 : m ≤ 40
  · have hd40 : decide ((40 : Int) < (m : Int)) = false := by simp; omega
    have Hx := Lib.hid hx
    have Hm := Lib.hid hm
    clear hx hm
    go_enter Try.func5, Try.ntmps5
    go_wp2_with fail
    refine (C0.out _).mono ?_
    rintro e wb ⟨rfl, f1⟩
    have FB := Lib.hid f1
    have HSl := Lib.hid (h.since f1)
    clear f1 C0 h
    go_wp2_with fail
    refine (dNew_yes 2 (by omega) (by omega) wb).mono ?_
    rintro e w1 ⟨S1, d, rfl, hD, hS⟩
    have E1 := Lib.hid ((Env.begin (Fr.refl No wb) hD hS).alloc (.cells #[.int .i64 0, .int .i64 0, .int .i64 0, .int .i64 0] 23))
    have L1 : Hid (Lv (w1.alloc (.cells #[.int .i64 0, .int .i64 0, .int .i64 0, .int .i64 0] 23)) S1 w1.heap.size 23 (cell4 (lastA xs 0))) := Lib.hid (Lv.made (Env.begin (Fr.refl No wb) hD hS) 23 #[.int .i64 0, .int .i64 0, .int .i64 0, .int .i64 0])
    have Hv : Hid (wb.heap.size ≤ w1.heap.size) := Lib.hid hS.fr.size
    clear hD hS
    go_wp2
    generalize w1.heap.size = v at *
    go_loopw [8, 10] (fun n i wr => ∃ (j a b : Nat) (S : Nat → Prop), j ≤ m ∧ n = .int .i64 j ∧ i = .int .i64 j ∧ Hid (Env wb wr S d (lD xs j) a b) ∧ Hid (Lv wr S v 23 (cell4 (lastA xs j)))) (fun _ i _ => m - (intOf i).toNat)
    case atStart => exact ⟨0, 0, 0, S1, by omega, rfl, rfl, E1, L1⟩
    case round =>
      obtain ⟨j, a, b, S, hj, rfl, rfl, HE, HL⟩ := hrel
      by_cases hlt : j < m
      · have hjl : j < (u8s xs).length := by rw [u8s_len, Hm.out]; exact hlt
        obtain ⟨ad, rfl, hadB, hc⟩ := (HSl.out.fr HE.out.fr (Nat.le_refl _) (fun _ _ _ e => e)).at hjl
        have hc2 : wr.cell? (ad.add j) = some (.int .u8 (xs.getD j 0 : Nat)) := by
          rw [hc]
          simp [u8s, List.getD, List.getElem?_eq_getElem (show j < xs.length by rw [Hm.out]; exact hlt)]
        obtain ⟨u, Hu⟩ : ∃ u, Hid (xs.getD j 0 = u) := ⟨_, Lib.hid rfl⟩
        rw [Hu.out] at hc2
        have y0 := HL.out.bk.frozen 0
        have y1 := HL.out.bk.frozen 1
        have y2 := HL.out.bk.frozen 2
        have y3 := HL.out.bk.frozen 3
        obtain ⟨z0, z1, z2, z3⟩ := bk4 HL.out.bk
        have hu : u < 256 := by
          rw [← Hu.out]
          simp only [List.getD, List.getElem?_eq_getElem (show j < xs.length by rw [Hm.out]; exact hlt), Option.getD_some]
          exact Hx.out _ (List.getElem_mem _)
        have eu := w64_lt (show u < 9223372036854775808 by omega)
        have Hla : Hid (lastA xs (j + 1) = ⟨(j : Int) + 1, (u : Int), (j : Int) % 2, (j : Int)⟩) := Lib.hid (by
          show (⟨(j : Int) + 1, ((xs.getD j 0 : Nat) : Int), (j : Int) % 2, (j : Int)⟩ : Anc) = _
          rw [Hu.out])
        have hokj := lastA_ok xs Hx.out (j := j + 1) (by omega) (by omega)
        have hf2 : Fr (fun k => k = v) wr ((((wr.setCell ⟨v, 0, none⟩ (.int .i64 ((j : Int) + 1))).setCell ⟨v, 1, none⟩ (.int .i64 (u : Int))).setCell ⟨v, 2, none⟩ (.int .i64 ((j : Int) % 2))).setCell ⟨v, 3, none⟩ (.int .i64 (j : Int))) := ((((Fr.refl (fun k => k = v) wr).setCell (p := ⟨v, 0, none⟩) (.inl rfl) _).setCell (p := ⟨v, 1, none⟩) (.inl rfl) _).setCell (p := ⟨v, 2, none⟩) (.inl rfl) _).setCell (p := ⟨v, 3, none⟩) (.inl rfl) _
        have b2 : Bk ((((wr.setCell ⟨v, 0, none⟩ (.int .i64 ((j : Int) + 1))).setCell ⟨v, 1, none⟩ (.int .i64 (u : Int))).setCell ⟨v, 2, none⟩ (.int .i64 ((j : Int) % 2))).setCell ⟨v, 3, none⟩ (.int .i64 (j : Int))) v 23 #[.int .i64 ((j : Int) + 1), .int .i64 (u : Int), .int .i64 ((j : Int) % 2), .int .i64 (j : Int)] := (((HL.out.bk.put 0 (.int .i64 ((j : Int) + 1))).put 1 (.int .i64 (u : Int))).put 2 (.int .i64 ((j : Int) % 2))).put 3 (.int .i64 (j : Int))
        have E2 := Lib.hid (HE.out.put hf2 (fun k hk e => by subst e; exact HL.out.out hk) (fun k hk => by subst hk; exact Hv.out))
        have L2 : Hid (Lv ((((wr.setCell ⟨v, 0, none⟩ (.int .i64 ((j : Int) + 1))).setCell ⟨v, 1, none⟩ (.int .i64 (u : Int))).setCell ⟨v, 2, none⟩ (.int .i64 ((j : Int) % 2))).setCell ⟨v, 3, none⟩ (.int .i64 (j : Int))) S v 23 #[.int .i64 ((j : Int) + 1), .int .i64 (u : Int), .int .i64 ((j : Int) % 2), .int .i64 (j : Int)]) := Lib.hid ⟨b2, HL.out.out⟩
        have CW := Lib.hid (fun W (hD : DD W S d (lD xs j) a b) => anWrite_yes (lastA xs (j + 1)) hokj (by rw [lD_n]; exact Nat.le_refl _) W hD)
        rw [lastA_n] at CW
        have hD1 : ((lD xs j).write (parN ((j + 1 : Nat) : Int)) (ancS (lastA xs (j + 1)))).sync = lD xs (j + 1) := rfl
        have hcj : cell4 (lastA xs (j + 1)) = #[.int .i64 ((j : Int) + 1), .int .i64 (u : Int), .int .i64 ((j : Int) % 2), .int .i64 (j : Int)] := by rw [Hla.out]; rfl
        simp only [Hla.out, Anc.val] at CW
        have Hcj := Lib.hid hcj
        have HD1 := Lib.hid hD1
        rw [Hla.out] at HD1
        clear hc hf2 b2 hokj hD1 hcj hu Hu
        go_wp2_with fail
        refine (CW.out _ E2.out.dd).mono ?_
        rintro e w3 ⟨rfl, S3, hD, hS⟩
        have E3 := Lib.hid (E2.out.step hD hS)
        have L3 := Lib.hid (L2.out.step hS)
        clear hD hS E2 L2 CW HE HL y0 y1 y2 y3 z0 z1 z2 z3 hc2
        go_wp2_with fail
        refine (dSync_any w3 E3.out.dd).mono ?_
        rintro e w4 ⟨rfl, S4, hD, hS⟩
        have E4 := Lib.hid (E3.out.step hD hS)
        have L4 := Lib.hid (L3.out.step hS)
        rw [HD1.out] at E4
        rw [← Hcj.out] at L4
        clear hD hS E3 L3
        go_wp2
        go_roundw
        case rel => exact ⟨j + 1, _, _, S4, by omega, by go_num, by go_num, E4, L4⟩
        case measure => simp [intOf]; omega
      · obtain rfl : j = m := by omega
        have eep := w64_lt (show ep < 9223372036854775808 by omega)
        have hok := nextA_ok (m := j) (e := ep) (by omega) hep
        have CW := Lib.hid (fun W (hD : DD W S d (lD xs j) a b) => anWrite_yes (nextA j ep) hok (by rw [lD_n]; exact Nat.le_refl _) W hD)
        have HY := Lib.hid (after_yes xs Hx.out j ep (by omega) hep)
        have HN := Lib.hid (after_no xs Hx.out j ep (by omega))
        simp only [nextA, Anc.val] at CW
        have HA : Hid (∀ k, (((lD xs j).write (parN ((j : Int) + 1)) (ancS ⟨(j : Int) + 1, (ep : Int), 0, 0⟩)).crash [k]) = afterD xs j ep k) := Lib.hid (fun k => rfl)
        obtain ⟨l1, Hl1⟩ : ∃ l1, Hid (lastA xs j = l1) := ⟨_, Lib.hid rfl⟩
        rw [Hl1.out] at HN HL
        have E2 := Lib.hid (HE.out.alloc (.cells #[.int .i64 ((j : Int) + 1), .int .i64 (ep : Int), .int .i64 0, .int .i64 0] 23))
        have L2 := Lib.hid (HL.out.alloc (.cells #[.int .i64 ((j : Int) + 1), .int .i64 (ep : Int), .int .i64 0, .int .i64 0] 23))
        have N2 := Lib.hid (Lv.made HE.out 23 #[.int .i64 ((j : Int) + 1), .int .i64 (ep : Int), .int .i64 0, .int .i64 0])
        have hzz := hd40
        clear hok hlt
        go_wp2_with fail
        refine (CW.out _ E2.out.dd).mono ?_
        rintro e w3 ⟨rfl, S3, hD, hS⟩
        have E3 := Lib.hid (E2.out.step hD hS)
        have L3 := Lib.hid (L2.out.step hS)
        have N3 := Lib.hid (N2.out.step hS)
        generalize wr.heap.size = v2 at *
        clear hD hS E2 L2 N2 CW HE HL
        go_wp2_with fail
        have E3' := Lib.hid (E3.out.alloc (.cells #[.bool keep] 4))
        have L3' := Lib.hid (L3.out.alloc (.cells #[.bool keep] 4))
        have N3' := Lib.hid (N3.out.alloc (.cells #[.bool keep] 4))
        have hsl : Sl (w3.alloc (.cells #[.bool keep] 4)) (w3.alloc (.cells #[.bool keep] 4)).heap.size (some ⟨w3.heap.size, 0, none⟩) ([keep].map Value.bool) := by
          have := Sl.made w3 4 #[.bool keep]
          rw [World.size_alloc]
          exact this
        refine (keeps_any [keep] (some ⟨w3.heap.size, 0, none⟩) 1 1 _ hsl rfl).mono ?_
        rintro e w4 ⟨kn, kl, rfl, hk, hkn, hkl, hf⟩
        have hs3 := E3.out.dd.lt
        have hs4 := E3'.out.dd.lt
        have CC := dCrash_any kn kl (some ⟨w3.heap.size, 0, none⟩) 1 1 [keep] w4 (E3'.out.quiet hf).dd hk (fun e => by have := hs4 _ e; omega) (fun e => by have := hs4 _ e; omega) (fun ad e _ e2 => by injection e with e; subst e; have := hs3 _ e2; simp at this) (by rw [show ((lD xs j).write (parN ((j : Int) + 1)) (ancS ⟨(j : Int) + 1, (ep : Int), 0, 0⟩)).n = 2 from lD_n xs j]; omega)
        clear hsl hs3 hs4
        go_wp2_with fail
        refine CC.mono ?_
        rintro e w5 ⟨rfl, S5, hD, hfr, hg⟩
        have hS := keepCrash hf hkn hfr hg
        have E5 := Lib.hid (E3'.out.step hD hS)
        have L5 := Lib.hid (L3'.out.step hS)
        have N5 := Lib.hid (N3'.out.step hS)
        rw [HA.out] at E5
        have CF := Lib.hid (anFind_any w5 E5.out.dd)
        have C9 := Lib.hid (fun (p : Option Addr) W => anWrite_no anc0 ⟨by decide, by decide, by decide, by decide⟩ rfl p W)
        have qe : ∀ x1 x2 x3 x4 W, (Op.equalIn 10000 23 (.agg #[.int .i64 x1, .int .i64 x2, .int .i64 x3, .int .i64 x4]) (.agg #[.int .i64 x1, .int .i64 x2, .int .i64 x3, .int .i64 x4])).run Try.prog W = .ok true W := fun x1 x2 x3 x4 W => by rw [eqAnc]; simp
        simp only [anc0, Anc.val] at C9
        clear hD hfr hg hS hk hkn hkl hf CC E3 E3' L3 L3' N3 N3' HA
        obtain ⟨l1, l2, l3, l4⟩ := l1
        simp only [cell4] at L5
        cases keep with
        | true =>
          rw [HY.out] at CF
          simp only [nextA, Anc.val] at CF
          go_wp2_with fail
          refine CF.out.mono ?_
          rintro e w6 ⟨rfl, f6⟩
          obtain ⟨n0, n1, n2, n3⟩ := bk4 ((N5.out.quiet f6).alloc (.cells #[.int .i64 ((j : Int) + 1), .int .i64 (ep : Int), .int .i64 0, .int .i64 0] 23)).bk
          have FF := Lib.hid (FB.out.trans' ((E5.out.fr.trans' f6 (fun _ _ e => e)).alloc (.cells #[.int .i64 ((j : Int) + 1), .int .i64 (ep : Int), .int .i64 0, .int .i64 0] 23)) (fun _ _ e => e))
          clear CF f6 E5 L5 N5 HY HN
          go_wp2
          go_ret
          exact ⟨rfl, FF.out⟩
        | false =>
          rw [HN.out] at CF
          by_cases hj0 : j = 0
          · subst hj0
            rw [if_pos rfl] at CF
            simp only [anc0, Anc.val] at CF
            go_wp2_with fail
            refine CF.out.mono ?_
            rintro e w6 ⟨rfl, f6⟩
            have FF := Lib.hid (FB.out.trans' ((E5.out.fr.trans' f6 (fun _ _ e => e)).alloc (.cells #[.int .i64 0, .int .i64 0, .int .i64 0, .int .i64 0] 23)) (fun _ _ e => e))
            clear CF f6 E5 L5 N5 HY HN
            go_wp2
            go_ret
            exact ⟨rfl, FF.out⟩
          · rw [if_neg hj0] at CF
            simp only [Anc.val] at CF
            have hj1 : ((j : Int) == 0) = false := by simp; omega
            go_wp2_with fail
            refine CF.out.mono ?_
            rintro e w6 ⟨rfl, f6⟩
            obtain ⟨n0, n1, n2, n3⟩ := bk4 ((L5.out.quiet f6).alloc (.cells #[.int .i64 l1, .int .i64 l2, .int .i64 l3, .int .i64 l4] 23)).bk
            have FF := Lib.hid (FB.out.trans' ((E5.out.fr.trans' f6 (fun _ _ e => e)).alloc (.cells #[.int .i64 l1, .int .i64 l2, .int .i64 l3, .int .i64 l4] 23)) (fun _ _ e => e))
            clear CF f6 E5 L5 N5 HY HN
            go_wp2_with fail
            refine (C9.out _ _).mono ?_
            rintro e w7 ⟨rfl, f7⟩
            have FG := Lib.hid (FF.out.trans' f7 (fun _ _ e => e))
            clear FF f7 C9
            go_wp2
            go_ret
            exact ⟨rfl, FG.out⟩
  · have hd40 : decide ((40 : Int) < (m : Int)) = true := by simp; omega
    clear hm40
    go_enter Try.func5, Try.ntmps5
    go_wp2_with fail
    refine (C0.out _).mono ?_
    rintro e wb ⟨rfl, f1⟩
    go_wp2
    go_ret
    exact ⟨rfl, f1⟩
end Go.Proofs.Ytcjbdoppphjpjaa
