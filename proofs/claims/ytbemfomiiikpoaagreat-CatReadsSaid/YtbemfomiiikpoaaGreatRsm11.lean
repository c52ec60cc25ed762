/- Whether two lists of steps are the same, as the document has it. -/
import Derived.Test.YtbemfomiiikpoaaGreatCls11
import Derived.Test.YtbemfomiiikpoaaGreatHand
namespace Go.Proofs.YtbemfomiiikpoaaGreat
open Go.RowKit

set_option maxHeartbeats 4000000 in
theorem refSteps_any (l1 l2 : List Stp) (A B : Option Addr) (n m c d : Nat) (w : World) (h1 : Sts w A l1) (h2 : Sts w B l2) (hn : l1.length = n) (hm : l2.length = m) (hnn : n ≤ 1099511627776)
    (hc1 : ∀ s ∈ l1, s.code.length ≤ 1099511627776 ∧ s.foot.length ≤ 1099511627776) :
    Calls Tryz.prog 59 #[.slice A n c, .slice B m d] w (Has w (decide (l1.map Stp.p = l2.map Stp.p))) := by
  by_cases hnm : n = m
  · subst hnm
    have Hn := Lib.hid hn
    have Hm := Lib.hid hm
    have H1 := Lib.hid h1
    have H2 := Lib.hid h2
    have Hc1 := Lib.hid hc1
    clear h1 h2 hn hm hc1
    go_enter Tryz.func59, Tryz.ntmps59
    go_wp2
    go_loopw [5] (fun i wr => ∃ k : Nat, k ≤ n ∧ i = .int .i64 k ∧ Hid ((l1.take k).map Stp.p = (l2.take k).map Stp.p) ∧ Fr No w wr) (fun i _ => n - (intOf i).toNat)
    case atStart => exact ⟨0, Nat.zero_le _, rfl, Lib.hid (by simp), Fr.refl _ _⟩
    case round =>
      obtain ⟨k, hk, rfl, hpre, hfr⟩ := hrel
      by_cases hlt : k < n
      · have hkl : k < l1.length := by rw [Hn.out]; exact hlt
        have hkm : k < l2.length := by rw [Hm.out]; exact hlt
        obtain ⟨ad, rfl, hab, c0, c1⟩ := (H1.out.since hfr).sl.stp (k := k) hkl
        obtain ⟨ae, rfl, hae, e0, e1⟩ := (H2.out.since hfr).sl.stp (k := k) hkm
        have HX := Lib.hid (H1.out.all _ (List.getElem_mem hkl))
        have HY := Lib.hid (H2.out.all _ (List.getElem_mem hkm))
        have HL := Lib.hid (Hc1.out _ (List.getElem_mem hkl))
        have Hs := Lib.hid (stp_step hkl hkm hpre.out)
        have Hd := Lib.hid (stp_ne_code hkl hkm)
        generalize l1[k] = x at *
        generalize l2[k] = y at *
        obtain ⟨xc, xl, xd, xf, xm, xe⟩ := x
        obtain ⟨yc, yl, yd, yf, ym, ye⟩ := y
        dsimp only at c0 c1 e0 e1
        have C1 := Lib.hid (fun (W : World) (h : Fr No w W) => sameP_any xl yl xc yc xl.length yl.length xd yd W (HX.out.code.since h) (HY.out.code.since h) rfl rfl HL.out.1)
        have C2 := Lib.hid (fun (W : World) (h : Fr No w W) => sameF_any xm ym xf yf xm.length ym.length xe ye W (HX.out.foot.since h) (HY.out.foot.since h) rfl rfl HL.out.2)
        have Hb1 : Hid (decide (xl = yl) = false → decide (l1.map Stp.p = l2.map Stp.p) = false) := Lib.hid (fun h => Hd.out (fun e => by
          simp only [Stp.p, Prod.mk.injEq] at e
          simp [e.1] at h))
        have Hb2 : Hid (decide (xm = ym) = false → decide (l1.map Stp.p = l2.map Stp.p) = false) := Lib.hid (fun h => Hd.out (fun e => by
          simp only [Stp.p, Prod.mk.injEq] at e
          simp [e.2] at h))
        have Hb3 : Hid (decide (xl = yl) = true → decide (xm = ym) = true → (l1.take (k + 1)).map Stp.p = (l2.take (k + 1)).map Stp.p) := Lib.hid (fun h h' => Hs.out (by
          simp only [decide_eq_true_eq] at h h'
          simp [Stp.p, h, h']))
        generalize decide (xl = yl) = b1 at *
        generalize decide (xm = ym) = b2 at *
        generalize xl.length = p1 at *
        generalize yl.length = p2 at *
        generalize xm.length = p3 at *
        generalize ym.length = p4 at *
        clear HX HY HL Hs Hd
        have HS : Hid (∀ w', Fr No wr w' → w'.cell? (ad.add (k * 2)) = some (.slice xc p1 xd) ∧ w'.cell? ⟨(ad.add (k * 2)).block, (ad.add (k * 2)).off + 1, none⟩ = some (.slice xf p3 xe) ∧ w'.cell? (ae.add (k * 2)) = some (.slice yc p2 yd) ∧ w'.cell? ⟨(ae.add (k * 2)).block, (ae.add (k * 2)).off + 1, none⟩ = some (.slice yf p4 ye)) := Lib.hid (fun w' h => ⟨(h.cell (p := ad.add (k * 2)) (by rw [block_add]; exact hab) (fun e => e)).trans c0, (h.cell (p := ⟨(ad.add (k * 2)).block, (ad.add (k * 2)).off + 1, none⟩) (by rw [block_add]; exact hab) (fun e => e)).trans c1, (h.cell (p := ae.add (k * 2)) (by rw [block_add]; exact hae) (fun e => e)).trans e0, (h.cell (p := ⟨(ae.add (k * 2)).block, (ae.add (k * 2)).off + 1, none⟩) (by rw [block_add]; exact hae) (fun e => e)).trans e1⟩)
        cases b1
        · have HE := Lib.hid (Hb1.out rfl)
          go_wp2_with fail
          refine wp_region_held_drew (S := fun w' => w'.cell? (ad.add (k * 2)) = some (.slice xc p1 xd) ∧ w'.cell? ⟨(ad.add (k * 2)).block, (ad.add (k * 2)).off + 1, none⟩ = some (.slice xf p3 xe) ∧ w'.cell? (ae.add (k * 2)) = some (.slice yc p2 yd) ∧ w'.cell? ⟨(ae.add (k * 2)).block, (ae.add (k * 2)).off + 1, none⟩ = some (.slice yf p4 ye)) (by kernel_rfl) (HS.out wr (Fr.refl _ _)) (fun hHeld => ?_)
          refine any_take 17 (.slice (some ad) n c) (i := 0) rfl rfl (by kernel_rfl) (by kernel_rfl) (by kernel_rfl) (fun _ _ _ h => h) (by rfl) (by intro w hSw; (try dsimp only at hSw); go_simp; try with_reducible rfl) (by assumption) ?_
          simp only [Act.put, List.setIfInBounds_toArray, List.set_cons_zero, List.set_cons_succ]
          refine any_take 18 (.int .i64 k) (i := 1) rfl rfl (by kernel_rfl) (by kernel_rfl) (by kernel_rfl) (fun _ _ _ h => h) (by rfl) (by intro w hSw; (try dsimp only at hSw); go_simp; try with_reducible rfl) (by assumption) ?_
          simp only [Act.put, List.setIfInBounds_toArray, List.set_cons_zero, List.set_cons_succ]
          refine any_take 19 (.pointer (some (ad.add (k * 2)))) (i := 2) rfl rfl (by kernel_rfl) (by kernel_rfl) (by kernel_rfl) (fun _ _ _ h => h) (by rfl) (by intro w hSw; (try dsimp only at hSw); go_simp; try with_reducible rfl) (by assumption) ?_
          simp only [Act.put, List.setIfInBounds_toArray, List.set_cons_zero, List.set_cons_succ]
          refine any_take 20 (.pointer (some (ad.add (k * 2)))) (i := 3) rfl rfl (by kernel_rfl) (by kernel_rfl) (by kernel_rfl) (fun _ _ _ h => h) (by rfl) (by intro w hSw; (try dsimp only at hSw); go_simp; try with_reducible rfl) (by assumption) ?_
          simp only [Act.put, List.setIfInBounds_toArray, List.set_cons_zero, List.set_cons_succ]
          refine any_take 21 (.slice xc p1 xd) (i := 4) rfl rfl (by kernel_rfl) (by kernel_rfl) (by kernel_rfl) (fun _ _ _ h => h) (by rfl) (by intro w hSw; (try dsimp only at hSw); go_simp; try with_reducible rfl) (by assumption) ?_
          simp only [Act.put, List.setIfInBounds_toArray, List.set_cons_zero, List.set_cons_succ]
          refine any_take 22 (.slice (some ae) n d) (i := 5) rfl rfl (by kernel_rfl) (by kernel_rfl) (by kernel_rfl) (fun _ _ _ h => h) (by rfl) (by intro w hSw; (try dsimp only at hSw); go_simp; try with_reducible rfl) (by assumption) ?_
          simp only [Act.put, List.setIfInBounds_toArray, List.set_cons_zero, List.set_cons_succ]
          refine any_take 23 (.int .i64 k) (i := 6) rfl rfl (by kernel_rfl) (by kernel_rfl) (by kernel_rfl) (fun _ _ _ h => h) (by rfl) (by intro w hSw; (try dsimp only at hSw); go_simp; try with_reducible rfl) (by assumption) ?_
          simp only [Act.put, List.setIfInBounds_toArray, List.set_cons_zero, List.set_cons_succ]
          refine any_take 24 (.pointer (some (ae.add (k * 2)))) (i := 7) rfl rfl (by kernel_rfl) (by kernel_rfl) (by kernel_rfl) (fun _ _ _ h => h) (by rfl) (by intro w hSw; (try dsimp only at hSw); go_simp; try with_reducible rfl) (by assumption) ?_
          simp only [Act.put, List.setIfInBounds_toArray, List.set_cons_zero, List.set_cons_succ]
          refine any_take 25 (.pointer (some (ae.add (k * 2)))) (i := 8) rfl rfl (by kernel_rfl) (by kernel_rfl) (by kernel_rfl) (fun _ _ _ h => h) (by rfl) (by intro w hSw; (try dsimp only at hSw); go_simp; try with_reducible rfl) (by assumption) ?_
          simp only [Act.put, List.setIfInBounds_toArray, List.set_cons_zero, List.set_cons_succ]
          refine any_take 26 (.slice yc p2 yd) (i := 9) rfl rfl (by kernel_rfl) (by kernel_rfl) (by kernel_rfl) (fun _ _ _ h => h) (by rfl) (by intro w hSw; (try dsimp only at hSw); go_simp; try with_reducible rfl) (by assumption) ?_
          simp only [Act.put, List.setIfInBounds_toArray, List.set_cons_zero, List.set_cons_succ]
          refine wpAnyH_ready (rs := [10]) (by kernel_rfl) (by simp) ?_
          refine AllReadyH.cons rfl (fun K' hK => ?_) AllReadyH.nil
          go_simp
          go_at_call 83
          refine (C1.out _ hfr.drew).mono ?_
          rintro e' w1 ⟨rfl, f1⟩
          have F1 : Fr No wr w1 := ((Fr.refl No wr).drew).then0 f1 (fun _ h => h.elim)
          dsimp only
          refine hK.out _ _ (HS.out w1 F1) (fun hHeld => ?_)
          clear hK
          try simp only [Act.put, List.setIfInBounds_toArray, List.set_cons_zero, List.set_cons_succ]
          refine any_take 28 (.bool true) (i := 11) rfl rfl (by kernel_rfl) (by kernel_rfl) (by kernel_rfl) (fun _ _ _ h => h) (by rfl) (by intro w hSw; (try dsimp only at hSw); go_simp; try with_reducible rfl) (by assumption) ?_
          simp only [Act.put, List.setIfInBounds_toArray, List.set_cons_zero, List.set_cons_succ]
          refine any_take 29 (.bool true) (i := 12) rfl rfl (by kernel_rfl) (by kernel_rfl) (by kernel_rfl) (fun _ _ _ h => h) (by rfl) (by intro w hSw; (try dsimp only at hSw); go_simp; try with_reducible rfl) (by assumption) ?_
          simp only [Act.put, List.setIfInBounds_toArray, List.set_cons_zero, List.set_cons_succ]
          refine any_skip 30 (i := 13) rfl rfl (by kernel_rfl) (by kernel_rfl) (by kernel_rfl) (fun _ _ _ h => h) (by rfl) (by assumption) ?_
          simp only [Act.put, List.setIfInBounds_toArray, List.set_cons_zero, List.set_cons_succ]
          refine any_skip 31 (i := 14) rfl rfl (by kernel_rfl) (by kernel_rfl) (by kernel_rfl) (fun _ _ _ h => h) (by rfl) (by assumption) ?_
          simp only [Act.put, List.setIfInBounds_toArray, List.set_cons_zero, List.set_cons_succ]
          refine any_skip 32 (i := 15) rfl rfl (by kernel_rfl) (by kernel_rfl) (by kernel_rfl) (fun _ _ _ h => h) (by rfl) (by assumption) ?_
          simp only [Act.put, List.setIfInBounds_toArray, List.set_cons_zero, List.set_cons_succ]
          refine any_skip 33 (i := 16) rfl rfl (by kernel_rfl) (by kernel_rfl) (by kernel_rfl) (fun _ _ _ h => h) (by rfl) (by assumption) ?_
          simp only [Act.put, List.setIfInBounds_toArray, List.set_cons_zero, List.set_cons_succ]
          refine any_skip 34 (i := 17) rfl rfl (by kernel_rfl) (by kernel_rfl) (by kernel_rfl) (fun _ _ _ h => h) (by rfl) (by assumption) ?_
          simp only [Act.put, List.setIfInBounds_toArray, List.set_cons_zero, List.set_cons_succ]
          refine any_skip 35 (i := 18) rfl rfl (by kernel_rfl) (by kernel_rfl) (by kernel_rfl) (fun _ _ _ h => h) (by rfl) (by assumption) ?_
          simp only [Act.put, List.setIfInBounds_toArray, List.set_cons_zero, List.set_cons_succ]
          refine any_skip 36 (i := 19) rfl rfl (by kernel_rfl) (by kernel_rfl) (by kernel_rfl) (fun _ _ _ h => h) (by rfl) (by assumption) ?_
          simp only [Act.put, List.setIfInBounds_toArray, List.set_cons_zero, List.set_cons_succ]
          refine any_skip 37 (i := 20) rfl rfl (by kernel_rfl) (by kernel_rfl) (by kernel_rfl) (fun _ _ _ h => h) (by rfl) (by assumption) ?_
          simp only [Act.put, List.setIfInBounds_toArray, List.set_cons_zero, List.set_cons_succ]
          refine any_skip 38 (i := 21) rfl rfl (by kernel_rfl) (by kernel_rfl) (by kernel_rfl) (fun _ _ _ h => h) (by rfl) (by assumption) ?_
          simp only [Act.put, List.setIfInBounds_toArray, List.set_cons_zero, List.set_cons_succ]
          refine any_skip 39 (i := 22) rfl rfl (by kernel_rfl) (by kernel_rfl) (by kernel_rfl) (fun _ _ _ h => h) (by rfl) (by assumption) ?_
          simp only [Act.put, List.setIfInBounds_toArray, List.set_cons_zero, List.set_cons_succ]
          refine any_skip 40 (i := 23) rfl rfl (by kernel_rfl) (by kernel_rfl) (by kernel_rfl) (fun _ _ _ h => h) (by rfl) (by assumption) ?_
          simp only [Act.put, List.setIfInBounds_toArray, List.set_cons_zero, List.set_cons_succ]
          refine any_skip 41 (i := 24) rfl rfl (by kernel_rfl) (by kernel_rfl) (by kernel_rfl) (fun _ _ _ h => h) (by rfl) (by assumption) ?_
          simp only [Act.put, List.setIfInBounds_toArray, List.set_cons_zero, List.set_cons_succ]
          refine any_take 42 (.bool true) (i := 25) rfl rfl (by kernel_rfl) (by kernel_rfl) (by kernel_rfl) (fun _ _ _ h => h) (by rfl) (by intro w hSw; (try dsimp only at hSw); go_simp; try with_reducible rfl) (by assumption) ?_
          simp only [Act.put, List.setIfInBounds_toArray, List.set_cons_zero, List.set_cons_succ]
          refine wpAnyH_done (by kernel_rfl) ?_ _
          clear hHeld
          go_wp2
          go_ret
          exact ⟨by rw [HE.out]; rfl, hfr.then0 F1 (fun _ h => h.elim)⟩
        · cases b2
          · have HE := Lib.hid (Hb2.out rfl)
            go_wp2_with fail
            refine wp_region_held_drew (S := fun w' => w'.cell? (ad.add (k * 2)) = some (.slice xc p1 xd) ∧ w'.cell? ⟨(ad.add (k * 2)).block, (ad.add (k * 2)).off + 1, none⟩ = some (.slice xf p3 xe) ∧ w'.cell? (ae.add (k * 2)) = some (.slice yc p2 yd) ∧ w'.cell? ⟨(ae.add (k * 2)).block, (ae.add (k * 2)).off + 1, none⟩ = some (.slice yf p4 ye)) (by kernel_rfl) (HS.out wr (Fr.refl _ _)) (fun hHeld => ?_)
            refine any_take 17 (.slice (some ad) n c) (i := 0) rfl rfl (by kernel_rfl) (by kernel_rfl) (by kernel_rfl) (fun _ _ _ h => h) (by rfl) (by intro w hSw; (try dsimp only at hSw); go_simp; try with_reducible rfl) (by assumption) ?_
            simp only [Act.put, List.setIfInBounds_toArray, List.set_cons_zero, List.set_cons_succ]
            refine any_take 18 (.int .i64 k) (i := 1) rfl rfl (by kernel_rfl) (by kernel_rfl) (by kernel_rfl) (fun _ _ _ h => h) (by rfl) (by intro w hSw; (try dsimp only at hSw); go_simp; try with_reducible rfl) (by assumption) ?_
            simp only [Act.put, List.setIfInBounds_toArray, List.set_cons_zero, List.set_cons_succ]
            refine any_take 19 (.pointer (some (ad.add (k * 2)))) (i := 2) rfl rfl (by kernel_rfl) (by kernel_rfl) (by kernel_rfl) (fun _ _ _ h => h) (by rfl) (by intro w hSw; (try dsimp only at hSw); go_simp; try with_reducible rfl) (by assumption) ?_
            simp only [Act.put, List.setIfInBounds_toArray, List.set_cons_zero, List.set_cons_succ]
            refine any_take 20 (.pointer (some (ad.add (k * 2)))) (i := 3) rfl rfl (by kernel_rfl) (by kernel_rfl) (by kernel_rfl) (fun _ _ _ h => h) (by rfl) (by intro w hSw; (try dsimp only at hSw); go_simp; try with_reducible rfl) (by assumption) ?_
            simp only [Act.put, List.setIfInBounds_toArray, List.set_cons_zero, List.set_cons_succ]
            refine any_take 21 (.slice xc p1 xd) (i := 4) rfl rfl (by kernel_rfl) (by kernel_rfl) (by kernel_rfl) (fun _ _ _ h => h) (by rfl) (by intro w hSw; (try dsimp only at hSw); go_simp; try with_reducible rfl) (by assumption) ?_
            simp only [Act.put, List.setIfInBounds_toArray, List.set_cons_zero, List.set_cons_succ]
            refine any_take 22 (.slice (some ae) n d) (i := 5) rfl rfl (by kernel_rfl) (by kernel_rfl) (by kernel_rfl) (fun _ _ _ h => h) (by rfl) (by intro w hSw; (try dsimp only at hSw); go_simp; try with_reducible rfl) (by assumption) ?_
            simp only [Act.put, List.setIfInBounds_toArray, List.set_cons_zero, List.set_cons_succ]
            refine any_take 23 (.int .i64 k) (i := 6) rfl rfl (by kernel_rfl) (by kernel_rfl) (by kernel_rfl) (fun _ _ _ h => h) (by rfl) (by intro w hSw; (try dsimp only at hSw); go_simp; try with_reducible rfl) (by assumption) ?_
            simp only [Act.put, List.setIfInBounds_toArray, List.set_cons_zero, List.set_cons_succ]
            refine any_take 24 (.pointer (some (ae.add (k * 2)))) (i := 7) rfl rfl (by kernel_rfl) (by kernel_rfl) (by kernel_rfl) (fun _ _ _ h => h) (by rfl) (by intro w hSw; (try dsimp only at hSw); go_simp; try with_reducible rfl) (by assumption) ?_
            simp only [Act.put, List.setIfInBounds_toArray, List.set_cons_zero, List.set_cons_succ]
            refine any_take 25 (.pointer (some (ae.add (k * 2)))) (i := 8) rfl rfl (by kernel_rfl) (by kernel_rfl) (by kernel_rfl) (fun _ _ _ h => h) (by rfl) (by intro w hSw; (try dsimp only at hSw); go_simp; try with_reducible rfl) (by assumption) ?_
            simp only [Act.put, List.setIfInBounds_toArray, List.set_cons_zero, List.set_cons_succ]
            refine any_take 26 (.slice yc p2 yd) (i := 9) rfl rfl (by kernel_rfl) (by kernel_rfl) (by kernel_rfl) (fun _ _ _ h => h) (by rfl) (by intro w hSw; (try dsimp only at hSw); go_simp; try with_reducible rfl) (by assumption) ?_
            simp only [Act.put, List.setIfInBounds_toArray, List.set_cons_zero, List.set_cons_succ]
            refine wpAnyH_ready (rs := [10]) (by kernel_rfl) (by simp) ?_
            refine AllReadyH.cons rfl (fun K' hK => ?_) AllReadyH.nil
            go_simp
            go_at_call 83
            refine (C1.out _ hfr.drew).mono ?_
            rintro e' w1 ⟨rfl, f1⟩
            have F1 : Fr No wr w1 := ((Fr.refl No wr).drew).then0 f1 (fun _ h => h.elim)
            dsimp only
            refine hK.out _ _ (HS.out w1 F1) (fun hHeld => ?_)
            clear hK
            try simp only [Act.put, List.setIfInBounds_toArray, List.set_cons_zero, List.set_cons_succ]
            refine any_take 28 (.bool false) (i := 11) rfl rfl (by kernel_rfl) (by kernel_rfl) (by kernel_rfl) (fun _ _ _ h => h) (by rfl) (by intro w hSw; (try dsimp only at hSw); go_simp; try with_reducible rfl) (by assumption) ?_
            simp only [Act.put, List.setIfInBounds_toArray, List.set_cons_zero, List.set_cons_succ]
            refine any_take 29 (.bool false) (i := 12) rfl rfl (by kernel_rfl) (by kernel_rfl) (by kernel_rfl) (fun _ _ _ h => h) (by rfl) (by intro w hSw; (try dsimp only at hSw); go_simp; try with_reducible rfl) (by assumption) ?_
            simp only [Act.put, List.setIfInBounds_toArray, List.set_cons_zero, List.set_cons_succ]
            refine any_take 30 (.slice (some ad) n c) (i := 13) rfl rfl (by kernel_rfl) (by kernel_rfl) (by kernel_rfl) (fun _ _ _ h => h) (by rfl) (by intro w hSw; (try dsimp only at hSw); go_simp; try with_reducible rfl) (by assumption) ?_
            simp only [Act.put, List.setIfInBounds_toArray, List.set_cons_zero, List.set_cons_succ]
            refine any_take 31 (.int .i64 k) (i := 14) rfl rfl (by kernel_rfl) (by kernel_rfl) (by kernel_rfl) (fun _ _ _ h => h) (by rfl) (by intro w hSw; (try dsimp only at hSw); go_simp; try with_reducible rfl) (by assumption) ?_
            simp only [Act.put, List.setIfInBounds_toArray, List.set_cons_zero, List.set_cons_succ]
            refine any_take 32 (.pointer (some (ad.add (k * 2)))) (i := 15) rfl rfl (by kernel_rfl) (by kernel_rfl) (by kernel_rfl) (fun _ _ _ h => h) (by rfl) (by intro w hSw; (try dsimp only at hSw); go_simp; try with_reducible rfl) (by assumption) ?_
            simp only [Act.put, List.setIfInBounds_toArray, List.set_cons_zero, List.set_cons_succ]
            refine any_take 33 (.pointer (some ⟨(ad.add (k * 2)).block, (ad.add (k * 2)).off + 1, none⟩)) (i := 16) rfl rfl (by kernel_rfl) (by kernel_rfl) (by kernel_rfl) (fun _ _ _ h => h) (by rfl) (by intro w hSw; (try dsimp only at hSw); go_simp; try with_reducible rfl) (by assumption) ?_
            simp only [Act.put, List.setIfInBounds_toArray, List.set_cons_zero, List.set_cons_succ]
            refine any_take 34 (.slice xf p3 xe) (i := 17) rfl rfl (by kernel_rfl) (by kernel_rfl) (by kernel_rfl) (fun _ _ _ h => h) (by rfl) (by intro w hSw; (try dsimp only at hSw); go_simp; try with_reducible rfl) (by assumption) ?_
            simp only [Act.put, List.setIfInBounds_toArray, List.set_cons_zero, List.set_cons_succ]
            refine any_take 35 (.slice (some ae) n d) (i := 18) rfl rfl (by kernel_rfl) (by kernel_rfl) (by kernel_rfl) (fun _ _ _ h => h) (by rfl) (by intro w hSw; (try dsimp only at hSw); go_simp; try with_reducible rfl) (by assumption) ?_
            simp only [Act.put, List.setIfInBounds_toArray, List.set_cons_zero, List.set_cons_succ]
            refine any_take 36 (.int .i64 k) (i := 19) rfl rfl (by kernel_rfl) (by kernel_rfl) (by kernel_rfl) (fun _ _ _ h => h) (by rfl) (by intro w hSw; (try dsimp only at hSw); go_simp; try with_reducible rfl) (by assumption) ?_
            simp only [Act.put, List.setIfInBounds_toArray, List.set_cons_zero, List.set_cons_succ]
            refine any_take 37 (.pointer (some (ae.add (k * 2)))) (i := 20) rfl rfl (by kernel_rfl) (by kernel_rfl) (by kernel_rfl) (fun _ _ _ h => h) (by rfl) (by intro w hSw; (try dsimp only at hSw); go_simp; try with_reducible rfl) (by assumption) ?_
            simp only [Act.put, List.setIfInBounds_toArray, List.set_cons_zero, List.set_cons_succ]
            refine any_take 38 (.pointer (some ⟨(ae.add (k * 2)).block, (ae.add (k * 2)).off + 1, none⟩)) (i := 21) rfl rfl (by kernel_rfl) (by kernel_rfl) (by kernel_rfl) (fun _ _ _ h => h) (by rfl) (by intro w hSw; (try dsimp only at hSw); go_simp; try with_reducible rfl) (by assumption) ?_
            simp only [Act.put, List.setIfInBounds_toArray, List.set_cons_zero, List.set_cons_succ]
            refine any_take 39 (.slice yf p4 ye) (i := 22) rfl rfl (by kernel_rfl) (by kernel_rfl) (by kernel_rfl) (fun _ _ _ h => h) (by rfl) (by intro w hSw; (try dsimp only at hSw); go_simp; try with_reducible rfl) (by assumption) ?_
            simp only [Act.put, List.setIfInBounds_toArray, List.set_cons_zero, List.set_cons_succ]
            refine wpAnyH_ready (rs := [23]) (by kernel_rfl) (by simp) ?_
            refine AllReadyH.cons rfl (fun K' hK => ?_) AllReadyH.nil
            go_simp
            go_at_call 84
            refine (C2.out _ (hfr.then0 F1 (fun _ h => h.elim))).mono ?_
            rintro e' w2 ⟨rfl, f2⟩
            have F2 : Fr No wr w2 := F1.then0 f2 (fun _ h => h.elim)
            dsimp only
            refine hK.out _ _ (HS.out w2 F2) (fun hHeld => ?_)
            clear hK
            try simp only [Act.put, List.setIfInBounds_toArray, List.set_cons_zero, List.set_cons_succ]
            refine any_take 41 (.bool true) (i := 24) rfl rfl (by kernel_rfl) (by kernel_rfl) (by kernel_rfl) (fun _ _ _ h => h) (by rfl) (by intro w hSw; (try dsimp only at hSw); go_simp; try with_reducible rfl) (by assumption) ?_
            simp only [Act.put, List.setIfInBounds_toArray, List.set_cons_zero, List.set_cons_succ]
            refine any_take 42 (.bool true) (i := 25) rfl rfl (by kernel_rfl) (by kernel_rfl) (by kernel_rfl) (fun _ _ _ h => h) (by rfl) (by intro w hSw; (try dsimp only at hSw); go_simp; try with_reducible rfl) (by assumption) ?_
            simp only [Act.put, List.setIfInBounds_toArray, List.set_cons_zero, List.set_cons_succ]
            refine wpAnyH_done (by kernel_rfl) ?_ _
            clear hHeld
            go_wp2
            go_ret
            exact ⟨by rw [HE.out]; rfl, hfr.then0 F2 (fun _ h => h.elim)⟩
          · have HT := Lib.hid (Hb3.out rfl rfl)
            go_wp2_with fail
            refine wp_region_held_drew (S := fun w' => w'.cell? (ad.add (k * 2)) = some (.slice xc p1 xd) ∧ w'.cell? ⟨(ad.add (k * 2)).block, (ad.add (k * 2)).off + 1, none⟩ = some (.slice xf p3 xe) ∧ w'.cell? (ae.add (k * 2)) = some (.slice yc p2 yd) ∧ w'.cell? ⟨(ae.add (k * 2)).block, (ae.add (k * 2)).off + 1, none⟩ = some (.slice yf p4 ye)) (by kernel_rfl) (HS.out wr (Fr.refl _ _)) (fun hHeld => ?_)
            refine any_take 17 (.slice (some ad) n c) (i := 0) rfl rfl (by kernel_rfl) (by kernel_rfl) (by kernel_rfl) (fun _ _ _ h => h) (by rfl) (by intro w hSw; (try dsimp only at hSw); go_simp; try with_reducible rfl) (by assumption) ?_
            simp only [Act.put, List.setIfInBounds_toArray, List.set_cons_zero, List.set_cons_succ]
            refine any_take 18 (.int .i64 k) (i := 1) rfl rfl (by kernel_rfl) (by kernel_rfl) (by kernel_rfl) (fun _ _ _ h => h) (by rfl) (by intro w hSw; (try dsimp only at hSw); go_simp; try with_reducible rfl) (by assumption) ?_
            simp only [Act.put, List.setIfInBounds_toArray, List.set_cons_zero, List.set_cons_succ]
            refine any_take 19 (.pointer (some (ad.add (k * 2)))) (i := 2) rfl rfl (by kernel_rfl) (by kernel_rfl) (by kernel_rfl) (fun _ _ _ h => h) (by rfl) (by intro w hSw; (try dsimp only at hSw); go_simp; try with_reducible rfl) (by assumption) ?_
            simp only [Act.put, List.setIfInBounds_toArray, List.set_cons_zero, List.set_cons_succ]
            refine any_take 20 (.pointer (some (ad.add (k * 2)))) (i := 3) rfl rfl (by kernel_rfl) (by kernel_rfl) (by kernel_rfl) (fun _ _ _ h => h) (by rfl) (by intro w hSw; (try dsimp only at hSw); go_simp; try with_reducible rfl) (by assumption) ?_
            simp only [Act.put, List.setIfInBounds_toArray, List.set_cons_zero, List.set_cons_succ]
            refine any_take 21 (.slice xc p1 xd) (i := 4) rfl rfl (by kernel_rfl) (by kernel_rfl) (by kernel_rfl) (fun _ _ _ h => h) (by rfl) (by intro w hSw; (try dsimp only at hSw); go_simp; try with_reducible rfl) (by assumption) ?_
            simp only [Act.put, List.setIfInBounds_toArray, List.set_cons_zero, List.set_cons_succ]
            refine any_take 22 (.slice (some ae) n d) (i := 5) rfl rfl (by kernel_rfl) (by kernel_rfl) (by kernel_rfl) (fun _ _ _ h => h) (by rfl) (by intro w hSw; (try dsimp only at hSw); go_simp; try with_reducible rfl) (by assumption) ?_
            simp only [Act.put, List.setIfInBounds_toArray, List.set_cons_zero, List.set_cons_succ]
            refine any_take 23 (.int .i64 k) (i := 6) rfl rfl (by kernel_rfl) (by kernel_rfl) (by kernel_rfl) (fun _ _ _ h => h) (by rfl) (by intro w hSw; (try dsimp only at hSw); go_simp; try with_reducible rfl) (by assumption) ?_
            simp only [Act.put, List.setIfInBounds_toArray, List.set_cons_zero, List.set_cons_succ]
            refine any_take 24 (.pointer (some (ae.add (k * 2)))) (i := 7) rfl rfl (by kernel_rfl) (by kernel_rfl) (by kernel_rfl) (fun _ _ _ h => h) (by rfl) (by intro w hSw; (try dsimp only at hSw); go_simp; try with_reducible rfl) (by assumption) ?_
            simp only [Act.put, List.setIfInBounds_toArray, List.set_cons_zero, List.set_cons_succ]
            refine any_take 25 (.pointer (some (ae.add (k * 2)))) (i := 8) rfl rfl (by kernel_rfl) (by kernel_rfl) (by kernel_rfl) (fun _ _ _ h => h) (by rfl) (by intro w hSw; (try dsimp only at hSw); go_simp; try with_reducible rfl) (by assumption) ?_
            simp only [Act.put, List.setIfInBounds_toArray, List.set_cons_zero, List.set_cons_succ]
            refine any_take 26 (.slice yc p2 yd) (i := 9) rfl rfl (by kernel_rfl) (by kernel_rfl) (by kernel_rfl) (fun _ _ _ h => h) (by rfl) (by intro w hSw; (try dsimp only at hSw); go_simp; try with_reducible rfl) (by assumption) ?_
            simp only [Act.put, List.setIfInBounds_toArray, List.set_cons_zero, List.set_cons_succ]
            refine wpAnyH_ready (rs := [10]) (by kernel_rfl) (by simp) ?_
            refine AllReadyH.cons rfl (fun K' hK => ?_) AllReadyH.nil
            go_simp
            go_at_call 83
            refine (C1.out _ hfr.drew).mono ?_
            rintro e' w1 ⟨rfl, f1⟩
            have F1 : Fr No wr w1 := ((Fr.refl No wr).drew).then0 f1 (fun _ h => h.elim)
            dsimp only
            refine hK.out _ _ (HS.out w1 F1) (fun hHeld => ?_)
            clear hK
            try simp only [Act.put, List.setIfInBounds_toArray, List.set_cons_zero, List.set_cons_succ]
            refine any_take 28 (.bool false) (i := 11) rfl rfl (by kernel_rfl) (by kernel_rfl) (by kernel_rfl) (fun _ _ _ h => h) (by rfl) (by intro w hSw; (try dsimp only at hSw); go_simp; try with_reducible rfl) (by assumption) ?_
            simp only [Act.put, List.setIfInBounds_toArray, List.set_cons_zero, List.set_cons_succ]
            refine any_take 29 (.bool false) (i := 12) rfl rfl (by kernel_rfl) (by kernel_rfl) (by kernel_rfl) (fun _ _ _ h => h) (by rfl) (by intro w hSw; (try dsimp only at hSw); go_simp; try with_reducible rfl) (by assumption) ?_
            simp only [Act.put, List.setIfInBounds_toArray, List.set_cons_zero, List.set_cons_succ]
            refine any_take 30 (.slice (some ad) n c) (i := 13) rfl rfl (by kernel_rfl) (by kernel_rfl) (by kernel_rfl) (fun _ _ _ h => h) (by rfl) (by intro w hSw; (try dsimp only at hSw); go_simp; try with_reducible rfl) (by assumption) ?_
            simp only [Act.put, List.setIfInBounds_toArray, List.set_cons_zero, List.set_cons_succ]
            refine any_take 31 (.int .i64 k) (i := 14) rfl rfl (by kernel_rfl) (by kernel_rfl) (by kernel_rfl) (fun _ _ _ h => h) (by rfl) (by intro w hSw; (try dsimp only at hSw); go_simp; try with_reducible rfl) (by assumption) ?_
            simp only [Act.put, List.setIfInBounds_toArray, List.set_cons_zero, List.set_cons_succ]
            refine any_take 32 (.pointer (some (ad.add (k * 2)))) (i := 15) rfl rfl (by kernel_rfl) (by kernel_rfl) (by kernel_rfl) (fun _ _ _ h => h) (by rfl) (by intro w hSw; (try dsimp only at hSw); go_simp; try with_reducible rfl) (by assumption) ?_
            simp only [Act.put, List.setIfInBounds_toArray, List.set_cons_zero, List.set_cons_succ]
            refine any_take 33 (.pointer (some ⟨(ad.add (k * 2)).block, (ad.add (k * 2)).off + 1, none⟩)) (i := 16) rfl rfl (by kernel_rfl) (by kernel_rfl) (by kernel_rfl) (fun _ _ _ h => h) (by rfl) (by intro w hSw; (try dsimp only at hSw); go_simp; try with_reducible rfl) (by assumption) ?_
            simp only [Act.put, List.setIfInBounds_toArray, List.set_cons_zero, List.set_cons_succ]
            refine any_take 34 (.slice xf p3 xe) (i := 17) rfl rfl (by kernel_rfl) (by kernel_rfl) (by kernel_rfl) (fun _ _ _ h => h) (by rfl) (by intro w hSw; (try dsimp only at hSw); go_simp; try with_reducible rfl) (by assumption) ?_
            simp only [Act.put, List.setIfInBounds_toArray, List.set_cons_zero, List.set_cons_succ]
            refine any_take 35 (.slice (some ae) n d) (i := 18) rfl rfl (by kernel_rfl) (by kernel_rfl) (by kernel_rfl) (fun _ _ _ h => h) (by rfl) (by intro w hSw; (try dsimp only at hSw); go_simp; try with_reducible rfl) (by assumption) ?_
            simp only [Act.put, List.setIfInBounds_toArray, List.set_cons_zero, List.set_cons_succ]
            refine any_take 36 (.int .i64 k) (i := 19) rfl rfl (by kernel_rfl) (by kernel_rfl) (by kernel_rfl) (fun _ _ _ h => h) (by rfl) (by intro w hSw; (try dsimp only at hSw); go_simp; try with_reducible rfl) (by assumption) ?_
            simp only [Act.put, List.setIfInBounds_toArray, List.set_cons_zero, List.set_cons_succ]
            refine any_take 37 (.pointer (some (ae.add (k * 2)))) (i := 20) rfl rfl (by kernel_rfl) (by kernel_rfl) (by kernel_rfl) (fun _ _ _ h => h) (by rfl) (by intro w hSw; (try dsimp only at hSw); go_simp; try with_reducible rfl) (by assumption) ?_
            simp only [Act.put, List.setIfInBounds_toArray, List.set_cons_zero, List.set_cons_succ]
            refine any_take 38 (.pointer (some ⟨(ae.add (k * 2)).block, (ae.add (k * 2)).off + 1, none⟩)) (i := 21) rfl rfl (by kernel_rfl) (by kernel_rfl) (by kernel_rfl) (fun _ _ _ h => h) (by rfl) (by intro w hSw; (try dsimp only at hSw); go_simp; try with_reducible rfl) (by assumption) ?_
            simp only [Act.put, List.setIfInBounds_toArray, List.set_cons_zero, List.set_cons_succ]
            refine any_take 39 (.slice yf p4 ye) (i := 22) rfl rfl (by kernel_rfl) (by kernel_rfl) (by kernel_rfl) (fun _ _ _ h => h) (by rfl) (by intro w hSw; (try dsimp only at hSw); go_simp; try with_reducible rfl) (by assumption) ?_
            simp only [Act.put, List.setIfInBounds_toArray, List.set_cons_zero, List.set_cons_succ]
            refine wpAnyH_ready (rs := [23]) (by kernel_rfl) (by simp) ?_
            refine AllReadyH.cons rfl (fun K' hK => ?_) AllReadyH.nil
            go_simp
            go_at_call 84
            refine (C2.out _ (hfr.then0 F1 (fun _ h => h.elim))).mono ?_
            rintro e' w2 ⟨rfl, f2⟩
            have F2 : Fr No wr w2 := F1.then0 f2 (fun _ h => h.elim)
            dsimp only
            refine hK.out _ _ (HS.out w2 F2) (fun hHeld => ?_)
            clear hK
            try simp only [Act.put, List.setIfInBounds_toArray, List.set_cons_zero, List.set_cons_succ]
            refine any_take 41 (.bool false) (i := 24) rfl rfl (by kernel_rfl) (by kernel_rfl) (by kernel_rfl) (fun _ _ _ h => h) (by rfl) (by intro w hSw; (try dsimp only at hSw); go_simp; try with_reducible rfl) (by assumption) ?_
            simp only [Act.put, List.setIfInBounds_toArray, List.set_cons_zero, List.set_cons_succ]
            refine any_take 42 (.bool false) (i := 25) rfl rfl (by kernel_rfl) (by kernel_rfl) (by kernel_rfl) (fun _ _ _ h => h) (by rfl) (by intro w hSw; (try dsimp only at hSw); go_simp; try with_reducible rfl) (by assumption) ?_
            simp only [Act.put, List.setIfInBounds_toArray, List.set_cons_zero, List.set_cons_succ]
            refine wpAnyH_done (by kernel_rfl) ?_ _
            clear hHeld
            go_wp2
            go_roundw
            case rel => exact ⟨k + 1, by omega, by go_num, HT, hfr.then0 F2 (fun _ h => h.elim)⟩
            case measure => simp [intOf]; omega
      · obtain rfl : k = n := by omega
        have HE : Hid (decide (l1.map Stp.p = l2.map Stp.p) = true) := Lib.hid (by
          have h := hpre.out
          rw [List.take_of_length_le (by rw [Hn.out]; exact Nat.le_refl _), List.take_of_length_le (by rw [Hm.out]; exact Nat.le_refl _)] at h
          simpa using h)
        go_wp2
        go_ret
        exact ⟨by rw [HE.out]; rfl, hfr⟩
  · have hne : ((n : Int) != (m : Int)) = true := by rw [bne_iff_ne]; omega
    have HE : Hid (decide (l1.map Stp.p = l2.map Stp.p) = false) := Lib.hid (by
      rw [decide_eq_false_iff_not]
      intro e
      have := congrArg List.length e
      simp at this
      omega)
    clear h1 h2 hn hm hc1
    go_enter Tryz.func59, Tryz.ntmps59
    go_wp2
    go_ret
    exact ⟨by rw [HE.out]; rfl, Fr.refl _ _⟩
end Go.Proofs.YtbemfomiiikpoaaGreat
/- Whether two classes are the same, as the document has it. -/
namespace Go.Proofs.YtbemfomiiikpoaaGreat
open Go.RowKit

structure Cls.Few (c : Cls) : Prop where
  steps : c.steps.length ≤ 1099511627776
  comps : c.comps.length ≤ 1099511627776
  ins : ∀ s ∈ c.steps, s.code.length ≤ 1099511627776 ∧ s.foot.length ≤ 1099511627776
  inc : ∀ s ∈ c.comps, s.code.length ≤ 1099511627776 ∧ s.foot.length ≤ 1099511627776

set_option maxHeartbeats 2000000 in
theorem refSame11_any (a b : Cls) (w : World) (ha : a.Ok w) (hb : b.Ok w) (hf : a.Few) :
    Calls Tryz.prog 31 #[a.agg, b.agg] w (Has w (a.p.same b.p)) := by
  have C1 := fun (W : World) (h : Fr No w W) => refSteps_any a.steps b.steps a.sA b.sA a.steps.length b.steps.length a.sc b.sc W (ha.steps.since h) (hb.steps.since h) rfl rfl hf.steps hf.ins
  have C2 := fun (W : World) (h : Fr No w W) => refSteps_any a.comps b.comps a.uA b.uA a.comps.length b.comps.length a.uc b.uc W (ha.comps.since h) (hb.comps.since h) rfl rfl hf.comps hf.inc
  have Hr : Hid (a.p.same b.p = (a.name.toList == b.name.toList && (a.args == b.args && (a.res == b.res && (decide (a.steps.map Stp.p = b.steps.map Stp.p) && decide (a.comps.map Stp.p = b.comps.map Stp.p)))))) := Lib.hid rfl
  generalize a.p.same b.p = r at *
  obtain ⟨an, aa, asA, asl, asc, auA, aul, auc, ares⟩ := a
  obtain ⟨bn, ba, bsA, bsl, bsc, buA, bul, buc, bres⟩ := b
  simp only [Cls.agg] at *
  try dsimp only at *
  generalize decide (asl.map Stp.p = bsl.map Stp.p) = b1 at *
  generalize decide (aul.map Stp.p = bul.map Stp.p) = b2 at *
  generalize asl.length = n1 at *
  generalize bsl.length = n2 at *
  generalize aul.length = n3 at *
  generalize bul.length = n4 at *
  have HC1 := Lib.hid C1
  have HC2 := Lib.hid C2
  have hfa : Fr No w ((w.alloc (.cells #[.string an, .int .i64 aa, .slice asA n1 asc, .slice auA n3 auc, .bool ares] 59)).alloc (.cells #[.string bn, .int .i64 ba, .slice bsA n2 bsc, .slice buA n4 buc, .bool bres] 59)) := ((Fr.refl _ _).alloc _).alloc _
  clear ha hb hf C1 C2
  obtain ⟨b0, h0⟩ : ∃ b0, (an.toList == bn.toList) = b0 := ⟨_, rfl⟩
  rw [h0] at Hr
  cases b0
  case false =>
    have HE : Hid (r = false) := Lib.hid (by rw [Hr.out]; rfl)
    go_enter Tryz.func31, Tryz.ntmps31
    go_wp2
    go_ret
    exact ⟨by rw [HE.out]; rfl, hfa⟩
  by_cases h1 : aa = ba
  case neg =>
    have q1 : (aa == ba) = false := by simpa using h1
    have HE : Hid (r = false) := Lib.hid (by rw [Hr.out, q1]; rfl)
    clear h1
    go_enter Tryz.func31, Tryz.ntmps31
    go_wp2
    go_ret
    exact ⟨by rw [HE.out]; rfl, hfa⟩
  subst h1
  by_cases h2 : ares = bres
  case neg =>
    have q2 : (ares == bres) = false := by simpa using h2
    have HE : Hid (r = false) := Lib.hid (by rw [Hr.out, q2]; simp)
    clear h2
    go_enter Tryz.func31, Tryz.ntmps31
    go_wp2
    go_ret
    exact ⟨by rw [HE.out]; rfl, hfa⟩
  subst h2
  have HE : Hid (r = (b1 && b2)) := Lib.hid (by rw [Hr.out]; simp)
  have q1 : (aa == aa) = true := by simp
  have q2 : (ares == ares) = true := by simp
  clear Hr
  cases b1
  · go_enter Tryz.func31, Tryz.ntmps31
    go_wp2_with fail
    refine (HC1.out _ hfa).mono ?_
    rintro e w1 ⟨rfl, hf1⟩
    go_wp2
    go_ret
    exact ⟨by rw [HE.out]; rfl, hfa.then0 hf1 (fun _ h => h.elim)⟩
  · go_enter Tryz.func31, Tryz.ntmps31
    go_wp2_with fail
    refine (HC1.out _ hfa).mono ?_
    rintro e w1 ⟨rfl, hf1⟩
    have hbA : Bk w1 w.heap.size 59 #[.string an, .int .i64 aa, .slice asA n1 asc, .slice auA n3 auc, .bool ares] := ((Bk.made w _ _).fr ((Fr.refl No _).alloc _) (fun e => e)).fr hf1 (fun e => e)
    have hbB : Bk w1 (w.heap.size + 1) 59 #[.string bn, .int .i64 aa, .slice bsA n2 bsc, .slice buA n4 buc, .bool ares] := by
      have h := (Bk.made (w.alloc (.cells #[.string an, .int .i64 aa, .slice asA n1 asc, .slice auA n3 auc, .bool ares] 59)) 59 #[.string bn, .int .i64 aa, .slice bsA n2 bsc, .slice buA n4 buc, .bool ares]).fr hf1 (fun e => e)
      simpa using h
    have la := hbA.lt
    have lb := hbB.lt
    have k3 := hbA.cell 3
    have m3 := hbB.cell 3
    simp at k3 m3
    have HF1 := Lib.hid (hfa.then0 hf1 (fun _ h => h.elim))
    clear hbA hbB hf1
    go_wp2_with fail
    refine (HC2.out _ HF1.out).mono ?_
    rintro e w2 ⟨rfl, hf2⟩
    go_wp2
    go_ret
    exact ⟨by rw [HE.out]; simp, HF1.out.then0 hf2 (fun _ h => h.elim)⟩
end Go.Proofs.YtbemfomiiikpoaaGreat
