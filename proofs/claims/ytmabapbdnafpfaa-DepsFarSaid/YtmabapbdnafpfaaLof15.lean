/- Of tells the document's relation, each list of numbers ahead; Direct what the words ask. -/
import Derived.Test.YtmabapbdnafpfaaGrt15
import Derived.Test.YtmabapbdnafpfaaSam15
import Derived.Test.YtmabapbdnafpfaaRof15
import Derived.Test.YtmabapbdnafpfaaHand
import Derived.Deep.CutRange
namespace Go.Proofs.Ytmabapbdnafpfaa
open Go.RowKit

def dirI (h : List Nd) (i k : Int) : Bool := decide (0 ≤ i ∧ 0 ≤ k) && dirB h i.toNat k.toNat
theorem dirI_out {h : List Nd} {i k : Int} (hn : ¬ (0 ≤ i ∧ i < h.length ∧ 0 ≤ k ∧ k < i)) : dirI h i k = false := by
  unfold dirI
  by_cases e : 0 ≤ i ∧ 0 ≤ k
  · rw [decide_eq_true e, Bool.true_and]
    cases q : dirB h i.toNat k.toNat
    · rfl
    · have := dirB_lt q
      omega
  · rw [decide_eq_false e]
    rfl
set_option maxRecDepth 100000 in
set_option maxHeartbeats 8000000 in
theorem depsOf15_any (h : List Ndl) (A : Option Addr) (n c : Nat) (w : World) (i k : Int) (hs : Nds w A h) (hh : h.length = n)
    (hal : ∀ W, Fr No w W → Calls Try.prog 7 #[] W (Has W true))
    (hgr : ∀ W, Fr No w W → Calls Try.prog 8 #[.slice A n c] W (Has W (great15 h)))
    (hcf : ∀ (a b : Nat) (ha : a < h.length) (hb : b < h.length), great15 h = false → ∀ W, Fr No w W → Calls Try.prog 9 #[h[a].agg, h[b].agg] W (Has W (confN h[a].n h[b].n)))
    (hof : great15 h = false → ∀ W, Fr No w W → Calls Try.prog 10 #[.slice A n c] W fun e w' => ∃ L ls lc, e = .returned (.slice L ls.length lc) ∧ Ils w' L ls ∧ OfL (ndsOf h) ls ∧ Fr No W w')
    (hro : great15 h = false → ∀ W, Fr No w W → Calls Try.prog 12 #[.slice A n c] W fun e w' => ∃ G g, e = .returned (.slice (some ⟨G, 0, none⟩) n n) ∧ MatB w' W.heap.size 36 4 G n n g (depB (ndsOf h)) ∧ Fr No W w')
    (hdr : great15 h = false → ∀ W, Fr No w W → Calls Try.prog 13 #[.slice A n c, .int .i64 i, .int .i64 k] W (Has W (dirI (ndsOf h) i k))) :
    Calls Try.prog 3 #[.slice A n c, .int .i64 i, .int .i64 k] w (Has w true) := by
  have hlen : (ndsOf h).length = n := by simp [ndsOf, hh]
  have Hal := Lib.hid hal
  have Hgr := Lib.hid hgr
  have Hof := Lib.hid hof
  have Hro := Lib.hid hro
  have Hdr := Lib.hid hdr
  have Hcf := Lib.hid hcf
  have HN := Lib.hid hh
  have HL := Lib.hid hlen
  have Hnd := Lib.hid (fun (k : Nat) (hk : k < h.length) W (hW : Fr No w W) => (hs.since hW).sl.nd hk)
  have Hout := Lib.hid (fun (hn : ¬ (0 ≤ i ∧ i < n ∧ 0 ≤ k ∧ k < i)) => dirI_out (h := ndsOf h) (i := i) (k := k) (by rw [hlen]; exact hn))
  have Hin := Lib.hid (fun (a b : Nat) (ha : a < h.length) (hb : b < h.length) (hba : b < a) => show dirI (ndsOf h) a b = (decide (h[a].n.saga = h[b].n.saga) || confN h[a].n h[b].n) by
    unfold dirI dirB
    rw [decide_eq_true (show (0 : Int) ≤ a ∧ (0 : Int) ≤ b by omega), Bool.true_and, Int.toNat_natCast, Int.toNat_natCast, hlen, decide_eq_true (show b < a ∧ a < n by omega), Bool.true_and, ndsOf_at ha, ndsOf_at hb])
  have Hbig := Lib.hid (fun (e : great15 h = false) => (few_of_great15 e).1)
  clear hal hgr hof hro hdr hcf hs hh hlen
  generalize dirI (ndsOf h) = dI at *
  generalize great15 h = gr at *
  go_enter Try.func3, Try.ntmps3
  go_wp2_with fail
  refine (Hal.out _ (Fr.refl _ _)).mono ?_
  rintro e w1 ⟨rfl, f1⟩
  have F1 := Lib.hid f1
  clear f1
  go_wp2_with fail
  refine (Hgr.out _ F1.out).mono ?_
  rintro e w2 ⟨rfl, f2⟩
  have F2 := Lib.hid (F1.out.trans' f2 (fun _ _ e => e))
  clear f2
  cases gr
  case true =>
    go_wp2
    go_ret
    exact ⟨rfl, F2.out⟩
  case false =>
    have Hb := Hbig.out rfl
    have hn40 : n ≤ 40 := by rw [← HN.out]; exact Hb
    have HO := Lib.hid (Hof.out rfl)
    have HR := Lib.hid (Hro.out rfl)
    have HD := Lib.hid (Hdr.out rfl)
    have HC := Lib.hid (fun a b ha hb => Hcf.out a b ha hb rfl)
    clear Hof Hro Hdr Hcf Hbig Hb
    go_upto_region 5 with fail
    go_cut [7] from 16 to 33 (fun s7 wx => s7 = .bool (decide (0 ≤ i ∧ i < n ∧ 0 ≤ k ∧ k < i)) ∧ Hid (Fr No w wx))
    case first =>
      have hc : i < 0 ∨ (0 ≤ i ∧ (n : Int) ≤ i) ∨ (0 ≤ i ∧ i < n ∧ k < 0) ∨ (0 ≤ i ∧ i < n ∧ 0 ≤ k ∧ i ≤ k) ∨ (0 ≤ i ∧ i < n ∧ 0 ≤ k ∧ k < i) := by omega
      rcases hc with x1 | ⟨x1, x2⟩ | ⟨x1, x2, x3⟩ | ⟨x1, x2, x3, x4⟩ | ⟨x1, x2, x3, x4⟩
      all_goals
        go_wp2
        go_meet
        refine ⟨?_, F2⟩
        first | rfl | (congr 1; rw [Bool.eq_iff_iff]; simp; omega) | (simp; omega)
    case rest =>
      obtain ⟨rfl, F3⟩ := hcut
      clear F2
      obtain ⟨th, hth⟩ : ∃ t, t = decide (0 ≤ i ∧ i < n ∧ 0 ≤ k ∧ k < i) := ⟨_, rfl⟩
      rw [← hth]
      have Hth := Lib.hid hth
      clear hth
      go_upto_region 6 with fail
      go_cut [8] from 33 to 58 (fun s8 wx => s8 = .bool (dI i k) ∧ Hid (Fr No w wx))
      case first =>
        have D0 : Hid (Fr No wc wc.drew) := Lib.hid ((Fr.refl No wc).drew)
        by_cases hin : 0 ≤ i ∧ i < n ∧ 0 ≤ k ∧ k < i
        · obtain rfl : th = true := by rw [Hth.out]; exact decide_eq_true hin
          clear Hth
          obtain ⟨a, rfl⟩ := Int.eq_ofNat_of_zero_le hin.1
          obtain ⟨b, rfl⟩ := Int.eq_ofNat_of_zero_le hin.2.2.1
          have han : a < h.length := by rw [HN.out]; omega
          have hbn : b < h.length := by rw [HN.out]; omega
          have hba : b < a := by omega
          have a1 : ((a : Nat) : Int) < (n : Int) := by omega
          have b1 : ((b : Nat) : Int) < (n : Int) := by omega
          obtain ⟨ad, hA, hab, a0, -⟩ := Hnd.out a han wc F3.out
          have HSS0 := Lib.hid (fun W hW => Hnd.out a han W hW)
          have HSS1 := Lib.hid (fun W hW => Hnd.out b hbn W hW)
          have hcc := Lib.hid (HC.out a b han hbn)
          have hI := Hin.out a b han hbn hba
          unfold Ndl.agg Ndl.arr at hcc
          subst hA
          generalize confN h[a].n h[b].n = cf at *
          generalize h[a] = ya at *
          generalize h[b] = yb at *
          clear a0 hin HN HL HO HR HD HC Hnd Hout Hin
          generalize ya.n.saga = sa at *
          generalize ya.n.cls = ca at *
          generalize ya.n.step = ta at *
          generalize ya.n.back = ka at *
          generalize ya.n.rd.length = na at *
          generalize ya.n.wt.length = ma at *
          generalize ya.rA = Ra at *
          generalize ya.rc = rca at *
          generalize ya.wA = Va at *
          generalize ya.wc = wca at *
          generalize yb.n.saga = sb at *
          generalize yb.n.cls = cb at *
          generalize yb.n.step = tb at *
          generalize yb.n.back = kb at *
          generalize yb.n.rd.length = nb at *
          generalize yb.n.wt.length = mb at *
          generalize yb.rA = Rb at *
          generalize yb.rc = rcb at *
          generalize yb.wA = Vb at *
          generalize yb.wc = wcb at *
          have HSS : Hid (∀ V, Fr No wc V → (fun V => V.cell? (ad.add (a * 6)) = some (.int .i64 sa) ∧ V.cell? ⟨(ad.add (a * 6)).block, (ad.add (a * 6)).off + 1, none⟩ = some (.int .i64 ca) ∧ V.cell? ⟨(ad.add (a * 6)).block, (ad.add (a * 6)).off + 2, none⟩ = some (.int .i64 ta) ∧ V.cell? ⟨(ad.add (a * 6)).block, (ad.add (a * 6)).off + 3, none⟩ = some (.bool ka) ∧ V.cell? ⟨(ad.add (a * 6)).block, (ad.add (a * 6)).off + 4, none⟩ = some (.slice Ra na rca) ∧ V.cell? ⟨(ad.add (a * 6)).block, (ad.add (a * 6)).off + 5, none⟩ = some (.slice Va ma wca) ∧ V.cell? (ad.add (b * 6)) = some (.int .i64 sb) ∧ V.cell? ⟨(ad.add (b * 6)).block, (ad.add (b * 6)).off + 1, none⟩ = some (.int .i64 cb) ∧ V.cell? ⟨(ad.add (b * 6)).block, (ad.add (b * 6)).off + 2, none⟩ = some (.int .i64 tb) ∧ V.cell? ⟨(ad.add (b * 6)).block, (ad.add (b * 6)).off + 3, none⟩ = some (.bool kb) ∧ V.cell? ⟨(ad.add (b * 6)).block, (ad.add (b * 6)).off + 4, none⟩ = some (.slice Rb nb rcb) ∧ V.cell? ⟨(ad.add (b * 6)).block, (ad.add (b * 6)).off + 5, none⟩ = some (.slice Vb mb wcb)) V) := Lib.hid (fun V hV => by
            obtain ⟨ae, hA, -, p0, p1, p2, p3, p4, p5⟩ := HSS0.out V (F3.out.trans' hV (fun _ _ e => e))
            injection hA with hA
            subst hA
            obtain ⟨af, hA, -, q0, q1, q2, q3, q4, q5⟩ := HSS1.out V (F3.out.trans' hV (fun _ _ e => e))
            injection hA with hA
            subst hA
            exact ⟨p0, p1, p2, p3, p4, p5, q0, q1, q2, q3, q4, q5⟩)
          clear HSS0 HSS1
          by_cases hsg : sa = sb
          · have d1 : (sa == sb) = true := by simp [hsg]
            rw [decide_eq_true hsg, Bool.true_or] at hI
            subst hsg
            refine wp_region_held_drew (S := fun V => V.cell? (ad.add (a * 6)) = some (.int .i64 sa) ∧ V.cell? ⟨(ad.add (a * 6)).block, (ad.add (a * 6)).off + 1, none⟩ = some (.int .i64 ca) ∧ V.cell? ⟨(ad.add (a * 6)).block, (ad.add (a * 6)).off + 2, none⟩ = some (.int .i64 ta) ∧ V.cell? ⟨(ad.add (a * 6)).block, (ad.add (a * 6)).off + 3, none⟩ = some (.bool ka) ∧ V.cell? ⟨(ad.add (a * 6)).block, (ad.add (a * 6)).off + 4, none⟩ = some (.slice Ra na rca) ∧ V.cell? ⟨(ad.add (a * 6)).block, (ad.add (a * 6)).off + 5, none⟩ = some (.slice Va ma wca) ∧ V.cell? (ad.add (b * 6)) = some (.int .i64 sa) ∧ V.cell? ⟨(ad.add (b * 6)).block, (ad.add (b * 6)).off + 1, none⟩ = some (.int .i64 cb) ∧ V.cell? ⟨(ad.add (b * 6)).block, (ad.add (b * 6)).off + 2, none⟩ = some (.int .i64 tb) ∧ V.cell? ⟨(ad.add (b * 6)).block, (ad.add (b * 6)).off + 3, none⟩ = some (.bool kb) ∧ V.cell? ⟨(ad.add (b * 6)).block, (ad.add (b * 6)).off + 4, none⟩ = some (.slice Rb nb rcb) ∧ V.cell? ⟨(ad.add (b * 6)).block, (ad.add (b * 6)).off + 5, none⟩ = some (.slice Vb mb wcb)) (by kernel_rfl) (HSS.out _ D0.out) (fun hHeld => ?_)
            refine any_take 33 (.bool true) (i := 0) rfl rfl (by kernel_rfl) (by kernel_rfl) (by kernel_rfl) (fun _ _ _ h => h) (by rfl) (by intro w hSw; (try dsimp only at hSw); go_simp; try with_reducible rfl) (by assumption) ?_
            simp only [Act.put, List.setIfInBounds_toArray, List.set_cons_zero, List.set_cons_succ]
            refine any_take 34 (.bool true) (i := 1) rfl rfl (by kernel_rfl) (by kernel_rfl) (by kernel_rfl) (fun _ _ _ h => h) (by rfl) (by intro w hSw; (try dsimp only at hSw); go_simp; try with_reducible rfl) (by assumption) ?_
            simp only [Act.put, List.setIfInBounds_toArray, List.set_cons_zero, List.set_cons_succ]
            refine any_take 35 (.slice (some ad) n c) (i := 2) rfl rfl (by kernel_rfl) (by kernel_rfl) (by kernel_rfl) (fun _ _ _ h => h) (by rfl) (by intro w hSw; (try dsimp only at hSw); go_simp; try with_reducible rfl) (by assumption) ?_
            simp only [Act.put, List.setIfInBounds_toArray, List.set_cons_zero, List.set_cons_succ]
            refine any_take 36 (.int .i64 (a : Int)) (i := 3) rfl rfl (by kernel_rfl) (by kernel_rfl) (by kernel_rfl) (fun _ _ _ h => h) (by rfl) (by intro w hSw; (try dsimp only at hSw); go_simp; try with_reducible rfl) (by assumption) ?_
            simp only [Act.put, List.setIfInBounds_toArray, List.set_cons_zero, List.set_cons_succ]
            refine any_take 37 (.pointer (some (ad.add (a * 6)))) (i := 4) rfl rfl (by kernel_rfl) (by kernel_rfl) (by kernel_rfl) (fun _ _ _ h => h) (by rfl) (by intro w hSw; (try dsimp only at hSw); go_simp; try with_reducible rfl) (by assumption) ?_
            simp only [Act.put, List.setIfInBounds_toArray, List.set_cons_zero, List.set_cons_succ]
            refine any_take 38 (.pointer (some (ad.add (a * 6)))) (i := 5) rfl rfl (by kernel_rfl) (by kernel_rfl) (by kernel_rfl) (fun _ _ _ h => h) (by rfl) (by intro w hSw; (try dsimp only at hSw); go_simp; try with_reducible rfl) (by assumption) ?_
            simp only [Act.put, List.setIfInBounds_toArray, List.set_cons_zero, List.set_cons_succ]
            refine any_take 39 (.int .i64 sa) (i := 6) rfl rfl (by kernel_rfl) (by kernel_rfl) (by kernel_rfl) (fun _ _ _ h => h) (by rfl) (by intro w hSw; (try dsimp only at hSw); go_simp; try with_reducible rfl) (by assumption) ?_
            simp only [Act.put, List.setIfInBounds_toArray, List.set_cons_zero, List.set_cons_succ]
            refine any_take 40 (.slice (some ad) n c) (i := 7) rfl rfl (by kernel_rfl) (by kernel_rfl) (by kernel_rfl) (fun _ _ _ h => h) (by rfl) (by intro w hSw; (try dsimp only at hSw); go_simp; try with_reducible rfl) (by assumption) ?_
            simp only [Act.put, List.setIfInBounds_toArray, List.set_cons_zero, List.set_cons_succ]
            refine any_take 41 (.int .i64 (b : Int)) (i := 8) rfl rfl (by kernel_rfl) (by kernel_rfl) (by kernel_rfl) (fun _ _ _ h => h) (by rfl) (by intro w hSw; (try dsimp only at hSw); go_simp; try with_reducible rfl) (by assumption) ?_
            simp only [Act.put, List.setIfInBounds_toArray, List.set_cons_zero, List.set_cons_succ]
            refine any_take 42 (.pointer (some (ad.add (b * 6)))) (i := 9) rfl rfl (by kernel_rfl) (by kernel_rfl) (by kernel_rfl) (fun _ _ _ h => h) (by rfl) (by intro w hSw; (try dsimp only at hSw); go_simp; try with_reducible rfl) (by assumption) ?_
            simp only [Act.put, List.setIfInBounds_toArray, List.set_cons_zero, List.set_cons_succ]
            refine any_take 43 (.pointer (some (ad.add (b * 6)))) (i := 10) rfl rfl (by kernel_rfl) (by kernel_rfl) (by kernel_rfl) (fun _ _ _ h => h) (by rfl) (by intro w hSw; (try dsimp only at hSw); go_simp; try with_reducible rfl) (by assumption) ?_
            simp only [Act.put, List.setIfInBounds_toArray, List.set_cons_zero, List.set_cons_succ]
            refine any_take 44 (.int .i64 sa) (i := 11) rfl rfl (by kernel_rfl) (by kernel_rfl) (by kernel_rfl) (fun _ _ _ h => h) (by rfl) (by intro w hSw; (try dsimp only at hSw); go_simp; try with_reducible rfl) (by assumption) ?_
            simp only [Act.put, List.setIfInBounds_toArray, List.set_cons_zero, List.set_cons_succ]
            refine any_take 45 (.bool true) (i := 12) rfl rfl (by kernel_rfl) (by kernel_rfl) (by kernel_rfl) (fun _ _ _ h => h) (by rfl) (by intro w hSw; (try dsimp only at hSw); go_simp; try with_reducible rfl) (by assumption) ?_
            simp only [Act.put, List.setIfInBounds_toArray, List.set_cons_zero, List.set_cons_succ]
            refine any_take 46 (.bool true) (i := 13) rfl rfl (by kernel_rfl) (by kernel_rfl) (by kernel_rfl) (fun _ _ _ h => h) (by rfl) (by intro w hSw; (try dsimp only at hSw); go_simp; try with_reducible rfl) (by assumption) ?_
            simp only [Act.put, List.setIfInBounds_toArray, List.set_cons_zero, List.set_cons_succ]
            refine any_skip 47 (i := 14) rfl rfl (by kernel_rfl) (by kernel_rfl) (by kernel_rfl) (fun _ _ _ h => h) (by rfl) (by assumption) ?_
            simp only [Act.put, List.setIfInBounds_toArray, List.set_cons_zero, List.set_cons_succ]
            refine any_skip 48 (i := 15) rfl rfl (by kernel_rfl) (by kernel_rfl) (by kernel_rfl) (fun _ _ _ h => h) (by rfl) (by assumption) ?_
            simp only [Act.put, List.setIfInBounds_toArray, List.set_cons_zero, List.set_cons_succ]
            refine any_skip 49 (i := 16) rfl rfl (by kernel_rfl) (by kernel_rfl) (by kernel_rfl) (fun _ _ _ h => h) (by rfl) (by assumption) ?_
            simp only [Act.put, List.setIfInBounds_toArray, List.set_cons_zero, List.set_cons_succ]
            refine any_skip 50 (i := 17) rfl rfl (by kernel_rfl) (by kernel_rfl) (by kernel_rfl) (fun _ _ _ h => h) (by rfl) (by assumption) ?_
            simp only [Act.put, List.setIfInBounds_toArray, List.set_cons_zero, List.set_cons_succ]
            refine any_skip 51 (i := 18) rfl rfl (by kernel_rfl) (by kernel_rfl) (by kernel_rfl) (fun _ _ _ h => h) (by rfl) (by assumption) ?_
            simp only [Act.put, List.setIfInBounds_toArray, List.set_cons_zero, List.set_cons_succ]
            refine any_skip 52 (i := 19) rfl rfl (by kernel_rfl) (by kernel_rfl) (by kernel_rfl) (fun _ _ _ h => h) (by rfl) (by assumption) ?_
            simp only [Act.put, List.setIfInBounds_toArray, List.set_cons_zero, List.set_cons_succ]
            refine any_skip 53 (i := 20) rfl rfl (by kernel_rfl) (by kernel_rfl) (by kernel_rfl) (fun _ _ _ h => h) (by rfl) (by assumption) ?_
            simp only [Act.put, List.setIfInBounds_toArray, List.set_cons_zero, List.set_cons_succ]
            refine any_skip 54 (i := 21) rfl rfl (by kernel_rfl) (by kernel_rfl) (by kernel_rfl) (fun _ _ _ h => h) (by rfl) (by assumption) ?_
            simp only [Act.put, List.setIfInBounds_toArray, List.set_cons_zero, List.set_cons_succ]
            refine any_skip 55 (i := 22) rfl rfl (by kernel_rfl) (by kernel_rfl) (by kernel_rfl) (fun _ _ _ h => h) (by rfl) (by assumption) ?_
            simp only [Act.put, List.setIfInBounds_toArray, List.set_cons_zero, List.set_cons_succ]
            refine any_take 56 (.bool true) (i := 23) rfl rfl (by kernel_rfl) (by kernel_rfl) (by kernel_rfl) (fun _ _ _ h => h) (by rfl) (by intro w hSw; (try dsimp only at hSw); go_simp; try with_reducible rfl) (by assumption) ?_
            simp only [Act.put, List.setIfInBounds_toArray, List.set_cons_zero, List.set_cons_succ]
            refine any_take 57 (.bool true) (i := 24) rfl rfl (by kernel_rfl) (by kernel_rfl) (by kernel_rfl) (fun _ _ _ h => h) (by rfl) (by intro w hSw; (try dsimp only at hSw); go_simp; try with_reducible rfl) (by assumption) ?_
            simp only [Act.put, List.setIfInBounds_toArray, List.set_cons_zero, List.set_cons_succ]
            refine any_take 8 (.bool true) (i := 25) rfl rfl (by kernel_rfl) (by kernel_rfl) (by kernel_rfl) (fun _ _ _ h => h) (by rfl) (by intro w hSw; (try dsimp only at hSw); go_simp; try with_reducible rfl) (by assumption) ?_
            simp only [Act.put, List.setIfInBounds_toArray, List.set_cons_zero, List.set_cons_succ]
            refine wpAnyH_done (by kernel_rfl) ?_ _
            clear hHeld
            go_wp2
            go_meet
            exact ⟨by rw [hI], Lib.hid (F3.out.trans' D0.out (fun _ _ e => e))⟩
          · have d1 : (sa == sb) = false := by simpa using hsg
            have d2 : decide (sa = sb) = false := decide_eq_false hsg
            rw [d2, Bool.false_or] at hI
            clear hsg
            refine wp_region_held_drew (S := fun V => V.cell? (ad.add (a * 6)) = some (.int .i64 sa) ∧ V.cell? ⟨(ad.add (a * 6)).block, (ad.add (a * 6)).off + 1, none⟩ = some (.int .i64 ca) ∧ V.cell? ⟨(ad.add (a * 6)).block, (ad.add (a * 6)).off + 2, none⟩ = some (.int .i64 ta) ∧ V.cell? ⟨(ad.add (a * 6)).block, (ad.add (a * 6)).off + 3, none⟩ = some (.bool ka) ∧ V.cell? ⟨(ad.add (a * 6)).block, (ad.add (a * 6)).off + 4, none⟩ = some (.slice Ra na rca) ∧ V.cell? ⟨(ad.add (a * 6)).block, (ad.add (a * 6)).off + 5, none⟩ = some (.slice Va ma wca) ∧ V.cell? (ad.add (b * 6)) = some (.int .i64 sb) ∧ V.cell? ⟨(ad.add (b * 6)).block, (ad.add (b * 6)).off + 1, none⟩ = some (.int .i64 cb) ∧ V.cell? ⟨(ad.add (b * 6)).block, (ad.add (b * 6)).off + 2, none⟩ = some (.int .i64 tb) ∧ V.cell? ⟨(ad.add (b * 6)).block, (ad.add (b * 6)).off + 3, none⟩ = some (.bool kb) ∧ V.cell? ⟨(ad.add (b * 6)).block, (ad.add (b * 6)).off + 4, none⟩ = some (.slice Rb nb rcb) ∧ V.cell? ⟨(ad.add (b * 6)).block, (ad.add (b * 6)).off + 5, none⟩ = some (.slice Vb mb wcb)) (by kernel_rfl) (HSS.out _ D0.out) (fun hHeld => ?_)
            refine any_take 33 (.bool true) (i := 0) rfl rfl (by kernel_rfl) (by kernel_rfl) (by kernel_rfl) (fun _ _ _ h => h) (by rfl) (by intro w hSw; (try dsimp only at hSw); go_simp; try with_reducible rfl) (by assumption) ?_
            simp only [Act.put, List.setIfInBounds_toArray, List.set_cons_zero, List.set_cons_succ]
            refine any_take 34 (.bool true) (i := 1) rfl rfl (by kernel_rfl) (by kernel_rfl) (by kernel_rfl) (fun _ _ _ h => h) (by rfl) (by intro w hSw; (try dsimp only at hSw); go_simp; try with_reducible rfl) (by assumption) ?_
            simp only [Act.put, List.setIfInBounds_toArray, List.set_cons_zero, List.set_cons_succ]
            refine any_take 35 (.slice (some ad) n c) (i := 2) rfl rfl (by kernel_rfl) (by kernel_rfl) (by kernel_rfl) (fun _ _ _ h => h) (by rfl) (by intro w hSw; (try dsimp only at hSw); go_simp; try with_reducible rfl) (by assumption) ?_
            simp only [Act.put, List.setIfInBounds_toArray, List.set_cons_zero, List.set_cons_succ]
            refine any_take 36 (.int .i64 (a : Int)) (i := 3) rfl rfl (by kernel_rfl) (by kernel_rfl) (by kernel_rfl) (fun _ _ _ h => h) (by rfl) (by intro w hSw; (try dsimp only at hSw); go_simp; try with_reducible rfl) (by assumption) ?_
            simp only [Act.put, List.setIfInBounds_toArray, List.set_cons_zero, List.set_cons_succ]
            refine any_take 37 (.pointer (some (ad.add (a * 6)))) (i := 4) rfl rfl (by kernel_rfl) (by kernel_rfl) (by kernel_rfl) (fun _ _ _ h => h) (by rfl) (by intro w hSw; (try dsimp only at hSw); go_simp; try with_reducible rfl) (by assumption) ?_
            simp only [Act.put, List.setIfInBounds_toArray, List.set_cons_zero, List.set_cons_succ]
            refine any_take 38 (.pointer (some (ad.add (a * 6)))) (i := 5) rfl rfl (by kernel_rfl) (by kernel_rfl) (by kernel_rfl) (fun _ _ _ h => h) (by rfl) (by intro w hSw; (try dsimp only at hSw); go_simp; try with_reducible rfl) (by assumption) ?_
            simp only [Act.put, List.setIfInBounds_toArray, List.set_cons_zero, List.set_cons_succ]
            refine any_take 39 (.int .i64 sa) (i := 6) rfl rfl (by kernel_rfl) (by kernel_rfl) (by kernel_rfl) (fun _ _ _ h => h) (by rfl) (by intro w hSw; (try dsimp only at hSw); go_simp; try with_reducible rfl) (by assumption) ?_
            simp only [Act.put, List.setIfInBounds_toArray, List.set_cons_zero, List.set_cons_succ]
            refine any_take 40 (.slice (some ad) n c) (i := 7) rfl rfl (by kernel_rfl) (by kernel_rfl) (by kernel_rfl) (fun _ _ _ h => h) (by rfl) (by intro w hSw; (try dsimp only at hSw); go_simp; try with_reducible rfl) (by assumption) ?_
            simp only [Act.put, List.setIfInBounds_toArray, List.set_cons_zero, List.set_cons_succ]
            refine any_take 41 (.int .i64 (b : Int)) (i := 8) rfl rfl (by kernel_rfl) (by kernel_rfl) (by kernel_rfl) (fun _ _ _ h => h) (by rfl) (by intro w hSw; (try dsimp only at hSw); go_simp; try with_reducible rfl) (by assumption) ?_
            simp only [Act.put, List.setIfInBounds_toArray, List.set_cons_zero, List.set_cons_succ]
            refine any_take 42 (.pointer (some (ad.add (b * 6)))) (i := 9) rfl rfl (by kernel_rfl) (by kernel_rfl) (by kernel_rfl) (fun _ _ _ h => h) (by rfl) (by intro w hSw; (try dsimp only at hSw); go_simp; try with_reducible rfl) (by assumption) ?_
            simp only [Act.put, List.setIfInBounds_toArray, List.set_cons_zero, List.set_cons_succ]
            refine any_take 43 (.pointer (some (ad.add (b * 6)))) (i := 10) rfl rfl (by kernel_rfl) (by kernel_rfl) (by kernel_rfl) (fun _ _ _ h => h) (by rfl) (by intro w hSw; (try dsimp only at hSw); go_simp; try with_reducible rfl) (by assumption) ?_
            simp only [Act.put, List.setIfInBounds_toArray, List.set_cons_zero, List.set_cons_succ]
            refine any_take 44 (.int .i64 sb) (i := 11) rfl rfl (by kernel_rfl) (by kernel_rfl) (by kernel_rfl) (fun _ _ _ h => h) (by rfl) (by intro w hSw; (try dsimp only at hSw); go_simp; try with_reducible rfl) (by assumption) ?_
            simp only [Act.put, List.setIfInBounds_toArray, List.set_cons_zero, List.set_cons_succ]
            refine any_take 45 (.bool false) (i := 12) rfl rfl (by kernel_rfl) (by kernel_rfl) (by kernel_rfl) (fun _ _ _ h => h) (by rfl) (by intro w hSw; (try dsimp only at hSw); go_simp; try with_reducible rfl) (by assumption) ?_
            simp only [Act.put, List.setIfInBounds_toArray, List.set_cons_zero, List.set_cons_succ]
            refine any_take 46 (.bool false) (i := 13) rfl rfl (by kernel_rfl) (by kernel_rfl) (by kernel_rfl) (fun _ _ _ h => h) (by rfl) (by intro w hSw; (try dsimp only at hSw); go_simp; try with_reducible rfl) (by assumption) ?_
            simp only [Act.put, List.setIfInBounds_toArray, List.set_cons_zero, List.set_cons_succ]
            refine any_take 47 (.slice (some ad) n c) (i := 14) rfl rfl (by kernel_rfl) (by kernel_rfl) (by kernel_rfl) (fun _ _ _ h => h) (by rfl) (by intro w hSw; (try dsimp only at hSw); go_simp; try with_reducible rfl) (by assumption) ?_
            simp only [Act.put, List.setIfInBounds_toArray, List.set_cons_zero, List.set_cons_succ]
            refine any_take 48 (.int .i64 (a : Int)) (i := 15) rfl rfl (by kernel_rfl) (by kernel_rfl) (by kernel_rfl) (fun _ _ _ h => h) (by rfl) (by intro w hSw; (try dsimp only at hSw); go_simp; try with_reducible rfl) (by assumption) ?_
            simp only [Act.put, List.setIfInBounds_toArray, List.set_cons_zero, List.set_cons_succ]
            refine any_take 49 (.pointer (some (ad.add (a * 6)))) (i := 16) rfl rfl (by kernel_rfl) (by kernel_rfl) (by kernel_rfl) (fun _ _ _ h => h) (by rfl) (by intro w hSw; (try dsimp only at hSw); go_simp; try with_reducible rfl) (by assumption) ?_
            simp only [Act.put, List.setIfInBounds_toArray, List.set_cons_zero, List.set_cons_succ]
            refine any_take 50 (.agg #[.int .i64 sa, .int .i64 ca, .int .i64 ta, .bool ka, .slice Ra na rca, .slice Va ma wca]) (i := 17) rfl rfl (by kernel_rfl) (by kernel_rfl) (by kernel_rfl) (fun _ _ _ h => h) (by rfl) (by intro w hSw; (try dsimp only at hSw); go_simp; try with_reducible rfl) (by assumption) ?_
            simp only [Act.put, List.setIfInBounds_toArray, List.set_cons_zero, List.set_cons_succ]
            refine any_take 51 (.slice (some ad) n c) (i := 18) rfl rfl (by kernel_rfl) (by kernel_rfl) (by kernel_rfl) (fun _ _ _ h => h) (by rfl) (by intro w hSw; (try dsimp only at hSw); go_simp; try with_reducible rfl) (by assumption) ?_
            simp only [Act.put, List.setIfInBounds_toArray, List.set_cons_zero, List.set_cons_succ]
            refine any_take 52 (.int .i64 (b : Int)) (i := 19) rfl rfl (by kernel_rfl) (by kernel_rfl) (by kernel_rfl) (fun _ _ _ h => h) (by rfl) (by intro w hSw; (try dsimp only at hSw); go_simp; try with_reducible rfl) (by assumption) ?_
            simp only [Act.put, List.setIfInBounds_toArray, List.set_cons_zero, List.set_cons_succ]
            refine any_take 53 (.pointer (some (ad.add (b * 6)))) (i := 20) rfl rfl (by kernel_rfl) (by kernel_rfl) (by kernel_rfl) (fun _ _ _ h => h) (by rfl) (by intro w hSw; (try dsimp only at hSw); go_simp; try with_reducible rfl) (by assumption) ?_
            simp only [Act.put, List.setIfInBounds_toArray, List.set_cons_zero, List.set_cons_succ]
            refine any_take 54 (.agg #[.int .i64 sb, .int .i64 cb, .int .i64 tb, .bool kb, .slice Rb nb rcb, .slice Vb mb wcb]) (i := 21) rfl rfl (by kernel_rfl) (by kernel_rfl) (by kernel_rfl) (fun _ _ _ h => h) (by rfl) (by intro w hSw; (try dsimp only at hSw); go_simp; try with_reducible rfl) (by assumption) ?_
            simp only [Act.put, List.setIfInBounds_toArray, List.set_cons_zero, List.set_cons_succ]
            refine wpAnyH_ready (rs := [22]) (by kernel_rfl) (by simp) ?_
            refine AllReadyH.cons rfl (fun K' hK => ?_) AllReadyH.nil
            go_simp
            go_at_call 9
            refine (hcc.out _ (F3.out.trans' D0.out (fun _ _ e => e))).mono ?_
            rintro e' v1 ⟨rfl, f4⟩
            have D1 := Lib.hid (D0.out.trans' f4 (fun _ _ e => e))
            clear f4
            dsimp only
            refine hK.out _ _ (HSS.out _ D1.out) (fun hHeld => ?_)
            clear hK
            try simp only [Act.put, List.setIfInBounds_toArray, List.set_cons_zero, List.set_cons_succ]
            refine any_take 56 (.bool cf) (i := 23) rfl rfl (by kernel_rfl) (by kernel_rfl) (by kernel_rfl) (fun _ _ _ h => h) (by rfl) (by intro w hSw; (try dsimp only at hSw); go_simp; try with_reducible rfl) (by assumption) ?_
            simp only [Act.put, List.setIfInBounds_toArray, List.set_cons_zero, List.set_cons_succ]
            refine any_take 57 (.bool cf) (i := 24) rfl rfl (by kernel_rfl) (by kernel_rfl) (by kernel_rfl) (fun _ _ _ h => h) (by rfl) (by intro w hSw; (try dsimp only at hSw); go_simp; try with_reducible rfl) (by assumption) ?_
            simp only [Act.put, List.setIfInBounds_toArray, List.set_cons_zero, List.set_cons_succ]
            refine any_take 8 (.bool cf) (i := 25) rfl rfl (by kernel_rfl) (by kernel_rfl) (by kernel_rfl) (fun _ _ _ h => h) (by rfl) (by intro w hSw; (try dsimp only at hSw); go_simp; try with_reducible rfl) (by assumption) ?_
            simp only [Act.put, List.setIfInBounds_toArray, List.set_cons_zero, List.set_cons_succ]
            refine wpAnyH_done (by kernel_rfl) ?_ _
            clear hHeld
            go_wp2
            go_meet
            exact ⟨by rw [hI], Lib.hid (F3.out.trans' D1.out (fun _ _ e => e))⟩
        · obtain rfl : th = false := by rw [Hth.out]; exact decide_eq_false hin
          clear Hth
          have hI := Hout.out hin
          clear hin HN HL HO HR HD HC Hnd Hout Hin
          refine wp_region_held_drew (S := fun _ => True) (by kernel_rfl) (trivial) (fun hHeld => ?_)
          refine any_take 33 (.bool false) (i := 0) rfl rfl (by kernel_rfl) (by kernel_rfl) (by kernel_rfl) (fun _ _ _ h => h) (by rfl) (by intro w hSw; (try dsimp only at hSw); go_simp; try with_reducible rfl) (by assumption) ?_
          simp only [Act.put, List.setIfInBounds_toArray, List.set_cons_zero, List.set_cons_succ]
          refine any_take 34 (.bool false) (i := 1) rfl rfl (by kernel_rfl) (by kernel_rfl) (by kernel_rfl) (fun _ _ _ h => h) (by rfl) (by intro w hSw; (try dsimp only at hSw); go_simp; try with_reducible rfl) (by assumption) ?_
          simp only [Act.put, List.setIfInBounds_toArray, List.set_cons_zero, List.set_cons_succ]
          refine any_skip 35 (i := 2) rfl rfl (by kernel_rfl) (by kernel_rfl) (by kernel_rfl) (fun _ _ _ h => h) (by rfl) (by assumption) ?_
          simp only [Act.put, List.setIfInBounds_toArray, List.set_cons_zero, List.set_cons_succ]
          refine any_skip 36 (i := 3) rfl rfl (by kernel_rfl) (by kernel_rfl) (by kernel_rfl) (fun _ _ _ h => h) (by rfl) (by assumption) ?_
          simp only [Act.put, List.setIfInBounds_toArray, List.set_cons_zero, List.set_cons_succ]
          refine any_skip 37 (i := 4) rfl rfl (by kernel_rfl) (by kernel_rfl) (by kernel_rfl) (fun _ _ _ h => h) (by rfl) (by assumption) ?_
          simp only [Act.put, List.setIfInBounds_toArray, List.set_cons_zero, List.set_cons_succ]
          refine any_skip 38 (i := 5) rfl rfl (by kernel_rfl) (by kernel_rfl) (by kernel_rfl) (fun _ _ _ h => h) (by rfl) (by assumption) ?_
          simp only [Act.put, List.setIfInBounds_toArray, List.set_cons_zero, List.set_cons_succ]
          refine any_skip 39 (i := 6) rfl rfl (by kernel_rfl) (by kernel_rfl) (by kernel_rfl) (fun _ _ _ h => h) (by rfl) (by assumption) ?_
          simp only [Act.put, List.setIfInBounds_toArray, List.set_cons_zero, List.set_cons_succ]
          refine any_skip 40 (i := 7) rfl rfl (by kernel_rfl) (by kernel_rfl) (by kernel_rfl) (fun _ _ _ h => h) (by rfl) (by assumption) ?_
          simp only [Act.put, List.setIfInBounds_toArray, List.set_cons_zero, List.set_cons_succ]
          refine any_skip 41 (i := 8) rfl rfl (by kernel_rfl) (by kernel_rfl) (by kernel_rfl) (fun _ _ _ h => h) (by rfl) (by assumption) ?_
          simp only [Act.put, List.setIfInBounds_toArray, List.set_cons_zero, List.set_cons_succ]
          refine any_skip 42 (i := 9) rfl rfl (by kernel_rfl) (by kernel_rfl) (by kernel_rfl) (fun _ _ _ h => h) (by rfl) (by assumption) ?_
          simp only [Act.put, List.setIfInBounds_toArray, List.set_cons_zero, List.set_cons_succ]
          refine any_skip 43 (i := 10) rfl rfl (by kernel_rfl) (by kernel_rfl) (by kernel_rfl) (fun _ _ _ h => h) (by rfl) (by assumption) ?_
          simp only [Act.put, List.setIfInBounds_toArray, List.set_cons_zero, List.set_cons_succ]
          refine any_skip 44 (i := 11) rfl rfl (by kernel_rfl) (by kernel_rfl) (by kernel_rfl) (fun _ _ _ h => h) (by rfl) (by assumption) ?_
          simp only [Act.put, List.setIfInBounds_toArray, List.set_cons_zero, List.set_cons_succ]
          refine any_skip 45 (i := 12) rfl rfl (by kernel_rfl) (by kernel_rfl) (by kernel_rfl) (fun _ _ _ h => h) (by rfl) (by assumption) ?_
          simp only [Act.put, List.setIfInBounds_toArray, List.set_cons_zero, List.set_cons_succ]
          refine any_skip 46 (i := 13) rfl rfl (by kernel_rfl) (by kernel_rfl) (by kernel_rfl) (fun _ _ _ h => h) (by rfl) (by assumption) ?_
          simp only [Act.put, List.setIfInBounds_toArray, List.set_cons_zero, List.set_cons_succ]
          refine any_skip 47 (i := 14) rfl rfl (by kernel_rfl) (by kernel_rfl) (by kernel_rfl) (fun _ _ _ h => h) (by rfl) (by assumption) ?_
          simp only [Act.put, List.setIfInBounds_toArray, List.set_cons_zero, List.set_cons_succ]
          refine any_skip 48 (i := 15) rfl rfl (by kernel_rfl) (by kernel_rfl) (by kernel_rfl) (fun _ _ _ h => h) (by rfl) (by assumption) ?_
          simp only [Act.put, List.setIfInBounds_toArray, List.set_cons_zero, List.set_cons_succ]
          refine any_skip 49 (i := 16) rfl rfl (by kernel_rfl) (by kernel_rfl) (by kernel_rfl) (fun _ _ _ h => h) (by rfl) (by assumption) ?_
          simp only [Act.put, List.setIfInBounds_toArray, List.set_cons_zero, List.set_cons_succ]
          refine any_skip 50 (i := 17) rfl rfl (by kernel_rfl) (by kernel_rfl) (by kernel_rfl) (fun _ _ _ h => h) (by rfl) (by assumption) ?_
          simp only [Act.put, List.setIfInBounds_toArray, List.set_cons_zero, List.set_cons_succ]
          refine any_skip 51 (i := 18) rfl rfl (by kernel_rfl) (by kernel_rfl) (by kernel_rfl) (fun _ _ _ h => h) (by rfl) (by assumption) ?_
          simp only [Act.put, List.setIfInBounds_toArray, List.set_cons_zero, List.set_cons_succ]
          refine any_skip 52 (i := 19) rfl rfl (by kernel_rfl) (by kernel_rfl) (by kernel_rfl) (fun _ _ _ h => h) (by rfl) (by assumption) ?_
          simp only [Act.put, List.setIfInBounds_toArray, List.set_cons_zero, List.set_cons_succ]
          refine any_skip 53 (i := 20) rfl rfl (by kernel_rfl) (by kernel_rfl) (by kernel_rfl) (fun _ _ _ h => h) (by rfl) (by assumption) ?_
          simp only [Act.put, List.setIfInBounds_toArray, List.set_cons_zero, List.set_cons_succ]
          refine any_skip 54 (i := 21) rfl rfl (by kernel_rfl) (by kernel_rfl) (by kernel_rfl) (fun _ _ _ h => h) (by rfl) (by assumption) ?_
          simp only [Act.put, List.setIfInBounds_toArray, List.set_cons_zero, List.set_cons_succ]
          refine any_skip 55 (i := 22) rfl rfl (by kernel_rfl) (by kernel_rfl) (by kernel_rfl) (fun _ _ _ h => h) (by rfl) (by assumption) ?_
          simp only [Act.put, List.setIfInBounds_toArray, List.set_cons_zero, List.set_cons_succ]
          refine any_skip 56 (i := 23) rfl rfl (by kernel_rfl) (by kernel_rfl) (by kernel_rfl) (fun _ _ _ h => h) (by rfl) (by assumption) ?_
          simp only [Act.put, List.setIfInBounds_toArray, List.set_cons_zero, List.set_cons_succ]
          refine any_take 57 (.bool false) (i := 24) rfl rfl (by kernel_rfl) (by kernel_rfl) (by kernel_rfl) (fun _ _ _ h => h) (by rfl) (by intro w hSw; (try dsimp only at hSw); go_simp; try with_reducible rfl) (by assumption) ?_
          simp only [Act.put, List.setIfInBounds_toArray, List.set_cons_zero, List.set_cons_succ]
          refine any_take 8 (.bool false) (i := 25) rfl rfl (by kernel_rfl) (by kernel_rfl) (by kernel_rfl) (fun _ _ _ h => h) (by rfl) (by intro w hSw; (try dsimp only at hSw); go_simp; try with_reducible rfl) (by assumption) ?_
          simp only [Act.put, List.setIfInBounds_toArray, List.set_cons_zero, List.set_cons_succ]
          refine wpAnyH_done (by kernel_rfl) ?_ _
          clear hHeld
          go_wp2
          go_meet
          exact ⟨by rw [hI], Lib.hid (F3.out.trans' D0.out (fun _ _ e => e))⟩
      case rest =>
        obtain ⟨rfl, F4⟩ := hcut
        clear F3 Hnd Hout Hin HC
        go_wp2_with fail
        refine (HO.out _ F4.out).mono ?_
        rintro e w5 ⟨L, ls, lc, rfl, hI, hO, f5⟩
        have F5 := Lib.hid (F4.out.trans' f5 (fun _ _ e => e))
        have hll : ls.length = n := by rw [hO.len, HL.out]
        have Hls := Lib.hid hll
        have HI := Lib.hid hI
        have HOL := Lib.hid hO
        rw [hll]
        clear hI hO f5 HO hll
        go_wp2
        go_loopw [10] (fun iv wr => ∃ a : Nat, a ≤ n ∧ iv = .int .i64 (a : Int) ∧ Hid (Fr No w5 wr)) (fun iv _ => n - (intOf iv).toNat)
        case atStart => exact ⟨0, Nat.zero_le _, rfl, Lib.hid (Fr.refl _ _)⟩
        case round =>
          obtain ⟨a, ha, rfl, hfr⟩ := hrel
          by_cases hlt : a < n
          · have hal : a < ls.length := by rw [Hls.out]; exact hlt
            have hin : ((a : Nat) : Int) < (n : Int) := by omega
            obtain ⟨ad, rfl, hab, c0⟩ := (HI.out.since hfr.out).sl.il hal
            have hc0 : Hid (∀ W, Fr No w5 W → W.cell? (ad.add a) = some (.slice ls[a].A ls[a].l.length ls[a].c)) := Lib.hid (fun W hW => by
              obtain ⟨a2, e, -, c1⟩ := (HI.out.since hW).sl.il hal
              injection e with e
              rw [e]
              exact c1)
            have hnum := Lib.hid (fun W (hW : Fr No w5 W) => (HI.out.since hW).all _ (List.getElem_mem hal))
            have hmem : Hid (∀ m (hm : m < ls[a].l.length), ls[a].l[m] < a) := Lib.hid (fun m hm => depL_lt (h := ndsOf h) (i := a) (by rw [← HOL.out.at hal]; exact List.getElem_mem hm))
            have hlb : ls[a].l.length ≤ a := by
              rw [HOL.out.at hal]
              unfold depL
              exact Nat.le_trans (List.length_filter_le _ _) (by simp)
            generalize ls[a].A = A2 at *
            generalize ls[a].c = c2 at *
            generalize ls[a].l = l at *
            obtain ⟨ll, hll⟩ : ∃ m, l.length = m := ⟨_, rfl⟩
            have Hll := Lib.hid hll
            rw [hll] at c0 hc0 hlb
            clear hll c0
            go_wp2
            go_loopw [11] (fun mv wx => ∃ m : Nat, m ≤ ll ∧ mv = .int .i64 (m : Int) ∧ Hid (Fr No w5 wx)) (fun mv _ => ll - (intOf mv).toNat)
            case atStart => exact ⟨0, Nat.zero_le _, rfl, hfr⟩
            case round =>
              obtain ⟨m, hm, rfl, hfx⟩ := hrel
              have c0 := hc0.out _ hfx.out
              by_cases hml : m < ll
              · have hml2 : m < l.length := by rw [Hll.out]; exact hml
                have hmi : ((m : Nat) : Int) < (ll : Int) := by omega
                obtain ⟨ae, rfl, hae, n0⟩ := (hnum.out _ hfx.out).num hml2
                have hlm := hmem.out m hml2
                generalize l[m] = z at *
                have hz : ¬ ((a : Int) ≤ (z : Int)) := by omega
                have hz2 : decide ((a : Int) ≤ (z : Int)) = false := decide_eq_false hz
                clear hmem hlm
                go_wp2
                go_roundw
                case rel => exact ⟨m + 1, by omega, by go_num, hfx⟩
                case measure => simp [intOf]; omega
              · obtain rfl : m = ll := by omega
                clear hmem hnum Hll
                go_wp2
                go_roundw
                case rel => exact ⟨a + 1, by omega, by go_num, hfx⟩
                case measure => simp [intOf]; omega
          · obtain rfl : a = n := by omega
            have F6 := Lib.hid (F5.out.trans' hfr.out (fun _ _ e => e))
            go_wp2_with fail
            refine (HR.out _ F6.out).mono ?_
            rintro e w7 ⟨G, g, rfl, hM, f7⟩
            have F7 := Lib.hid (F6.out.trans' f7 (fun _ _ e => e))
            have HSm := Lib.hid (refSame15_any ls L a lc _ G g (depB (ndsOf h)) w7 (HI.out.since (hfr.out.trans' f7 (fun _ _ e => e))) Hls.out (by omega) hM (fun j hj => by rw [HOL.out.at hj]; exact (depL_all (by have := Hls.out; omega)).symm))
            clear hM f7 HR HI HOL Hls
            go_wp2_with fail
            refine HSm.out.mono ?_
            rintro e w8 ⟨rfl, f8⟩
            have F8 := Lib.hid (F7.out.trans' f8 (fun _ _ e => e))
            clear HSm f8
            go_wp2_with fail
            refine (HD.out _ F8.out).mono ?_
            rintro e w9 ⟨rfl, f9⟩
            generalize dI i k = v at *
            cases v
            all_goals
              go_wp2
              go_ret
              exact ⟨rfl, F8.out.trans' f9 (fun _ _ e => e)⟩
end Go.Proofs.Ytmabapbdnafpfaa
