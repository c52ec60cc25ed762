/- Package cat: the first class of a name. -/
import Derived.Test.YtkihbjgmmaklaaaCat12
import Derived.Test.YtkihbjgmmaklaaaIdx9
import Derived.Test.YtkihbjgmmaklaaaPts12
import Derived.Test.YtkihbjgmmaklaaaMy11
import Derived.Test.YtkihbjgmmaklaaaHand
namespace Go.Proofs.Ytkihbjgmmaklaaa
open Go.RowKit

/-- Is a class of this name? -/
def nameB (nm : ByteArray) (c : Cls) : Bool := c.name.toList == nm.toList
set_option maxHeartbeats 1000000 in
theorem find1_any (c : Cls) (nm : ByteArray) (q : Nat) (w : World) (hq : Bk w q 9 #[.string nm]) : Calls Try.prog 70 #[c.agg, .pointer (some ⟨q, 0, none⟩)] w (Has w (nameB nm c)) := by
  obtain ⟨cn, a, A, ss, sc, U, us, uc, res⟩ := c
  unfold Cls.agg nameB
  simp only
  generalize us.length = m at *
  generalize ss.length = L at *
  have f0 : Fr No w (w.alloc (.cells #[.string cn, .int .i64 a, .slice A L sc, .slice U m uc, .bool res] 35)) := (Fr.refl _ _).alloc _
  have x0 := (hq.fr f0 (fun e => e)).cell 0
  simp at x0
  obtain ⟨r, hr⟩ : ∃ r, (cn.toList == nm.toList) = r := ⟨_, rfl⟩
  rw [hr]
  go_enter Try.func70, Try.ntmps70
  go_wp2
  go_ret
  exact ⟨by first | (rw [hr]; rfl) | rfl, f0⟩
/-- The first place of a class of a name; -1 without. -/
def At12 (l : List Cls) (nm : ByteArray) (r : Int) : Prop := (r = -1 ∧ l.any (nameB nm) = false) ∨ ∃ k : Nat, ∃ h : k < l.length, r = (k : Int) ∧ nameB nm l[k] = true ∧ (l.take k).any (nameB nm) = false
set_option maxHeartbeats 1000000 in
theorem idxCls_any (l : List Cls) (A : Option Addr) (n c : Nat) (nm : ByteArray) (q : Nat) (w : World) (hsl : Sl w w.heap.size A (l.flatMap Cls.cells)) (hn : l.length = n) (hnm : n ≤ 1099511627776) (hq : Bk w q 9 #[.string nm]) :
    Calls Try.prog 69 #[.slice A n c, .func (.func 70) #[] #[.pointer (some ⟨q, 0, none⟩)]] w fun e w' => ∃ r, e = .returned (.int .i64 r) ∧ At12 l nm r ∧ Fr No w w' := by
  have Hq := Lib.hid hq
  have Hn := Lib.hid hn
  have Hsl := Lib.hid hsl
  clear hq hn hsl
  go_enter Try.func69, Try.ntmps69
  go_wp2
  go_loopw [8] (fun i wr => ∃ k : Nat, k ≤ n ∧ i = .int .i64 k ∧ Hid ((l.take k).any (nameB nm) = false) ∧ Fr No w wr) (fun i _ => n - (intOf i).toNat)
  case atStart => exact ⟨0, Nat.zero_le _, rfl, Lib.hid (by simp), Fr.refl _ _⟩
  case round =>
    obtain ⟨k, hk, rfl, hpre, hfr⟩ := hrel
    by_cases hlt : k < n
    · have hkl : k < l.length := by rw [Hn.out]; exact hlt
      obtain ⟨ad, rfl, hab, c0, c1, c2, c3, c4⟩ := (Hsl.out.since hfr).cls (k := k) hkl
      have hx := Lib.hid (find1_any l[k] nm q wr (Hq.out.fr hfr (fun e => e)))
      have Hst := Lib.hid (any_step (nameB nm) l k hkl hpre.out)
      unfold Cls.agg at hx
      have Hfd : Hid (nameB nm l[k] = true → At12 l nm (k : Int)) := Lib.hid (fun h => .inr ⟨k, hkl, rfl, h, hpre.out⟩)
      generalize nameB nm l[k] = b at *
      generalize l[k].steps.length = L at *
      generalize l[k].comps.length = M at *
      generalize l[k].name = cn at *
      generalize l[k].args = ar at *
      generalize l[k].sA = sA at *
      generalize l[k].sc = sc at *
      generalize l[k].uA = uA at *
      generalize l[k].uc = uc at *
      generalize l[k].res = re at *
      cases b
      · go_wp2_with fail
        refine (hx.out).mono ?_
        rintro e w1 ⟨rfl, hf1⟩
        go_wp2
        go_roundw
        case rel => exact ⟨k + 1, by omega, by go_num, Lib.hid Hst.out, hfr.trans' hf1 (fun _ _ h => h)⟩
        case measure => simp [intOf]; omega
      · go_wp2_with fail
        refine (hx.out).mono ?_
        rintro e w1 ⟨rfl, hf1⟩
        go_wp2
        go_ret
        exact ⟨k, rfl, Hfd.out (by first | rfl | trivial), hfr.trans' hf1 (fun _ _ h => h)⟩
    · obtain rfl : k = n := by omega
      go_wp2
      go_ret
      refine ⟨-1, rfl, .inl ⟨rfl, ?_⟩, hfr⟩
      have h1 := hpre.out
      rwa [List.take_of_length_le (by rw [Hn.out]; exact Nat.le_refl _)] at h1
set_option maxHeartbeats 1000000 in
theorem find_any (x : Ctl) (nm : ByteArray) (w : World) (hx : Clss w x.cA x.cls) (hn : x.cls.length ≤ 1099511627776) :
    Calls Try.prog 48 #[x.agg, .string nm] w fun e w' => ∃ r, e = .returned (.int .i64 r) ∧ At12 x.cls nm r ∧ Fr No w w' := by
  unfold Ctl.agg
  obtain ⟨Z, hZ⟩ : ∃ Z, Z = x.arr := ⟨_, rfl⟩
  rw [← hZ]
  obtain ⟨W0, hW0⟩ : ∃ W0, W0 = (w.alloc (.cells Z 26)).alloc (.cells #[.string nm] 9) := ⟨_, rfl⟩
  have f0 : Fr No w W0 := by rw [hW0]; exact ((Fr.refl _ _).alloc _).alloc _
  have bZ : Bk W0 w.heap.size 26 Z := by rw [hW0]; exact (Bk.made w _ _).fr ((Fr.refl No _).alloc _) (fun e => e)
  have bN : Bk W0 (w.heap.size + 1) 9 #[.string nm] := by
    have h := Bk.made (w.alloc (.cells Z 26)) 9 #[.string nm]
    rw [World.size_alloc] at h
    rw [hW0]
    exact h
  have x0 : W0.cell? ⟨w.heap.size, 0, none⟩ = some (.slice x.cA x.cls.length x.cc) := by rw [bZ.cell, hZ]; rfl
  have HC := Lib.hid (idxCls_any x.cls x.cA x.cls.length x.cc nm (w.heap.size + 1) W0 (hx.since f0).sl rfl hn bN)
  have HF := Lib.hid f0
  have hwe := hW0.symm
  generalize x.cls.length = n at *
  clear hx hZ hW0 bZ bN f0
  go_enter Try.func48, Try.ntmps48
  go_wp2_with fail
  refine (HC.out).mono ?_
  rintro e w1 ⟨r, rfl, ha, f1⟩
  go_wp2
  go_ret
  exact ⟨r, rfl, ha, HF.out.trans' f1 (fun _ _ e => e)⟩
end Go.Proofs.Ytkihbjgmmaklaaa
/- Package cat: May. -/
namespace Go.Proofs.Ytkihbjgmmaklaaa
open Go.RowKit

/-- Of few classes, steps and breakpoints, that are each few. -/
structure Ctl.Nice (x : Ctl) : Prop where
  few : x.Few
  cls : ∀ c ∈ x.cls, c.Few
theorem clOkAt_eq (x : Ctl) {i : Nat} (hi : i < x.cls.length) : clOkAt x.p i = (x.cls[i].p.ok && !((x.cls.take i).any (nameB x.cls[i].name))) := by
  unfold clOkAt
  rw [pct_at x hi]
  congr 1
  have h : ∀ j, j ≤ i → (List.range j).all (fun k => !((x.p.at k).name.toList == x.cls[i].p.name.toList)) = !((x.cls.take j).any (nameB x.cls[i].name)) := by
    intro j hj
    induction j with
    | zero => simp
    | succ j ih =>
      have hjl : j < x.cls.length := by omega
      rw [range_all_snoc, ih (by omega), List.take_succ_eq_append_getElem hjl, List.any_append, pct_at x hjl]
      simp [nameB, Cls.p]
  exact h i (Nat.le_refl _)
theorem at12_same {l : List Cls} {i : Nat} (hi : i < l.length) {r : Int} (h : At12 l l[i].name r) : decide (r = (i : Int)) = !((l.take i).any (nameB l[i].name)) := by
  have hself : nameB l[i].name l[i] = true := by simp [nameB]
  rcases h with ⟨rfl, h⟩ | ⟨k, hk, rfl, h1, h2⟩
  · rw [List.any_eq_false] at h
    exact absurd hself (h _ (List.getElem_mem hi))
  · have hki : k ≤ i := by
      rcases Nat.lt_or_ge i k with hlt | hge
      · exfalso
        rw [List.any_eq_false] at h2
        refine h2 l[i] ?_ hself
        have h3 : i < (l.take k).length := by rw [List.length_take]; omega
        have h4 := List.getElem_mem h3
        rwa [List.getElem_take] at h4
      · exact hge
    rcases Nat.lt_or_ge k i with hlt | hge
    · have h3 : (l.take i).any (nameB l[i].name) = true := by
        rw [List.any_eq_true]
        have h5 : k < (l.take i).length := by rw [List.length_take]; omega
        refine ⟨l[k], ?_, h1⟩
        have h4 := List.getElem_mem h5
        rwa [List.getElem_take] at h4
      rw [h3, decide_eq_false (by omega)]
      rfl
    · obtain rfl : k = i := by omega
      rw [h2, decide_eq_true rfl]
      rfl
theorem few_ok {x : Ctl} (h : x.Few) : x.p.ok = (decide (1 ≤ x.cls.length) && (List.range x.cls.length).all (clOkAt x.p)) := by
  have e1 : x.p.cs.length = x.cls.length := by simp [Ctl.p]
  have e2 : (List.range 16).all (brOkAt x.p) = true := by
    rw [List.all_eq_true]
    intro j hj
    unfold brOkAt
    exact decide_eq_true (h.br j (List.mem_range.1 hj))
  unfold PCt.ok
  rw [e1, e2, Bool.and_true]
  congr 1
  exact decide_eq_decide.2 ⟨fun q => q.1, fun q => ⟨q, h.n⟩⟩
theorem sameBr_self (b : Nat → Int) (W : World) : (Op.equalIn 10000 24 (.agg (br16 b)) (.agg (br16 b))).run Try.prog W = .ok true W := by
  rw [eqBr12, sameBr_refl]

set_option maxRecDepth 100000 in
set_option maxHeartbeats 8000000 in
theorem may12_any (x : Ctl) (w : World) (hx : Clss w x.cA x.cls) (hF : x.Nice) : Calls Try.prog 25 #[x.agg] w (Has w x.p.ok) := by
  have HX := Lib.hid (fun W (h : Fr No w W) => hx.since h)
  have HP := Lib.hid (fun W (h : Fr No w W) => points_any x W (hx.since h) hF.few)
  have Hn1 : x.cls.length ≤ 1099511627776 := by have := hF.few.n; omega
  have HFd := Lib.hid (fun nm W (h : Fr No w W) => find_any x nm W (hx.since h) Hn1)
  have HM := Lib.hid (fun W (h : Fr No w W) (i : Nat) (hi : i < x.cls.length) => may11_any x.cls[i] W ((hx.since h).all _ (List.getElem_mem hi)) (hF.cls _ (List.getElem_mem hi)))
  have hn4 := hF.few.n
  have Hr : Hid (x.p.ok = (decide (1 ≤ x.cls.length) && (List.range x.cls.length).all (clOkAt x.p))) := Lib.hid (few_ok hF.few)
  have HOk := Lib.hid (fun i (hi : i < x.cls.length) => clOkAt_eq x hi)
  have HAt := Lib.hid (fun i (hi : i < x.cls.length) r (h : At12 x.cls x.cls[i].name r) => at12_same hi h)
  generalize x.p.ok = res at *
  generalize clOkAt x.p = ck at *
  unfold Ctl.agg at HP HFd ⊢
  obtain ⟨Z, hZ⟩ : ∃ Z, Z = x.arr := ⟨_, rfl⟩
  rw [← hZ] at HP HFd ⊢
  rw [Ctl.arr_eq] at hZ
  have bZ := Bk.made w 26 Z
  have f0 : Fr No w (w.alloc (.cells Z 26)) := (Fr.refl _ _).alloc _
  have HLd : Hid (∀ W, Fr No (w.alloc (.cells Z 26)) W → LdO W 26 ⟨w.heap.size, 0, none⟩ (.agg Z) ∧ LdO W 24 ⟨w.heap.size, 1, none⟩ (.agg (br16 x.b)) ∧ W.cell? ⟨w.heap.size, 0, none⟩ = some (.slice x.cA x.cls.length x.cc)) := Lib.hid (fun W h =>
    ⟨ld_cat hZ (bZ.fr h (fun e => e)), ld_br1 hZ (bZ.fr h (fun e => e)), by rw [(bZ.fr h (fun e => e)).cell, hZ]; rfl⟩)
  have HF0 := Lib.hid f0
  have hlt0 : w.heap.size < (w.alloc (.cells Z 26)).heap.size := bZ.lt
  clear hx hF Hn1 hZ bZ
  obtain ⟨cA, cls, cc, b⟩ := x
  simp only at *
  obtain ⟨n, hn⟩ : ∃ n, cls.length = n := ⟨_, rfl⟩
  have Hcn := Lib.hid hn
  rw [hn] at hn4
  rw [hn] at Hr HLd
  obtain ⟨W0, hW0⟩ : ∃ W0, W0 = w.alloc (.cells Z 26) := ⟨_, rfl⟩
  rw [← hW0] at HLd HF0 hlt0 f0
  have hwe := hW0.symm
  have x0 := (HLd.out W0 (Fr.refl _ _)).2.2
  clear hn f0 hW0
  by_cases hn1 : 1 ≤ n
  · have hn1' : ¬ ((n : Int) < 1) := by omega
    have hn4' : ¬ (4 < (n : Int)) := by omega
    go_enter Try.func25, Try.ntmps25
    go_wp2
    clear hwe x0
    go_loopw [18] (fun i wr => ∃ k : Nat, k ≤ n ∧ i = .int .i64 k ∧ Hid ((List.range k).all ck = true) ∧ Fr No W0 wr) (fun i _ => n - (intOf i).toNat)
    case atStart => exact ⟨0, Nat.zero_le _, rfl, Lib.hid rfl, Fr.refl _ _⟩
    case round =>
      obtain ⟨k, hk, rfl, hpre, hfr⟩ := hrel
      by_cases hlt : k < n
      · have hkl : k < cls.length := by rw [Hcn.out]; exact hlt
        obtain ⟨ad, rfl, hab, c0, c1, c2, c3, c4⟩ := (HX.out _ (HF0.out.trans' hfr (fun _ _ e => e))).sl.cls (k := k) hkl
        have hM := Lib.hid (fun W (h : Fr No w W) => HM.out W h k hkl)
        have hFd := Lib.hid (fun W (h : Fr No w W) => HFd.out cls[k].name W h)
        have hAt := Lib.hid (fun r h => HAt.out k hkl r h)
        have Hck : Hid ((List.range (k + 1)).all ck = (cls[k].p.ok && !((cls.take k).any (nameB cls[k].name)))) := Lib.hid (by rw [range_all_snoc, hpre.out, HOk.out k hkl]; rfl)
        have Hbad : Hid (ck k = false → res = false) := Lib.hid (fun h => by rw [Hr.out, range_all_not ck hlt h, Bool.and_false])
        have Hckk := Lib.hid (HOk.out k hkl)
        unfold Cls.agg at hM
        generalize cls[k].p.ok = o1 at *
        obtain ⟨o2, ho2⟩ : ∃ o2, Hid (o2 = (cls.take k).any (nameB cls[k].name)) := ⟨_, Lib.hid rfl⟩
        rw [← ho2.out] at hAt Hck Hckk
        obtain ⟨P12, hP12⟩ : ∃ P : Int → Prop, P = At12 cls cls[k].name := ⟨_, rfl⟩
        rw [← hP12] at hFd hAt
        clear hP12 ho2
        generalize cls[k].steps.length = L at *
        generalize cls[k].comps.length = M at *
        generalize cls[k].name = cn at *
        generalize cls[k].args = ar at *
        generalize cls[k].sA = sA at *
        generalize cls[k].sc = sc at *
        generalize cls[k].uA = uA at *
        generalize cls[k].uc = uc at *
        generalize cls[k].res = re at *
        have bC := Bk.made wr 35 #[.string cn, .int .i64 ar, .slice sA L sc, .slice uA M uc, .bool re]
        have f1 : Fr No W0 (wr.alloc (.cells #[.string cn, .int .i64 ar, .slice sA L sc, .slice uA M uc, .bool re] 35)) := hfr.alloc _
        have F1 := Lib.hid f1
        have BC := Lib.hid bC
        have HMk := Lib.hid (hM.out _ (HF0.out.trans' f1 (fun _ _ e => e)))
        clear hpre bC f1 hM HM HFd HAt HOk
        cases o1
        · go_wp2_with fail
          refine (HMk.out).mono ?_
          rintro e w2 ⟨rfl, f2⟩
          go_wp2
          go_ret
          exact ⟨by rw [Hbad.out (by rw [Hckk.out]; rfl)]; rfl, (HF0.out.trans' F1.out (fun _ _ e => e)).trans' f2 (fun _ _ e => e)⟩
        · go_wp2_with fail
          refine (HMk.out).mono ?_
          rintro e w2 ⟨rfl, f2⟩
          have F2 := Lib.hid (F1.out.trans' f2 (fun _ _ e => e))
          have hld := Lib.hid (HLd.out w2 F2.out).1
          have y0 := (BC.out.fr f2 (fun e => e)).cell 0
          simp at y0
          have HFk := Lib.hid (hFd.out _ (HF0.out.trans' F2.out (fun _ _ e => e)))
          clear f2 HMk
          go_wp2_with (first
            | ((with_reducible refine wpl_ldg ?_ ?_ hld.out ?_); (· rfl); (· rfl); simp only [Act.put, List.setIfInBounds_toArray, List.set_cons_zero, List.set_cons_succ]))
          refine (HFk.out).mono ?_
          rintro e w3 ⟨r, rfl, hr, f3⟩
          have hd := hAt.out r hr
          have F3 := Lib.hid (F2.out.trans' f3 (fun _ _ e => e))
          clear hr f3 HFk hAt hld
          cases o2
          · have hd2 : (r != (k : Int)) = false := by simpa using hd
            clear hd
            go_wp2
            go_roundw
            case rel => exact ⟨k + 1, by omega, by go_num, Lib.hid (by rw [Hck.out]; rfl), F3.out⟩
            case measure => simp [intOf]; omega
          · have hd2 : (r != (k : Int)) = true := by simpa using hd
            clear hd
            go_wp2
            go_ret
            exact ⟨by rw [Hbad.out (by rw [Hckk.out]; rfl)]; rfl, HF0.out.trans' F3.out (fun _ _ e => e)⟩
      · obtain rfl : k = n := by omega
        have ht : res = true := by rw [Hr.out, hpre.out, decide_eq_true hn1]; rfl
        have HPD := Lib.hid (HP.out _ ((HF0.out.trans' hfr (fun _ _ e => e)).drew))
        have HLD := Lib.hid (fun W (h : Fr No W0 W) => And.intro (HLd.out W h).2.1 (HLd.out W h).1)
        have Hfr := Lib.hid (hfr.drew)
        clear hpre
        go_wp2_with fail
        refine wp_region_held_drew (S := fun W => LdO W 24 ⟨w.heap.size, 1, none⟩ (.agg (br16 b)) ∧ LdO W 26 ⟨w.heap.size, 0, none⟩ (.agg Z)) (by kernel_rfl) (HLD.out _ Hfr.out) (fun hHeld => ?_)
        refine any_take 35 (.pointer (some ⟨w.heap.size, 1, none⟩)) (i := 0) rfl rfl (by kernel_rfl) (by kernel_rfl) (by kernel_rfl) (fun _ _ _ h => h) (by rfl) (by intro w hSw; (try dsimp only at hSw); go_simp; try with_reducible rfl) (by assumption) ?_
        simp only [Act.put, List.setIfInBounds_toArray, List.set_cons_zero, List.set_cons_succ]
        refine any_take 36 (.agg (br16 b)) (i := 1) rfl rfl (by kernel_rfl) (by kernel_rfl) (by kernel_rfl) (fun _ _ _ h => h) (by rfl) (by intro w hSw; exact exec_ld rfl hSw.1) (by assumption) ?_
        simp only [Act.put, List.setIfInBounds_toArray, List.set_cons_zero, List.set_cons_succ]
        refine any_take 37 (.agg Z) (i := 2) rfl rfl (by kernel_rfl) (by kernel_rfl) (by kernel_rfl) (fun _ _ _ h => h) (by rfl) (by intro w hSw; exact exec_ld rfl hSw.2) (by assumption) ?_
        simp only [Act.put, List.setIfInBounds_toArray, List.set_cons_zero, List.set_cons_succ]
        refine wpAnyH_ready (rs := [3]) (by kernel_rfl) (by simp) ?_
        refine AllReadyH.cons rfl (fun K' hK => ?_) AllReadyH.nil
        go_simp
        go_at_call 49
        refine (HPD.out).mono ?_
        rintro e' w4 ⟨rfl, f4⟩
        have F4 := Lib.hid (Hfr.out.trans' f4 (fun _ _ e => e))
        dsimp only
        refine hK.out _ _ (HLD.out _ F4.out) (fun hHeld => ?_)
        clear hK
        try simp only [Act.put, List.setIfInBounds_toArray, List.set_cons_zero, List.set_cons_succ]
        refine any_take 39 (.bool true) (i := 4) rfl rfl (by kernel_rfl) (by kernel_rfl) (by kernel_rfl) (fun _ _ _ h => h) (by rfl) (by intro w hSw; go_simp; rw [sameBr_self]; rfl) (by assumption) ?_
        simp only [Act.put, List.setIfInBounds_toArray, List.set_cons_zero, List.set_cons_succ]
        refine any_take 2 (.bool true) (i := 5) rfl rfl (by kernel_rfl) (by kernel_rfl) (by kernel_rfl) (fun _ _ _ h => h) (by rfl) (by intro w hSw; (try dsimp only at hSw); go_simp; try with_reducible rfl) (by assumption) ?_
        simp only [Act.put, List.setIfInBounds_toArray, List.set_cons_zero, List.set_cons_succ]
        refine wpAnyH_done (by kernel_rfl) ?_ _
        clear hHeld
        go_wp2
        go_ret
        exact ⟨by rw [ht]; rfl, HF0.out.trans' F4.out (fun _ _ e => e)⟩
  · obtain rfl : n = 0 := by omega
    have hf : res = false := by rw [Hr.out]; rfl
    rw [hf]
    have hF1 := Lib.hid (HF0.out)
    go_enter Try.func25, Try.ntmps25
    go_wp2
    go_ret
    exact ⟨rfl, HF0.out⟩
end Go.Proofs.Ytkihbjgmmaklaaa
