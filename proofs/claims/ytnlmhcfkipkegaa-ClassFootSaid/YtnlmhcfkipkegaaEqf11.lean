/- Package class: Same. -/
import Derived.Test.YtnlmhcfkipkegaaRsm11
namespace Go.Proofs.Ytnlmhcfkipkegaa
open Go.RowKit

set_option maxHeartbeats 1000000 in
theorem eqP_any (l1 l2 : List Ins) (A B : Option Addr) (n m c d : Nat) (w : World) (h1 : Sl w w.heap.size A (l1.flatMap Ins.cells)) (h2 : Sl w w.heap.size B (l2.flatMap Ins.cells)) (hn : l1.length = n) (hm : l2.length = m) (hnn : n ≤ 1099511627776) :
    Calls Try.prog 54 #[.slice A n c, .slice B m d] w (Has w (decide (l1 = l2))) := by
  by_cases hnm : n = m
  · subst hnm
    have Hn := Lib.hid hn
    have Hm := Lib.hid hm
    have H1 := Lib.hid h1
    have H2 := Lib.hid h2
    clear h1 h2 hn hm
    go_enter Try.func54, Try.ntmps54
    go_wp2
    go_loopw [13] (fun i wr => ∃ k : Nat, k ≤ n ∧ i = .int .i64 k ∧ Hid (l1.take k = l2.take k) ∧ Fr No w wr) (fun i _ => n - (intOf i).toNat)
    case atStart => exact ⟨0, Nat.zero_le _, rfl, Lib.hid (by simp), Fr.refl _ _⟩
    case round =>
      obtain ⟨k, hk, rfl, hpre, hfr⟩ := hrel
      by_cases hlt : k < n
      · have hkl : k < l1.length := by rw [Hn.out]; exact hlt
        have hkm : k < l2.length := by rw [Hm.out]; exact hlt
        obtain ⟨ad, rfl, hab, c0, c1, c2, c3, c4, c5, c6, c7, c8⟩ := (H1.out.since hfr).ins9 (k := k) hkl
        obtain ⟨ae, rfl, hae, e0, e1, e2, e3, e4, e5, e6, e7, e8⟩ := (H2.out.since hfr).ins9 (k := k) hkm
        have Hs := Lib.hid (take_eq_step hkl hkm hpre.out)
        have Hd : Hid (l1[k] ≠ l2[k] → decide (l1 = l2) = false) := Lib.hid (fun h => by simpa using take_eq_not hkl hkm h)
        generalize l1[k] = i at *
        generalize l2[k] = j at *
        by_cases hij : i = j
        · subst hij
          have HS := Lib.hid (Hs.out rfl)
          obtain ⟨o, a, b, cc, ka, kb, la, lb, x⟩ := i
          dsimp only at c0 c1 c2 c3 c4 c5 c6 c7 c8 e0 e1 e2 e3 e4 e5 e6 e7 e8
          have q := eqIns9 o a b cc ka kb la lb x o a b cc ka kb la lb x
          simp only [beq_self_eq_true, Bool.and_self] at q
          clear Hs Hd
          go_wp2
          go_quiet (fail)
          go_wp2
          go_roundw
          case rel => exact ⟨k + 1, by omega, by go_num, HS, hfr.drewN _⟩
          case measure => simp [intOf]; omega
        · have HD := Lib.hid (Hd.out hij)
          obtain ⟨o, a, b, cc, ka, kb, la, lb, x⟩ := i
          obtain ⟨o', a', b', cc', ka', kb', la', lb', x'⟩ := j
          dsimp only at c0 c1 c2 c3 c4 c5 c6 c7 c8 e0 e1 e2 e3 e4 e5 e6 e7 e8
          have q := eqIns9 o a b cc ka kb la lb x o' a' b' cc' ka' kb' la' lb' x'
          rw [ins_ne hij] at q
          clear Hs Hd hij
          go_wp2
          go_quiet (fail)
          go_wp2
          go_ret
          exact ⟨by rw [HD.out]; rfl, hfr.drewN _⟩
      · obtain rfl : k = n := by omega
        have HE : Hid (decide (l1 = l2) = true) := Lib.hid (by
          have h := hpre.out
          rw [List.take_of_length_le (by rw [Hn.out]; exact Nat.le_refl _), List.take_of_length_le (by rw [Hm.out]; exact Nat.le_refl _)] at h
          simpa using h)
        go_wp2
        go_ret
        exact ⟨by rw [HE.out]; rfl, hfr⟩
  · have hne : ((n : Int) != (m : Int)) = true := by rw [bne_iff_ne]; omega
    have HE : Hid (decide (l1 = l2) = false) := Lib.hid (by
      rw [decide_eq_false_iff_not]
      rintro rfl
      omega)
    clear h1 h2 hn hm
    go_enter Try.func54, Try.ntmps54
    go_wp2
    go_ret
    exact ⟨by rw [HE.out]; rfl, Fr.refl _ _⟩
set_option maxHeartbeats 1000000 in
theorem eqF_any (l1 l2 : List Fsp) (A B : Option Addr) (n m c d : Nat) (w : World) (h1 : Sl w w.heap.size A (l1.flatMap Fsp.cells)) (h2 : Sl w w.heap.size B (l2.flatMap Fsp.cells)) (hn : l1.length = n) (hm : l2.length = m) (hnn : n ≤ 1099511627776) :
    Calls Try.prog 55 #[.slice A n c, .slice B m d] w (Has w (decide (l1 = l2))) := by
  by_cases hnm : n = m
  · subst hnm
    have Hn := Lib.hid hn
    have Hm := Lib.hid hm
    have H1 := Lib.hid h1
    have H2 := Lib.hid h2
    clear h1 h2 hn hm
    go_enter Try.func55, Try.ntmps55
    go_wp2
    go_loopw [13] (fun i wr => ∃ k : Nat, k ≤ n ∧ i = .int .i64 k ∧ Hid (l1.take k = l2.take k) ∧ Fr No w wr) (fun i _ => n - (intOf i).toNat)
    case atStart => exact ⟨0, Nat.zero_le _, rfl, Lib.hid (by simp), Fr.refl _ _⟩
    case round =>
      obtain ⟨k, hk, rfl, hpre, hfr⟩ := hrel
      by_cases hlt : k < n
      · have hkl : k < l1.length := by rw [Hn.out]; exact hlt
        have hkm : k < l2.length := by rw [Hm.out]; exact hlt
        obtain ⟨ad, rfl, hab, c0, c1, c2, c3, c4⟩ := (H1.out.since hfr).fsp (k := k) hkl
        obtain ⟨ae, rfl, hae, e0, e1, e2, e3, e4⟩ := (H2.out.since hfr).fsp (k := k) hkm
        have Hs := Lib.hid (take_eq_step hkl hkm hpre.out)
        have Hd : Hid (l1[k] ≠ l2[k] → decide (l1 = l2) = false) := Lib.hid (fun h => by simpa using take_eq_not hkl hkm h)
        generalize l1[k] = i at *
        generalize l2[k] = j at *
        by_cases hij : i = j
        · subst hij
          have HS := Lib.hid (Hs.out rfl)
          obtain ⟨la, lb, ha, hb, wt⟩ := i
          dsimp only at c0 c1 c2 c3 c4 e0 e1 e2 e3 e4
          have q := eqFsp2 la lb ha hb wt la lb ha hb wt
          simp only [beq_self_eq_true, Bool.and_self] at q
          clear Hs Hd
          go_wp2
          go_quiet (fail)
          go_wp2
          go_roundw
          case rel => exact ⟨k + 1, by omega, by go_num, HS, hfr.drewN _⟩
          case measure => simp [intOf]; omega
        · have HD := Lib.hid (Hd.out hij)
          obtain ⟨la, lb, ha, hb, wt⟩ := i
          obtain ⟨la', lb', ha', hb', wt'⟩ := j
          dsimp only at c0 c1 c2 c3 c4 e0 e1 e2 e3 e4
          have q := eqFsp2 la lb ha hb wt la' lb' ha' hb' wt'
          rw [fsp_ne hij] at q
          clear Hs Hd hij
          go_wp2
          go_quiet (fail)
          go_wp2
          go_ret
          exact ⟨by rw [HD.out]; rfl, hfr.drewN _⟩
      · obtain rfl : k = n := by omega
        have HE : Hid (decide (l1 = l2) = true) := Lib.hid (by
          have h := hpre.out
          rw [List.take_of_length_le (by rw [Hn.out]; exact Nat.le_refl _), List.take_of_length_le (by rw [Hm.out]; exact Nat.le_refl _)] at h
          simpa using h)
        go_wp2
        go_ret
        exact ⟨by rw [HE.out]; rfl, hfr⟩
  · have hne : ((n : Int) != (m : Int)) = true := by rw [bne_iff_ne]; omega
    have HE : Hid (decide (l1 = l2) = false) := Lib.hid (by
      rw [decide_eq_false_iff_not]
      rintro rfl
      omega)
    clear h1 h2 hn hm
    go_enter Try.func55, Try.ntmps55
    go_wp2
    go_ret
    exact ⟨by rw [HE.out]; rfl, Fr.refl _ _⟩

set_option maxHeartbeats 2000000 in
theorem sameStep_any (s u : Stp) (w : World) (hs : s.Ok w w.heap.size) (hu : u.Ok w w.heap.size) (hc : s.code.length ≤ 1099511627776) (hf : s.foot.length ≤ 1099511627776) :
    Calls Try.prog 32 #[s.agg, u.agg] w (Has w (decide (s.p = u.p))) := by
  have C1 := Lib.hid (fun (W : World) (h : Fr No w W) => eqP_any s.code u.code s.cA u.cA s.code.length u.code.length s.cc u.cc W (hs.since h).code (hu.since h).code rfl rfl hc)
  have C2 := Lib.hid (fun (W : World) (h : Fr No w W) => eqF_any s.foot u.foot s.fA u.fA s.foot.length u.foot.length s.fc u.fc W (hs.since h).foot (hu.since h).foot rfl rfl hf)
  have Hr : Hid (decide (s.p = u.p) = (decide (s.code = u.code) && decide (s.foot = u.foot))) := Lib.hid (by simp [Stp.p])
  generalize decide (s.p = u.p) = r at *
  obtain ⟨cA, code, cc, fA, foot, fc⟩ := s
  obtain ⟨cA', code', cc', fA', foot', fc'⟩ := u
  unfold Stp.agg
  simp only at *
  have bS := (Bk.made w 55 #[.slice cA code.length cc, .slice fA foot.length fc]).fr ((Fr.refl No _).alloc (.cells #[.slice cA' code'.length cc', .slice fA' foot'.length fc'] 55)) (fun e => e)
  have bU : Bk ((w.alloc (.cells #[.slice cA code.length cc, .slice fA foot.length fc] 55)).alloc (.cells #[.slice cA' code'.length cc', .slice fA' foot'.length fc'] 55)) (w.heap.size + 1) 55 #[.slice cA' code'.length cc', .slice fA' foot'.length fc'] := by
    have h := Bk.made (w.alloc (.cells #[.slice cA code.length cc, .slice fA foot.length fc] 55)) 55 #[.slice cA' code'.length cc', .slice fA' foot'.length fc']
    simpa using h
  have g1 : Fr No w ((w.alloc (.cells #[.slice cA code.length cc, .slice fA foot.length fc] 55)).alloc (.cells #[.slice cA' code'.length cc', .slice fA' foot'.length fc'] 55)) := ((Fr.refl No w).alloc _).alloc _
  generalize decide (code = code') = b1 at *
  generalize decide (foot = foot') = b2 at *
  generalize code.length = m at *
  generalize foot.length = k at *
  generalize code'.length = m' at *
  generalize foot'.length = k' at *
  clear hs hu hc hf
  have D1 := Lib.hid (C1.out _ g1)
  go_enter Try.func32, Try.ntmps32
  go_wp2_with fail
  refine (D1.out).mono ?_
  rintro e w1 ⟨rfl, f1⟩
  have g2 := g1.trans' f1 (fun _ _ e => e)
  have bS1 := bS.fr f1 (fun e => e)
  have bU1 := bU.fr f1 (fun e => e)
  have x1 := bS1.cell 1
  have y1 := bU1.cell 1
  have l1 := bS1.lt
  have l2 := bU1.lt
  simp at x1 y1
  cases b1
  · go_wp2
    go_ret
    exact ⟨by rw [Hr.out]; rfl, g2⟩
  · go_wp2_with fail
    refine (C2.out _ g2).mono ?_
    rintro e w2 ⟨rfl, f2⟩
    go_wp2
    go_ret
    exact ⟨by rw [Hr.out]; rfl, g2.then0 f2 (fun _ h => h.elim)⟩

set_option maxHeartbeats 4000000 in
theorem eqSteps_any (l1 l2 : List Stp) (A B : Option Addr) (n m c d : Nat) (w : World) (h1 : Sts w A l1) (h2 : Sts w B l2) (hn : l1.length = n) (hm : l2.length = m) (hnn : n ≤ 1099511627776) (hi : ∀ s ∈ l1, s.code.length ≤ 1099511627776 ∧ s.foot.length ≤ 1099511627776) :
    Calls Try.prog 31 #[.slice A n c, .slice B m d, .func (.func 32) #[] #[]] w (Has w (decide (l1.map Stp.p = l2.map Stp.p))) := by
  by_cases hnm : n = m
  · subst hnm
    have Hn := Lib.hid hn
    have Hm := Lib.hid hm
    have H1 := Lib.hid (fun (W : World) (h : Fr No w W) => h1.since h)
    have H2 := Lib.hid (fun (W : World) (h : Fr No w W) => h2.since h)
    have Hi := Lib.hid hi
    clear h1 h2 hn hm hi
    go_enter Try.func31, Try.ntmps31
    go_wp2
    go_loopw [17] (fun i wr => ∃ k : Nat, k ≤ n ∧ i = .int .i64 k ∧ Hid ((l1.take k).map Stp.p = (l2.take k).map Stp.p) ∧ Fr No w wr) (fun i _ => n - (intOf i).toNat)
    case atStart => exact ⟨0, Nat.zero_le _, rfl, Lib.hid (by simp), Fr.refl _ _⟩
    case round =>
      obtain ⟨k, hk, rfl, hpre, hfr⟩ := hrel
      by_cases hlt : k < n
      · have hkl : k < l1.length := by rw [Hn.out]; exact hlt
        have hkm : k < l2.length := by rw [Hm.out]; exact hlt
        obtain ⟨ad, e1, hab, c0, c1⟩ := (H1.out wr hfr).sl.stp (k := k) hkl
        obtain ⟨ae, e2, hae, d0, d1⟩ := (H2.out wr hfr).sl.stp (k := k) hkm
        have Hs := Lib.hid (stp_step hkl hkm hpre.out)
        have Hd : Hid (l1[k].p ≠ l2[k].p → decide (l1.map Stp.p = l2.map Stp.p) = false) := Lib.hid (fun h => stp_ne_code hkl hkm h)
        have hs1 := (H1.out wr hfr).all _ (List.getElem_mem hkl)
        have hs2 := (H2.out wr hfr).all _ (List.getElem_mem hkm)
        have hs3 := Hi.out _ (List.getElem_mem hkl)
        generalize l1[k] = s at *
        generalize l2[k] = u at *
        obtain ⟨sA, sl, sc, sB, sf, sd⟩ := s
        obtain ⟨uA, ul, uc, uB, uf, ud⟩ := u
        subst e1 e2
        have g1 : Fr No wr ((wr.alloc (.cells #[.slice sA sl.length sc, .slice sB sf.length sd] 55)).alloc (.cells #[.slice uA ul.length uc, .slice uB uf.length ud] 55)) := ((Fr.refl No wr).alloc _).alloc _
        have D1 := Lib.hid (sameStep_any ⟨sA, sl, sc, sB, sf, sd⟩ ⟨uA, ul, uc, uB, uf, ud⟩ _ (hs1.since g1) (hs2.since g1) hs3.1 hs3.2)
        have HF := Lib.hid (hfr.trans' g1 (fun _ _ e => e))
        have hd0 : (wr.alloc (.cells #[.slice sA sl.length sc, .slice sB sf.length sd] 55)).cell? (ae.add (k * 2)) = some (.slice uA ul.length uc) := ((Fr.refl No wr).alloc _).cell (by rw [block_add]; exact hae) (fun e => e) |>.trans d0
        have hd1 : (wr.alloc (.cells #[.slice sA sl.length sc, .slice sB sf.length sd] 55)).cell? ⟨(ae.add (k * 2)).block, (ae.add (k * 2)).off + 1, none⟩ = some (.slice uB uf.length ud) := ((Fr.refl No wr).alloc _).cell (p := ⟨(ae.add (k * 2)).block, (ae.add (k * 2)).off + 1, none⟩) (by show (ae.add (k * 2)).block < _; rw [block_add]; exact hae) (fun e => e) |>.trans d1
        unfold Stp.agg at D1
        dsimp only at c0 c1 hd0 hd1 D1
        clear hs1 hs2 hs3 d0 d1 g1 hfr hpre
        go_wp2_with fail
        refine (D1.out).mono ?_
        rintro e w1 ⟨rfl, f1⟩
        have HF1 := Lib.hid (HF.out.trans' f1 (fun _ _ e => e))
        clear f1 D1 HF c0 c1 hd0 hd1
        obtain ⟨b, hb⟩ : ∃ b, Hid (decide ((⟨sA, sl, sc, sB, sf, sd⟩ : Stp).p = (⟨uA, ul, uc, uB, uf, ud⟩ : Stp).p) = b) := ⟨_, Lib.hid rfl⟩
        rw [hb.out]
        cases b
        · have HD := Lib.hid (Hd.out (of_decide_eq_false hb.out))
          clear Hs Hd
          go_wp2
          go_ret
          exact ⟨by rw [HD.out]; rfl, HF1.out⟩
        · have HS := Lib.hid (Hs.out (of_decide_eq_true hb.out))
          clear Hs Hd
          go_wp2
          go_roundw
          case rel => exact ⟨k + 1, by omega, by go_num, HS, HF1.out⟩
          case measure => simp [intOf]; omega
      · obtain rfl : k = n := by omega
        have HE : Hid (decide (l1.map Stp.p = l2.map Stp.p) = true) := Lib.hid (by
          have h := hpre.out
          rw [List.take_of_length_le (by rw [Hn.out]; exact Nat.le_refl _), List.take_of_length_le (by rw [Hm.out]; exact Nat.le_refl _)] at h
          simpa using h)
        go_wp2
        go_ret
        exact ⟨by rw [HE.out]; rfl, hfr⟩
  · have hne : ((n : Int) != (m : Int)) = true := by rw [bne_iff_ne]; omega
    have HE : Hid (decide (l1.map Stp.p = l2.map Stp.p) = false) := Lib.hid (by
      rw [decide_eq_false_iff_not]
      intro h
      have h := congrArg List.length h
      simp only [List.length_map] at h
      omega)
    clear h1 h2 hn hm
    go_enter Try.func31, Try.ntmps31
    go_wp2
    go_ret
    exact ⟨by rw [HE.out]; rfl, Fr.refl _ _⟩

set_option maxHeartbeats 2000000 in
theorem same11_any (a b : Cls) (w : World) (ha : a.Ok w) (hb : b.Ok w) (hf : a.Few) :
    Calls Try.prog 14 #[a.agg, b.agg] w (Has w (a.p.same b.p)) := by
  have C1 := fun (W : World) (h : Fr No w W) => eqSteps_any a.steps b.steps a.sA b.sA a.steps.length b.steps.length a.sc b.sc W (ha.steps.since h) (hb.steps.since h) rfl rfl hf.steps hf.ins
  have C2 := fun (W : World) (h : Fr No w W) => eqSteps_any a.comps b.comps a.uA b.uA a.comps.length b.comps.length a.uc b.uc W (ha.comps.since h) (hb.comps.since h) rfl rfl hf.comps hf.inc
  have Hr : Hid (a.p.same b.p = (a.name.toList == b.name.toList && (a.args == b.args && (a.res == b.res && (decide (a.steps.map Stp.p = b.steps.map Stp.p) && decide (a.comps.map Stp.p = b.comps.map Stp.p)))))) := Lib.hid rfl
  generalize a.p.same b.p = r at *
  obtain ⟨an, aa, asA, asl, asc, auA, aul, auc, ares⟩ := a
  obtain ⟨bn, ba, bsA, bsl, bsc, buA, bul, buc, bres⟩ := b
  simp only [Cls.agg] at *
  try dsimp only at *
  generalize decide (asl.map Stp.p = bsl.map Stp.p) = b1 at *
  generalize decide (aul.map Stp.p = bul.map Stp.p) = b2 at *
  generalize asl.length = n1 at *
  generalize bsl.length = n2 at *
  generalize aul.length = n3 at *
  generalize bul.length = n4 at *
  have HC1 := Lib.hid C1
  have HC2 := Lib.hid C2
  have hfa : Fr No w ((w.alloc (.cells #[.string an, .int .i64 aa, .slice asA n1 asc, .slice auA n3 auc, .bool ares] 31)).alloc (.cells #[.string bn, .int .i64 ba, .slice bsA n2 bsc, .slice buA n4 buc, .bool bres] 31)) := ((Fr.refl _ _).alloc _).alloc _
  clear ha hb hf C1 C2
  obtain ⟨b0, h0⟩ : ∃ b0, (an.toList == bn.toList) = b0 := ⟨_, rfl⟩
  rw [h0] at Hr
  cases b0
  case false =>
    have HE : Hid (r = false) := Lib.hid (by rw [Hr.out]; rfl)
    go_enter Try.func14, Try.ntmps14
    go_wp2
    go_ret
    exact ⟨by rw [HE.out]; rfl, hfa⟩
  by_cases h1 : aa = ba
  case neg =>
    have q1 : (aa == ba) = false := by simpa using h1
    have HE : Hid (r = false) := Lib.hid (by rw [Hr.out, q1]; rfl)
    clear h1
    go_enter Try.func14, Try.ntmps14
    go_wp2
    go_ret
    exact ⟨by rw [HE.out]; rfl, hfa⟩
  subst h1
  by_cases h2 : ares = bres
  case neg =>
    have q2 : (ares == bres) = false := by simpa using h2
    have HE : Hid (r = false) := Lib.hid (by rw [Hr.out, q2]; simp)
    clear h2
    go_enter Try.func14, Try.ntmps14
    go_wp2
    go_ret
    exact ⟨by rw [HE.out]; rfl, hfa⟩
  subst h2
  have HE : Hid (r = (b1 && b2)) := Lib.hid (by rw [Hr.out]; simp)
  have q1 : (aa == aa) = true := by simp
  have q2 : (ares == ares) = true := by simp
  clear Hr
  cases b1
  · go_enter Try.func14, Try.ntmps14
    go_wp2_with fail
    refine (HC1.out _ hfa).mono ?_
    rintro e w1 ⟨rfl, hf1⟩
    go_wp2
    go_ret
    exact ⟨by rw [HE.out]; rfl, hfa.then0 hf1 (fun _ h => h.elim)⟩
  · go_enter Try.func14, Try.ntmps14
    go_wp2_with fail
    refine (HC1.out _ hfa).mono ?_
    rintro e w1 ⟨rfl, hf1⟩
    have hbA : Bk w1 w.heap.size 31 #[.string an, .int .i64 aa, .slice asA n1 asc, .slice auA n3 auc, .bool ares] := ((Bk.made w _ _).fr ((Fr.refl No _).alloc _) (fun e => e)).fr hf1 (fun e => e)
    have hbB : Bk w1 (w.heap.size + 1) 31 #[.string bn, .int .i64 aa, .slice bsA n2 bsc, .slice buA n4 buc, .bool ares] := by
      have h := (Bk.made (w.alloc (.cells #[.string an, .int .i64 aa, .slice asA n1 asc, .slice auA n3 auc, .bool ares] 31)) 31 #[.string bn, .int .i64 aa, .slice bsA n2 bsc, .slice buA n4 buc, .bool ares]).fr hf1 (fun e => e)
      simpa using h
    have la := hbA.lt
    have lb := hbB.lt
    have k3 := hbA.cell 3
    have m3 := hbB.cell 3
    simp at k3 m3
    have HF1 := Lib.hid (hfa.then0 hf1 (fun _ h => h.elim))
    clear hbA hbB hf1
    go_wp2_with fail
    refine (HC2.out _ HF1.out).mono ?_
    rintro e w2 ⟨rfl, hf2⟩
    go_wp2
    go_ret
    exact ⟨by rw [HE.out]; simp, HF1.out.then0 hf2 (fun _ h => h.elim)⟩
end Go.Proofs.Ytnlmhcfkipkegaa
