/- The law: a step that has a key's change has it once; done, changes make the store what the step saw behind it; done twice they make the same. -/
import Derived.Test.YthenadijiepmnaaGreatGrt13
import Derived.Test.YthenadijiepmnaaGreatSco13
namespace Go.Proofs.YthenadijiepmnaaGreat
open Go.RowKit

/-- Done twice they leave the same pairs. -/
theorem twice_flat {P : List Pg} (hi : InvP P) {ch : List Chg} (hc : ChOk ch) : (applyQ (applyQ P ch) ch).flatten = (applyQ P ch).flatten := by
  have h1 := applyQ_inv hi ch
  have h2 := applyQ_inv h1 ch
  refine rise_ext h2.rise h1.rise fun k => ?_
  by_cases hk : k < 1000
  · rw [applyQ_val h1, applyQ_val hi, hc.again _ k hk]
  · rw [valP_none (fun y hy => by have := h2.key y hy; omega), valP_none (fun y hy => by have := h1.key y hy; omega)]
/-- What is got at a change's key. -/
theorem got_chg {P : List Pg} (hi : InvP P) {ch : List Chg} (hc : ChOk ch) {c : Chg} (hm : c ∈ ch) : ∃ k : Nat, k < 1000 ∧ c.key = k ∧ getA (applyQ P ch) k = if c.gone = true then (0, 5) else (c.value, 0) := by
  obtain ⟨k, h1, h2, h3⟩ := hc.key c hm
  refine ⟨k, h1, h2, ?_⟩
  unfold getA
  rw [applyQ_val hi, h3]
  cases c.gone <;> rfl
theorem sl_keepN {w w' : World} {S : Nat → Prop} {A : Option Addr} {ch : List Chg} (h : Sl w w.heap.size A (ch.flatMap Chg.cells)) (hf : Fr S w w') (hap : ∀ ad, A = some ad → ch ≠ [] → ¬ S ad.block) : Sl w' w'.heap.size A (ch.flatMap Chg.cells) := (h.fr hf (Nat.le_refl _) (fun ad e hne => hap ad e (fun e2 => hne (by rw [e2]; rfl)))).more hf.size
set_option maxRecDepth 100000 in
set_option maxHeartbeats 8000000 in
theorem stepTwice_any (w : World) (x : StI w) (himm : ∀ i ∈ x.code, I64 i.x) {r : Nat → Int} (hr : ∀ i, i < 4 → I64 (r i)) (l : List (Int × Int)) (A1 : Option Addr) (n1 c1 : Nat) (hl : Sl w w.heap.size A1 (prs2 l)) (hn1 : l.length = n1) (hv : ∀ y ∈ l, -9223372036854775808 ≤ y.2 ∧ y.2 < 9223372036854775808) :
    Calls Tryz.prog 7 #[x.agg, x.args, .agg #[.int .i64 (r 0), .int .i64 (r 1), .int .i64 (r 2), .int .i64 (r 3)], .slice A1 n1 c1] w (Has w true) := by
  have Hal := Lib.hid (fun W => alive13 W)
  obtain ⟨gr, hgr⟩ : ∃ gr, (decide (20 < x.code.length) || (decide (20 < x.foot.length) || (decide (10 < x.gs.length) || decide (100 < n1)))) = gr := ⟨_, rfl⟩
  have HGr := Lib.hid (fun W (hW : Fr No w W) => great13 W (x.since hW) A1 n1 c1 gr hgr)
  change Hid (∀ W (_ : Fr No w W), Calls Tryz.prog 9 #[x.agg, x.args, .slice A1 n1 c1] W (Has W gr)) at HGr
  have f0 : Fr No w ((w.alloc (.cells #[.slice x.cA x.code.length x.cc, .slice x.fA x.foot.length x.fc] 25)).alloc (.cells #[.int .i64 (r 0), .int .i64 (r 1), .int .i64 (r 2), .int .i64 (r 3)] 27)) := ((Fr.refl _ _).alloc _).alloc _
  have bA := (Bk.made w 25 #[.slice x.cA x.code.length x.cc, .slice x.fA x.foot.length x.fc]).alloc (.cells #[.int .i64 (r 0), .int .i64 (r 1), .int .i64 (r 2), .int .i64 (r 3)] 27)
  have bB := Bk.made (w.alloc (.cells #[.slice x.cA x.code.length x.cc, .slice x.fA x.foot.length x.fc] 25)) 27 #[.int .i64 (r 0), .int .i64 (r 1), .int .i64 (r 2), .int .i64 (r 3)]
  simp only [World.size_alloc] at bB
  obtain ⟨q, hq⟩ : ∃ q, w.heap.size = q := ⟨_, rfl⟩
  rw [hq] at bA bB
  obtain ⟨W0, hW0⟩ : ∃ W0, (w.alloc (.cells #[.slice x.cA x.code.length x.cc, .slice x.fA x.foot.length x.fc] 25)).alloc (.cells #[.int .i64 (r 0), .int .i64 (r 1), .int .i64 (r 2), .int .i64 (r 3)] 27) = W0 := ⟨_, rfl⟩
  rw [hW0] at bA bB f0
  have HF0 := Lib.hid f0
  have HbA := Lib.hid (fun W (h : Fr No W0 W) => bA.fr h (fun e => e))
  have HbB := Lib.hid (fun W (h : Fr No W0 W) => bB.fr h (fun e => e))
  cases gr
  · have hgn := great_not hgr
    have hfw : x.Few := ⟨by have := hgn.1; omega, by have := hgn.2.1; omega, by have := hgn.2.2.1; omega⟩
    have HOf := Lib.hid (fun W (hW : Fr No w W) => pOf_any l A1 n1 c1 W (hl.since hW) hn1 (by omega) hv)
    obtain ⟨hinv, hval⟩ := ofP_all l
    have HRun := Lib.hid (fun W S s (hW : Fr No w W) (hp : PS W S s (ofP l)) => sRun_any W (x.since hW) hfw hinv hp (ofP_vals hv) himm hr false)
    change Hid (∀ W S s (_ : Fr No w W) (_ : PS W S s (ofP l)), Calls Tryz.prog 12 #[x.agg, x.args, .agg #[.int .i64 (r 0), .int .i64 (r 1), .int .i64 (r 2), .int .i64 (r 3)], .pointer (some ⟨s, 0, none⟩), .bool false] W (OutC (runS x.right false (keysOf (chosen false x.gs x.foot)) (keysOf (chosen true x.gs x.foot)) x.gs x.code r (valP (ofP l).flatten)) W)) at HRun
    have hch := runS_ch x.right false (keysOf (chosen false x.gs x.foot)) (keysOf (chosen true x.gs x.foot)) x.gs x.code r (valP (ofP l).flatten)
    generalize runS x.right false (keysOf (chosen false x.gs x.foot)) (keysOf (chosen true x.gs x.foot)) x.gs x.code r (valP (ofP l).flatten) = po at *
    have Hch := Lib.hid hch
    have Hinv := Lib.hid hinv
    generalize ofP l = P at *
    unfold StI.agg StI.args at HGr HRun ⊢
    clear hgr hgn hfw hl hn1 hv hinv hval hch himm hr bA bB f0
    generalize x.code.length = nc at *
    generalize x.foot.length = nf at *
    generalize x.gs.length = ng at *
    go_enter Tryz.func7, Tryz.ntmps7
    go_wp2_with fail
    refine (Hal.out _).mono ?_
    rintro e w1 ⟨rfl, f1⟩
    have u1 := HbA.out _ f1
    have a0 := u1.cell 0
    have a1 := u1.cell 1
    simp only [List.getElem?_toArray, List.getElem?_cons_succ, List.getElem?_cons_zero] at a0 a1
    have F1 := Lib.hid f1
    clear f1 u1
    go_wp2_with fail
    refine (HGr.out _ (HF0.out.trans' F1.out (fun _ _ e => e))).mono ?_
    rintro e w2 ⟨rfl, f2⟩
    have F2 := Lib.hid (F1.out.trans' f2 (fun _ _ e => e))
    clear f2 a0 a1
    go_wp2_with fail
    refine (HOf.out _ (HF0.out.trans' F2.out (fun _ _ e => e))).mono ?_
    rintro e w3 ⟨s, S, rfl, hps, hS, f3⟩
    have F3 := Lib.hid (F2.out.trans' f3 (fun _ _ e => e))
    have Hps := Lib.hid hps
    have HSge : Hid (∀ k, S k → w.heap.size ≤ k) := Lib.hid (fun k hk => Nat.le_trans ((HF0.out.trans' F2.out (fun _ _ e => e)).size) (hS k hk))
    have u3 := HbA.out _ F3.out
    have a0 := u3.cell 0
    have a1 := u3.cell 1
    have v3 := HbB.out _ F3.out
    have b0 := v3.cell 0
    have b1 := v3.cell 1
    have b2 := v3.cell 2
    have b3 := v3.cell 3
    simp only [List.getElem?_toArray, List.getElem?_cons_succ, List.getElem?_cons_zero] at a0 a1 b0 b1 b2 b3
    clear f3 hps hS u3 v3
    go_wp2_with fail
    refine (HRun.out _ S s (HF0.out.trans' F3.out (fun _ _ e => e)) Hps.out).mono ?_
    rintro e w4 ⟨o, rfl, hop, hos, hlow, f4⟩
    have Hok : Hid (ChOk o.p.ch) := Lib.hid (by rw [hop]; exact Hch.out)
    obtain ⟨u, hu⟩ : ∃ u, w4.heap.size = u := ⟨_, rfl⟩
    have f5 : Fr No w4 (w4.alloc (.cells #[.int .i64 o.p.code, .int .i64 o.p.at_, .int .i64 (o.p.r 0), .int .i64 (o.p.r 1), .int .i64 (o.p.r 2), .int .i64 (o.p.r 3), .slice o.rA o.p.rd.length o.rc, .slice o.wA o.p.wt.length o.wc, .slice o.cA o.p.ch.length o.cc] 39)) := (Fr.refl _ _).alloc _
    have bO := Bk.made w4 39 #[.int .i64 o.p.code, .int .i64 o.p.at_, .int .i64 (o.p.r 0), .int .i64 (o.p.r 1), .int .i64 (o.p.r 2), .int .i64 (o.p.r 3), .slice o.rA o.p.rd.length o.rc, .slice o.wA o.p.wt.length o.wc, .slice o.cA o.p.ch.length o.cc]
    obtain ⟨W5, hW5⟩ : ∃ W5, w4.alloc (.cells #[.int .i64 o.p.code, .int .i64 o.p.at_, .int .i64 (o.p.r 0), .int .i64 (o.p.r 1), .int .i64 (o.p.r 2), .int .i64 (o.p.r 3), .slice o.rA o.p.rd.length o.rc, .slice o.wA o.p.wt.length o.wc, .slice o.cA o.p.ch.length o.cc] 39) = W5 := ⟨_, rfl⟩
    rw [hW5] at f5 bO
    rw [hu] at bO
    have F5 := Lib.hid ((F3.out.trans' f4 (fun _ _ e => e)).trans' f5 (fun _ _ e => e))
    have HbO := Lib.hid (fun (T : Nat → Prop) W (h : Fr T W5 W) (hT : ¬ T u) => show W.cell? ⟨u, 8, none⟩ = some (.slice o.cA o.p.ch.length o.cc) from (bO.fr h hT).cell 8)
    have Hcr := Lib.hid (hos.ch.since f5)
    have HS5 := Lib.hid (Hps.out.fr (f4.trans' f5 (fun _ _ e => e)) (fun _ _ e => e))
    have HSu : Hid (∀ k, S k → k < u) := Lib.hid (fun k hk => by have h1 := Hps.out.lt k hk; have h2 := f4.size; omega)
    have Hcap : Hid (∀ ad : Addr, o.cA = some ad → ∀ k, S k → k < ad.block) := Lib.hid (fun ad e k hk => Nat.lt_of_lt_of_le (Hps.out.lt k hk) (hlow ad (.inr (.inr e))))
    have Hsz5 : Hid (u < W5.heap.size) := Lib.hid (by have := bO.lt; omega)
    have Hcl5 : Hid (∀ ad : Addr, o.cA = some ad → o.p.ch ≠ [] → ad.block < W5.heap.size) := Lib.hid (fun ad e hne => by
      obtain ⟨ad', e', hb, -⟩ := Hcr.out (fun e2 => hne (by
        cases hc : o.p.ch with
        | nil => rfl
        | cons a b => rw [hc] at e2; simp [Chg.cells] at e2))
      rw [e] at e'
      injection e' with e'
      rw [e']; exact hb)
    unfold Otc.agg
    obtain ⟨ch, hchd⟩ : ∃ ch, o.p.ch = ch := ⟨_, rfl⟩
    rw [hchd] at hW5 Hok HbO Hcr Hcl5 ⊢
    obtain ⟨n, hn⟩ : ∃ n, ch.length = n := ⟨_, rfl⟩
    rw [hn] at hW5 HbO ⊢
    have Hn := Lib.hid hn
    have hn1000 : n ≤ 1000 := by have := Hok.out.len; omega
    generalize o.p.rd.length = n2 at *
    obtain ⟨cA, hcA⟩ : ∃ cA, o.cA = cA := ⟨_, rfl⟩
    rw [hcA] at hW5 HbO Hcr Hcl5 Hcap ⊢
    generalize o.p.wt.length = n3 at *
    clear hcA hop hos hlow f4 f5 bO Hps hn hchd a0 a1 b0 b1 b2 b3 Hch HRun HOf HGr
    have k8 := HbO.out No W5 (Fr.refl _ _) (fun e => e)
    go_wp2
    go_loopw [11] (fun iv wr => ∃ i : Nat, 1 ≤ i ∧ i ≤ n + 1 ∧ iv = .int .i64 i ∧ Hid (Fr No W5 wr)) (fun iv _ => n + 1 - (intOf iv).toNat)
    case atStart => exact ⟨1, Nat.le_refl _, by omega, rfl, Lib.hid (Fr.refl _ _)⟩
    case round =>
      obtain ⟨i, hi1, hi2, rfl, hfr⟩ := hrel
      have m8 := HbO.out No wr hfr.out (fun e => e)
      have m8' := HbO.out No wr.drew hfr.out.drew (fun e => e)
      clear k8
      by_cases hlt : i < n
      · have hil : i < ch.length := by rw [Hn.out]; exact hlt
        obtain ⟨j, rfl⟩ : ∃ j, i = j + 1 := ⟨i - 1, by omega⟩
        obtain ⟨ad, rfl, hab, x0, -, -⟩ := (Hcr.out.since hfr.out).chg hil
        obtain ⟨ad', had', hab', y0, -, -⟩ := (Hcr.out.since hfr.out).chg (k := j) (by omega)
        injection had' with had'
        subst had'
        have hlt2 : ¬ (ch[j + 1].key ≤ (ch[j]'(by omega)).key) := by
          have := List.pairwise_iff_getElem.1 Hok.out.rise j (j + 1) (by omega) hil (by omega)
          omega
        generalize ch[j + 1].key = ka at *
        generalize (ch[j]'(by omega)).key = kb at *
        have hd : decide (ka ≤ kb) = false := decide_eq_false hlt2
        have HFr := hfr
        clear hfr
        go_wp2
        go_quiet (fail)
        go_wp2
        go_roundw
        case rel => exact ⟨j + 2, by omega, by omega, by go_num, Lib.hid (HFr.out.drewN _)⟩
        case measure => simp [intOf]; omega
      · have HFr : Hid (Fr No W5 wr) := hfr
        have HSr := Lib.hid (HS5.out.fr hfr.out (fun _ _ e => e))
        have HCr := Lib.hid (Hcr.out.since hfr.out)
        have Hap1 : Hid (∀ ad, cA = some ad → ch ≠ [] → ¬ S ad.block) := Lib.hid (fun ad e _ hs => by have := Hcap.out ad e _ hs; omega)
        obtain ⟨P1, hP1⟩ : ∃ P1, applyQ P ch = P1 := ⟨_, rfl⟩
        obtain ⟨P2, hP2⟩ : ∃ P2, applyQ P1 ch = P2 := ⟨_, rfl⟩
        have HAx := Lib.hid (sApply_any ch cA n o.cc wr Hinv.out HSr.out HCr.out Hap1.out Hn.out (by omega))
        have Hinv1 : Hid (InvP P1) := Lib.hid (by rw [← hP1]; exact applyQ_inv Hinv.out ch)
        have Hinv2 : Hid (InvP P2) := Lib.hid (by rw [← hP2]; exact applyQ_inv Hinv1.out ch)
        have Htw : Hid (P2.flatten = P1.flatten) := Lib.hid (by rw [← hP2, ← hP1]; exact twice_flat Hinv.out Hok.out)
        have Hgot : Hid (∀ c ∈ ch, ∃ k : Nat, k < 1000 ∧ c.key = k ∧ getA P2 k = if c.gone = true then (0, 5) else (c.value, 0)) := Lib.hid (fun c hm => by rw [← hP2]; exact got_chg Hinv1.out Hok.out hm)
        rw [hP1] at HAx
        have HAy := Lib.hid (fun W S (hps : PS W S s P1) hsl hap => sApply_any ch cA n o.cc W Hinv1.out hps hsl hap Hn.out (by omega))
        rw [hP2] at HAy
        have Hlen1 := Lib.hid (Hinv1.out.len.1)
        clear hP1 hP2 hi1 hi2
        go_wp2_with fail
        refine (HAx.out).mono ?_
        rintro e w6 ⟨rfl, S1, hp1, f6, hS1⟩
        have F6 := Lib.hid ((HFr.out.weak (S' := S) (fun _ _ e => e.elim)).trans' f6 (fun _ _ e => e))
        have Hp1 := Lib.hid hp1
        have HS1 := Lib.hid hS1
        have HC6 := Lib.hid (sl_keepS HCr.out f6 (fun ad e hs => by have := Hcap.out ad e _ hs; omega))
        have HnSu : Hid (¬ S u) := Lib.hid (fun h => by have := HSu.out u h; omega)
        have m8b := HbO.out S w6 F6.out HnSu.out
        clear hp1 f6 hS1 m8 m8' HAx
        go_wp2_with fail
        refine (scan_allL Hinv1.out Hp1.out).mono ?_
        rintro e w7 ⟨B1, d1, rfl, hs7, f7, hB1⟩
        have F7 := Lib.hid (F6.out.trans' f7 (fun _ _ e => e.elim))
        have Hp1b := Lib.hid (Hp1.out.fr f7 (fun _ _ e => e))
        have HC7 := Lib.hid (HC6.out.since f7)
        have Hs7 := Lib.hid hs7
        have HB1 := Lib.hid hB1
        have m8c := HbO.out S w7 F7.out HnSu.out
        have Hap2 : Hid (∀ ad, cA = some ad → ch ≠ [] → ¬ S1 ad.block) := Lib.hid (fun ad e hne hs => by
          have h1 := Hcl5.out ad e hne
          have h2 := HFr.out.size
          rcases HS1.out _ hs with h | h
          · have := Hcap.out ad e _ h; omega
          · omega)
        have HnSu1 : Hid (¬ S1 u) := Lib.hid (fun h => by
          have h1 := Hsz5.out
          have h2 := HFr.out.size
          rcases HS1.out _ h with h | h
          · have := HSu.out u h; omega
          · omega)
        have HnSB : Hid (∀ ad : Addr, B1 = some ad → ¬ S1 ad.block) := Lib.hid (fun ad e hs => by
          have h1 := HB1.out ad e
          have h2 := Hp1.out.lt _ hs
          omega)
        generalize hnp : P1.flatten.length = np at *
        have Hnp := Lib.hid hnp
        clear hs7 f7 hB1 hnp m8b
        go_wp2_with fail
        refine (HAy.out w7 S1 Hp1b.out HC7.out Hap2.out).mono ?_
        rintro e w8 ⟨rfl, S2, hp2, f8, hS2⟩
        have Hp2 := Lib.hid hp2
        have F8 : Hid (Fr (fun k => S k ∨ S1 k) W5 w8) := Lib.hid ((F7.out.weak (fun _ _ h => .inl h)).trans' f8 (fun _ _ h => .inr h))
        have HnU : Hid (¬ (S u ∨ S1 u)) := Lib.hid (fun h => h.elim HnSu.out HnSu1.out)
        have HC8 := Lib.hid (sl_keepN HC7.out f8 Hap2.out)
        have Hs8 := Lib.hid (sl_keepS Hs7.out f8 HnSB.out)
        have HO8 := Lib.hid (fun W (h : Fr No w8 W) => HbO.out _ W (F8.out.trans' h (fun _ _ e => e.elim)) HnU.out)
        have m8d := HO8.out w8 (Fr.refl _ _)
        have HFw : Hid (Fr No w w8) := Lib.hid (by
          have h0 := HF0.out.trans' F5.out (fun _ _ e => e)
          have h1 : Fr (fun k => w.heap.size ≤ k) w w8 := (h0.weak (fun _ _ e => e.elim)).trans' F8.out (fun k _ hk => hk.elim (fun h => HSge.out k h) (fun h => (HS1.out k h).elim (fun h => HSge.out k h) (fun h => Nat.le_trans (Nat.le_trans h0.size HFr.out.size) h)))
          exact ⟨h1.same, h1.size, fun i hi hn => h1.block i hi (fun e => by have e : w.heap.size ≤ i := e; omega)⟩)
        clear hp2 f8 hS2 m8c HAy Hp1b HC7 Hap2
        go_wp2
        go_loopw [13] (fun iv wr => ∃ i : Nat, i ≤ n ∧ iv = .int .i64 i ∧ Hid (Fr No w8 wr)) (fun iv _ => n - (intOf iv).toNat)
        case atStart => exact ⟨0, Nat.zero_le _, rfl, Lib.hid (Fr.refl _ _)⟩
        case round =>
          obtain ⟨i, hi2, rfl, hfr2⟩ := hrel
          have m8 := HO8.out _ hfr2.out
          clear m8d hlt
          by_cases hlt : i < n
          · have hil : i < ch.length := by rw [Hn.out]; exact hlt
            obtain ⟨ad, rfl, hab, -, -, -⟩ := (HC8.out.since hfr2.out).chg hil
            have HX := Lib.hid (fun W (h : Fr No wr W) => (HC8.out.since (hfr2.out.trans' h (fun _ _ e => e))).chg hil)
            obtain ⟨k, hk1, hk2, hget⟩ := Hgot.out _ (List.getElem_mem hil)
            have HG := Lib.hid (pGet_any k hk1 Hinv2.out (Hp2.out.fr hfr2.out (fun _ _ e => e)))
            rw [hget] at HG
            generalize ch[i] = c at *
            obtain ⟨ck, cg, cv⟩ := c
            simp only at hk2 HX HG
            subst hk2
            obtain ⟨ad', had', -, x0, -, -⟩ := HX.out _ (Fr.refl _ _)
            injection had' with had'
            subst had'
            clear hget
            cases cg
            all_goals
              simp only [Bool.false_eq_true, if_false, if_true] at HG
              go_wp2_with fail
              refine (HG.out).mono ?_
              rintro e w9 ⟨rfl, f9⟩
              have m9 := HO8.out _ (hfr2.out.trans' f9 (fun _ _ e => e))
              obtain ⟨ad', had', -, -, y1, y2⟩ := HX.out _ f9
              injection had' with had'
              subst had'
              have HF9 := Lib.hid (hfr2.out.trans' f9 (fun _ _ e => e))
              clear f9 hfr2 HG x0 m8
              go_wp2
              go_roundw
              case rel => exact ⟨i + 1, by omega, by go_num, HF9⟩
              case measure => simp [intOf]; omega
          · have Hp3 := Lib.hid (Hp2.out.fr hfr2.out (fun _ _ e => e))
            have HF3 := Lib.hid hfr2.out
            go_wp2_with fail
            refine (scan_allL Hinv2.out Hp3.out).mono ?_
            rintro e w10 ⟨B2, d2, rfl, hs10, f10, -⟩
            rw [Htw.out] at hs10 ⊢
            rw [Hnp.out]
            have F10 := Lib.hid (HF3.out.trans' f10 (fun _ _ e => e))
            have Hs10 := Lib.hid hs10
            have HsB := Lib.hid (Hs8.out.since F10.out)
            clear f10 hs10
            have hq := refSame5_any P1.flatten P1.flatten B1 B2 np np d1 d2 w10 HsB.out Hs10.out Hnp.out Hnp.out (by have := Hlen1.out; have := Hnp.out; omega) (by have := Hlen1.out; have := Hnp.out; omega)
            rw [decide_eq_true rfl] at hq
            have HQ := Lib.hid hq
            clear hq
            go_wp2_with fail
            refine (HQ.out).mono ?_
            rintro e w11 ⟨rfl, f11⟩
            have F11 := Lib.hid (HFw.out.trans' (F10.out.trans' f11 (fun _ _ e => e)) (fun _ _ e => e))
            clear f11
            go_wp2
            go_ret
            exact ⟨rfl, F11.out⟩
  · unfold StI.agg StI.args at HGr ⊢
    clear hl hn1 hv himm hr bA bB f0 hgr
    generalize x.code.length = nc at *
    generalize x.foot.length = nf at *
    generalize x.gs.length = ng at *
    go_enter Tryz.func7, Tryz.ntmps7
    go_wp2_with fail
    refine (Hal.out _).mono ?_
    rintro e w1 ⟨rfl, f1⟩
    have u1 := HbA.out _ f1
    have a0 := u1.cell 0
    have a1 := u1.cell 1
    simp only [List.getElem?_toArray, List.getElem?_cons_succ, List.getElem?_cons_zero] at a0 a1
    have F1 := Lib.hid f1
    clear f1 u1
    go_wp2_with fail
    refine (HGr.out _ (HF0.out.trans' F1.out (fun _ _ e => e))).mono ?_
    rintro e w2 ⟨rfl, f2⟩
    have F2 := Lib.hid (F1.out.trans' f2 (fun _ _ e => e))
    clear f2 a0 a1
    go_wp2
    go_ret
    exact ⟨rfl, HF0.out.trans' F2.out (fun _ _ e => e)⟩
end Go.Proofs.YthenadijiepmnaaGreat
