/- The law 'LogPlays'. -/
import Derived.Test.YtdmllfjeofiddaaOp8
import Derived.Deep.CutBlock
import Derived.Deep.CutRange
namespace Go.Proofs.Ytdmllfjeofiddaa
open Go.RowKit

theorem Op8.Fit.arg {w : World} {o : Op8} (h : o.Fit w w.heap.size) : ∀ k, xB o.fr k → k < w.heap.size := by
  rintro k ⟨ad, e, hn, rfl⟩
  obtain ⟨ad', e', hb, _⟩ := h.fr.sl (by intro h0; apply hn; simpa [u64s] using h0)
  rw [e] at e'
  injection e' with e'
  rw [e']
  exact hb
theorem op8_sec {w : World} {G : Nat} {t : TypeId} {c0 c1 c2 c3 c4 c5 c6 c7 c8 c9 c10 c11 c12 : Value} (h : Bk w G t #[c0, c1, c2, c3, c4, c5, c6, c7, c8, c9, c10, c11, c12]) :
    w.cell? ⟨G, 5, none⟩ = some c5 ∧ w.cell? ⟨G, 6, none⟩ = some c6 ∧ w.cell? ⟨G, 7, none⟩ = some c7 ∧ w.cell? ⟨G, 8, none⟩ = some c8 ∧ w.cell? ⟨G, 9, none⟩ = some c9 ∧ w.cell? ⟨G, 10, none⟩ = some c10 ∧ w.cell? ⟨G, 11, none⟩ = some c11 ∧ w.cell? ⟨G, 12, none⟩ = some c12 :=
  ⟨h.cell 5, h.cell 6, h.cell 7, h.cell 8, h.cell 9, h.cell 10, h.cell 11, h.cell 12⟩
theorem secs_cells {w : World} {g n i : Nat} {t : TypeId} {f : Nat → List Nat} {s0 s1 s2 s3 s4 s5 s6 s7 : Nat} (h : Bk w g t (secs n f)) (hl : ∀ i, i < n → (f i).length = 8) (hi : i < n) (hs : f i = [s0, s1, s2, s3, s4, s5, s6, s7]) :
    w.cell? ⟨g, i * 8, none⟩ = some (.int .u64 s0) ∧ w.cell? ⟨g, i * 8 + 1, none⟩ = some (.int .u64 s1) ∧ w.cell? ⟨g, i * 8 + 2, none⟩ = some (.int .u64 s2) ∧ w.cell? ⟨g, i * 8 + 3, none⟩ = some (.int .u64 s3) ∧ w.cell? ⟨g, i * 8 + 4, none⟩ = some (.int .u64 s4) ∧ w.cell? ⟨g, i * 8 + 5, none⟩ = some (.int .u64 s5) ∧ w.cell? ⟨g, i * 8 + 6, none⟩ = some (.int .u64 s6) ∧ w.cell? ⟨g, i * 8 + 7, none⟩ = some (.int .u64 s7) := by
  have q := fun k (hk : k < 8) => secs_at n f hl i k hi hk
  rw [hs] at q
  exact ⟨(h.cell _).trans (q 0 (by omega)), (h.cell _).trans (q 1 (by omega)), (h.cell _).trans (q 2 (by omega)), (h.cell _).trans (q 3 (by omega)), (h.cell _).trans (q 4 (by omega)), (h.cell _).trans (q 5 (by omega)), (h.cell _).trans (q 6 (by omega)), (h.cell _).trans (q 7 (by omega))⟩
theorem rd_cells {w : World} {r gl gr gd k : Nat} {D : Dv} {s0 s1 s2 s3 s4 s5 s6 s7 t0 t1 t2 t3 t4 t5 t6 t7 : Nat} (h : RD w r gl gr gd D) (hk : k < D.n) (hs : D.rd k = [s0, s1, s2, s3, s4, s5, s6, s7]) (ht : D.la k = [t0, t1, t2, t3, t4, t5, t6, t7]) :
    (w.cell? ⟨r, 0, none⟩ = some (.slice (some ⟨gl, 0, none⟩) D.n D.n) ∧ w.cell? ⟨r, 1, none⟩ = some (.slice (some ⟨gr, 0, none⟩) D.n D.n)) ∧ (w.cell? ⟨gr, k * 8, none⟩ = some (.int .u64 s0) ∧ w.cell? ⟨gr, k * 8 + 1, none⟩ = some (.int .u64 s1) ∧ w.cell? ⟨gr, k * 8 + 2, none⟩ = some (.int .u64 s2) ∧ w.cell? ⟨gr, k * 8 + 3, none⟩ = some (.int .u64 s3) ∧ w.cell? ⟨gr, k * 8 + 4, none⟩ = some (.int .u64 s4) ∧ w.cell? ⟨gr, k * 8 + 5, none⟩ = some (.int .u64 s5) ∧ w.cell? ⟨gr, k * 8 + 6, none⟩ = some (.int .u64 s6) ∧ w.cell? ⟨gr, k * 8 + 7, none⟩ = some (.int .u64 s7)) ∧ (w.cell? ⟨gl, k * 8, none⟩ = some (.int .u64 t0) ∧ w.cell? ⟨gl, k * 8 + 1, none⟩ = some (.int .u64 t1) ∧ w.cell? ⟨gl, k * 8 + 2, none⟩ = some (.int .u64 t2) ∧ w.cell? ⟨gl, k * 8 + 3, none⟩ = some (.int .u64 t3) ∧ w.cell? ⟨gl, k * 8 + 4, none⟩ = some (.int .u64 t4) ∧ w.cell? ⟨gl, k * 8 + 5, none⟩ = some (.int .u64 t5) ∧ w.cell? ⟨gl, k * 8 + 6, none⟩ = some (.int .u64 t6) ∧ w.cell? ⟨gl, k * 8 + 7, none⟩ = some (.int .u64 t7)) :=
  ⟨⟨by rw [h.self.cell 0]; rfl, by rw [h.self.cell 1]; rfl⟩, secs_cells h.rd h.len.2 hk hs, secs_cells h.la h.len.1 hk ht⟩
set_option maxRecDepth 100000 in
set_option maxHeartbeats 8000000 in
theorem lawPlays8_any (ni qi si ei : Int) (_hni : -9223372036854775808 ≤ ni ∧ ni < 9223372036854775808) (hqi : -9223372036854775808 ≤ qi ∧ qi < 9223372036854775808) (hsi : -9223372036854775808 ≤ si ∧ si < 9223372036854775808) (hei : -9223372036854775808 ≤ ei ∧ ei < 9223372036854775808) (ops : List Op8) (m : Nat) (A : Option Addr) (c : Nat) (w : World) (hx : Ops8 w A ops) (hm : ops.length = m) (_hmc : m ≤ c) (hcm : c ≤ maxLen) :
    Calls Try.prog 3 #[.int .i64 ni, .int .i64 qi, .int .i64 si, .int .i64 ei, .slice A m c] w fun e w' => e = .returned (.bool true) ∧ Fr No w w' := by
  have hcl : c ≤ 9223372036854775807 := hcm
  have C0 := Lib.hid alive8_any
  by_cases hn1 : ni < 1
  · have q1 := decide_eq_true hn1
    clear hx hn1 hm
    go_enter Try.func3, Try.ntmps3
    go_wp2_with fail
    refine (C0.out _).mono ?_
    rintro e wb ⟨rfl, f1⟩
    go_wp2
    go_ret
    exact ⟨rfl, f1⟩
  · have q1 := decide_eq_false hn1
    by_cases hn2 : 40 < ni
    · have q2 := decide_eq_true hn2
      clear hx hn1 hn2 hm
      go_enter Try.func3, Try.ntmps3
      go_wp2_with fail
      refine (C0.out _).mono ?_
      rintro e wb ⟨rfl, f1⟩
      go_wp2
      go_ret
      exact ⟨rfl, f1⟩
    · have q2 := decide_eq_false hn2
      obtain ⟨N, rfl⟩ := Int.eq_ofNat_of_zero_le (show 0 ≤ ni by omega)
      have hN1 : 1 ≤ N := by omega
      have hN2 : N ≤ 40 := by omega
      have HX := Lib.hid (fun W (hW : Fr No w W) => hx.since hW)
      have HX0 := Lib.hid hx
      have Hm := Lib.hid hm
      clear hx hm hn1 hn2
      go_enter Try.func3, Try.ntmps3
      go_wp2_with fail
      refine (C0.out _).mono ?_
      rintro e wb ⟨rfl, f1⟩
      have FB := Lib.hid f1
      clear f1 C0
      go_wp2_with fail
      refine (dNew_yes N hN1 (by omega) wb).mono ?_
      rintro e w1 ⟨S1, d, rfl, hD1, hS1⟩
      have E1 := Lib.hid (Env.begin (Fr.refl No wb) hD1 hS1)
      clear hD1 hS1
      go_wp2_with fail
      refine (refNew3_any N (by omega) w1).mono ?_
      rintro e w2 ⟨r, gl, gr, gd, rfl, hR2, hr2, hf2⟩
      have hK2 : JK wb w2 S1 d r gl gr gd (Dv.new N) (Dv.new N) := by
        have hq := E1.out.quiet hf2
        exact ⟨⟨_, _, hq.dd⟩, hq.new, hq.fr, hR2, fun k hk => Nat.le_trans E1.out.fr.size (hr2 k hk), fun k hk e => by have := E1.out.dd.lt k hk; have := hr2 k e; omega⟩
      obtain ⟨da, db, hdd⟩ := hK2.dd
      have CT := Lib.hid (fun W (hW : JK wb W S1 d r gl gr gd (Dv.new N) (Dv.new N)) => refThere8_any r gl gr gd (Dv.new N) qi si hqi hsi (by show N ≤ 4096; omega) W hW.rd)
      have CTp := Lib.hid (fun W (hW : RD W r gl gr gd (Dv.new N)) => refThere8_any r gl gr gd (Dv.new N) qi si hqi hsi (by show N ≤ 4096; omega) W hW)
      have CN := Lib.hid (fun W => refNumber_any ei W)
      have HK2 := Lib.hid hK2
      have Hdd := Lib.hid hdd
      clear hR2 hr2 hf2 hK2 hdd E1
      cases ht : therB N qi si with
      | false =>
        have CO := Lib.hid (lOpen_range qi si ei hqi hsi (show therB (Dv.new N).n qi si = false from ht) w2 Hdd.out)
        have CT2 : Hid (∀ W, RD W r gl gr gd (Dv.new N) → Calls Try.prog 11 #[.pointer (some ⟨r, 0, none⟩), .int .i64 qi, .int .i64 si] W fun e w' => e = .returned (.bool false) ∧ W = w') := Lib.hid (fun W hW => by
          have := CTp.out W hW
          rw [show therB (Dv.new N).n qi si = false from ht] at this
          exact this)
        clear ht CT CTp CN Hdd
        go_wp2_with fail
        refine CO.out.mono ?_
        rintro e w3 ⟨rfl, f3⟩
        have hK3 := HK2.out.quiet f3
        have HF3 := Lib.hid (FB.out.trans' hK3.fr (fun _ _ e => e))
        have CT3 := Lib.hid (CT2.out w3 hK3.rd)
        clear f3 hK3 CT2 CO HK2
        go_wp2_with fail
        refine CT3.out.mono ?_
        rintro e w4 ⟨rfl, rfl⟩
        go_wp2
        go_ret
        exact ⟨rfl, HF3.out⟩
      | true =>
        have CT2 : Hid (∀ W, RD W r gl gr gd (Dv.new N) → Calls Try.prog 11 #[.pointer (some ⟨r, 0, none⟩), .int .i64 qi, .int .i64 si] W fun e w' => e = .returned (.bool true) ∧ W = w') := Lib.hid (fun W hW => by
          have := CTp.out W hW
          rw [show therB (Dv.new N).n qi si = true from ht] at this
          exact this)
        cases he : numOk ei with
        | false =>
          have CO := Lib.hid (lOpen_arg qi si ei hqi hsi hei (show therB (Dv.new N).n qi si = true from ht) he w2 Hdd.out)
          rw [he] at CN
          clear ht he CT CTp Hdd
          go_wp2_with fail
          refine CO.out.mono ?_
          rintro e w3 ⟨rfl, f3⟩
          have hK3 := HK2.out.quiet f3
          have HF3 := Lib.hid (FB.out.trans' hK3.fr (fun _ _ e => e))
          have CT3 := Lib.hid (CT2.out w3 hK3.rd)
          clear f3 hK3 CT2 CO HK2
          go_wp2_with fail
          refine CT3.out.mono ?_
          rintro e w4 ⟨rfl, rfl⟩
          go_wp2_with fail
          refine (CN.out _).mono ?_
          rintro e w4 ⟨rfl, rfl⟩
          go_wp2
          go_ret
          exact ⟨rfl, HF3.out⟩
        | true =>
          have ht2 : 0 ≤ qi ∧ 1 ≤ si ∧ qi ≤ N ∧ si ≤ N - qi := by simpa [therB] using ht
          rw [he] at CN
          obtain ⟨q, rfl⟩ := Int.eq_ofNat_of_zero_le ht2.1
          obtain ⟨s, rfl⟩ := Int.eq_ofNat_of_zero_le (show 0 ≤ si by omega)
          have hs1 : 1 ≤ s := by omega
          have hqs : q + s ≤ N := by omega
          have CO := Lib.hid (lOpen_yes q s (show q + s ≤ (Dv.new N).n from hqs) hs1 ei he w2 Hdd.out)
          have He := Lib.hid he
          have hnum := (numOk_iff _).1 he
          clear ht ht2 he CT CTp Hdd hqi hsi
          go_wp2_with fail
          refine CO.out.mono ?_
          rintro e w3 hO
          obtain ⟨S3, T3, l0, k3, fs3, rfl, ht3, hP3, hS3, hT3⟩ := HK2.out.popen (show q + s ≤ (Dv.new N).n from hqs) hs1 He.out hO
          have CT3 := Lib.hid (CT2.out w3 hP3.rd)
          have CQ := Lib.hid (refOpen8_any r gl gr gd (Dv.new N) q s ei (show q + s ≤ (Dv.new N).n from hqs) (by show N ≤ 4096; omega) w3 hP3.rd)
          have HP3 := Lib.hid hP3
          have HT3 := Lib.hid ht3
          clear hO ht3 hP3 hS3 hT3 CO HK2 CT2
          go_wp2_with fail
          refine CT3.out.mono ?_
          rintro e w4 ⟨rfl, rfl⟩
          go_wp2_with fail
          refine (CN.out _).mono ?_
          rintro e w4 ⟨rfl, rfl⟩
          go_wp2_with fail
          refine CQ.out.mono ?_
          rintro e w4 hO
          obtain ⟨B4, lg0, k4, fs4, rfl, ht4, hJ4, hF4⟩ := HP3.out.ropen hO
          obtain ⟨rfl, rfl⟩ := ht4.uniq HT3.out
          have HL0 := Lib.hid (show Lg8 wb w4 d r gl gr gd q s N ei (.pointer (some ⟨l0, 0, none⟩)) (.pointer (some ⟨lg0, 0, none⟩)) from ⟨l0, lg0, S3, T3, B4, _, _, rfl, rfl, hJ4, rfl, rfl, rfl, openD_n _ _ _ _⟩)
          clear hO ht4 hJ4 hF4 CQ HP3 HT3 CT3 CN
          go_wp2
          go_loopw [3, 13, 15, 16] (fun ev av bv iv wr => ∃ (j : Nat) (ep : Int), j ≤ m ∧ j ≤ 40 ∧ iv = .int .i64 j ∧ ev = .int .i64 ep ∧ Hid (numOk ep = true) ∧ Hid (Lg8 wb wr d r gl gr gd q s N ep av bv)) (fun _ _ _ iv _ => m - (intOf iv).toNat)
          case atStart => exact ⟨0, ei, by omega, by omega, rfl, rfl, He, HL0⟩
          case round =>
            obtain ⟨j, ep, hjm, hj40, rfl, rfl, Hep, HLg⟩ := hrel
            obtain ⟨l, lg, S, T, B, D, M, rfl, rfl, hJ, hMq, hMn, hMe, hDN⟩ := HLg.out
            clear HLg
            by_cases hlm : j < m
            · have q1 := decide_eq_true (show (j : Int) < (m : Int) by omega)
              by_cases hl40 : j < 40
              · have q2 := decide_eq_true (show (j : Int) < (40 : Int) by omega)
                have hFw := FB.out.trans' hJ.le.fr (fun _ _ e => e)
                have hxs := HX.out wr hFw
                have hjl : j < ops.length := by rw [Hm.out]; exact hlm
                have hfit := hxs.fit ops[j] (List.getElem_mem hjl)
                have hfit0 := HX0.out.fit ops[j] (List.getElem_mem hjl)
                obtain ⟨ad, hadE, hadB, hcs⟩ := hxs.at hjl
                subst hadE
                obtain ⟨x0, x1, x2, x3, x4, x5, x6, x7, x8, x9, x10, x11, x12⟩ := op8_cells hcs
                generalize ops[j] = o at *
                obtain ⟨kd, fk, fA, fw, fc, keep, kA, kc, oi, s0, s1, s2, s3, s4, s5, s6, s7⟩ := o
                obtain ⟨z, Hz⟩ : ∃ z, Hid (fw.length = z) := ⟨_, Lib.hid rfl⟩
                obtain ⟨kn, Hkn⟩ : ∃ kn, Hid (keep.length = kn) := ⟨_, Lib.hid rfl⟩
                simp only at x0 x1 x2 x3 x4 x5 x6 x7 x8 x9 x10 x11 x12
                rw [Hz.out] at x2
                rw [Hkn.out] at x3
                have Hcells : Hid (FrV.agg ⟨fk, fA, fw, fc⟩ = .agg #[.int .i64 fk, .slice fA z fc]) := Lib.hid (by unfold FrV.agg; rw [Hz.out])
                have hkd : kd < 256 := hfit.kind
                have Hoi : Hid (-9223372036854775808 ≤ oi ∧ oi < 9223372036854775808) := Lib.hid hfit.i
                have Hsec : Hid (Sec [s0, s1, s2, s3, s4, s5, s6, s7]) := Lib.hid hfit.sec
                have Hfit : Hid (FrV.Fit wr wr.heap.size ⟨fk, fA, fw, fc⟩) := Lib.hid hfit.fr
                have Hks : Hid (Sl wr wr.heap.size kA (bools keep)) := Lib.hid hfit.sl
                have Harg : Hid (∀ k, xB ⟨fk, fA, fw, fc⟩ k → k < wb.heap.size) := Lib.hid (fun k hk => Nat.lt_of_lt_of_le (hfit0.arg k hk) FB.out.size)
                have HKb : Hid (Sl wb wb.heap.size kA (bools keep)) := Lib.hid (hfit0.sl.since FB.out)
                have Hka : Hid (∀ ad, kA = some ad → keep ≠ [] → ad.block < wb.heap.size) := Lib.hid (fun ad e hne => by
                  obtain ⟨ad', e', hb9, _⟩ := HKb.out (by intro h0; apply hne; simpa [bools] using h0)
                  rw [e] at e'
                  injection e' with e'
                  rw [e']
                  exact hb9)
                have HMq := Lib.hid hMq
                have HMn := Lib.hid hMn
                have HMe := Lib.hid hMe
                have HJ := Lib.hid hJ
                have HFw := Lib.hid hFw
                have hkm63 : kc ≤ 9223372036854775807 := hfit.cap.2
                clear hfit hfit0 hcs hxs hjl hadB hMq hMn hMe hJ hFw
                by_cases hz4 : z ≤ 400
                · have q3 := decide_eq_false (show ¬ (400 : Int) < (z : Int) by omega)
                  by_cases hk1 : kn ≤ 100
                  · have q4 := decide_eq_false (show ¬ (100 : Int) < (kn : Int) by omega)
                    go_upto_block 2 with fail
                    obtain ⟨W1, HW1⟩ : ∃ W1, Hid (wr.alloc (.cells #[.int .u8 kd, .int .i64 fk, .slice fA z fc, .slice kA kn kc, .int .i64 oi, .int .u64 s0, .int .u64 s1, .int .u64 s2, .int .u64 s3, .int .u64 s4, .int .u64 s5, .int .u64 s6, .int .u64 s7] 43) = W1) := ⟨_, Lib.hid rfl⟩
                    obtain ⟨G, HG⟩ : ∃ G, Hid (wr.heap.size = G) := ⟨_, Lib.hid rfl⟩
                    have bO1 : Bk W1 G 43 #[.int .u8 kd, .int .i64 fk, .slice fA z fc, .slice kA kn kc, .int .i64 oi, .int .u64 s0, .int .u64 s1, .int .u64 s2, .int .u64 s3, .int .u64 s4, .int .u64 s5, .int .u64 s6, .int .u64 s7] := by
                      rw [← HW1.out, ← HG.out]
                      exact Bk.made wr _ _
                    have F1 : Fr No wr W1 := by
                      rw [← HW1.out]
                      exact (Fr.refl _ _).alloc _
                    rw [HW1.out, HG.out]
                    have HGn : Hid (¬ ((S G ∨ T G) ∨ (Rb r gl gr gd G ∨ G = lg))) := Lib.hid (by
                      rw [← HG.out]
                      rintro ((e | e) | (e | e))
                      · have := HJ.out.le.below _ (.inl e); omega
                      · have := HJ.out.le.below _ (.inr e); omega
                      · have := HJ.out.rd.lt _ e; omega
                      · have := HJ.out.rl.lt _ HJ.out.rl.own; omega)
                    have HBx := Lib.hid (fun w' (h : Fr (fun k => (S k ∨ T k) ∨ (Rb r gl gr gd k ∨ k = lg)) W1 w') => show (w'.cell? ⟨G, 1, none⟩ = some (.int .i64 fk) ∧ w'.cell? ⟨G, 2, none⟩ = some (.slice fA z fc)) from ⟨(bO1.fr h HGn.out).cell 1, (bO1.fr h HGn.out).cell 2⟩)
                    have HJ1 := Lib.hid (HJ.out.quiet F1)
                    have Hfit1 := Lib.hid (Hfit.out.since F1)
                    have Hks1 := Lib.hid (Hks.out.since F1)
                    clear HW1 HG F1 HJ Hfit Hks x0 x1 x2 x3 x4 x5 x6 x7 x8 x9 x10 x11 x12
                    go_cut [3, 18, 19] from 102 to 166 (fun v3 v18 _ wx => Hid (Sw8 wb wx d r gl gr gd l lg q s N ep v3 v18))
                    case first =>
                      by_cases k3 : kd % 7 = 3
                      · have e3 : (((kd : Int) % 7) == 3) = true := by rw [beq_iff_eq]; omega
                        clear k3
                        go_wp2_with fail
                        obtain ⟨da, db, hdd⟩ := HJ1.out.le.dd
                        refine (lSync_any _ hdd HJ1.out.le.lo HJ1.out.le.ap).mono ?_
                        rintro e w4 ⟨rfl, S4, a4, b4, hD4, hS4⟩
                        have hJ4 := HJ1.out.pdev hD4 hS4 (HJ1.out.le.inv.same rfl rfl)
                        have CX := Lib.hid (refSync_any r gl gr gd D w4 hJ4.rd (by omega))
                        have HJ4 := Lib.hid hJ4
                        clear hD4 hS4 hJ4 hdd HJ1
                        go_wp2_with fail
                        refine CX.out.mono ?_
                        rintro e w5 ⟨rfl, hR5, hF5⟩
                        have HM := Lib.hid (show Sw8 wb w5 d r gl gr gd l lg q s N ep (.int .i64 ep) (.bool false) from .inl ⟨rfl, rfl, S4, T, B, _, M, HJ4.out.rdev hR5 hF5, HMq.out, HMn.out, HMe.out, hDN⟩)
                        clear hR5 hF5 CX HJ4 HBx
                        go_wp2
                        go_meet
                        exact HM
                      · have e3 : (((kd : Int) % 7) == 3) = false := by rw [beq_eq_false_iff_ne]; omega
                        clear k3
                        by_cases k4 : kd % 7 = 4
                        · have e4 : (((kd : Int) % 7) == 4) = true := by rw [beq_iff_eq]; omega
                          clear k4
                          have hK0 := HJ1.out.devices
                          obtain ⟨da, db, hdd⟩ := hK0.dd
                          have hE0 : Env wb W1 S d D da db := ⟨hdd, hK0.sn, hK0.fr⟩
                          have hx3 : W1.cell? ⟨G, 3, none⟩ = some (.slice kA kn kc) := bO1.cell 3
                          have CK := Lib.hid (keeps_any keep kA kn kc W1 Hks1.out Hkn.out)
                          have HE0 := Lib.hid hE0
                          have HK0 := Lib.hid hK0
                          have HBk := Lib.hid (fun w' (h : Fr S W1 w') => show w'.cell? ⟨G, 3, none⟩ = some (.slice kA kn kc) from (bO1.fr h (fun e => HGn.out (.inl (.inl e)))).cell 3)
                          have HKs := Lib.hid (fun w' (h : Fr No wb w') => HKb.out.since h)
                          clear hdd hE0 hK0 HJ1 HBx
                          go_wp2_with fail
                          refine CK.out.mono ?_
                          rintro e w4 ⟨kx, ky, rfl, hk, hkx, hky, hf⟩
                          have hs4 := HE0.out.dd.lt
                          have CC := Lib.hid (dCrash_any kx ky kA kn kc keep w4 (HE0.out.quiet hf).dd hk (fun e => by have := hs4 _ e; omega) (fun e => by have := hs4 _ e; omega) (fun ad e hne e2 => by have h8 := Hka.out ad e hne; have h9 := HE0.out.new _ e2; omega) HE0.out.dd.small)
                          clear hs4
                          go_wp2_with fail
                          refine CC.out.mono ?_
                          rintro e w5 ⟨rfl, S5, hD, hfr, hg⟩
                          have hS := keepCrash hf hkx hfr hg
                          have hK5 := HK0.out.pstep hD hS
                          have CX := Lib.hid (refCrash_any r gl gr gd D keep kA kn kc w5 hK5.rd (by omega) (HKs.out w5 hK5.fr) Hkn.out (by omega) (fun ad e hne e2 => by have h8 := Hka.out ad e hne; have h9 := hK5.rn _ e2; omega))
                          have HK5 := Lib.hid hK5
                          have hx5 := HBk.out w5 hS.fr
                          clear hf hkx hky hfr hg hS hK5 CC CK hk hD HE0 HK0 HBk hx3
                          go_wp2_with fail
                          refine CX.out.mono ?_
                          rintro e w6 ⟨rfl, hR6, hF6⟩
                          have HM := Lib.hid (show Sw8 wb w6 d r gl gr gd l lg q s N ep (.int .i64 ep) (.bool true) from .inr ⟨ep, Hep.out, rfl, rfl, S5, _, HK5.out.rstep hR6 hF6, hDN⟩)
                          clear hR6 hF6 CX HK5 hx5
                          go_wp2
                          go_meet
                          exact HM
                        · have e4 : (((kd : Int) % 7) == 4) = false := by rw [beq_eq_false_iff_ne]; omega
                          clear k4
                          by_cases k5 : kd % 7 = 5
                          · have e5 : (((kd : Int) % 7) == 5) = true := by rw [beq_iff_eq]; omega
                            clear k5
                            by_cases hlast : 4294967295 ≤ ep
                            · have q9 := decide_eq_true hlast
                              have HFe := Lib.hid (FB.out.trans' HJ1.out.le.fr (fun _ _ e => e))
                              clear HJ1 HBx
                              go_wp2
                              go_ret
                              exact ⟨rfl, HFe.out⟩
                            · have q9 := decide_eq_false hlast
                              have hnum := (numOk_iff _).1 Hep.out
                              have hwe : IntKind.i64.wrap (ep + 1) = ep + 1 := IntWalk.i64_in _ (by omega)
                              have HM := Lib.hid (show Sw8 wb W1 d r gl gr gd l lg q s N ep (.int .i64 (ep + 1)) (.bool true) from .inr ⟨ep + 1, by rw [numOk_iff]; omega, rfl, rfl, S, D, HJ1.out.devices, hDN⟩)
                              clear HJ1 HBx hlast hnum
                              go_wp2
                              go_meet
                              exact HM
                          · have e5 : (((kd : Int) % 7) == 5) = false := by rw [beq_eq_false_iff_ne]; omega
                            clear k5
                            by_cases k6 : kd % 7 = 6
                            · have e6 : (((kd : Int) % 7) == 6) = true := by rw [beq_iff_eq]; omega
                              clear k6
                              have hK0 := HJ1.out.devices
                              obtain ⟨da, db, hdd⟩ := hK0.dd
                              have hx4 : W1.cell? ⟨G, 4, none⟩ = some (.int .i64 oi) := bO1.cell 4
                              obtain ⟨y0, y1, y2, y3, y4, y5, y6, y7⟩ := op8_sec bO1
                              have HBw := Lib.hid (fun w' (h : Fr S W1 w') => (bO1.fr h (fun e => HGn.out (.inl (.inl e)))))
                              by_cases hin : 0 ≤ oi ∧ oi < (N : Int)
                              · obtain ⟨I, rfl⟩ := Int.eq_ofNat_of_zero_le hin.1
                                have hI : I < D.n := by omega
                                have CW := Lib.hid (dWrite_yes I hI s0 s1 s2 s3 s4 s5 s6 s7 Hsec.out W1 hdd)
                                have HK0 := Lib.hid hK0
                                clear hK0 hdd HJ1 HBx
                                go_wp2_with fail
                                refine CW.out.mono ?_
                                rintro e w4 ⟨rfl, S4, hD4, hS4⟩
                                have hK4 := HK0.out.pstep hD4 hS4
                                have bO4 := HBw.out w4 hS4.fr
                                have hx4 : w4.cell? ⟨G, 4, none⟩ = some (.int .i64 (I : Int)) := bO4.cell 4
                                have CT := Lib.hid (refThere_any r gl gr gd D (I : Int) (by omega) (by omega) w4 hK4.rd)
                                have ht : there D.n (I : Int) = true := by simp [there]; omega
                                rw [ht] at CT
                                have HK4 := Lib.hid hK4
                                have HB4 := Lib.hid bO4
                                clear hD4 hS4 hK4 CW HK0 HBw bO4 y0 y1 y2 y3 y4 y5 y6 y7
                                go_wp2_with fail
                                refine CT.out.mono ?_
                                rintro e w5 ⟨rfl, rfl⟩
                                obtain ⟨y0, y1, y2, y3, y4, y5, y6, y7⟩ := op8_sec HB4.out
                                have CR0 := refWrite_any r gl gr gd D I [s0, s1, s2, s3, s4, s5, s6, s7] w4 HK4.out.rd hI (by omega) Hsec.out
                                have CR : Hid (Calls Try.prog 21 #[.pointer (some ⟨r, 0, none⟩), .int .i64 (I : Int), .agg #[.int .u64 s0, .int .u64 s1, .int .u64 s2, .int .u64 s3, .int .u64 s4, .int .u64 s5, .int .u64 s6, .int .u64 s7]] w4 fun e w' => e = .returned (.tuple #[]) ∧ RD w' r gl gr gd (D.write I [s0, s1, s2, s3, s4, s5, s6, s7]) ∧ Fr (Rb r gl gr gd) w4 w') := Lib.hid CR0
                                clear CT CR0
                                go_wp2_with fail
                                refine CR.out.mono ?_
                                rintro e w6 ⟨rfl, hR6, hF6⟩
                                have HM := Lib.hid (show Sw8 wb w6 d r gl gr gd l lg q s N ep (.int .i64 ep) (.bool true) from .inr ⟨ep, Hep.out, rfl, rfl, S4, _, HK4.out.rstep hR6 hF6, hDN⟩)
                                clear hR6 hF6 CR HK4 HB4
                                go_wp2
                                go_meet
                                exact HM
                              · have CW := Lib.hid (dWrite_no oi (by omega) #[.int .u64 s0, .int .u64 s1, .int .u64 s2, .int .u64 s3, .int .u64 s4, .int .u64 s5, .int .u64 s6, .int .u64 s7] W1 hdd)
                                have HK0 := Lib.hid hK0
                                have hoi := Hoi.out
                                clear hK0 hdd HJ1 HBx
                                go_wp2_with fail
                                refine CW.out.mono ?_
                                rintro e w4 ⟨rfl, f4⟩
                                have hK4 := HK0.out.quiet f4
                                have bO4 := HBw.out w4 (f4.weak (fun _ _ e => e.elim))
                                have hx4 : w4.cell? ⟨G, 4, none⟩ = some (.int .i64 oi) := bO4.cell 4
                                have CT := Lib.hid (refThere_any r gl gr gd D oi hoi.1 hoi.2 w4 hK4.rd)
                                have ht : there D.n oi = false := by simp [there]; omega
                                rw [ht] at CT
                                have HM := Lib.hid (show Sw8 wb w4 d r gl gr gd l lg q s N ep (.int .i64 ep) (.bool true) from .inr ⟨ep, Hep.out, rfl, rfl, S, D, hK4, hDN⟩)
                                clear hK4 CW HK0 HBw bO4 y0 y1 y2 y3 y4 y5 y6 y7 f4
                                go_wp2_with fail
                                refine CT.out.mono ?_
                                rintro e w5 ⟨rfl, rfl⟩
                                go_wp2
                                go_meet
                                exact HM
                            · have e6 : (((kd : Int) % 7) == 6) = false := by rw [beq_eq_false_iff_ne]; omega
                              clear k6
                              have HMay := Lib.hid (fun W => refMay_any ⟨fk, fA, fw, fc⟩ W)
                              have HCo0 := Lib.hid (fun W => lCost_any ⟨fk, fA, fw, fc⟩ W)
                              rw [Hcells.out] at HMay HCo0
                              have hx1 : W1.cell? ⟨G, 1, none⟩ = some (.int .i64 fk) := (HBx.out W1 (Fr.refl _ _)).1
                              have hx2 : W1.cell? ⟨G, 2, none⟩ = some (.slice fA z fc) := (HBx.out W1 (Fr.refl _ _)).2
                              cases hok : frmOk (FrV.f ⟨fk, fA, fw, fc⟩) with
                              | false =>
                                rw [hok] at HMay HCo0
                                have HCo : Hid (∀ W, Calls Try.prog 23 #[.agg #[.int .i64 fk, .slice fA z fc]] W fun e w' => e = .returned (.int .i64 0) ∧ Fr No W w') := HCo0
                                clear HCo0 hok
                                go_wp2_with fail
                                refine (HMay.out _).mono ?_
                                rintro e1 w1 ⟨rfl, fm⟩
                                have HJ1w := Lib.hid (HJ1.out.quiet fm)
                                have Hfit1w := Lib.hid (Hfit1.out.since fm)
                                have HBxw := Lib.hid (fun w' (h : Fr (fun k => (S k ∨ T k) ∨ (Rb r gl gr gd k ∨ k = lg)) w1 w') => HBx.out w' ((fm.weak (fun _ _ e => e.elim)).trans' h (fun _ _ e => e)))
                                have hx1 : w1.cell? ⟨G, 1, none⟩ = some (.int .i64 fk) := (HBxw.out w1 (Fr.refl _ _)).1
                                have hx2 : w1.cell? ⟨G, 2, none⟩ = some (.slice fA z fc) := (HBxw.out w1 (Fr.refl _ _)).2
                                clear HJ1 Hfit1 HBx HMay fm
                                have HJ1 := HJ1w
                                have Hfit1 := Hfit1w
                                have HBx := HBxw
                                clear HJ1w Hfit1w HBxw
                                go_wp2_with fail
                                refine wp_region_held_drew (S := (fun w' => w'.cell? ⟨G, 1, none⟩ = some (.int .i64 fk) ∧ w'.cell? ⟨G, 2, none⟩ = some (.slice fA z fc))) (by kernel_rfl) (HBx.out w1.drew ((Fr.refl _ w1).drew)) (fun hHeld => ?_)
                                refine any_take 110 (.pointer (some ⟨G, 1, none⟩)) (i := 0) rfl rfl (by kernel_rfl) (by kernel_rfl) (by kernel_rfl) (fun _ _ _ h => h) (by rfl) (by intro w hSw; (try dsimp only at hSw); go_simp; try with_reducible rfl) (by assumption) ?_
                                simp only [Act.put, List.setIfInBounds_toArray, List.set_cons_zero, List.set_cons_succ]
                                refine any_take 111 (.agg #[.int .i64 fk, .slice fA z fc]) (i := 1) rfl rfl (by kernel_rfl) (by kernel_rfl) (by kernel_rfl) (fun _ _ _ h => h) (by rfl) (by intro w hSw; (try dsimp only at hSw); go_simp; try with_reducible rfl) (by assumption) ?_
                                simp only [Act.put, List.setIfInBounds_toArray, List.set_cons_zero, List.set_cons_succ]
                                refine any_take 113 (.int .i64 0) (i := 3) rfl rfl (by kernel_rfl) (by kernel_rfl) (by kernel_rfl) (fun _ _ _ h => h) (by rfl) (by intro w hSw; (try dsimp only at hSw); go_simp; try with_reducible rfl) (by assumption) ?_
                                simp only [Act.put, List.setIfInBounds_toArray, List.set_cons_zero, List.set_cons_succ]
                                refine wpAnyH_ready (rs := [2]) (by kernel_rfl) (by simp) ?_
                                refine AllReadyH.cons rfl (fun K' hK => ?_) AllReadyH.nil
                                go_simp
                                go_at_call 23
                                refine (HCo.out _).mono ?_
                                rintro e2 w2 ⟨rfl, f2⟩
                                have F2 : Fr No w1 w2 := Fr.trans' ((Fr.refl _ _).drew) f2 (fun _ _ e => e)
                                have hJ2 := HJ1.out.quiet F2
                                have hfit2 := Hfit1.out.since F2
                                dsimp only
                                refine hK.out _ _ (HBx.out w2 (F2.weak (fun _ _ e => e.elim))) (fun hHeld => ?_)
                                clear hK HCo
                                try simp only [Act.put, List.setIfInBounds_toArray, List.set_cons_zero, List.set_cons_succ]
                                refine any_take 114 (.bool false) (i := 4) rfl rfl (by kernel_rfl) (by kernel_rfl) (by kernel_rfl) (fun _ _ _ h => h) (by rfl) (by intro w hSw; (try dsimp only at hSw); go_simp; try with_reducible rfl) (by assumption) ?_
                                simp only [Act.put, List.setIfInBounds_toArray, List.set_cons_zero, List.set_cons_succ]
                                refine any_take 115 (.bool false) (i := 5) rfl rfl (by kernel_rfl) (by kernel_rfl) (by kernel_rfl) (fun _ _ _ h => h) (by rfl) (by intro w hSw; (try dsimp only at hSw); go_simp; try with_reducible rfl) (by assumption) ?_
                                simp only [Act.put, List.setIfInBounds_toArray, List.set_cons_zero, List.set_cons_succ]
                                refine any_take 116 (.pointer (some ⟨l, 0, none⟩)) (i := 6) rfl rfl (by kernel_rfl) (by kernel_rfl) (by kernel_rfl) (fun _ _ _ h => h) (by rfl) (by intro w hSw; (try dsimp only at hSw); go_simp; try with_reducible rfl) (by assumption) ?_
                                simp only [Act.put, List.setIfInBounds_toArray, List.set_cons_zero, List.set_cons_succ]
                                refine any_take 117 (.pointer (some ⟨G, 1, none⟩)) (i := 7) rfl rfl (by kernel_rfl) (by kernel_rfl) (by kernel_rfl) (fun _ _ _ h => h) (by rfl) (by intro w hSw; (try dsimp only at hSw); go_simp; try with_reducible rfl) (by assumption) ?_
                                simp only [Act.put, List.setIfInBounds_toArray, List.set_cons_zero, List.set_cons_succ]
                                refine any_take 118 (.agg #[.int .i64 fk, .slice fA z fc]) (i := 8) rfl rfl (by kernel_rfl) (by kernel_rfl) (by kernel_rfl) (fun _ _ _ h => h) (by rfl) (by intro w hSw; (try dsimp only at hSw); go_simp; try with_reducible rfl) (by assumption) ?_
                                simp only [Act.put, List.setIfInBounds_toArray, List.set_cons_zero, List.set_cons_succ]
                                refine any_take 120 (.pointer (some ⟨lg, 0, none⟩)) (i := 10) rfl rfl (by kernel_rfl) (by kernel_rfl) (by kernel_rfl) (fun _ _ _ h => h) (by rfl) (by intro w hSw; (try dsimp only at hSw); go_simp; try with_reducible rfl) (by assumption) ?_
                                simp only [Act.put, List.setIfInBounds_toArray, List.set_cons_zero, List.set_cons_succ]
                                refine any_take 121 (.pointer (some ⟨G, 1, none⟩)) (i := 11) rfl rfl (by kernel_rfl) (by kernel_rfl) (by kernel_rfl) (fun _ _ _ h => h) (by rfl) (by intro w hSw; (try dsimp only at hSw); go_simp; try with_reducible rfl) (by assumption) ?_
                                simp only [Act.put, List.setIfInBounds_toArray, List.set_cons_zero, List.set_cons_succ]
                                refine any_take 122 (.agg #[.int .i64 fk, .slice fA z fc]) (i := 12) rfl rfl (by kernel_rfl) (by kernel_rfl) (by kernel_rfl) (fun _ _ _ h => h) (by rfl) (by intro w hSw; (try dsimp only at hSw); go_simp; try with_reducible rfl) (by assumption) ?_
                                simp only [Act.put, List.setIfInBounds_toArray, List.set_cons_zero, List.set_cons_succ]
                                obtain ⟨da2, db2, hdd2⟩ := hJ2.le.dd
                                have CA0 := lAppend_any ⟨fk, fA, fw, fc⟩ w2 hdd2 hJ2.le.lo hJ2.le.ap hJ2.le.inv hfit2
                                rw [Hcells.out] at CA0
                                have CA := Lib.hid CA0
                                have HJ2 := Lib.hid hJ2
                                have Hfit2 := Lib.hid hfit2
                                have HF2 := Lib.hid F2
                                clear CA0 hdd2 hJ2 hfit2 f2 F2
                                refine wpAnyH_ready (rs := [9]) (by kernel_rfl) (by simp) ?_
                                refine AllReadyH.cons rfl (fun K' hK => ?_) AllReadyH.nil
                                go_simp
                                go_at_call 24
                                refine CA.out.mono ?_
                                rintro e3 w3 hA
                                have hfr3 := hA.2
                                obtain ⟨sa, sb, sc, sd, -, -, hF3, -, -, -⟩ := hfr3
                                have hfit3 := fit_frS Hfit2.out hF3 (fun k hk e => by have h1 := Harg.out k hk; have h2 := HJ2.out.le.since k e; omega)
                                obtain ⟨rfl, S3, T3, hJ3⟩ := HJ2.out.papp hA
                                have F3 := (HF2.out.weak (S' := fun k => S k ∨ T k) (fun _ _ e => e.elim)).trans' hF3 (fun _ _ e => e)
                                have hinv3 := HJ2.out.le.inv
                                dsimp only
                                refine hK.out _ _ (HBx.out w3 (F3.weak (fun _ _ e => .inl e))) (fun hHeld => ?_)
                                clear hK CA
                                try simp only [Act.put, List.setIfInBounds_toArray, List.set_cons_zero, List.set_cons_succ]
                                have CB0 := refAppend8_any r gl gr gd lg B D M ⟨fk, fA, fw, fc⟩ (by omega) w3 hJ3.rd hJ3.rl hinv3 hfit3 hJ3.br (fun k hk => ⟨fun e => by have h1 := Harg.out k hk; have h2 := hJ3.rn k e; omega, fun e => by have h1 := Harg.out k hk; have h2 := hJ3.ln; omega⟩)
                                rw [Hcells.out] at CB0
                                have CB := Lib.hid CB0
                                have HJ3 := Lib.hid hJ3
                                have HF3 := Lib.hid F3
                                clear hA hF3 hJ3 hfit3 CB0 HJ2 Hfit2 HF2 F3 hinv3
                                refine wpAnyH_ready (rs := [13]) (by kernel_rfl) (by simp) ?_
                                refine AllReadyH.cons rfl (fun K' hK => ?_) AllReadyH.nil
                                go_simp
                                go_at_call 25
                                refine CB.out.mono ?_
                                rintro e4 w4 hA
                                have hF4 := hA.2.2.1
                                obtain ⟨rfl, B4, hJ4⟩ := HJ3.out.rapp Harg.out hA
                                have F4 : Fr (fun k => (S k ∨ T k) ∨ (Rb r gl gr gd k ∨ k = lg)) w1 w4 := (HF3.out.weak (fun _ _ e => .inl e)).trans' hF4 (fun _ _ e => .inr e)
                                dsimp only
                                refine hK.out _ _ (HBx.out w4 F4) (fun hHeld => ?_)
                                clear hK CB
                                try simp only [Act.put, List.setIfInBounds_toArray, List.set_cons_zero, List.set_cons_succ]
                                have HM := Lib.hid (show Sw8 wb w4 d r gl gr gd l lg q s N ep (.int .i64 ep) (.bool false) from .inl ⟨rfl, rfl, S3, T3, B4, _, _, hJ4, by rw [(appM_same M _).1]; exact HMq.out, by rw [(appM_same M _).2.1]; exact HMn.out, by rw [(appM_same M _).2.2]; exact HMe.out, by rw [appDv_n]; exact hDN⟩)
                                generalize appE M (FrV.f ⟨fk, fA, fw, fc⟩) = av at *
                                clear hA hF4 hJ4 F4 HJ3 HF3
                                refine any_take 124 (.bool false) (i := 14) rfl rfl (by kernel_rfl) (by kernel_rfl) (by kernel_rfl) (fun _ _ _ h => h) (by rfl) (by intro w hSw; (try dsimp only at hSw); go_simp; try with_reducible rfl) (by assumption) ?_
                                simp only [Act.put, List.setIfInBounds_toArray, List.set_cons_zero, List.set_cons_succ]
                                refine any_take 125 (.bool false) (i := 15) rfl rfl (by kernel_rfl) (by kernel_rfl) (by kernel_rfl) (fun _ _ _ h => h) (by rfl) (by intro w hSw; (try dsimp only at hSw); go_simp; try with_reducible rfl) (by assumption) ?_
                                simp only [Act.put, List.setIfInBounds_toArray, List.set_cons_zero, List.set_cons_succ]
                                refine wpAnyH_done (by kernel_rfl) ?_ _
                                clear hHeld HBx
                                go_wp2
                                go_meet
                                exact HM
                              | true =>
                                rw [hok] at HMay HCo0
                                rw [if_pos rfl] at HCo0
                                have HCo : Hid (∀ W, Calls Try.prog 23 #[.agg #[.int .i64 fk, .slice fA z fc]] W fun e w' => e = .returned (.int .i64 (1 + (z : Int))) ∧ Fr No W w') := Lib.hid (by
                                  have e0 : (1 + (z : Int)) = ((fw.length + 1 : Nat) : Int) := by have := Hz.out; omega
                                  rw [e0]
                                  exact HCo0.out)
                                clear HCo0 hok
                                go_wp2_with fail
                                refine (HMay.out _).mono ?_
                                rintro e1 w1 ⟨rfl, fm⟩
                                have HJ1w := Lib.hid (HJ1.out.quiet fm)
                                have Hfit1w := Lib.hid (Hfit1.out.since fm)
                                have HBxw := Lib.hid (fun w' (h : Fr (fun k => (S k ∨ T k) ∨ (Rb r gl gr gd k ∨ k = lg)) w1 w') => HBx.out w' ((fm.weak (fun _ _ e => e.elim)).trans' h (fun _ _ e => e)))
                                have hx1 : w1.cell? ⟨G, 1, none⟩ = some (.int .i64 fk) := (HBxw.out w1 (Fr.refl _ _)).1
                                have hx2 : w1.cell? ⟨G, 2, none⟩ = some (.slice fA z fc) := (HBxw.out w1 (Fr.refl _ _)).2
                                clear HJ1 Hfit1 HBx HMay fm
                                have HJ1 := HJ1w
                                have Hfit1 := Hfit1w
                                have HBx := HBxw
                                clear HJ1w Hfit1w HBxw
                                go_wp2_with fail
                                refine wp_region_held_drew (S := (fun w' => w'.cell? ⟨G, 1, none⟩ = some (.int .i64 fk) ∧ w'.cell? ⟨G, 2, none⟩ = some (.slice fA z fc))) (by kernel_rfl) (HBx.out w1.drew ((Fr.refl _ w1).drew)) (fun hHeld => ?_)
                                refine any_take 110 (.pointer (some ⟨G, 1, none⟩)) (i := 0) rfl rfl (by kernel_rfl) (by kernel_rfl) (by kernel_rfl) (fun _ _ _ h => h) (by rfl) (by intro w hSw; (try dsimp only at hSw); go_simp; try with_reducible rfl) (by assumption) ?_
                                simp only [Act.put, List.setIfInBounds_toArray, List.set_cons_zero, List.set_cons_succ]
                                refine any_take 111 (.agg #[.int .i64 fk, .slice fA z fc]) (i := 1) rfl rfl (by kernel_rfl) (by kernel_rfl) (by kernel_rfl) (fun _ _ _ h => h) (by rfl) (by intro w hSw; (try dsimp only at hSw); go_simp; try with_reducible rfl) (by assumption) ?_
                                simp only [Act.put, List.setIfInBounds_toArray, List.set_cons_zero, List.set_cons_succ]
                                refine any_take 113 (.int .i64 (1 + (z : Int))) (i := 3) rfl rfl (by kernel_rfl) (by kernel_rfl) (by kernel_rfl) (fun _ _ _ h => h) (by rfl) (by intro w hSw; (try dsimp only at hSw); go_simp; try with_reducible rfl) (by assumption) ?_
                                simp only [Act.put, List.setIfInBounds_toArray, List.set_cons_zero, List.set_cons_succ]
                                refine wpAnyH_ready (rs := [2]) (by kernel_rfl) (by simp) ?_
                                refine AllReadyH.cons rfl (fun K' hK => ?_) AllReadyH.nil
                                go_simp
                                go_at_call 23
                                refine (HCo.out _).mono ?_
                                rintro e2 w2 ⟨rfl, f2⟩
                                have F2 : Fr No w1 w2 := Fr.trans' ((Fr.refl _ _).drew) f2 (fun _ _ e => e)
                                have hJ2 := HJ1.out.quiet F2
                                have hfit2 := Hfit1.out.since F2
                                dsimp only
                                refine hK.out _ _ (HBx.out w2 (F2.weak (fun _ _ e => e.elim))) (fun hHeld => ?_)
                                clear hK HCo
                                try simp only [Act.put, List.setIfInBounds_toArray, List.set_cons_zero, List.set_cons_succ]
                                refine any_take 114 (.bool false) (i := 4) rfl rfl (by kernel_rfl) (by kernel_rfl) (by kernel_rfl) (fun _ _ _ h => h) (by rfl) (by intro w hSw; (try dsimp only at hSw); go_simp; try with_reducible rfl) (by assumption) ?_
                                simp only [Act.put, List.setIfInBounds_toArray, List.set_cons_zero, List.set_cons_succ]
                                refine any_take 115 (.bool false) (i := 5) rfl rfl (by kernel_rfl) (by kernel_rfl) (by kernel_rfl) (fun _ _ _ h => h) (by rfl) (by intro w hSw; (try dsimp only at hSw); go_simp; try with_reducible rfl) (by assumption) ?_
                                simp only [Act.put, List.setIfInBounds_toArray, List.set_cons_zero, List.set_cons_succ]
                                refine any_take 116 (.pointer (some ⟨l, 0, none⟩)) (i := 6) rfl rfl (by kernel_rfl) (by kernel_rfl) (by kernel_rfl) (fun _ _ _ h => h) (by rfl) (by intro w hSw; (try dsimp only at hSw); go_simp; try with_reducible rfl) (by assumption) ?_
                                simp only [Act.put, List.setIfInBounds_toArray, List.set_cons_zero, List.set_cons_succ]
                                refine any_take 117 (.pointer (some ⟨G, 1, none⟩)) (i := 7) rfl rfl (by kernel_rfl) (by kernel_rfl) (by kernel_rfl) (fun _ _ _ h => h) (by rfl) (by intro w hSw; (try dsimp only at hSw); go_simp; try with_reducible rfl) (by assumption) ?_
                                simp only [Act.put, List.setIfInBounds_toArray, List.set_cons_zero, List.set_cons_succ]
                                refine any_take 118 (.agg #[.int .i64 fk, .slice fA z fc]) (i := 8) rfl rfl (by kernel_rfl) (by kernel_rfl) (by kernel_rfl) (fun _ _ _ h => h) (by rfl) (by intro w hSw; (try dsimp only at hSw); go_simp; try with_reducible rfl) (by assumption) ?_
                                simp only [Act.put, List.setIfInBounds_toArray, List.set_cons_zero, List.set_cons_succ]
                                refine any_take 120 (.pointer (some ⟨lg, 0, none⟩)) (i := 10) rfl rfl (by kernel_rfl) (by kernel_rfl) (by kernel_rfl) (fun _ _ _ h => h) (by rfl) (by intro w hSw; (try dsimp only at hSw); go_simp; try with_reducible rfl) (by assumption) ?_
                                simp only [Act.put, List.setIfInBounds_toArray, List.set_cons_zero, List.set_cons_succ]
                                refine any_take 121 (.pointer (some ⟨G, 1, none⟩)) (i := 11) rfl rfl (by kernel_rfl) (by kernel_rfl) (by kernel_rfl) (fun _ _ _ h => h) (by rfl) (by intro w hSw; (try dsimp only at hSw); go_simp; try with_reducible rfl) (by assumption) ?_
                                simp only [Act.put, List.setIfInBounds_toArray, List.set_cons_zero, List.set_cons_succ]
                                refine any_take 122 (.agg #[.int .i64 fk, .slice fA z fc]) (i := 12) rfl rfl (by kernel_rfl) (by kernel_rfl) (by kernel_rfl) (fun _ _ _ h => h) (by rfl) (by intro w hSw; (try dsimp only at hSw); go_simp; try with_reducible rfl) (by assumption) ?_
                                simp only [Act.put, List.setIfInBounds_toArray, List.set_cons_zero, List.set_cons_succ]
                                obtain ⟨da2, db2, hdd2⟩ := hJ2.le.dd
                                have CA0 := lAppend_any ⟨fk, fA, fw, fc⟩ w2 hdd2 hJ2.le.lo hJ2.le.ap hJ2.le.inv hfit2
                                rw [Hcells.out] at CA0
                                have CA := Lib.hid CA0
                                have HJ2 := Lib.hid hJ2
                                have Hfit2 := Lib.hid hfit2
                                have HF2 := Lib.hid F2
                                clear CA0 hdd2 hJ2 hfit2 f2 F2
                                refine wpAnyH_ready (rs := [9]) (by kernel_rfl) (by simp) ?_
                                refine AllReadyH.cons rfl (fun K' hK => ?_) AllReadyH.nil
                                go_simp
                                go_at_call 24
                                refine CA.out.mono ?_
                                rintro e3 w3 hA
                                have hfr3 := hA.2
                                obtain ⟨sa, sb, sc, sd, -, -, hF3, -, -, -⟩ := hfr3
                                have hfit3 := fit_frS Hfit2.out hF3 (fun k hk e => by have h1 := Harg.out k hk; have h2 := HJ2.out.le.since k e; omega)
                                obtain ⟨rfl, S3, T3, hJ3⟩ := HJ2.out.papp hA
                                have F3 := (HF2.out.weak (S' := fun k => S k ∨ T k) (fun _ _ e => e.elim)).trans' hF3 (fun _ _ e => e)
                                have hinv3 := HJ2.out.le.inv
                                dsimp only
                                refine hK.out _ _ (HBx.out w3 (F3.weak (fun _ _ e => .inl e))) (fun hHeld => ?_)
                                clear hK CA
                                try simp only [Act.put, List.setIfInBounds_toArray, List.set_cons_zero, List.set_cons_succ]
                                have CB0 := refAppend8_any r gl gr gd lg B D M ⟨fk, fA, fw, fc⟩ (by omega) w3 hJ3.rd hJ3.rl hinv3 hfit3 hJ3.br (fun k hk => ⟨fun e => by have h1 := Harg.out k hk; have h2 := hJ3.rn k e; omega, fun e => by have h1 := Harg.out k hk; have h2 := hJ3.ln; omega⟩)
                                rw [Hcells.out] at CB0
                                have CB := Lib.hid CB0
                                have HJ3 := Lib.hid hJ3
                                have HF3 := Lib.hid F3
                                clear hA hF3 hJ3 hfit3 CB0 HJ2 Hfit2 HF2 F3 hinv3
                                refine wpAnyH_ready (rs := [13]) (by kernel_rfl) (by simp) ?_
                                refine AllReadyH.cons rfl (fun K' hK => ?_) AllReadyH.nil
                                go_simp
                                go_at_call 25
                                refine CB.out.mono ?_
                                rintro e4 w4 hA
                                have hF4 := hA.2.2.1
                                obtain ⟨rfl, B4, hJ4⟩ := HJ3.out.rapp Harg.out hA
                                have F4 : Fr (fun k => (S k ∨ T k) ∨ (Rb r gl gr gd k ∨ k = lg)) w1 w4 := (HF3.out.weak (fun _ _ e => .inl e)).trans' hF4 (fun _ _ e => .inr e)
                                dsimp only
                                refine hK.out _ _ (HBx.out w4 F4) (fun hHeld => ?_)
                                clear hK CB
                                try simp only [Act.put, List.setIfInBounds_toArray, List.set_cons_zero, List.set_cons_succ]
                                have HM := Lib.hid (show Sw8 wb w4 d r gl gr gd l lg q s N ep (.int .i64 ep) (.bool false) from .inl ⟨rfl, rfl, S3, T3, B4, _, _, hJ4, by rw [(appM_same M _).1]; exact HMq.out, by rw [(appM_same M _).2.1]; exact HMn.out, by rw [(appM_same M _).2.2]; exact HMe.out, by rw [appDv_n]; exact hDN⟩)
                                generalize appE M (FrV.f ⟨fk, fA, fw, fc⟩) = av at *
                                clear hA hF4 hJ4 F4 HJ3 HF3
                                refine any_take 124 (.bool false) (i := 14) rfl rfl (by kernel_rfl) (by kernel_rfl) (by kernel_rfl) (fun _ _ _ h => h) (by rfl) (by intro w hSw; (try dsimp only at hSw); go_simp; try with_reducible rfl) (by assumption) ?_
                                simp only [Act.put, List.setIfInBounds_toArray, List.set_cons_zero, List.set_cons_succ]
                                refine any_take 125 (.bool false) (i := 15) rfl rfl (by kernel_rfl) (by kernel_rfl) (by kernel_rfl) (fun _ _ _ h => h) (by rfl) (by intro w hSw; (try dsimp only at hSw); go_simp; try with_reducible rfl) (by assumption) ?_
                                simp only [Act.put, List.setIfInBounds_toArray, List.set_cons_zero, List.set_cons_succ]
                                refine wpAnyH_done (by kernel_rfl) ?_ _
                                clear hHeld HBx
                                go_wp2
                                go_meet
                                exact HM
                    case rest =>
                      clear bO1 HGn HBx HJ1 Hfit1 Hks1 Harg HKb Hka Hcells Hz Hkn Hoi Hsec HMq HMn HMe HFw hDN
                      go_upto_if 44 with fail
                      go_cut [13, 14, 15] from 168 to 186 (fun a _ b wx => Hid (∃ ep', (u3 = .int .i64 ep') ∧ numOk ep' = true ∧ Lg8 wb wx d r gl gr gd q s N ep' a b))
                      case first =>
                        rcases hcut.out with ⟨rfl, rfl, S2, T2, B2, D2, M2, hJ2, h1, h2, h3, h4⟩ | ⟨ep2, he2, rfl, rfl, S2, D2, hK2, h4⟩
                        · have HM := Lib.hid (show ∃ ep', (Value.int .i64 ep = .int .i64 ep') ∧ numOk ep' = true ∧ Lg8 wb wc d r gl gr gd q s N ep' (.pointer (some ⟨l, 0, none⟩)) (.pointer (some ⟨lg, 0, none⟩)) from ⟨ep, rfl, Hep.out, l, lg, S2, T2, B2, D2, M2, rfl, rfl, hJ2, h1, h2, h3, h4⟩)
                          clear hJ2 h1 h2 h3 h4 hcut
                          go_wp2_with fail
                          go_meet
                          exact HM
                        · have hq2 : q + s ≤ D2.n := by omega
                          obtain ⟨da, db, hdd⟩ := hK2.dd
                          have CO := Lib.hid (lOpen_yes q s hq2 hs1 ep2 he2 wc hdd)
                          have HK2 := Lib.hid hK2
                          have He2 := Lib.hid he2
                          clear hdd hK2 hcut he2
                          go_wp2_with fail
                          refine CO.out.mono ?_
                          rintro e w7 hO
                          obtain ⟨S7, T7, l7, k7, fs7, rfl, ht7, hP7, hS7, hT7⟩ := HK2.out.popen hq2 hs1 He2.out hO
                          have CQ := Lib.hid (refOpen8_any r gl gr gd D2 q s ep2 hq2 (by omega) w7 hP7.rd)
                          have HP7 := Lib.hid hP7
                          have HT7 := Lib.hid ht7
                          clear hO ht7 hP7 hS7 hT7 CO HK2
                          go_wp2_with fail
                          refine CQ.out.mono ?_
                          rintro e w8 hO
                          obtain ⟨B8, lg8, k8, fs8, rfl, ht8, hJ8, hF8⟩ := HP7.out.ropen hO
                          obtain ⟨rfl, rfl⟩ := ht8.uniq HT7.out
                          have HM := Lib.hid (show ∃ ep', (Value.int .i64 ep2 = .int .i64 ep') ∧ numOk ep' = true ∧ Lg8 wb w8 d r gl gr gd q s N ep' (.pointer (some ⟨l7, 0, none⟩)) (.pointer (some ⟨lg8, 0, none⟩)) from ⟨ep2, rfl, He2.out, l7, lg8, S7, T7, B8, _, _, rfl, rfl, hJ8, rfl, rfl, rfl, by rw [openD_n]; exact h4⟩)
                          clear hO ht8 hJ8 hF8 CQ HP7 HT7
                          go_wp2
                          go_meet
                          exact HM
                      case rest =>
                        obtain ⟨ep3, he3v, he3, l3, lg3, S9, T9, B9, D9, M9, rfl, rfl, hJ9, h9q, h9s, h9e, h9N⟩ := hcut.out
                        have Hep3 := Lib.hid he3
                        subst he3v
                        have CS := Lib.hid (same8_any hJ9)
                        have HJ9w := Lib.hid hJ9
                        clear hJ9 he3 hcut
                        go_wp2_with fail
                        refine CS.out.mono ?_
                        rintro e w9 ⟨rfl, f9⟩
                        have HJ9 := Lib.hid (HJ9w.out.quiet f9)
                        clear CS HJ9w f9
                        go_wp2
                        go_loopw [20] (fun kv wx => ∃ (k : Nat), k ≤ N ∧ kv = .int .i64 k ∧ Hid (Fr No w9 wx)) (fun kv _ => N - (intOf kv).toNat)
                        case atStart => exact ⟨0, by omega, rfl, Lib.hid (Fr.refl _ _)⟩
                        case round =>
                          obtain ⟨k, hkN, rfl, HFk⟩ := hrel
                          have hJk := HJ9.out.quiet HFk.out
                          by_cases hkl : k < N
                          · obtain ⟨s0, s1, s2, s3, s4, s5, s6, s7, hs⟩ := sec_lit (hJk.rd.ok.rd k (by omega))
                            obtain ⟨t0, t1, t2, t3, t4, t5, t6, t7, ht⟩ := sec_lit (hJk.rd.ok.la k (by omega))
                            obtain ⟨da, db, hdd⟩ := hJk.le.dd
                            have CR := Lib.hid (dRead_yes k (by omega) s0 s1 s2 s3 s4 s5 s6 s7 hs wr hdd)
                            have CL := Lib.hid (fun W (hW : Fr No wr W) => dLasting_yes k (by omega) t0 t1 t2 t3 t4 t5 t6 t7 ht W (hdd.fr hW (fun _ _ e => e)))
                            have HCk := Lib.hid (fun W (hW : Fr No wr W) => rd_cells (hJk.rd.fr hW (fun _ _ e => e)) (show k < D9.n by omega) hs ht)
                            have hq8 : ∀ W, (Op.equalIn 10000 41 (.agg #[.int .u64 s0, .int .u64 s1, .int .u64 s2, .int .u64 s3, .int .u64 s4, .int .u64 s5, .int .u64 s6, .int .u64 s7]) (.agg #[.int .u64 s0, .int .u64 s1, .int .u64 s2, .int .u64 s3, .int .u64 s4, .int .u64 s5, .int .u64 s6, .int .u64 s7])).run Try.prog W = .ok true W := fun W => by rw [eq8]; simp
                            have hq9 : ∀ W, (Op.equalIn 10000 41 (.agg #[.int .u64 t0, .int .u64 t1, .int .u64 t2, .int .u64 t3, .int .u64 t4, .int .u64 t5, .int .u64 t6, .int .u64 t7]) (.agg #[.int .u64 t0, .int .u64 t1, .int .u64 t2, .int .u64 t3, .int .u64 t4, .int .u64 t5, .int .u64 t6, .int .u64 t7])).run Try.prog W = .ok true W := fun W => by rw [eq8]; simp
                            have hN40 : N ≤ 40 := hN2
                            rw [h9N] at HCk
                            clear hs ht hdd hJk
                            go_wp2_with fail
                            refine CR.out.mono ?_
                            rintro e wy ⟨rfl, fy⟩
                            go_wp2_with fail
                            obtain ⟨wz, Hwz⟩ : ∃ wz, Hid (wy.alloc (.cells #[.int .u64 s0, .int .u64 s1, .int .u64 s2, .int .u64 s3, .int .u64 s4, .int .u64 s5, .int .u64 s6, .int .u64 s7] 41) = wz) := ⟨_, Lib.hid rfl⟩
                            obtain ⟨Gz, HGz⟩ : ∃ Gz, Hid (wy.heap.size = Gz) := ⟨_, Lib.hid rfl⟩
                            have bz : Bk wz Gz 41 #[.int .u64 s0, .int .u64 s1, .int .u64 s2, .int .u64 s3, .int .u64 s4, .int .u64 s5, .int .u64 s6, .int .u64 s7] := by
                              rw [← Hwz.out, ← HGz.out]
                              exact Bk.made wy _ _
                            have Fz : Fr No wr wz := by
                              rw [← Hwz.out]
                              exact fy.alloc _
                            rw [Hwz.out, HGz.out]
                            clear Hwz HGz fy CR
                            have HCz := Lib.hid (fun W (hW : Fr No wz W) => And.intro (bk8 (bz.fr hW (fun e => e))) (HCk.out W (Fz.trans' hW (fun _ _ e => e))))
                            clear HCk
                            refine wp_region_held_drew (S := fun w' => (w'.cell? ⟨Gz, 0, none⟩ = some (.int .u64 s0) ∧ w'.cell? ⟨Gz, 1, none⟩ = some (.int .u64 s1) ∧ w'.cell? ⟨Gz, 2, none⟩ = some (.int .u64 s2) ∧ w'.cell? ⟨Gz, 3, none⟩ = some (.int .u64 s3) ∧ w'.cell? ⟨Gz, 4, none⟩ = some (.int .u64 s4) ∧ w'.cell? ⟨Gz, 5, none⟩ = some (.int .u64 s5) ∧ w'.cell? ⟨Gz, 6, none⟩ = some (.int .u64 s6) ∧ w'.cell? ⟨Gz, 7, none⟩ = some (.int .u64 s7)) ∧ (w'.cell? ⟨r, 0, none⟩ = some (.slice (some ⟨gl, 0, none⟩) N N) ∧ w'.cell? ⟨r, 1, none⟩ = some (.slice (some ⟨gr, 0, none⟩) N N)) ∧ (w'.cell? ⟨gr, k * 8, none⟩ = some (.int .u64 s0) ∧ w'.cell? ⟨gr, k * 8 + 1, none⟩ = some (.int .u64 s1) ∧ w'.cell? ⟨gr, k * 8 + 2, none⟩ = some (.int .u64 s2) ∧ w'.cell? ⟨gr, k * 8 + 3, none⟩ = some (.int .u64 s3) ∧ w'.cell? ⟨gr, k * 8 + 4, none⟩ = some (.int .u64 s4) ∧ w'.cell? ⟨gr, k * 8 + 5, none⟩ = some (.int .u64 s5) ∧ w'.cell? ⟨gr, k * 8 + 6, none⟩ = some (.int .u64 s6) ∧ w'.cell? ⟨gr, k * 8 + 7, none⟩ = some (.int .u64 s7)) ∧ (w'.cell? ⟨gl, k * 8, none⟩ = some (.int .u64 t0) ∧ w'.cell? ⟨gl, k * 8 + 1, none⟩ = some (.int .u64 t1) ∧ w'.cell? ⟨gl, k * 8 + 2, none⟩ = some (.int .u64 t2) ∧ w'.cell? ⟨gl, k * 8 + 3, none⟩ = some (.int .u64 t3) ∧ w'.cell? ⟨gl, k * 8 + 4, none⟩ = some (.int .u64 t4) ∧ w'.cell? ⟨gl, k * 8 + 5, none⟩ = some (.int .u64 t5) ∧ w'.cell? ⟨gl, k * 8 + 6, none⟩ = some (.int .u64 t6) ∧ w'.cell? ⟨gl, k * 8 + 7, none⟩ = some (.int .u64 t7))) (by kernel_rfl) (HCz.out wz.drew ((Fr.refl _ wz).drew)) (fun hHeld => ?_)
                            refine any_take 202 (.int .i64 0) (i := 0) rfl rfl (by kernel_rfl) (by kernel_rfl) (by kernel_rfl) (fun _ _ _ h => h) (by rfl) (by intro w hSw; (try dsimp only at hSw); go_simp; try with_reducible rfl) (by assumption) ?_
                            simp only [Act.put, List.setIfInBounds_toArray, List.set_cons_zero, List.set_cons_succ]
                            refine any_take 203 (.bool false) (i := 1) rfl rfl (by kernel_rfl) (by kernel_rfl) (by kernel_rfl) (fun _ _ _ h => h) (by rfl) (by intro w hSw; (try dsimp only at hSw); go_simp; try with_reducible rfl) (by assumption) ?_
                            simp only [Act.put, List.setIfInBounds_toArray, List.set_cons_zero, List.set_cons_succ]
                            refine any_take 204 (.bool false) (i := 2) rfl rfl (by kernel_rfl) (by kernel_rfl) (by kernel_rfl) (fun _ _ _ h => h) (by rfl) (by intro w hSw; (try dsimp only at hSw); go_simp; try with_reducible rfl) (by assumption) ?_
                            simp only [Act.put, List.setIfInBounds_toArray, List.set_cons_zero, List.set_cons_succ]
                            refine any_take 205 (.agg #[.int .u64 s0, .int .u64 s1, .int .u64 s2, .int .u64 s3, .int .u64 s4, .int .u64 s5, .int .u64 s6, .int .u64 s7]) (i := 3) rfl rfl (by kernel_rfl) (by kernel_rfl) (by kernel_rfl) (fun _ _ _ h => h) (by rfl) (by intro w hSw; (try dsimp only at hSw); go_simp; try with_reducible rfl) (by assumption) ?_
                            simp only [Act.put, List.setIfInBounds_toArray, List.set_cons_zero, List.set_cons_succ]
                            refine any_take 206 (.pointer (some ⟨r, 0, none⟩)) (i := 4) rfl rfl (by kernel_rfl) (by kernel_rfl) (by kernel_rfl) (fun _ _ _ h => h) (by rfl) (by intro w hSw; (try dsimp only at hSw); go_simp; try with_reducible rfl) (by assumption) ?_
                            simp only [Act.put, List.setIfInBounds_toArray, List.set_cons_zero, List.set_cons_succ]
                            refine any_take 207 (.pointer (some ⟨r, 0, none⟩)) (i := 5) rfl rfl (by kernel_rfl) (by kernel_rfl) (by kernel_rfl) (fun _ _ _ h => h) (by rfl) (by intro w hSw; (try dsimp only at hSw); go_simp; try with_reducible rfl) (by assumption) ?_
                            simp only [Act.put, List.setIfInBounds_toArray, List.set_cons_zero, List.set_cons_succ]
                            refine any_take 208 (.pointer (some ⟨r, 1, none⟩)) (i := 6) rfl rfl (by kernel_rfl) (by kernel_rfl) (by kernel_rfl) (fun _ _ _ h => h) (by rfl) (by intro w hSw; (try dsimp only at hSw); go_simp; try with_reducible rfl) (by assumption) ?_
                            simp only [Act.put, List.setIfInBounds_toArray, List.set_cons_zero, List.set_cons_succ]
                            refine any_take 209 (.slice (some ⟨gr, 0, none⟩) N N) (i := 7) rfl rfl (by kernel_rfl) (by kernel_rfl) (by kernel_rfl) (fun _ _ _ h => h) (by rfl) (by intro w hSw; (try dsimp only at hSw); go_simp; try with_reducible rfl) (by assumption) ?_
                            simp only [Act.put, List.setIfInBounds_toArray, List.set_cons_zero, List.set_cons_succ]
                            refine any_take 210 (.int .i64 (k : Int)) (i := 8) rfl rfl (by kernel_rfl) (by kernel_rfl) (by kernel_rfl) (fun _ _ _ h => h) (by rfl) (by intro w hSw; (try dsimp only at hSw); go_simp; try with_reducible rfl) (by assumption) ?_
                            simp only [Act.put, List.setIfInBounds_toArray, List.set_cons_zero, List.set_cons_succ]
                            refine any_take 211 (.pointer (some ⟨gr, k * 8, none⟩)) (i := 9) rfl rfl (by kernel_rfl) (by kernel_rfl) (by kernel_rfl) (fun _ _ _ h => h) (by rfl) (by intro w hSw; (try dsimp only at hSw); go_simp; try with_reducible rfl) (by assumption) ?_
                            simp only [Act.put, List.setIfInBounds_toArray, List.set_cons_zero, List.set_cons_succ]
                            refine any_take 212 (.agg #[.int .u64 s0, .int .u64 s1, .int .u64 s2, .int .u64 s3, .int .u64 s4, .int .u64 s5, .int .u64 s6, .int .u64 s7]) (i := 10) rfl rfl (by kernel_rfl) (by kernel_rfl) (by kernel_rfl) (fun _ _ _ h => h) (by rfl) (by intro w hSw; (try dsimp only at hSw); go_simp; try with_reducible rfl) (by assumption) ?_
                            simp only [Act.put, List.setIfInBounds_toArray, List.set_cons_zero, List.set_cons_succ]
                            refine any_take 213 (.bool false) (i := 11) rfl rfl (by kernel_rfl) (by kernel_rfl) (by kernel_rfl) (fun _ _ _ h => h) (by rfl) (by intro w hSw; (try dsimp only at hSw); go_simp; try with_reducible rfl) (by assumption) ?_
                            simp only [Act.put, List.setIfInBounds_toArray, List.set_cons_zero, List.set_cons_succ]
                            refine any_take 214 (.bool false) (i := 12) rfl rfl (by kernel_rfl) (by kernel_rfl) (by kernel_rfl) (fun _ _ _ h => h) (by rfl) (by intro w hSw; (try dsimp only at hSw); go_simp; try with_reducible rfl) (by assumption) ?_
                            simp only [Act.put, List.setIfInBounds_toArray, List.set_cons_zero, List.set_cons_succ]
                            refine any_take 215 (.bool false) (i := 13) rfl rfl (by kernel_rfl) (by kernel_rfl) (by kernel_rfl) (fun _ _ _ h => h) (by rfl) (by intro w hSw; (try dsimp only at hSw); go_simp; try with_reducible rfl) (by assumption) ?_
                            simp only [Act.put, List.setIfInBounds_toArray, List.set_cons_zero, List.set_cons_succ]
                            refine any_take 216 (.pointer (some ⟨d, 0, none⟩)) (i := 14) rfl rfl (by kernel_rfl) (by kernel_rfl) (by kernel_rfl) (fun _ _ _ h => h) (by rfl) (by intro w hSw; (try dsimp only at hSw); go_simp; try with_reducible rfl) (by assumption) ?_
                            simp only [Act.put, List.setIfInBounds_toArray, List.set_cons_zero, List.set_cons_succ]
                            refine any_take 217 (.int .i64 (k : Int)) (i := 15) rfl rfl (by kernel_rfl) (by kernel_rfl) (by kernel_rfl) (fun _ _ _ h => h) (by rfl) (by intro w hSw; (try dsimp only at hSw); go_simp; try with_reducible rfl) (by assumption) ?_
                            simp only [Act.put, List.setIfInBounds_toArray, List.set_cons_zero, List.set_cons_succ]
                            refine any_take 219 (.pointer (some ⟨r, 0, none⟩)) (i := 17) rfl rfl (by kernel_rfl) (by kernel_rfl) (by kernel_rfl) (fun _ _ _ h => h) (by rfl) (by intro w hSw; (try dsimp only at hSw); go_simp; try with_reducible rfl) (by assumption) ?_
                            simp only [Act.put, List.setIfInBounds_toArray, List.set_cons_zero, List.set_cons_succ]
                            refine any_take 220 (.pointer (some ⟨r, 0, none⟩)) (i := 18) rfl rfl (by kernel_rfl) (by kernel_rfl) (by kernel_rfl) (fun _ _ _ h => h) (by rfl) (by intro w hSw; (try dsimp only at hSw); go_simp; try with_reducible rfl) (by assumption) ?_
                            simp only [Act.put, List.setIfInBounds_toArray, List.set_cons_zero, List.set_cons_succ]
                            refine any_take 221 (.pointer (some ⟨r, 0, none⟩)) (i := 19) rfl rfl (by kernel_rfl) (by kernel_rfl) (by kernel_rfl) (fun _ _ _ h => h) (by rfl) (by intro w hSw; (try dsimp only at hSw); go_simp; try with_reducible rfl) (by assumption) ?_
                            simp only [Act.put, List.setIfInBounds_toArray, List.set_cons_zero, List.set_cons_succ]
                            refine any_take 222 (.slice (some ⟨gl, 0, none⟩) N N) (i := 20) rfl rfl (by kernel_rfl) (by kernel_rfl) (by kernel_rfl) (fun _ _ _ h => h) (by rfl) (by intro w hSw; (try dsimp only at hSw); go_simp; try with_reducible rfl) (by assumption) ?_
                            simp only [Act.put, List.setIfInBounds_toArray, List.set_cons_zero, List.set_cons_succ]
                            refine any_take 223 (.int .i64 (k : Int)) (i := 21) rfl rfl (by kernel_rfl) (by kernel_rfl) (by kernel_rfl) (fun _ _ _ h => h) (by rfl) (by intro w hSw; (try dsimp only at hSw); go_simp; try with_reducible rfl) (by assumption) ?_
                            simp only [Act.put, List.setIfInBounds_toArray, List.set_cons_zero, List.set_cons_succ]
                            refine any_take 224 (.pointer (some ⟨gl, k * 8, none⟩)) (i := 22) rfl rfl (by kernel_rfl) (by kernel_rfl) (by kernel_rfl) (fun _ _ _ h => h) (by rfl) (by intro w hSw; (try dsimp only at hSw); go_simp; try with_reducible rfl) (by assumption) ?_
                            simp only [Act.put, List.setIfInBounds_toArray, List.set_cons_zero, List.set_cons_succ]
                            refine any_take 225 (.agg #[.int .u64 t0, .int .u64 t1, .int .u64 t2, .int .u64 t3, .int .u64 t4, .int .u64 t5, .int .u64 t6, .int .u64 t7]) (i := 23) rfl rfl (by kernel_rfl) (by kernel_rfl) (by kernel_rfl) (fun _ _ _ h => h) (by rfl) (by intro w hSw; (try dsimp only at hSw); go_simp; try with_reducible rfl) (by assumption) ?_
                            simp only [Act.put, List.setIfInBounds_toArray, List.set_cons_zero, List.set_cons_succ]
                            refine wpAnyH_ready (rs := [16]) (by kernel_rfl) (by simp) ?_
                            refine AllReadyH.cons rfl (fun K' hK => ?_) AllReadyH.nil
                            go_simp
                            go_at_call 28
                            refine (CL.out _ (Fz.drew)).mono ?_
                            rintro e wv ⟨rfl, fv⟩
                            have Fv : Fr No wz wv := Fr.trans' ((Fr.refl _ _).drew) fv (fun _ _ e => e)
                            dsimp only
                            refine hK.out _ _ (HCz.out wv Fv) (fun hHeld => ?_)
                            clear hK CL
                            try simp only [Act.put, List.setIfInBounds_toArray, List.set_cons_zero, List.set_cons_succ]
                            refine any_take 226 (.bool false) (i := 24) rfl rfl (by kernel_rfl) (by kernel_rfl) (by kernel_rfl) (fun _ _ _ h => h) (by rfl) (by intro w hSw; (try dsimp only at hSw); go_simp; try with_reducible rfl) (by assumption) ?_
                            simp only [Act.put, List.setIfInBounds_toArray, List.set_cons_zero, List.set_cons_succ]
                            refine any_take 227 (.bool false) (i := 25) rfl rfl (by kernel_rfl) (by kernel_rfl) (by kernel_rfl) (fun _ _ _ h => h) (by rfl) (by intro w hSw; (try dsimp only at hSw); go_simp; try with_reducible rfl) (by assumption) ?_
                            simp only [Act.put, List.setIfInBounds_toArray, List.set_cons_zero, List.set_cons_succ]
                            refine wpAnyH_done (by kernel_rfl) ?_ _
                            have HFv := Lib.hid (HFk.out.trans' (Fz.trans' Fv (fun _ _ e => e)) (fun _ _ e => e))
                            clear hHeld HCz hq8 hq9 Fv fv Fz bz
                            go_wp2
                            go_roundw
                            case rel => exact ⟨k + 1, by omega, by go_num, HFv⟩
                            case measure => simp [intOf]; omega
                          · obtain rfl : k = N := by omega
                            have HL9 := Lib.hid (show Lg8 wb wr d r gl gr gd q s k ep3 (.pointer (some ⟨l3, 0, none⟩)) (.pointer (some ⟨lg3, 0, none⟩)) from ⟨l3, lg3, S9, T9, B9, D9, M9, rfl, rfl, hJk, h9q, h9s, h9e, h9N⟩)
                            clear hJk hkl
                            go_wp2
                            go_roundw
                            case rel => exact ⟨j + 1, ep3, by omega, by omega, by go_num, by first | rfl | go_num, Hep3, HL9⟩
                            case measure => simp [intOf]; omega
                  · have q4 := decide_eq_true (show (100 : Int) < (kn : Int) by omega)
                    clear HJ Hfit Hks
                    go_wp2
                    go_ret
                    exact ⟨rfl, HFw.out.alloc _⟩
                · have q3 := decide_eq_true (show (400 : Int) < (z : Int) by omega)
                  clear HJ Hfit Hks
                  go_wp2
                  go_ret
                  exact ⟨rfl, HFw.out.alloc _⟩
              · have q2 := decide_eq_false (show ¬ (j : Int) < (40 : Int) by omega)
                have HFe := Lib.hid (FB.out.trans' hJ.le.fr (fun _ _ e => e))
                clear hJ
                go_wp2
                go_ret
                exact ⟨rfl, HFe.out⟩
            · have q1 := decide_eq_false (show ¬ (j : Int) < (m : Int) by omega)
              have HFe := Lib.hid (FB.out.trans' hJ.le.fr (fun _ _ e => e))
              clear hJ
              go_wp2
              go_ret
              exact ⟨rfl, HFe.out⟩
end Go.Proofs.Ytdmllfjeofiddaa
