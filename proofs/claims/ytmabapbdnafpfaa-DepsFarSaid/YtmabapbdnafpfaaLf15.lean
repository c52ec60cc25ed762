/- The law 'DepsFar', walked. -/
import Derived.Test.YtmabapbdnafpfaaCtr15
import Derived.Deep.CutRange
import Derived.BigQuiet
namespace Go.Proofs.Ytmabapbdnafpfaa
open Go.RowKit

theorem far15 {h : List Nd} {i k : Nat} (hk : k < (depL h i).length) {z : Nat} (hz : z ∈ depL h (depL h i)[k]) : z ∈ depL h i := depL_mem.2 (depB_trans (depL_mem.1 (List.getElem_mem hk)) (depL_mem.1 hz))
theorem near15 {h : List Nd} {i k : Nat} (hk : k < (depL h i).length) : (depL h i)[k] < i := depL_lt (List.getElem_mem hk)
set_option maxRecDepth 100000 in
set_option maxHeartbeats 16000000 in
theorem lawFar15 (h : List Ndl) (A : Option Addr) (n c q0 : Nat) (w : World) (hs : Nds w A h) (hh : h.length = n) (hnc : n ≤ c) (hnm : n ≤ 9223372036854775807) (hq0 : q0 < 256) : Calls Try.prog 6 #[.slice A n c, .int .u8 (q0 : Int)] w (Has w true) := by
  have HIn := Lib.hid (fun (hg : great15 h = false) => show n ≤ 40 ∧ FewN h from ⟨by have := (few_of_great15 hg).1; omega, fewN_of_great15 hg⟩)
  have HGr := Lib.hid (fun W (hW : Fr No w W) => great15_any h A n c W (hs.since hW) hh hnm)
  have HOf := Lib.hid (fun (hg : great15 h = false) W (hW : Fr No w W) => ofC15 h A n c W (hs.since hW) hh (by have := (HIn.out hg).1; omega) hnc (HIn.out hg).2)
  have HOq := Lib.hid (fun (hg : great15 h = false) (q : Nat) (hq : q ≤ n) W (hW : Fr No w W) => ofC15 (h.take q) A q c W ((hs.since hW).take15 q) (by rw [List.length_take]; omega) (by have := (HIn.out hg).1; omega) (by omega) (fun x hx => (HIn.out hg).2 x (List.mem_of_mem_take hx)))
  have HLn := Lib.hid (fun (ls : List IL) (hO : OfL (ndsOf h) ls) => show ls.length = n by rw [hO.len, ndsOf_len, hh])
  have HLq := Lib.hid (fun (q : Nat) (hq : q ≤ n) (ls : List IL) (hO : OfL (ndsOf (h.take q)) ls) => show ls.length = q by rw [hO.len, ndsOf_len, List.length_take]; omega)
  have HAt := Lib.hid (fun (q : Nat) (hq : q ≤ n) (ls : List IL) (hO : OfL (ndsOf (h.take q)) ls) (i : Nat) (hi : i < ls.length) => show ls[i].l = depL (ndsOf h) i by
    have hl := HLq.out q hq ls hO
    rw [hO.at hi, ndsOf_take15]
    unfold depL
    congr 1
    funext k
    exact depB_take (by rw [ndsOf_len]; omega) (by omega) k)
  have Hnil := Lib.hid (fun (hA : A = none) => show n = 0 by
    subst hA
    rcases Nat.eq_zero_or_pos n with e | e
    · exact e
    · obtain ⟨_, e2, _⟩ := hs.sl.nd (k := 0) (by omega)
      cases e2)
  clear hs hh
  generalize great15 h = gr at *
  obtain ⟨q, hq⟩ : ∃ q, q = q0 % (n + 1) := ⟨_, rfl⟩
  have hqn : q ≤ n := by have := Nat.mod_lt q0 (show 0 < n + 1 by omega); omega
  have hrem : (q0 : Int).tmod ((n : Int) + 1) = (q : Int) := by
    rw [hq]
    have : ((n : Int) + 1) = ((n + 1 : Nat) : Int) := by push_cast; rfl
    rw [this]
    exact (Int.ofNat_tmod q0 (n + 1)).symm
  have hz1 : ¬ ((n : Int) + 1 = 0) := by omega
  clear hq
  go_enter Try.func6, Try.ntmps6
  go_wp2_with fail
  refine (aliveD15 _).mono ?_
  rintro e w1 ⟨rfl, f1⟩
  have F1 := Lib.hid f1
  clear f1
  go_wp2_with fail
  refine (HGr.out _ F1.out).mono ?_
  rintro e w2 ⟨rfl, f2⟩
  have F2 := Lib.hid (F1.out.trans' f2 (fun _ _ e => e))
  clear f2
  cases gr
  case true =>
    go_wp2
    go_ret
    exact ⟨rfl, F2.out⟩
  case false =>
    have Of2 := Lib.hid (HOf.out rfl)
    have Oq2 := Lib.hid (HOq.out rfl)
    have h40 := (HIn.out rfl).1
    clear HOf HOq HIn HGr
    go_wp2_with fail
    refine (Of2.out _ F2.out).mono ?_
    rintro e w3 ⟨L, ls, lc, rfl, hI, hO, f3⟩
    have hls := HLn.out ls hO
    have F3 := Lib.hid (F2.out.trans' f3 (fun _ _ e => e))
    have C4 := Lib.hid (Oq2.out q hqn w3 F3.out)
    have HI := Lib.hid hI
    have HO := Lib.hid hO
    rw [hls]
    clear Of2 Oq2 HLn hI hO f3
    have hw1 : wrap64 ((n : Int) + 1) = (n : Int) + 1 := by unfold wrap64; omega
    have hqc : ((q : Nat) : Int) ≤ (c : Int) := by omega
    go_wp2_with fail
    refine (C4.out).mono ?_
    rintro e w4 ⟨M, ms, mc, rfl, hI4, hO4, f4⟩
    have hms := HLq.out q hqn ms hO4
    have F4 := Lib.hid (F3.out.trans' f4 (fun _ _ e => e))
    rw [hms]
    obtain ⟨D, hD⟩ : ∃ D, D = depL (ndsOf h) := ⟨_, rfl⟩
    have HL := Lib.hid (fun (i : Nat) (hi : i < ls.length) W (hW : Fr No w4 W) => show ∃ ad, L = some ad ∧ W.cell? (ad.add i) = some (.slice ls[i].A (D i).length ls[i].c) by
      obtain ⟨ad, e, -, c0⟩ := (HI.out.since (f4.trans' hW (fun _ _ e => e))).sl.il hi
      rw [HO.out.at hi, ← hD] at c0
      exact ⟨ad, e, c0⟩)
    have HLm := Lib.hid (fun (i : Nat) (hi : i < ls.length) (k : Nat) (hk : k < (D i).length) W (hW : Fr No w4 W) => show ∃ ae, ls[i].A = some ae ∧ W.cell? (ae.add k) = some (.int .i64 (((D i)[k] : Nat) : Int)) by
      have hl : ls[i].l = D i := by rw [HO.out.at hi, ← hD]
      have h1 := (HI.out.since (f4.trans' hW (fun _ _ e => e))).all _ (List.getElem_mem hi)
      rw [hl] at h1
      obtain ⟨ae, e, -, c0⟩ := h1.num hk
      exact ⟨ae, e, c0⟩)
    have HM := Lib.hid (fun (i : Nat) (hi : i < ms.length) W (hW : Fr No w4 W) => show ∃ ad, M = some ad ∧ W.cell? (ad.add i) = some (.slice ms[i].A (D i).length ms[i].c) by
      obtain ⟨ad, e, -, c0⟩ := (hI4.since hW).sl.il hi
      rw [HAt.out q hqn ms hO4 i hi, ← hD] at c0
      exact ⟨ad, e, c0⟩)
    have HMm := Lib.hid (fun (i : Nat) (hi : i < ms.length) (k : Nat) (hk : k < (D i).length) W (hW : Fr No w4 W) => show ∃ ae, ms[i].A = some ae ∧ W.cell? (ae.add k) = some (.int .i64 (((D i)[k] : Nat) : Int)) by
      have hl : ms[i].l = D i := by rw [HAt.out q hqn ms hO4 i hi, ← hD]
      have h1 := (hI4.since hW).all _ (List.getElem_mem hi)
      rw [hl] at h1
      obtain ⟨ae, e, -, c0⟩ := h1.num hk
      exact ⟨ae, e, c0⟩)
    have HLo := Lib.hid (fun (i k : Nat) (hk : k < (D i).length) => show (D i)[k] < i by subst hD; exact near15 hk)
    have HTr := Lib.hid (fun (i k : Nat) (hk : k < (D i).length) (z : Nat) (hz : z ∈ D (D i)[k]) => show z ∈ D i by subst hD; exact far15 hk hz)
    have HSz := Lib.hid (fun (i : Nat) => show (D i).length ≤ i by subst hD; exact depL_len _ i)
    have Hls := Lib.hid hls
    have Hms := Lib.hid hms
    clear hls hms hI4 hO4 f4 hD HI HO C4 HAt HLq F3 Hnil hrem hz1 hw1 hqc
    have hqn2 : ((q : Nat) : Int) ≤ (n : Int) := by omega
    go_wp2
    go_loopw [8] (fun iv wr => ∃ i : Nat, i ≤ n ∧ iv = .int .i64 (i : Int) ∧ Hid (Fr No w4 wr)) (fun iv _ => n - (intOf iv).toNat)
    case atStart => exact ⟨0, Nat.zero_le _, rfl, Lib.hid (Fr.refl _ _)⟩
    case round =>
      obtain ⟨i, hi, rfl, hfr⟩ := hrel
      by_cases hlt : i < n
      · have hin : ((i : Nat) : Int) < (n : Int) := by omega
        have hil : i < ls.length := by rw [Hls.out]; exact hlt
        have hL0 := Lib.hid (HL.out i hil)
        have hLm0 := Lib.hid (HLm.out i hil)
        have hsz := HSz.out i
        obtain ⟨ad, hLe, -⟩ := hL0.out w4 (Fr.refl _ _)
        subst hLe
        go_upto_if 50 with fail
        go_cut [9] from 50 to 86 (fun _ wx => Hid (Fr No w4 wx))
        case first =>
          by_cases hiq : i < q
          · have hiq2 : ((i : Nat) : Int) < (q : Int) := by omega
            have him : i < ms.length := by rw [Hms.out]; exact hiq
            have hM0 := Lib.hid (HM.out i him)
            have hMm0 := Lib.hid (HMm.out i him)
            obtain ⟨am, hMe, -⟩ := hM0.out w4 (Fr.refl _ _)
            subst hMe
            have hl1 := Lib.hid (fun W (hW : Fr No w4 W) => show W.cell? (ad.add i) = some (.slice ls[i].A (D i).length ls[i].c) by
              obtain ⟨a2, e, c0⟩ := hL0.out W hW
              injection e with e
              rw [e]
              exact c0)
            have hm1 := Lib.hid (fun W (hW : Fr No w4 W) => show W.cell? (am.add i) = some (.slice ms[i].A (D i).length ms[i].c) by
              obtain ⟨a2, e, c0⟩ := hM0.out W hW
              injection e with e
              rw [e]
              exact c0)
            clear HL HLm HM HMm HTr HLo HSz hL0 hM0
            generalize D i = l at *
            generalize ls[i].A = A2 at *
            generalize ls[i].c = c2 at *
            generalize ms[i].A = A3 at *
            generalize ms[i].c = c3 at *
            obtain ⟨ll, hll⟩ : ∃ m, l.length = m := ⟨_, rfl⟩
            rw [hll] at hl1 hm1 hsz
            have Hll := Lib.hid hll
            clear hll
            have c0 := hl1.out _ hfr.out
            have d0 := hm1.out _ hfr.out
            go_wp2_with fail
            go_quiet (fail)
            clear c0 d0
            go_wp2
            go_loopw [9] (fun kv wx => ∃ k : Nat, k ≤ ll ∧ kv = .int .i64 (k : Int) ∧ Hid (Fr No w4 wx)) (fun kv _ => ll - (intOf kv).toNat)
            case atStart => exact ⟨0, Nat.zero_le _, rfl, Lib.hid (hfr.out.drewN _)⟩
            case round =>
              obtain ⟨k, hk, rfl, hfx⟩ := hrel
              have c0 := hl1.out _ hfx.out
              have d0 := hm1.out _ hfx.out
              by_cases hkl : k < ll
              · have hkl2 : k < l.length := by rw [Hll.out]; exact hkl
                have hki : ((k : Nat) : Int) < (ll : Int) := by omega
                obtain ⟨ae, rfl, a0⟩ := hLm0.out k hkl2 _ hfx.out
                obtain ⟨af, rfl, b0⟩ := hMm0.out k hkl2 _ hfx.out
                generalize l[k] = x at *
                go_wp2_with fail
                go_quiet (fail)
                go_wp2
                go_roundw
                case rel => exact ⟨k + 1, by omega, by go_num, Lib.hid (hfx.out.drewN _)⟩
                case measure => simp [intOf]; omega
              · obtain rfl : k = ll := by omega
                go_wp2
                go_meet
                exact hfx
          · have hiq2 : ¬ ((i : Nat) : Int) < (q : Int) := by omega
            have hiq3 : decide (i < q) = false := decide_eq_false hiq
            go_wp2
            go_meet
            exact hfr
        case rest =>
          have F5 := hcut
          clear hfr hcut HM HMm
          have hl1 := Lib.hid (fun W (hW : Fr No w4 W) => show W.cell? (ad.add i) = some (.slice ls[i].A (D i).length ls[i].c) by
            obtain ⟨a2, e, c0⟩ := hL0.out W hW
            injection e with e
            rw [e]
            exact c0)
          have hlo := Lib.hid (fun (k : Nat) (hk : k < (D i).length) => HLo.out i k hk)
          have htr := Lib.hid (fun (k : Nat) (hk : k < (D i).length) (z : Nat) (hz : z ∈ D (D i)[k]) => HTr.out i k hk z hz)
          have hLx := Lib.hid (fun (x : Nat) (hx : x < ls.length) W (hW : Fr No w4 W) => show W.cell? (ad.add x) = some (.slice ls[x].A (D x).length ls[x].c) by
            obtain ⟨a2, e, c0⟩ := HL.out x hx W hW
            injection e with e
            rw [e]
            exact c0)
          clear HL HLo HTr hL0
          generalize D i = l at *
          generalize ls[i].A = A2 at *
          generalize ls[i].c = c2 at *
          obtain ⟨ll, hll⟩ : ∃ m, l.length = m := ⟨_, rfl⟩
          rw [hll] at hl1 hsz
          have Hll := Lib.hid hll
          clear hll
          go_wp2
          go_loopw [10] (fun kv wx => ∃ k : Nat, k ≤ ll ∧ kv = .int .i64 (k : Int) ∧ Hid (Fr No w4 wx)) (fun kv _ => ll - (intOf kv).toNat)
          case atStart => exact ⟨0, Nat.zero_le _, rfl, F5⟩
          case round =>
            obtain ⟨k, hk, rfl, hfx⟩ := hrel
            have c0 := hl1.out _ hfx.out
            by_cases hkl : k < ll
            · have hkl2 : k < l.length := by rw [Hll.out]; exact hkl
              have hki : ((k : Nat) : Int) < (ll : Int) := by omega
              obtain ⟨ae, hAe, a0⟩ := hLm0.out k hkl2 _ hfx.out
              subst hAe
              have hx := hlo.out k hkl2
              have hxl : l[k] < ls.length := by rw [Hls.out]; omega
              have hxn : ((l[k] : Nat) : Int) < (n : Int) := by omega
              have hfm := Lib.hid (fun W (hW : Fr No w4 W) => hLx.out l[k] hxl W hW)
              have hfl := Lib.hid (fun (a : Nat) (ha : a < (D l[k]).length) W (hW : Fr No w4 W) => HLm.out l[k] hxl a ha W hW)
              have hmem := Lib.hid (fun z hz => htr.out k hkl2 z hz)
              have hfs := HSz.out l[k]
              have d0 := hfm.out _ hfx.out
              generalize l[k] = x at *
              generalize D x = f at *
              generalize ls[x].A = A4 at *
              generalize ls[x].c = c4 at *
              obtain ⟨nf, hnf⟩ : ∃ m, f.length = m := ⟨_, rfl⟩
              rw [hnf] at d0 hfs
              have Hnf := Lib.hid hnf
              clear hnf hfm
              go_wp2
              clear a0 c0 d0
              go_loopw [12] (fun av wy => ∃ a : Nat, a ≤ nf ∧ av = .int .i64 (a : Int) ∧ Hid (Fr No w4 wy)) (fun av _ => nf - (intOf av).toNat)
              case atStart => exact ⟨0, Nat.zero_le _, rfl, hfx⟩
              case round =>
                obtain ⟨a, ha, rfl, hfy⟩ := hrel
                by_cases haf : a < nf
                · have haf2 : a < f.length := by rw [Hnf.out]; exact haf
                  have hai : ((a : Nat) : Int) < (nf : Int) := by omega
                  obtain ⟨ag, hAg, -⟩ := hfl.out a haf2 _ hfy.out
                  subst hAg
                  have hfa := Lib.hid (fun W (hW : Fr No w4 W) => show W.cell? (ag.add a) = some (.int .i64 ((f[a] : Nat) : Int)) by
                    obtain ⟨a2, e, c0⟩ := hfl.out a haf2 W hW
                    injection e with e
                    rw [e]
                    exact c0)
                  have hz := hmem.out f[a] (List.getElem_mem haf2)
                  generalize f[a] = z at *
                  obtain ⟨P, hP⟩ : ∃ P : Nat → Bool, ∀ b, P b = (l.take b).any (fun y => decide (y = z)) := ⟨fun b => (l.take b).any (fun y => decide (y = z)), fun _ => rfl⟩
                  have hP0 : P 0 = false := by rw [hP]; simp
                  have Hst := Lib.hid (fun (b : Nat) (hb : b < l.length) => show P (b + 1) = (P b || decide (l[b] = z)) by
                    rw [hP, hP, List.take_succ_eq_append_getElem hb, List.any_append]
                    simp)
                  have Hend : Hid (P ll = true) := Lib.hid (by
                    rw [hP, ← Hll.out, List.take_length, List.any_eq_true]
                    exact ⟨z, hz, by simp⟩)
                  have HP0 := Lib.hid hP0
                  clear hP hP0 hz hfl hmem
                  go_wp2
                  go_loopw [13, 14] (fun fv bv wz => ∃ b : Nat, b ≤ ll ∧ fv = .bool (P b) ∧ bv = .int .i64 (b : Int) ∧ Hid (Fr No w4 wz)) (fun _ bv _ => ll - (intOf bv).toNat)
                  case atStart => exact ⟨0, Nat.zero_le _, by rw [HP0.out], rfl, hfy⟩
                  case round =>
                    obtain ⟨b, hb, rfl, rfl, hfz⟩ := hrel
                    have c0 := hl1.out _ hfz.out
                    by_cases hbl : b < ll
                    · have hbl2 : b < l.length := by rw [Hll.out]; exact hbl
                      have hbi : ((b : Nat) : Int) < (ll : Int) := by omega
                      obtain ⟨ah, hAh, b0⟩ := hLm0.out b hbl2 _ hfz.out
                      injection hAh with hAh
                      subst hAh
                      have e0 := hfa.out _ hfz.out
                      have hst := Lib.hid (Hst.out b hbl2)
                      generalize l[b] = y at *
                      generalize P b = p at *
                      cases p
                      · by_cases hyz : y = z
                        · have q1 : ((y : Int) == (z : Int)) = true := by simp [hyz]
                          have q2 : (y == z) = true := by simp [hyz]
                          have hs2 : Hid (P (b + 1) = true) := Lib.hid (by rw [hst.out]; simp [hyz])
                          clear hst
                          subst hyz
                          go_wp2_with fail
                          go_quiet (fail)
                          go_wp2
                          go_roundw
                          case rel => exact ⟨b + 1, by omega, by rw [hs2.out], by go_num, Lib.hid (hfz.out.drewN _)⟩
                          case measure => simp [intOf]; omega
                        · have q1 : ((y : Int) == (z : Int)) = false := by
                            rw [beq_eq_false_iff_ne]
                            omega
                          have q2 : (y == z) = false := by simpa using hyz
                          have hs2 : Hid (P (b + 1) = false) := Lib.hid (by rw [hst.out]; simp [hyz])
                          clear hst hyz
                          go_wp2_with fail
                          go_quiet (fail)
                          go_wp2
                          go_roundw
                          case rel => exact ⟨b + 1, by omega, by rw [hs2.out], by go_num, Lib.hid (hfz.out.drewN _)⟩
                          case measure => simp [intOf]; omega
                      · have hs2 : Hid (P (b + 1) = true) := Lib.hid (by rw [hst.out]; rfl)
                        clear hst
                        go_wp2_with fail
                        go_quiet (fail)
                        go_wp2
                        go_roundw
                        case rel => exact ⟨b + 1, by omega, by rw [hs2.out], by go_num, Lib.hid (hfz.out.drewN _)⟩
                        case measure => simp [intOf]; omega
                    · obtain rfl : b = ll := by omega
                      have hpe := Hend.out
                      rw [hpe]
                      clear hpe
                      go_wp2
                      go_roundw
                      case rel => exact ⟨a + 1, by omega, by go_num, hfz⟩
                      case measure => simp [intOf]; omega
                · obtain rfl : a = nf := by omega
                  go_wp2
                  go_roundw
                  case rel => exact ⟨k + 1, by omega, by go_num, hfy⟩
                  case measure => simp [intOf]; omega
            · obtain rfl : k = ll := by omega
              go_wp2
              go_roundw
              case rel => exact ⟨i + 1, by omega, by go_num, hfx⟩
              case measure => simp [intOf]; omega
      · obtain rfl : i = n := by omega
        go_wp2
        go_ret
        exact ⟨rfl, F4.out.trans' hfr.out (fun _ _ e => e)⟩
end Go.Proofs.Ytmabapbdnafpfaa
