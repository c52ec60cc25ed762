/- The law 'DiskTwice'. -/
import Derived.Test.YthipcfdmkkfofaaLasts3
namespace Go.Proofs.Ythipcfdmkkfofaa
open Go.RowKit

theorem crash_same (D : Dv) (keep other : List Bool) (k : Nat) : ((D.crash keep).crash other).rd k = (D.crash keep).rd k ∧ (D.crash keep).la k = (D.crash keep).rd k := ⟨by
  show (D.crash keep).after other k = _
  unfold Dv.after kept
  have : (D.crash keep).di k = false := rfl
  rw [this]
  simp only [Bool.false_and, Bool.false_eq_true, if_false]
  rfl, rfl⟩
theorem crash_dirty (D : Dv) (keep : List Bool) : (D.crash keep).dirty.length = 0 := by
  have : (D.crash keep).dirty = [] := by
    unfold Dv.dirty
    exact List.filter_eq_nil_iff.2 (fun x _ => by show ¬ (false = true); simp)
  rw [this]
  rfl
theorem keep_out {w : World} {A : Option Addr} {keep : List Bool} (h : Sl w w.heap.size A (bools keep)) : ∀ ad, A = some ad → keep ≠ [] → ad.block < w.heap.size := by
  intro adk e hne
  obtain ⟨ad', e', hb', _⟩ := h (by simpa [bools] using hne)
  rw [e] at e'
  injection e' with e'
  subst e'
  exact hb'

set_option maxRecDepth 100000 in
set_option maxHeartbeats 8000000 in
theorem twice_any (ops : List Op3) (m : Nat) (A : Option Addr) (c : Nat) (keep other : List Bool) (mk mo : Nat) (Ak Ao : Option Addr) (ck co : Nat) (w : World)
    (hm : ops.length = m) (hsl : Sl w w.heap.size A (ops.flatMap Op3.cells)) (hfit : ∀ o ∈ ops, o.Fit w w.heap.size) (hml : m ≤ 9223372036854775807)
    (hmk : keep.length = mk) (hslk : Sl w w.heap.size Ak (bools keep)) (hmkl : mk ≤ 9223372036854775807) (hmo : other.length = mo) (hslo : Sl w w.heap.size Ao (bools other)) (hmol : mo ≤ 9223372036854775807) :
    Calls Try.prog 9 #[.slice A m c, .slice Ak mk ck, .slice Ao mo co] w fun e w' => e = .returned (.bool true) ∧ Fr No w w' := by
  by_cases hbig : 200 < mk ∨ 200 < mo
  · rcases (show 200 < mk ∨ (¬ 200 < mk ∧ 200 < mo) by omega) with h1 | ⟨h1, h2⟩
    · have e1 : decide ((200 : Int) < (mk : Int)) = true := by simp; omega
      clear h1
      go_enter Try.func9, Try.ntmps9
      go_wp2_with fail
      refine (alive3_any _).mono ?_
      rintro e w1 ⟨rfl, hf⟩
      go_wp2
      go_ret
      exact ⟨rfl, hf⟩
    · have e1 : decide ((200 : Int) < (mk : Int)) = false := by simp; omega
      have e2 : decide ((200 : Int) < (mo : Int)) = true := by simp; omega
      clear h1 h2
      go_enter Try.func9, Try.ntmps9
      go_wp2_with fail
      refine (alive3_any _).mono ?_
      rintro e w1 ⟨rfl, hf⟩
      go_wp2
      go_ret
      exact ⟨rfl, hf⟩
  · have e1 : decide ((200 : Int) < (mk : Int)) = false := by simp; omega
    have e2 : decide ((200 : Int) < (mo : Int)) = false := by simp; omega
    have q8 := eq8
    have Hm := Lib.hid hm
    have Hfit := Lib.hid hfit
    have Hmk := Lib.hid hmk
    have Hmo := Lib.hid hmo
    clear hm hfit hmk hmo hbig
    go_enter Try.func9, Try.ntmps9
    go_wp2_with fail
    refine (alive3_any _).mono ?_
    rintro e w1 ⟨rfl, hf⟩
    go_wp2_with fail
    refine (dNew_yes 16 (by omega) (by omega) w1).mono ?_
    rintro e w2 ⟨S0, d, rfl, hD0, hS0⟩
    have E0 := Env.begin hf hD0 hS0
    clear hf hD0 hS0 e1 e2
    go_wp2
    go_loopw [8] (fun iv wr => ∃ (j : Nat) (S : Nat → Prop) (D : Dv) (a b : Nat), j ≤ m ∧ j ≤ 40 ∧ iv = .int .i64 j ∧ Hid (D.n = 16) ∧ Env w wr S d D a b) (fun i _ => 40 - (intOf i).toNat)
    case atStart => exact ⟨0, S0, Dv.new 16, 0, 0, by omega, by omega, rfl, Lib.hid rfl, E0⟩
    case round =>
      obtain ⟨j, S, D, a, b, hj, hj4, rfl, hDn, E⟩ := hrel
      by_cases hgo : j < m ∧ j < 40
      · obtain ⟨hjm, hj40⟩ := hgo
        have hjl : j < ops.length := by rw [Hm.out]; exact hjm
        obtain ⟨ad, rfl, hadB, hcell⟩ := hsl.op3 hjl
        have hft := Hfit.out _ (List.getElem_mem hjl)
        generalize ops[j] = o at *
        have hcw : ∀ k u, (o.cells)[k]? = some u → wr.cell? ((ad.add (j * 11)).add k) = some u := fun k u hu => by
          rw [E.fr.cell (by rw [block_add, block_add]; exact hadB) (fun e => e)]
          exact hcell k u hu
        obtain ⟨c0, c1, c2, c3, c4, c5, c6, c7, c8, c9, c10⟩ := op_cells hcw
        have hsecO := hft.sec
        clear hcell hcw hft c0 c10

        go_wp2
        have hap : ¬ S (ad.add (j * 11)).block := fun e => by have := E.new _ e; rw [block_add] at this; omega
        go_region_held3 (fun w' => w'.cell? ⟨(ad.add (j * 11)).block, (ad.add (j * 11)).off + 1, none⟩ = some (.int .i64 o.i) ∧ w'.cell? ⟨(ad.add (j * 11)).block, (ad.add (j * 11)).off + 2, none⟩ = some (.int .u64 o.s0) ∧ w'.cell? ⟨(ad.add (j * 11)).block, (ad.add (j * 11)).off + 3, none⟩ = some (.int .u64 o.s1) ∧ w'.cell? ⟨(ad.add (j * 11)).block, (ad.add (j * 11)).off + 4, none⟩ = some (.int .u64 o.s2) ∧ w'.cell? ⟨(ad.add (j * 11)).block, (ad.add (j * 11)).off + 5, none⟩ = some (.int .u64 o.s3) ∧ w'.cell? ⟨(ad.add (j * 11)).block, (ad.add (j * 11)).off + 6, none⟩ = some (.int .u64 o.s4) ∧ w'.cell? ⟨(ad.add (j * 11)).block, (ad.add (j * 11)).off + 7, none⟩ = some (.int .u64 o.s5) ∧ w'.cell? ⟨(ad.add (j * 11)).block, (ad.add (j * 11)).off + 8, none⟩ = some (.int .u64 o.s6) ∧ w'.cell? ⟨(ad.add (j * 11)).block, (ad.add (j * 11)).off + 9, none⟩ = some (.int .u64 o.s7))
          (first
            | go_keep
            | (refine ⟨?_, ?_, ?_, ?_, ?_, ?_, ?_, ?_, ?_⟩ <;> (refine cell_keepS hS'.fr hap ?_; assumption)))
          (first | (go_at_call 28; refine (dWrite_put o.i o.s0 o.s1 o.s2 o.s3 o.s4 o.s5 o.s6 o.s7 hsecO _ (E.dd.fr (Fr.refl _ _).drew (fun _ _ e => e))).mono ?_; rintro e w' ⟨x, S', a', rfl, hD', hS'⟩))

        have E' := E.drew.step hD' ⟨hS'.fr, hS'.grow⟩
        clear E hD' hS' hap
        go_wp2
        go_roundw
        case rel => exact ⟨j + 1, S', _, a', b, by omega, by omega, by go_num, Lib.hid ((Dv.put_n _ _ _).trans hDn.out), E'⟩
        case measure => simp [intOf]; omega
      · have hcase : m ≤ j ∨ (j < m ∧ 40 ≤ j) := by omega
        have hapk := Lib.hid (keep_out hslk)
        have hapo := Lib.hid (keep_out hslo)
        clear hgo E0
        rcases hcase with hcase | ⟨hc1, hc2⟩
        all_goals
          go_wp2_with fail
          refine (keeps_any keep Ak mk ck _ (hslk.since E.fr) Hmk.out).mono ?_
          rintro e w4 ⟨kn, kl, rfl, hk, hkn, hkl, hf⟩
          have E4 := E.quiet hf
          go_wp2_with fail
          refine (dCrash_any kn kl Ak mk ck keep w4 E4.dd hk (fun e => by have := E.dd.lt _ e; omega) (fun e => by have := E.dd.lt _ e; omega) (fun adk e hne h => by have := hapk.out adk e hne; have := E.new _ h; omega) (by rw [hDn.out]; omega)).mono ?_
          rintro e w5 ⟨rfl, S5, hD5, hfr5, hg5⟩
          have E5 := E.step hD5 (keepCrash hf hkn hfr5 hg5)
          clear E E4 hf hkn hkl hk hfr5 hg5 hD5
          go_wp2_with fail
          refine (dCopy_any w5 E5.dd).mono ?_
          rintro e w6 ⟨T6, d6, rfl, hD6, hS6⟩
          have F6 : Env w w6 T6 d6 (D.crash keep) a b := ⟨hD6, fun k hk => by rcases hS6.grow k hk with h1 | h1; (exact h1.elim); (exact Nat.le_trans E5.fr.size h1), E5.fr.trans' hS6.fr (fun _ _ e => e)⟩
          have E6 := E5.quiet hS6.fr
          have ap6 : ∀ k, S5 k → ¬ T6 k := fun k hk e => by
            rcases hS6.grow k e with h1 | h1
            · exact h1
            · have := E5.dd.lt k hk
              omega
          clear E5 hD6 hS6
          go_wp2_with fail
          refine (keeps_any other Ao mo co _ (hslo.since E6.fr) Hmo.out).mono ?_
          rintro e w7 ⟨kn, kl, rfl, hk, hkn, hkl, hf⟩
          have F7 := F6.quiet hf
          go_wp2_with fail
          refine (dCrash_any kn kl Ao mo co other w7 F7.dd hk (fun e => by have := F6.dd.lt _ e; omega) (fun e => by have := F6.dd.lt _ e; omega) (fun adk e hne h => by have := hapo.out adk e hne; have := F6.new _ h; omega) (by show D.n ≤ 4096; rw [hDn.out]; omega)).mono ?_
          rintro e w8 ⟨rfl, T8, hD8, hfr8, hg8⟩
          have hS8 := keepCrash hf hkn hfr8 hg8
          have F8 := F6.step hD8 hS8
          have E8 : Env w w8 S5 d (D.crash keep) a b := ⟨E6.dd.fr hS8.fr ap6, E6.new, F8.fr⟩
          clear F6 F7 E6 ap6 hf hkn hkl hk hfr8 hg8 hD8 hS8
          go_wp2
          go_loopw [10] (fun iv wr => ∃ i : Nat, i ≤ 16 ∧ iv = .int .i64 i ∧ Fr No w8 wr) (fun i _ => 16 - (intOf i).toNat)
          case atStart => exact ⟨0, by omega, rfl, Fr.refl _ _⟩
          case round =>
            obtain ⟨i, hi, rfl, hfr⟩ := hrel
            have E := E8.quiet hfr
            have F := F8.quiet hfr
            by_cases hi16 : i < 16
            · have hin : i < (D.crash keep).n := by show i < D.n; rw [hDn.out]; exact hi16
              have hin2 : i < ((D.crash keep).crash other).n := hin
              obtain ⟨x0, x1, x2, x3, x4, x5, x6, x7, hx⟩ := sec_lit (E.dd.ok.rd i hin)
              have hc := crash_same D keep other i
              have hy := hc.1.trans hx
              have hz := hc.2.trans hx
              have Hx := Lib.hid hx
              have Hy := Lib.hid hy
              have Hz := Lib.hid hz
              clear hx hy hz hc
              go_wp2_with fail
              refine (dRead_yes (D := D.crash keep) i hin x0 x1 x2 x3 x4 x5 x6 x7 Hx.out wr E.dd).mono ?_
              rintro e w9 ⟨rfl, hf9⟩
              have E9 := (E.quiet hf9).alloc (.cells #[.int .u64 x0, .int .u64 x1, .int .u64 x2, .int .u64 x3, .int .u64 x4, .int .u64 x5, .int .u64 x6, .int .u64 x7] 48)
              have F9 := (F.quiet hf9).alloc (.cells #[.int .u64 x0, .int .u64 x1, .int .u64 x2, .int .u64 x3, .int .u64 x4, .int .u64 x5, .int .u64 x6, .int .u64 x7] 48)
              have X9 := Bk.made w9 48 #[.int .u64 x0, .int .u64 x1, .int .u64 x2, .int .u64 x3, .int .u64 x4, .int .u64 x5, .int .u64 x6, .int .u64 x7]
              have g9 := (hfr.trans' hf9 (fun _ _ e => e)).alloc (.cells #[.int .u64 x0, .int .u64 x1, .int .u64 x2, .int .u64 x3, .int .u64 x4, .int .u64 x5, .int .u64 x6, .int .u64 x7] 48)
              clear E F hf9 hfr
              go_wp2_with fail
              refine (dRead_yes (D := (D.crash keep).crash other) i hin2 x0 x1 x2 x3 x4 x5 x6 x7 Hy.out _ F9.dd).mono ?_
              rintro e w10 ⟨rfl, hf10⟩
              generalize w9.heap.size = vx at *
              have E10 := (E9.quiet hf10).alloc (.cells #[.int .u64 x0, .int .u64 x1, .int .u64 x2, .int .u64 x3, .int .u64 x4, .int .u64 x5, .int .u64 x6, .int .u64 x7] 48)
              have X10 := (X9.fr hf10 (fun e => e)).alloc (.cells #[.int .u64 x0, .int .u64 x1, .int .u64 x2, .int .u64 x3, .int .u64 x4, .int .u64 x5, .int .u64 x6, .int .u64 x7] 48)
              have Y10 := Bk.made w10 48 #[.int .u64 x0, .int .u64 x1, .int .u64 x2, .int .u64 x3, .int .u64 x4, .int .u64 x5, .int .u64 x6, .int .u64 x7]
              have g10 := (g9.trans' hf10 (fun _ _ e => e)).alloc (.cells #[.int .u64 x0, .int .u64 x1, .int .u64 x2, .int .u64 x3, .int .u64 x4, .int .u64 x5, .int .u64 x6, .int .u64 x7] 48)
              clear E9 F9 X9 g9 hf10
              have u0 := X10.cell 0
              have v0 := Y10.cell 0
              have u1 := X10.cell 1
              have v1 := Y10.cell 1
              have u2 := X10.cell 2
              have v2 := Y10.cell 2
              have u3 := X10.cell 3
              have v3 := Y10.cell 3
              have u4 := X10.cell 4
              have v4 := Y10.cell 4
              have u5 := X10.cell 5
              have v5 := Y10.cell 5
              have u6 := X10.cell 6
              have v6 := Y10.cell 6
              have u7 := X10.cell 7
              have v7 := Y10.cell 7

              go_wp2_with fail
              go_region_held3 (fun w' => w'.cell? ⟨vx, 0, none⟩ = some (.int .u64 x0) ∧ w'.cell? ⟨vx, 1, none⟩ = some (.int .u64 x1) ∧ w'.cell? ⟨vx, 2, none⟩ = some (.int .u64 x2) ∧ w'.cell? ⟨vx, 3, none⟩ = some (.int .u64 x3) ∧ w'.cell? ⟨vx, 4, none⟩ = some (.int .u64 x4) ∧ w'.cell? ⟨vx, 5, none⟩ = some (.int .u64 x5) ∧ w'.cell? ⟨vx, 6, none⟩ = some (.int .u64 x6) ∧ w'.cell? ⟨vx, 7, none⟩ = some (.int .u64 x7) ∧ w'.cell? ⟨w10.heap.size, 0, none⟩ = some (.int .u64 x0) ∧ w'.cell? ⟨w10.heap.size, 1, none⟩ = some (.int .u64 x1) ∧ w'.cell? ⟨w10.heap.size, 2, none⟩ = some (.int .u64 x2) ∧ w'.cell? ⟨w10.heap.size, 3, none⟩ = some (.int .u64 x3) ∧ w'.cell? ⟨w10.heap.size, 4, none⟩ = some (.int .u64 x4) ∧ w'.cell? ⟨w10.heap.size, 5, none⟩ = some (.int .u64 x5) ∧ w'.cell? ⟨w10.heap.size, 6, none⟩ = some (.int .u64 x6) ∧ w'.cell? ⟨w10.heap.size, 7, none⟩ = some (.int .u64 x7))
                (first
                  | go_keep
                  | (refine ⟨?_, ?_, ?_, ?_, ?_, ?_, ?_, ?_, ?_, ?_, ?_, ?_, ?_, ?_, ?_, ?_⟩ <;> (refine cell_keep hfc ?_; assumption)))
                (first | (go_at_call 37; refine (dLasting_yes (D := D.crash keep) i hin x0 x1 x2 x3 x4 x5 x6 x7 Hz.out _ (E10.dd.fr (Fr.refl _ _).drew (fun _ _ e => e))).mono ?_; rintro e w11 ⟨rfl, hfc⟩))
              have g11 := g10.drew.trans' hfc (fun _ _ e => e)
              clear E10 X10 Y10 g10 hfc u0 u1 u2 u3 u4 u5 u6 u7 v0 v1 v2 v3 v4 v5 v6 v7
              go_wp2
              go_roundw
              case rel => exact ⟨i + 1, by omega, by go_num, g11⟩
              case measure => simp [intOf]; omega
            · have hdz := Lib.hid (crash_dirty (D.crash keep) other)
              go_wp2_with fail
              refine (dDirty_any _ F.dd).mono ?_
              rw [hdz.out]
              rintro e w9 ⟨A9, c9, rfl, -, hf⟩
              go_wp2
              go_ret
              exact ⟨rfl, E.fr.trans' hf (fun _ _ e => e)⟩
end Go.Proofs.Ythipcfdmkkfofaa
