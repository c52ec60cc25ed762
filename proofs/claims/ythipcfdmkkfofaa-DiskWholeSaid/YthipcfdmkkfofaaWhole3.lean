/- The law 'DiskWhole'. -/
import Derived.Test.YthipcfdmkkfofaaTwice3
namespace Go.Proofs.Ythipcfdmkkfofaa
open Go.RowKit

theorem crash_all (D : Dv) (h : D.Ok) (hn : D.n ≤ 16) (i : Nat) (hi : i < D.n) : (D.crash (List.replicate 16 true)).rd i = D.rd i := by
  show D.after (List.replicate 16 true) i = _
  unfold Dv.after kept
  cases hd : D.di i with
  | false =>
    simp only [Bool.false_and, Bool.false_eq_true, if_false]
    exact (h.same i hi hd).symm
  | true =>
    have hc := cnt_le D.di i
    have : (List.replicate 16 true).getD (cnt D.di i) false = true := by
      rw [List.getD_eq_getElem?_getD, List.getElem?_replicate, if_pos (by omega)]
      rfl
    rw [this]
    rfl
theorem crash_none (D : Dv) (i : Nat) : (D.crash []).rd i = D.la i := by
  show D.after [] i = _
  unfold Dv.after kept
  simp
/-- Beside a device that moves another stands still. -/
theorem Env.beside {w0 w w' : World} {S S2 : Nat → Prop} {d a b : Nat} {D : Dv} (h : Env w0 w S2 d D a b) (hf : Fr S w w') (hap : ∀ k, S2 k → ¬ S k) (hn : ∀ k, S k → w0.heap.size ≤ k) : Env w0 w' S2 d D a b :=
  ⟨h.dd.fr hf hap, h.new, h.fr.trans' hf (fun k hk e => by have := hn k e; omega)⟩
theorem step_apart {w w' : World} {S S' S2 : Nat → Prop} (hs : Step S S' w w') (hl : ∀ k, S2 k → k < w.heap.size) (hap : ∀ k, S2 k → ¬ S k) : ∀ k, S2 k → ¬ S' k := fun k hk => hs.out (hl k hk) (hap k hk)

set_option maxRecDepth 100000 in
set_option maxHeartbeats 8000000 in
theorem whole_any (ops : List Op3) (m : Nat) (A : Option Addr) (c : Nat) (ops2 : List Op3) (m2 : Nat) (A2 : Option Addr) (c2 : Nat) (w : World)
    (hm : ops.length = m) (hsl : Sl w w.heap.size A (ops.flatMap Op3.cells)) (hfit : ∀ o ∈ ops, o.Fit w w.heap.size) (hml : m ≤ 9223372036854775807)
    (hm2 : ops2.length = m2) (hsl2 : Sl w w.heap.size A2 (ops2.flatMap Op3.cells)) (hfit2 : ∀ o ∈ ops2, o.Fit w w.heap.size) (hml2 : m2 ≤ 9223372036854775807) :
    Calls Try.prog 8 #[.slice A m c, .slice A2 m2 c2] w fun e w' => e = .returned (.bool true) ∧ Fr No w w' := by
  have q8 := eq8
  have Hm := Lib.hid hm
  have Hfit := Lib.hid hfit
  have Hm2 := Lib.hid hm2
  have Hfit2 := Lib.hid hfit2
  clear hm hfit hm2 hfit2
  go_enter Try.func8, Try.ntmps8
  go_wp2_with fail
  refine (alive3_any _).mono ?_
  rintro e w1 ⟨rfl, hf⟩
  go_wp2_with fail
  refine (dNew_yes 16 (by omega) (by omega) w1).mono ?_
  rintro e w2 ⟨S0, da, rfl, hD0, hS0⟩
  have E0 := Env.begin hf hD0 hS0
  clear hf hD0 hS0
  go_wp2_with fail
  refine (dNew_yes 16 (by omega) (by omega) w2).mono ?_
  rintro e w3 ⟨T0, db, rfl, hD0, hS0⟩
  have F0 := Env.begin E0.fr hD0 hS0
  have ap0 : ∀ k, S0 k → ¬ T0 k := fun k hk e => by
    rcases hS0.grow k e with h1 | h1
    · exact h1
    · have := E0.dd.lt k hk
      omega
  replace E0 := E0.quiet hS0.fr
  clear hD0 hS0
  go_wp2
  go_loopw [7] (fun iv wr => ∃ (j : Nat) (S T : Nat → Prop) (D : Dv) (a b a2 b2 : Nat), j ≤ m ∧ j ≤ 40 ∧ iv = .int .i64 j ∧ Hid (D.n = 16) ∧ Env w wr S da D a b ∧ Env w wr T db D a2 b2 ∧ Hid (∀ k, S k → ¬ T k)) (fun i _ => 40 - (intOf i).toNat)
  case atStart => exact ⟨0, S0, T0, Dv.new 16, 0, 0, 0, 0, by omega, by omega, rfl, Lib.hid rfl, E0, F0, Lib.hid ap0⟩
  case round =>
    clear E0 F0 ap0
    obtain ⟨j, S, T, D, a, b, a2, b2, hj, hj4, rfl, hDn, E, F, ap⟩ := hrel
    by_cases hgo : j < m ∧ j < 40
    · obtain ⟨hjm, hj40⟩ := hgo
      have hjl : j < ops.length := by rw [Hm.out]; exact hjm
      obtain ⟨ad, rfl, hadB, hcell⟩ := hsl.op3 hjl
      have hft := Hfit.out _ (List.getElem_mem hjl)
      generalize ops[j] = o at *
      have hcw : ∀ k u, (o.cells)[k]? = some u → wr.cell? ((ad.add (j * 11)).add k) = some u := fun k u hu => by
        rw [E.fr.cell (by rw [block_add, block_add]; exact hadB) (fun e => e)]
        exact hcell k u hu
      obtain ⟨c0, c1, c2, c3, c4, c5, c6, c7, c8, c9, c10⟩ := op_cells hcw
      have hsecO := hft.sec
      clear hcell hcw hft c0 c10

      go_wp2
      have hap : ¬ S (ad.add (j * 11)).block := fun e => by have := E.new _ e; rw [block_add] at this; omega
      go_region_held3 (fun w' => w'.cell? ⟨(ad.add (j * 11)).block, (ad.add (j * 11)).off + 1, none⟩ = some (.int .i64 o.i) ∧ w'.cell? ⟨(ad.add (j * 11)).block, (ad.add (j * 11)).off + 2, none⟩ = some (.int .u64 o.s0) ∧ w'.cell? ⟨(ad.add (j * 11)).block, (ad.add (j * 11)).off + 3, none⟩ = some (.int .u64 o.s1) ∧ w'.cell? ⟨(ad.add (j * 11)).block, (ad.add (j * 11)).off + 4, none⟩ = some (.int .u64 o.s2) ∧ w'.cell? ⟨(ad.add (j * 11)).block, (ad.add (j * 11)).off + 5, none⟩ = some (.int .u64 o.s3) ∧ w'.cell? ⟨(ad.add (j * 11)).block, (ad.add (j * 11)).off + 6, none⟩ = some (.int .u64 o.s4) ∧ w'.cell? ⟨(ad.add (j * 11)).block, (ad.add (j * 11)).off + 7, none⟩ = some (.int .u64 o.s5) ∧ w'.cell? ⟨(ad.add (j * 11)).block, (ad.add (j * 11)).off + 8, none⟩ = some (.int .u64 o.s6) ∧ w'.cell? ⟨(ad.add (j * 11)).block, (ad.add (j * 11)).off + 9, none⟩ = some (.int .u64 o.s7))
        (first
          | go_keep
          | (refine ⟨?_, ?_, ?_, ?_, ?_, ?_, ?_, ?_, ?_⟩ <;> (refine cell_keepS hS'.fr hap ?_; assumption)))
        (first | (go_at_call 28; refine (dWrite_put o.i o.s0 o.s1 o.s2 o.s3 o.s4 o.s5 o.s6 o.s7 hsecO _ (E.dd.fr (Fr.refl _ _).drew (fun _ _ e => e))).mono ?_; rintro e w' ⟨x, S', a', rfl, hD', hS'⟩))

      have apS := step_apart hS' F.dd.lt (fun k hk e => ap.out k e hk)
      have E' := E.drew.step hD' ⟨hS'.fr, hS'.grow⟩
      have F' := F.drew.beside hS'.fr (fun k hk e => ap.out k e hk) E.new
      have hap0 : ¬ S (ad.add (j * 11)).block := hap
      have d1 := cell_keepS (p := ⟨(ad.add (j * 11)).block, (ad.add (j * 11)).off + 1, none⟩) hS'.fr hap0 c1
      have d2 := cell_keepS (p := ⟨(ad.add (j * 11)).block, (ad.add (j * 11)).off + 2, none⟩) hS'.fr hap0 c2
      have d3 := cell_keepS (p := ⟨(ad.add (j * 11)).block, (ad.add (j * 11)).off + 3, none⟩) hS'.fr hap0 c3
      have d4 := cell_keepS (p := ⟨(ad.add (j * 11)).block, (ad.add (j * 11)).off + 4, none⟩) hS'.fr hap0 c4
      have d5 := cell_keepS (p := ⟨(ad.add (j * 11)).block, (ad.add (j * 11)).off + 5, none⟩) hS'.fr hap0 c5
      have d6 := cell_keepS (p := ⟨(ad.add (j * 11)).block, (ad.add (j * 11)).off + 6, none⟩) hS'.fr hap0 c6
      have d7 := cell_keepS (p := ⟨(ad.add (j * 11)).block, (ad.add (j * 11)).off + 7, none⟩) hS'.fr hap0 c7
      have d8 := cell_keepS (p := ⟨(ad.add (j * 11)).block, (ad.add (j * 11)).off + 8, none⟩) hS'.fr hap0 c8
      have d9 := cell_keepS (p := ⟨(ad.add (j * 11)).block, (ad.add (j * 11)).off + 9, none⟩) hS'.fr hap0 c9
      have apS' := Lib.hid apS
      clear E F hD' hS' hap hap0 apS c1 c2 c3 c4 c5 c6 c7 c8 c9 ap
      go_wp2
      have hap : ¬ T (ad.add (j * 11)).block := fun e => by have := F'.new _ e; rw [block_add] at this; omega
      go_region_held3 (fun w' => w'.cell? ⟨(ad.add (j * 11)).block, (ad.add (j * 11)).off + 1, none⟩ = some (.int .i64 o.i) ∧ w'.cell? ⟨(ad.add (j * 11)).block, (ad.add (j * 11)).off + 2, none⟩ = some (.int .u64 o.s0) ∧ w'.cell? ⟨(ad.add (j * 11)).block, (ad.add (j * 11)).off + 3, none⟩ = some (.int .u64 o.s1) ∧ w'.cell? ⟨(ad.add (j * 11)).block, (ad.add (j * 11)).off + 4, none⟩ = some (.int .u64 o.s2) ∧ w'.cell? ⟨(ad.add (j * 11)).block, (ad.add (j * 11)).off + 5, none⟩ = some (.int .u64 o.s3) ∧ w'.cell? ⟨(ad.add (j * 11)).block, (ad.add (j * 11)).off + 6, none⟩ = some (.int .u64 o.s4) ∧ w'.cell? ⟨(ad.add (j * 11)).block, (ad.add (j * 11)).off + 7, none⟩ = some (.int .u64 o.s5) ∧ w'.cell? ⟨(ad.add (j * 11)).block, (ad.add (j * 11)).off + 8, none⟩ = some (.int .u64 o.s6) ∧ w'.cell? ⟨(ad.add (j * 11)).block, (ad.add (j * 11)).off + 9, none⟩ = some (.int .u64 o.s7))
        (first
          | go_keep
          | (refine ⟨?_, ?_, ?_, ?_, ?_, ?_, ?_, ?_, ?_⟩ <;> (refine cell_keepS hS'.fr hap ?_; assumption)))
        (first | (go_at_call 28; refine (dWrite_put o.i o.s0 o.s1 o.s2 o.s3 o.s4 o.s5 o.s6 o.s7 hsecO _ (F'.dd.fr (Fr.refl _ _).drew (fun _ _ e => e))).mono ?_; rintro e w' ⟨x2, T', a2', rfl, hD', hS'⟩))

      have apT := Lib.hid (step_apart hS' E'.dd.lt (fun k hk e => apS'.out k e hk))
      have F2 := F'.drew.step hD' ⟨hS'.fr, hS'.grow⟩
      have E2 := E'.drew.beside hS'.fr (fun k hk e => apS'.out k e hk) F'.new
      clear E' F' hD' hS' hap d1 d2 d3 d4 d5 d6 d7 d8 d9 apS'
      go_wp2
      go_roundw
      case rel => exact ⟨j + 1, S', T', _, a', b, a2', b2, by omega, by omega, by go_num, Lib.hid ((Dv.put_n _ _ _).trans hDn.out), E2, F2, apT⟩
      case measure => simp [intOf]; omega
    · have hcase : m ≤ j ∨ (j < m ∧ 40 ≤ j) := by omega
      clear hgo
      have HOk := Lib.hid E.dd.ok
      obtain ⟨ib, hib, hzb, hz1b, hz2b⟩ := info_parts info_bool
      rcases hcase with hcase | ⟨hc1, hc2⟩
      all_goals
        go_wp2_with fail
        refine (dSync_any wr E.dd).mono ?_
        rintro e w4 ⟨rfl, S4, hD4, hS4⟩
        have F4 := F.beside hS4.fr (fun k hk e => ap.out k e hk) E.new
        have ap4 := Lib.hid (step_apart hS4 F.dd.lt (fun k hk e => ap.out k e hk))
        have E4 := E.step hD4 hS4
        clear E F hD4 hS4 ap
        go_wp2
        go_loopw [8, 9] (fun av iv wr => ∃ (i : Nat) (B : Option Addr) (cb : Nat), i ≤ 16 ∧ iv = .int .i64 i ∧ av = .slice B i cb ∧ wr.ownsRow w4.heap.size 4 1 (.slice B i cb) i (bools (List.replicate i true)) ∧ Fr No w4 wr) (fun _ i _ => 16 - (intOf i).toNat)
        case atStart => exact ⟨0, none, 0, by omega, rfl, rfl, World.ownsRow_nil _ _ _ _, Fr.refl _ _⟩
        case round =>
          obtain ⟨i, B, cb, hi, rfl, rfl, hown, hfr⟩ := hrel
          by_cases hi16 : i < 16
          · go_wp2_with (at_builtin; refine wpList_append_one rfl _ _ _ rfl w4.heap.size 4 (.bool false) 1 Try.underlying60 info_bool rfl (.slice B i cb) i (bools (List.replicate i true)) (.bool true) rfl rfl wr.heap.size rfl rfl hown (by unfold maxLen; omega) (by omega) hfr.size ?rest)
            case rest =>
              intro B1 c1 w5 hown1 hf1 hg1
              go_wp2
              go_roundw
              case rel =>
                refine ⟨i + 1, B1, c1, by omega, by go_num, rfl, ?_, ?_⟩
                · have e : bools (List.replicate (i + 1) true) = bools (List.replicate i true) ++ [.bool true] := by simp [bools, List.replicate_succ']
                  rw [e]
                  exact hown1
                · exact hfr.trans' hf1 (fun k hk e => by have := hown.lt k e; omega)
              case measure => simp [intOf]; omega
          · obtain rfl : i = 16 := by omega
            have F5 := F4.quiet hfr
            have E5 := E4.quiet hfr
            have hslk : Sl wr wr.heap.size B (bools (List.replicate 16 true)) := Sl.ofOwn hown
            have hT4 : ∀ k, T k → k < w4.heap.size := F4.dd.lt
            clear F4 E4
            go_wp2_with fail
            refine (keeps_any (List.replicate 16 true) B 16 cb _ hslk rfl).mono ?_
            rintro e w6 ⟨kn, kl, rfl, hk, hkn, hkl, hf⟩
            have F6 := F5.quiet hf
            have hBB : ∀ adk, B = some adk → ¬ T adk.block := by
              intro adk e h
              subst e
              have h1 := (hown.lt adk.block rfl).1
              have := hT4 _ h
              omega
            go_wp2_with fail
            refine (dCrash_any kn kl B 16 cb (List.replicate 16 true) w6 F6.dd hk (fun e => by have := F5.dd.lt _ e; omega) (fun e => by have := F5.dd.lt _ e; omega) (fun adk e _ => hBB adk e) (by rw [hDn.out]; omega)).mono ?_
            rintro e w7 ⟨rfl, T7, hD7, hfr7, hg7⟩
            have hS7 := keepCrash hf hkn hfr7 hg7
            have E7 := E5.beside hS7.fr (fun k hk e => ap4.out k e hk) F5.new
            have ap7 := Lib.hid (step_apart hS7 E5.dd.lt (fun k hk e => ap4.out k e hk))
            have F7 := F5.step hD7 hS7
            have Hla : Hid (D.sync.la = D.rd) := Lib.hid rfl
            have Hn7 : Hid (D.sync.n = 16) := Lib.hid hDn.out
            generalize D.sync = D7 at *
            clear E5 F5 F6 hown hslk hT4 hf hkn hkl hk hBB hfr7 hg7 hD7 hS7 ap4 hfr
            go_wp2
            go_loopw [10] (fun iv wr => ∃ (j : Nat) (S : Nat → Prop) (D1 : Dv) (a b : Nat), j ≤ m2 ∧ j ≤ 40 ∧ iv = .int .i64 j ∧ Hid (D1.n = 16) ∧ Hid (D1.la = D.rd) ∧ Env w wr S da D1 a b ∧ Env w wr T7 db (D.crash (List.replicate 16 true)) a2 b2 ∧ Hid (∀ k, S k → ¬ T7 k)) (fun i _ => 40 - (intOf i).toNat)
            case atStart => exact ⟨0, S4, D7, _, _, by omega, by omega, rfl, Hn7, Hla, E7, F7, ap7⟩
            case round =>
              clear hj hj4 E7 F7 ap7 Hla Hn7
              obtain ⟨j, S, D1, a, b, hj, hj4, rfl, hD1n, hla, E, F, ap⟩ := hrel
              by_cases hgo : j < m2 ∧ j < 40
              · obtain ⟨hjm, hj40⟩ := hgo
                have hjl : j < ops2.length := by rw [Hm2.out]; exact hjm
                obtain ⟨ad, rfl, hadB, hcell⟩ := hsl2.op3 hjl
                have hft := Hfit2.out _ (List.getElem_mem hjl)
                generalize ops2[j] = o at *
                have hcw : ∀ k u, (o.cells)[k]? = some u → wr.cell? ((ad.add (j * 11)).add k) = some u := fun k u hu => by
                  rw [E.fr.cell (by rw [block_add, block_add]; exact hadB) (fun e => e)]
                  exact hcell k u hu
                obtain ⟨c0, c1, c2, c3, c4, c5, c6, c7, c8, c9, c10⟩ := op_cells hcw
                have hsecO := hft.sec
                clear hcell hcw hft c0 c10

                go_wp2
                have hap : ¬ S (ad.add (j * 11)).block := fun e => by have := E.new _ e; rw [block_add] at this; omega
                go_region_held3 (fun w' => w'.cell? ⟨(ad.add (j * 11)).block, (ad.add (j * 11)).off + 1, none⟩ = some (.int .i64 o.i) ∧ w'.cell? ⟨(ad.add (j * 11)).block, (ad.add (j * 11)).off + 2, none⟩ = some (.int .u64 o.s0) ∧ w'.cell? ⟨(ad.add (j * 11)).block, (ad.add (j * 11)).off + 3, none⟩ = some (.int .u64 o.s1) ∧ w'.cell? ⟨(ad.add (j * 11)).block, (ad.add (j * 11)).off + 4, none⟩ = some (.int .u64 o.s2) ∧ w'.cell? ⟨(ad.add (j * 11)).block, (ad.add (j * 11)).off + 5, none⟩ = some (.int .u64 o.s3) ∧ w'.cell? ⟨(ad.add (j * 11)).block, (ad.add (j * 11)).off + 6, none⟩ = some (.int .u64 o.s4) ∧ w'.cell? ⟨(ad.add (j * 11)).block, (ad.add (j * 11)).off + 7, none⟩ = some (.int .u64 o.s5) ∧ w'.cell? ⟨(ad.add (j * 11)).block, (ad.add (j * 11)).off + 8, none⟩ = some (.int .u64 o.s6) ∧ w'.cell? ⟨(ad.add (j * 11)).block, (ad.add (j * 11)).off + 9, none⟩ = some (.int .u64 o.s7))
                  (first
                    | go_keep
                    | (refine ⟨?_, ?_, ?_, ?_, ?_, ?_, ?_, ?_, ?_⟩ <;> (refine cell_keepS hS'.fr hap ?_; assumption)))
                  (first | (go_at_call 28; refine (dWrite_put o.i o.s0 o.s1 o.s2 o.s3 o.s4 o.s5 o.s6 o.s7 hsecO _ (E.dd.fr (Fr.refl _ _).drew (fun _ _ e => e))).mono ?_; rintro e w' ⟨x, S', a', rfl, hD', hS'⟩))

                have apS := Lib.hid (fun k (hk : S' k) (e : T7 k) => step_apart hS' F.dd.lt (fun k hk e => ap.out k e hk) k e hk)
                have E' := E.drew.step hD' ⟨hS'.fr, hS'.grow⟩
                have F' := F.drew.beside hS'.fr (fun k hk e => ap.out k e hk) E.new
                have HL : Hid ((D1.put o.i [o.s0, o.s1, o.s2, o.s3, o.s4, o.s5, o.s6, o.s7]).la = D.rd) := Lib.hid (by rw [Dv.put_la]; exact hla.out)
                clear E F hD' hS' hap c1 c2 c3 c4 c5 c6 c7 c8 c9 ap
                go_wp2
                go_roundw
                case rel => exact ⟨j + 1, S', _, a', b, by omega, by omega, by go_num, Lib.hid ((Dv.put_n _ _ _).trans hD1n.out), HL, E', F', apS⟩
                case measure => simp [intOf]; omega
              · have hcase2 : m2 ≤ j ∨ (j < m2 ∧ 40 ≤ j) := by omega
                clear hgo
                rcases hcase2 with hcase2 | ⟨hc3, hc4⟩
                all_goals
                  go_wp2_with fail
                  refine (keeps_any [] none 0 0 _ (Sl.nil _ _ _) rfl).mono ?_
                  rintro e w8 ⟨kn, kl, rfl, hk, hkn, hkl, hf⟩
                  have E8 := E.quiet hf
                  go_wp2_with fail
                  refine (dCrash_any kn kl none 0 0 [] w8 E8.dd hk (fun e => by have := E.dd.lt _ e; omega) (fun e => by have := E.dd.lt _ e; omega) (fun _ e => by cases e) (by rw [hD1n.out]; omega)).mono ?_
                  rintro e w9 ⟨rfl, S9, hD9, hfr9, hg9⟩
                  have hS9 := keepCrash hf hkn hfr9 hg9
                  have F9 := F.beside hS9.fr (fun k hk e => ap.out k e hk) E.new
                  have E9 := E.step hD9 hS9
                  clear E F E8 hf hkn hkl hk hfr9 hg9 hD9 hS9 ap
                  go_wp2
                  go_loopw [11] (fun iv wr => ∃ i : Nat, i ≤ 16 ∧ iv = .int .i64 i ∧ Fr No w9 wr) (fun i _ => 16 - (intOf i).toNat)
                  case atStart => exact ⟨0, by omega, rfl, Fr.refl _ _⟩
                  case round =>
                    obtain ⟨i, hi, rfl, hfr⟩ := hrel
                    have E := E9.quiet hfr
                    have F := F9.quiet hfr
                    by_cases hi16 : i < 16
                    · have hin : i < (D1.crash []).n := by show i < D1.n; rw [hD1n.out]; exact hi16
                      have hin2 : i < (D.crash (List.replicate 16 true)).n := by show i < D.n; rw [hDn.out]; exact hi16
                      have hin3 : i < D.n := by rw [hDn.out]; exact hi16
                      obtain ⟨x0, x1, x2, x3, x4, x5, x6, x7, hx⟩ := sec_lit (HOk.out.rd i hin3)
                      have hy := (crash_all D HOk.out (by rw [hDn.out]; omega) i hin3).trans hx
                      have hz : (D1.crash []).rd i = [x0, x1, x2, x3, x4, x5, x6, x7] := by rw [crash_none, hla.out]; exact hx
                      have Hy := Lib.hid hy
                      have Hz := Lib.hid hz
                      clear hx hy hz
                      go_wp2_with fail
                      refine (dRead_yes (D := D1.crash []) i hin x0 x1 x2 x3 x4 x5 x6 x7 Hz.out wr E.dd).mono ?_
                      rintro e w10 ⟨rfl, hf9⟩
                      have F10 := (F.quiet hf9).alloc (.cells #[.int .u64 x0, .int .u64 x1, .int .u64 x2, .int .u64 x3, .int .u64 x4, .int .u64 x5, .int .u64 x6, .int .u64 x7] 48)
                      have X10 := Bk.made w10 48 #[.int .u64 x0, .int .u64 x1, .int .u64 x2, .int .u64 x3, .int .u64 x4, .int .u64 x5, .int .u64 x6, .int .u64 x7]
                      have g10 := (hfr.trans' hf9 (fun _ _ e => e)).alloc (.cells #[.int .u64 x0, .int .u64 x1, .int .u64 x2, .int .u64 x3, .int .u64 x4, .int .u64 x5, .int .u64 x6, .int .u64 x7] 48)
                      clear E F hf9 hfr
                      go_wp2_with fail
                      refine (dRead_yes (D := D.crash (List.replicate 16 true)) i hin2 x0 x1 x2 x3 x4 x5 x6 x7 Hy.out _ F10.dd).mono ?_
                      rintro e w11 ⟨rfl, hf10⟩
                      generalize w10.heap.size = vx at *
                      have X11 := (X10.fr hf10 (fun e => e)).alloc (.cells #[.int .u64 x0, .int .u64 x1, .int .u64 x2, .int .u64 x3, .int .u64 x4, .int .u64 x5, .int .u64 x6, .int .u64 x7] 48)
                      have g11 := (g10.trans' hf10 (fun _ _ e => e)).alloc (.cells #[.int .u64 x0, .int .u64 x1, .int .u64 x2, .int .u64 x3, .int .u64 x4, .int .u64 x5, .int .u64 x6, .int .u64 x7] 48)
                      clear F10 X10 g10 hf10
                      have u0 := X11.cell 0
                      have u1 := X11.cell 1
                      have u2 := X11.cell 2
                      have u3 := X11.cell 3
                      have u4 := X11.cell 4
                      have u5 := X11.cell 5
                      have u6 := X11.cell 6
                      have u7 := X11.cell 7

                      go_wp2
                      go_roundw
                      case rel => exact ⟨i + 1, by omega, by go_num, g11⟩
                      case measure => simp [intOf]; omega
                    · have TE := E.fr
                      clear E F
                      go_wp2
                      go_ret
                      exact ⟨rfl, TE⟩
end Go.Proofs.Ythipcfdmkkfofaa
