/- Writes of ops that came in; the law 'DiskLasts'. -/
import Derived.Test.YthipcfdmkkfofaaPlays3
namespace Go.Proofs.Ythipcfdmkkfofaa
open Go.RowKit

/-- Written, if there is such a sector. -/
def Dv.put (D : Dv) (I : Int) (s : List Nat) : Dv := if 0 ≤ I ∧ I < D.n then D.write I.toNat s else D
theorem Dv.put_n (D : Dv) (I : Int) (s : List Nat) : (D.put I s).n = D.n := by
  unfold Dv.put
  split <;> rfl
theorem Dv.put_la (D : Dv) (I : Int) (s : List Nat) : (D.put I s).la = D.la := by
  unfold Dv.put
  split <;> rfl
theorem Dv.put_other (D : Dv) (I : Int) (s : List Nat) (k : Nat) (h : I ≠ k) : (D.put I s).rd k = D.rd k ∧ (D.put I s).di k = D.di k := by
  unfold Dv.put
  split
  · next h1 =>
    have : k ≠ I.toNat := by omega
    exact ⟨upd_other _ _ _ _ this, upd_other _ _ _ _ this⟩
  · exact ⟨rfl, rfl⟩
def Op3.sec (o : Op3) : List Nat := [o.s0, o.s1, o.s2, o.s3, o.s4, o.s5, o.s6, o.s7]
theorem dWrite_put {S : Nat → Prop} {d a b : Nat} {D : Dv} (i : Int) (s0 s1 s2 s3 s4 s5 s6 s7 : Nat) (hs : Sec [s0, s1, s2, s3, s4, s5, s6, s7]) (w : World) (h : DD w S d D a b) :
    Calls Try.prog 28 #[.pointer (some ⟨d, 0, none⟩), .int .i64 i, .agg #[.int .u64 s0, .int .u64 s1, .int .u64 s2, .int .u64 s3, .int .u64 s4, .int .u64 s5, .int .u64 s6, .int .u64 s7]] w fun e w' =>
      ∃ x S' a', e = .returned (.int .i64 x) ∧ DD w' S' d (D.put i [s0, s1, s2, s3, s4, s5, s6, s7]) a' b ∧ Step S S' w w' := by
  by_cases hi : 0 ≤ i ∧ i < D.n
  · obtain ⟨I, rfl⟩ := Int.eq_ofNat_of_zero_le hi.1
    refine (dWrite_yes I (by omega) s0 s1 s2 s3 s4 s5 s6 s7 hs w h).mono ?_
    rintro e w' ⟨rfl, S', h1, h2⟩
    refine ⟨0, S', a + 1, rfl, ?_, h2⟩
    unfold Dv.put
    rw [if_pos hi]
    exact h1
  · refine (dWrite_no i (by omega) _ w h).mono ?_
    rintro e w' ⟨rfl, h1⟩
    refine ⟨3, S, a, rfl, ?_, ⟨h1.weak (fun _ _ e => e.elim), fun k hk => .inl hk⟩⟩
    unfold Dv.put
    rw [if_neg hi]
    exact h.fr h1 (fun _ _ e => e)
theorem cell_keepS {S : Nat → Prop} {w w' : World} (hf : Fr S w.drew w') {p : Addr} {v : Value} (hp : ¬ S p.block) (h : w.cell? p = some v) : w'.cell? p = some v :=
  (hf.cell (World.block_lt_of_cell? w _ h) hp).trans h

set_option maxRecDepth 100000 in
set_option maxHeartbeats 8000000 in
theorem lasts_any (ops : List Op3) (m : Nat) (A : Option Addr) (c : Nat) (i : Nat) (hi : i < 256) (s0 s1 s2 s3 s4 s5 s6 s7 : Nat) (hsec : Sec [s0, s1, s2, s3, s4, s5, s6, s7]) (ops2 : List Op3) (m2 : Nat) (A2 : Option Addr) (c2 : Nat) (keep : List Bool) (mk : Nat) (Ak : Option Addr) (ck : Nat) (w : World)
    (hm : ops.length = m) (hsl : Sl w w.heap.size A (ops.flatMap Op3.cells)) (hfit : ∀ o ∈ ops, o.Fit w w.heap.size) (hml : m ≤ 9223372036854775807)
    (hm2 : ops2.length = m2) (hsl2 : Sl w w.heap.size A2 (ops2.flatMap Op3.cells)) (hfit2 : ∀ o ∈ ops2, o.Fit w w.heap.size) (hml2 : m2 ≤ 9223372036854775807)
    (hmk : keep.length = mk) (hslk : Sl w w.heap.size Ak (bools keep)) :
    Calls Try.prog 7 #[.slice A m c, .int .u8 i, .agg #[.int .u64 s0, .int .u64 s1, .int .u64 s2, .int .u64 s3, .int .u64 s4, .int .u64 s5, .int .u64 s6, .int .u64 s7], .slice A2 m2 c2, .slice Ak mk ck] w fun e w' => e = .returned (.bool true) ∧ Fr No w w' := by
  have q8 := eq8
  have Hm := Lib.hid hm
  have Hfit := Lib.hid hfit
  have Hm2 := Lib.hid hm2
  have Hfit2 := Lib.hid hfit2
  have Hmk := Lib.hid hmk
  clear hm hfit hm2 hfit2 hmk
  go_enter Try.func7, Try.ntmps7
  go_wp2_with fail
  refine (alive3_any _).mono ?_
  rintro e w1 ⟨rfl, hf⟩
  have g1 := ((Fr.refl No w).alloc (.cells #[.int .u64 s0, .int .u64 s1, .int .u64 s2, .int .u64 s3, .int .u64 s4, .int .u64 s5, .int .u64 s6, .int .u64 s7] 48)).trans' hf (fun _ _ e => e)
  have v1 := (Bk.made w 48 #[.int .u64 s0, .int .u64 s1, .int .u64 s2, .int .u64 s3, .int .u64 s4, .int .u64 s5, .int .u64 s6, .int .u64 s7]).fr hf (fun e => e)
  clear hf
  generalize w.heap.size = v at v1 ⊢
  go_wp2_with fail
  refine (dNew_yes 16 (by omega) (by omega) w1).mono ?_
  rintro e w2 ⟨S0, d, rfl, hD0, hS0⟩
  have E0 := Env.begin g1 hD0 hS0
  have V0 : Lv w2 S0 v 48 #[.int .u64 s0, .int .u64 s1, .int .u64 s2, .int .u64 s3, .int .u64 s4, .int .u64 s5, .int .u64 s6, .int .u64 s7] := ⟨v1.fr hS0.fr (fun e => e), hS0.out v1.lt (fun e => e)⟩
  clear g1 v1 hD0 hS0
  go_wp2
  go_loopw [12] (fun iv wr => ∃ (j : Nat) (S : Nat → Prop) (D : Dv) (a b : Nat), j ≤ m ∧ j ≤ 40 ∧ iv = .int .i64 j ∧ Hid (D.n = 16) ∧ Env w wr S d D a b ∧ Lv wr S v 48 #[.int .u64 s0, .int .u64 s1, .int .u64 s2, .int .u64 s3, .int .u64 s4, .int .u64 s5, .int .u64 s6, .int .u64 s7]) (fun i _ => 40 - (intOf i).toNat)
  case atStart => exact ⟨0, S0, Dv.new 16, 0, 0, by omega, by omega, rfl, Lib.hid rfl, E0, V0⟩
  case round =>
    obtain ⟨j, S, D, a, b, hj, hj4, rfl, hDn, E, V⟩ := hrel
    have hstop : ¬ (j < m ∧ j < 40) → Hid (¬ (j < m ∧ j < 40)) := fun h => Lib.hid h
    by_cases hgo : j < m ∧ j < 40
    · obtain ⟨hjm, hj40⟩ := hgo
      have hjl : j < ops.length := by rw [Hm.out]; exact hjm
      obtain ⟨ad, rfl, hadB, hcell⟩ := hsl.op3 hjl
      have hft := Hfit.out _ (List.getElem_mem hjl)
      generalize ops[j] = o at *
      have hcw : ∀ k u, (o.cells)[k]? = some u → wr.cell? ((ad.add (j * 11)).add k) = some u := fun k u hu => by
        rw [E.fr.cell (by rw [block_add, block_add]; exact hadB) (fun e => e)]
        exact hcell k u hu
      obtain ⟨c0, c1, c2, c3, c4, c5, c6, c7, c8, c9, c10⟩ := op_cells hcw
      have hsecO := hft.sec
      clear hcell hcw hft c0 c10

      go_wp2
      have hap : ¬ S (ad.add (j * 11)).block := fun e => by have := E.new _ e; rw [block_add] at this; omega
      go_region_held3 (fun w' => w'.cell? ⟨(ad.add (j * 11)).block, (ad.add (j * 11)).off + 1, none⟩ = some (.int .i64 o.i) ∧ w'.cell? ⟨(ad.add (j * 11)).block, (ad.add (j * 11)).off + 2, none⟩ = some (.int .u64 o.s0) ∧ w'.cell? ⟨(ad.add (j * 11)).block, (ad.add (j * 11)).off + 3, none⟩ = some (.int .u64 o.s1) ∧ w'.cell? ⟨(ad.add (j * 11)).block, (ad.add (j * 11)).off + 4, none⟩ = some (.int .u64 o.s2) ∧ w'.cell? ⟨(ad.add (j * 11)).block, (ad.add (j * 11)).off + 5, none⟩ = some (.int .u64 o.s3) ∧ w'.cell? ⟨(ad.add (j * 11)).block, (ad.add (j * 11)).off + 6, none⟩ = some (.int .u64 o.s4) ∧ w'.cell? ⟨(ad.add (j * 11)).block, (ad.add (j * 11)).off + 7, none⟩ = some (.int .u64 o.s5) ∧ w'.cell? ⟨(ad.add (j * 11)).block, (ad.add (j * 11)).off + 8, none⟩ = some (.int .u64 o.s6) ∧ w'.cell? ⟨(ad.add (j * 11)).block, (ad.add (j * 11)).off + 9, none⟩ = some (.int .u64 o.s7))
        (first
          | go_keep
          | (refine ⟨?_, ?_, ?_, ?_, ?_, ?_, ?_, ?_, ?_⟩ <;> (refine cell_keepS hS'.fr hap ?_; assumption)))
        (first | (go_at_call 28; refine (dWrite_put o.i o.s0 o.s1 o.s2 o.s3 o.s4 o.s5 o.s6 o.s7 hsecO _ (E.dd.fr (Fr.refl _ _).drew (fun _ _ e => e))).mono ?_; rintro e w' ⟨x, S', a', rfl, hD', hS'⟩))

      have E' := E.drew.step hD' ⟨hS'.fr, hS'.grow⟩
      have V' := V.drew.step hS'
      clear E V hD' hS' hap
      go_wp2
      go_roundw
      case rel => exact ⟨j + 1, S', _, a', b, by omega, by omega, by go_num, Lib.hid ((Dv.put_n _ _ _).trans hDn.out), E', V'⟩
      case measure => simp [intOf]; omega
    · have hgo' : j < m → ¬ j < 40 := fun h1 h2 => hgo ⟨h1, h2⟩
      obtain ⟨l0, l1, l2, l3, l4, l5, l6, l7⟩ := lv8 V
      obtain ⟨t, Ht⟩ : ∃ t, Hid (t = i % 16) := ⟨_, Lib.hid rfl⟩
      have ht16 : t < 16 := by rw [Ht.out]; omega
      have et : (i : Int) % 16 = (t : Int) := by rw [Ht.out]; rfl
      have htn : t < D.n := by rw [hDn.out]; exact ht16
      have HS : Hid (Sec [s0, s1, s2, s3, s4, s5, s6, s7]) := Lib.hid hsec
      have hcase : m ≤ j ∨ (j < m ∧ 40 ≤ j) := by omega
      clear hgo hstop hgo' V0 E0 hsec
      rcases hcase with hcase | ⟨hc1, hc2⟩
      all_goals
        go_wp2_with fail
        refine (dWrite_yes t htn s0 s1 s2 s3 s4 s5 s6 s7 HS.out wr E.dd).mono ?_
        rintro e w4 ⟨rfl, S4, hD4, hS4⟩
        have E4 := E.step hD4 hS4
        have V4 := V.step hS4
        clear E V hD4 hS4 l0 l1 l2 l3 l4 l5 l6 l7
        go_wp2_with fail
        refine (dSync_any w4 E4.dd).mono ?_
        rintro e w5 ⟨rfl, S5, hD5, hS5⟩
        have E5 := E4.step hD5 hS5
        have V5 := V4.step hS5
        clear E4 V4 hD5 hS5
        have Hla : Hid ((D.write t [s0, s1, s2, s3, s4, s5, s6, s7]).sync.la t = [s0, s1, s2, s3, s4, s5, s6, s7]) := Lib.hid (upd_same _ _ _)
        have Hn5 : Hid ((D.write t [s0, s1, s2, s3, s4, s5, s6, s7]).sync.n = 16) := Lib.hid hDn.out
        have Hd5 : Hid ((D.write t [s0, s1, s2, s3, s4, s5, s6, s7]).sync.di t = false) := Lib.hid rfl
        generalize (D.write t [s0, s1, s2, s3, s4, s5, s6, s7]).sync = D5 at *
        go_wp2
        go_loopw [14] (fun iv wr => ∃ (j : Nat) (S : Nat → Prop) (D : Dv) (a b : Nat), j ≤ m2 ∧ j ≤ 40 ∧ iv = .int .i64 j ∧ Hid (D.n = 16) ∧ Hid (D.la t = [s0, s1, s2, s3, s4, s5, s6, s7]) ∧ Hid (D.di t = false) ∧ Env w wr S d D a b ∧ Lv wr S v 48 #[.int .u64 s0, .int .u64 s1, .int .u64 s2, .int .u64 s3, .int .u64 s4, .int .u64 s5, .int .u64 s6, .int .u64 s7]) (fun i _ => 40 - (intOf i).toNat)
        case atStart => exact ⟨0, S5, D5, _, _, by omega, by omega, rfl, Hn5, Hla, Hd5, E5, V5⟩
        case round =>
          clear hj hj4 hDn htn Hla Hn5 Hd5 E5 V5
          obtain ⟨j, S, D, a, b, hj, hj4, rfl, hDn, hla, hdi, E, V⟩ := hrel
          by_cases hgo : j < m2 ∧ j < 40
          · obtain ⟨hjm, hj40⟩ := hgo
            have hjl : j < ops2.length := by rw [Hm2.out]; exact hjm
            obtain ⟨ad, rfl, hadB, hcell⟩ := hsl2.op3 hjl
            have hft := Hfit2.out _ (List.getElem_mem hjl)
            generalize ops2[j] = o at *
            have hcw : ∀ k u, (o.cells)[k]? = some u → wr.cell? ((ad.add (j * 11)).add k) = some u := fun k u hu => by
              rw [E.fr.cell (by rw [block_add, block_add]; exact hadB) (fun e => e)]
              exact hcell k u hu
            obtain ⟨c0, c1, c2, c3, c4, c5, c6, c7, c8, c9, c10⟩ := op_cells hcw
            have hsecO := hft.sec
            clear hcell hcw hft c0 c10

            by_cases hit : o.i = (t : Int)
            · have eb : (o.i != (t : Int)) = false := by simp [hit]
              clear hit
              go_wp2
              go_roundw
              case rel => exact ⟨j + 1, S, D, a, b, by omega, by omega, by go_num, hDn, hla, hdi, E, V⟩
              case measure => simp [intOf]; omega
            · have eb : (o.i != (t : Int)) = true := by simp [hit]
              have Hit := Lib.hid hit
              clear hit
              go_wp2
              have hap : ¬ S (ad.add (j * 11)).block := fun e => by have := E.new _ e; rw [block_add] at this; omega
              go_region_held3 (fun w' => w'.cell? ⟨(ad.add (j * 11)).block, (ad.add (j * 11)).off + 1, none⟩ = some (.int .i64 o.i) ∧ w'.cell? ⟨(ad.add (j * 11)).block, (ad.add (j * 11)).off + 2, none⟩ = some (.int .u64 o.s0) ∧ w'.cell? ⟨(ad.add (j * 11)).block, (ad.add (j * 11)).off + 3, none⟩ = some (.int .u64 o.s1) ∧ w'.cell? ⟨(ad.add (j * 11)).block, (ad.add (j * 11)).off + 4, none⟩ = some (.int .u64 o.s2) ∧ w'.cell? ⟨(ad.add (j * 11)).block, (ad.add (j * 11)).off + 5, none⟩ = some (.int .u64 o.s3) ∧ w'.cell? ⟨(ad.add (j * 11)).block, (ad.add (j * 11)).off + 6, none⟩ = some (.int .u64 o.s4) ∧ w'.cell? ⟨(ad.add (j * 11)).block, (ad.add (j * 11)).off + 7, none⟩ = some (.int .u64 o.s5) ∧ w'.cell? ⟨(ad.add (j * 11)).block, (ad.add (j * 11)).off + 8, none⟩ = some (.int .u64 o.s6) ∧ w'.cell? ⟨(ad.add (j * 11)).block, (ad.add (j * 11)).off + 9, none⟩ = some (.int .u64 o.s7))
                (first
                  | go_keep
                  | (refine ⟨?_, ?_, ?_, ?_, ?_, ?_, ?_, ?_, ?_⟩ <;> (refine cell_keepS hS'.fr hap ?_; assumption)))
                (first | (go_at_call 28; refine (dWrite_put o.i o.s0 o.s1 o.s2 o.s3 o.s4 o.s5 o.s6 o.s7 hsecO _ (E.dd.fr (Fr.refl _ _).drew (fun _ _ e => e))).mono ?_; rintro e w' ⟨x, S', a', rfl, hD', hS'⟩))

              have E' := E.drew.step hD' ⟨hS'.fr, hS'.grow⟩
              have V' := V.drew.step hS'
              have po := Dv.put_other D o.i [o.s0, o.s1, o.s2, o.s3, o.s4, o.s5, o.s6, o.s7] t Hit.out
              have HP : Hid ((D.put o.i [o.s0, o.s1, o.s2, o.s3, o.s4, o.s5, o.s6, o.s7]).di t = false) := Lib.hid (po.2.trans hdi.out)
              have HQ : Hid ((D.put o.i [o.s0, o.s1, o.s2, o.s3, o.s4, o.s5, o.s6, o.s7]).la t = [s0, s1, s2, s3, s4, s5, s6, s7]) := Lib.hid (by rw [Dv.put_la]; exact hla.out)
              clear E V hD' hS' hap po
              go_wp2
              go_roundw
              case rel => exact ⟨j + 1, S', _, a', b, by omega, by omega, by go_num, Lib.hid ((Dv.put_n _ _ _).trans hDn.out), HQ, HP, E', V'⟩
              case measure => simp [intOf]; omega
          · have hgo' : j < m2 → ¬ j < 40 := fun h1 h2 => hgo ⟨h1, h2⟩
            have hcase2 : m2 ≤ j ∨ (j < m2 ∧ 40 ≤ j) := by omega
            have htn : t < D.n := by rw [hDn.out]; exact ht16
            have hrd : Hid ((D.crash keep).rd t = [s0, s1, s2, s3, s4, s5, s6, s7]) := Lib.hid (by
              show D.after keep t = _
              unfold Dv.after kept
              rw [hdi.out]
              simp only [Bool.false_and, Bool.false_eq_true, if_false]
              exact hla.out)
            have hdirty : Hid ((D.crash keep).dirty.length = 0) := Lib.hid (by
              have : (D.crash keep).dirty = [] := by
                unfold Dv.dirty
                exact List.filter_eq_nil_iff.2 (fun x _ => by show ¬ (false = true); simp)
              rw [this]
              rfl)
            have hapk : Hid (∀ adk, Ak = some adk → keep ≠ [] → adk.block < w.heap.size) := Lib.hid (by
              intro adk e hne
              obtain ⟨ad', e', hb', _⟩ := hslk (by simpa [bools] using hne)
              rw [e] at e'
              injection e' with e'
              subst e'
              exact hb')
            clear hgo hgo'
            rcases hcase2 with hcase2 | ⟨hc3, hc4⟩
            all_goals
              go_wp2_with fail
              refine (keeps_any keep Ak mk ck _ (hslk.since E.fr) Hmk.out).mono ?_
              rintro e w6 ⟨kn, kl, rfl, hk, hkn, hkl, hf⟩
              have E6 := E.quiet hf
              go_wp2_with fail
              refine (dCrash_any kn kl Ak mk ck keep w6 E6.dd hk (fun e => by have := E.dd.lt _ e; omega) (fun e => by have := E.dd.lt _ e; omega) (fun adk e hne h => by have := hapk.out adk e hne; have := E.new _ h; omega) (by rw [hDn.out]; omega)).mono ?_
              rintro e w7 ⟨rfl, S7, hD7, hfr7, hg7⟩
              have hS7 := keepCrash hf hkn hfr7 hg7
              have E7 := E.step hD7 hS7
              have V7 := V.step hS7
              clear E V E6 hf hkn hkl hk hfr7 hg7 hD7 hS7
              go_wp2_with fail
              refine (dRead_yes (D := D.crash keep) t htn s0 s1 s2 s3 s4 s5 s6 s7 hrd.out w7 E7.dd).mono ?_
              rintro e w8 ⟨rfl, hf⟩
              have E8 := E7.quiet hf
              obtain ⟨l0, l1, l2, l3, l4, l5, l6, l7⟩ := lv8 ((V7.quiet hf).alloc (.cells #[.int .u64 s0, .int .u64 s1, .int .u64 s2, .int .u64 s3, .int .u64 s4, .int .u64 s5, .int .u64 s6, .int .u64 s7] 48))
              clear E7 V7 hf
              go_wp2_with fail
              refine (dDirty_any _ (E8.alloc _).dd).mono ?_
              rw [hdirty.out]
              rintro e w9 ⟨A9, c9, rfl, -, hf⟩
              go_wp2
              go_ret
              exact ⟨rfl, (E8.fr.alloc _).trans' hf (fun _ _ e => e)⟩
end Go.Proofs.Ythipcfdmkkfofaa
