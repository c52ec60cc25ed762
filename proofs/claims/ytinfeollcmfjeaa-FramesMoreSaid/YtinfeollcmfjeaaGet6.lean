/- The document's own frames: Get. -/
import Derived.Test.YtinfeollcmfjeaaRef6
namespace Go.Proofs.Ytinfeollcmfjeaa
open Go.RowKit

theorem cell_keep6 {w w' : World} (hf : Fr No w.drew w') {p : Addr} {v : Value} (h : w.cell? p = some v) : w'.cell? p = some v :=
  (hf.cell (p := p) (World.block_lt_of_cell? w p h) (fun e => e)).trans h
/-- What Get answers. -/
def GotF (w : World) (r : Option (Frm × Nat)) (e : Ending) (w' : World) : Prop :=
  ∃ (x : FrV) (k : Nat), e = .returned (.tuple #[x.agg, .int .i64 k, .bool r.isSome]) ∧ Fr No w w' ∧ x.Fit w' w'.heap.size ∧ (∀ ad, x.A = some ad → x.ws ≠ [] → w.heap.size ≤ ad.block) ∧ (r.getD (⟨0, []⟩, 0)) = (x.f, k)
theorem GotF.none {w w' : World} (h : Fr No w w') : GotF w none (.returned (.tuple #[.agg #[.int .i64 0, .slice none 0 0], .int .i64 0, .bool false])) w' :=
  ⟨⟨0, Option.none, [], 0⟩, 0, rfl, h, ⟨by simp, by simp, Sl.nil _ _ _, by simp, by simp, by simp⟩, by simp, rfl⟩

set_option maxRecDepth 100000 in
set_option maxHeartbeats 4000000 in
theorem refGet_any (ep n : Int) (l : List Nat) (h64 : ∀ u ∈ l, u < 18446744073709551616) (m : Nat) (A : Option Addr) (c : Nat) (w : World) (h : Sl w w.heap.size A (u64s l)) (hm : l.length = m) (hmc : m ≤ c) (hlen : c ≤ maxLen) :
    Calls Try.prog 17 #[.int .i64 ep, .int .i64 n, .slice A m c] w (GotF w (getF ep n l)) := by
  have Hlen := Lib.hid hlen
  clear hlen
  cases l with
  | nil =>
    obtain rfl : 0 = m := hm
    go_enter Try.func17, Try.ntmps17
    go_wp2
    refine bodyPost_ret (v := .tuple #[.agg #[.int .i64 0, .slice none 0 0], .int .i64 0, .bool false]) (by simp [results, Try.results17, go_sem]) rfl ?_
    exact GotF.none ((Fr.refl _ w).alloc _)
  | cons u r =>
    obtain ⟨ad, rfl, hadB, hc⟩ := h.wordB (show 0 < (u :: r).length by simp)
    have hc0 : w.cell? ad = some (.int .u64 u) := hc
    clear hc
    have hu := h64 u (by simp)
    obtain ⟨q, rfl⟩ : ∃ q, m = q + 1 := ⟨r.length, by simpa using hm.symm⟩
    have Hq : Hid (r.length = q) := Lib.hid (by simpa using hm)
    clear hm
    by_cases hE : numOk ep = true
    · by_cases hN : numOk n = true
      · have hW : (w.alloc (.cells #[.int .i64 0, .slice none 0 0] 24)).cell? ad = some (.int .u64 u) := (((Fr.refl No w).alloc _).cell (p := ad) hadB (fun e => e)).trans hc0
        have hk1 : u / 72057594037927936 ≤ 255 := by omega
        have hn1 : u / 4294967296 % 16777216 ≤ 16777215 := by omega
        by_cases g1 : u / 72057594037927936 = 0
        · have Hr : Hid (getF ep n (u :: r) = none) := Lib.hid (getF_no (fun c => c.1 g1))
          rw [Hr.out]
          have g1' : decide ((u : Int) / 72057594037927936 = 0) = true := by simp; omega
          go_enter Try.func17, Try.ntmps17
          go_wp2_with (go_at_call 11; refine (refNumber_any _ _).mono ?_; rintro e w' ⟨rfl, rfl⟩)
          go_region
          go_wp2
          refine bodyPost_ret (v := .tuple #[.agg #[.int .i64 0, .slice none 0 0], .int .i64 0, .bool false]) (by simp [results, Try.results17, go_sem]) rfl ?_
          exact GotF.none ((Fr.refl _ w).alloc _).drew
        · have g1' : decide ((u : Int) / 72057594037927936 = 0) = false := by simp; omega
          by_cases g2 : 2000 < u / 4294967296 % 16777216
          · have Hr : Hid (getF ep n (u :: r) = none) := Lib.hid (getF_no (fun c => by have := c.2.1; omega))
            rw [Hr.out]
            have g2' : decide (2000 < (u : Int) / 4294967296 % 16777216) = true := by simp; omega
            go_enter Try.func17, Try.ntmps17
            go_wp2_with (go_at_call 11; refine (refNumber_any _ _).mono ?_; rintro e w' ⟨rfl, rfl⟩)
            go_region
            go_wp2
            refine bodyPost_ret (v := .tuple #[.agg #[.int .i64 0, .slice none 0 0], .int .i64 0, .bool false]) (by simp [results, Try.results17, go_sem]) rfl ?_
            exact GotF.none ((Fr.refl _ w).alloc _).drew
          · have g2' : decide (2000 < (u : Int) / 4294967296 % 16777216) = false := by simp; omega
            by_cases g3 : q < u / 4294967296 % 16777216
            · have Hr : Hid (getF ep n (u :: r) = none) := Lib.hid (getF_no (fun c => by have := c.2.2; have := Hq.out; omega))
              rw [Hr.out]
              have g3' : decide ((q : Int) < (u : Int) / 4294967296 % 16777216) = true := by simp; omega
              go_enter Try.func17, Try.ntmps17
              go_wp2_with (go_at_call 11; refine (refNumber_any _ _).mono ?_; rintro e w' ⟨rfl, rfl⟩)
              go_region
              go_wp2
              refine bodyPost_ret (v := .tuple #[.agg #[.int .i64 0, .slice none 0 0], .int .i64 0, .bool false]) (by simp [results, Try.results17, go_sem]) rfl ?_
              exact GotF.none ((Fr.refl _ w).alloc _).drew
            · obtain ⟨K, M, HK, HM⟩ : ∃ K M : Nat, Hid (K = u / 72057594037927936) ∧ Hid (M = u / 4294967296 % 16777216) := ⟨_, _, Lib.hid rfl, Lib.hid rfl⟩
              have eK : ((u : Int) / 72057594037927936) = (K : Int) := by rw [HK.out]; omega
              have eM : ((u : Int) / 4294967296 % 16777216) = (M : Int) := by rw [HM.out]; omega
              have g1 : ¬ K = 0 := by rw [HK.out]; exact g1
              have g2 : ¬ 2000 < M := by rw [HM.out]; exact g2
              have g3 : ¬ q < M := by rw [HM.out]; exact g3
              have hk1 : K ≤ 255 := by rw [HK.out]; exact hk1
              have d1 : decide ((K : Int) = 0) = false := by simp; omega
              have d2 : decide (2000 < (M : Int)) = false := by simp; omega
              have d3 : decide ((q : Int) < (M : Int)) = false := by simp; omega
              have EK := Lib.hid eK
              have EM := Lib.hid eM
              clear eK eM hn1 g1'
              have fZ : Fr No w ((w.alloc (.cells #[.int .i64 0, .slice none 0 0] 24)).alloc (.cells #[] 43)).drew := (((Fr.refl No w).alloc _).alloc _).drew
              have bZ : Bk ((w.alloc (.cells #[.int .i64 0, .slice none 0 0] 24)).alloc (.cells #[] 43)).drew w.heap.size 24 #[.int .i64 0, .slice none 0 0] := (Bk.made w _ _).fr (((Fr.refl No _).alloc _).drew) (fun e => e)
              have hown : (((w.alloc (.cells #[.int .i64 0, .slice none 0 0] 24)).alloc (.cells #[] 43)).drew).ownsRow w.heap.size 43 1 (.slice (some ⟨w.heap.size + 1, 0, none⟩) 0 0) 0 (u64s []) := by
                have := World.ownsRow_lit (base := w.heap.size) (e := 43) (size := 1) (w.alloc (.cells #[.int .i64 0, .slice none 0 0] 24)) #[] 0 (by simp) (by unfold maxLen; omega) rfl
                rw [show (w.alloc (.cells #[.int .i64 0, .slice none 0 0] 24)).heap.size = w.heap.size + 1 by simp] at this
                exact own_fr this (S := No) ((Fr.refl No _).drew) (fun k hk e => e)
              have hM : (r.take M).length = M := by have := Hq.out; simp; omega
              have S1 : ∀ (W : World) (B : Nat) (A : Option Addr), M = 0 → Sl W B A (u64s (r.take M)) := by
                intro W B A e
                rw [e]
                exact Sl.nil _ _ _
              have S2 : Sl ((w.alloc (.cells #[.int .i64 0, .slice none 0 0] 24)).alloc (.cells #[] 43)).drew ((w.alloc (.cells #[.int .i64 0, .slice none 0 0] 24)).alloc (.cells #[] 43)).drew.heap.size (some ⟨ad.block, ad.off + 1, none⟩) (u64s (r.take M)) := by
                have a1 := (h.drop (k := 1) (n := q + 1) (cap := q + 2) (sz := 1) (by simp [u64s]; exact Hq.out) (by omega) (by omega)).since fZ
                rw [if_neg (by omega)] at a1
                have a2 := a1.take M
                have a3 : ((u64s (u :: r)).drop (1 * 1)).take M = u64s (r.take M) := by simp [u64s]
                rw [a3] at a2
                exact a2
              by_cases hc1 : c = 1
              all_goals
                go_enter Try.func17, Try.ntmps17
                go_wp2_with (go_at_call 11; refine (refNumber_any _ _).mono ?_; rintro e w' ⟨rfl, rfl⟩)
                go_region
                rw [EK.out, EM.out]
                go_wp2_with (
                  at_builtin
                  first
                    | refine append_words rfl _ _ rfl w.heap.size (some ⟨w.heap.size + 1, 0, none⟩) 0 0 [] rfl _ (some ⟨ad.block, ad.off + 1, none⟩) (1 + M - 1) _ (r.take M) rfl (by omega) S2 hown (by omega) (by simp; omega) ?_
                    | refine append_words rfl _ _ rfl w.heap.size (some ⟨w.heap.size + 1, 0, none⟩) 0 0 [] rfl (w.heap.size + 1) (some ad) (1 + M - 1) _ (r.take M) rfl (by omega) (S1 _ _ _ (by omega)) hown (by omega) (by simp; omega) ?_
                  intro A1 c1 w1 hown1 hf1 hg1
                  rw [show 0 + (1 + M - 1) = M by omega] at hown1 ⊢
                  have bR := bZ.fr hf1 (by simp [Value.ownBlock])
                  have f2 : Fr No w w1 := fZ.trans' hf1 (fun b hb e => by simp [Value.ownBlock] at e; omega)
                  clear hf1 hg1 S2 hown bZ fZ)
                simp only [List.nil_append] at hown1
                obtain ⟨wb, Wb⟩ : ∃ wb, Hid (wb = w1.alloc (.cells #[.int .i64 K, .slice A1 M c1] 24)) := ⟨_, Lib.hid rfl⟩
                have f3 : Fr No w1 wb := by rw [Wb.out]; exact (Fr.refl _ _).alloc _
                have f4 : Fr No w wb := f2.trans' f3 (fun _ _ e => e)
                obtain ⟨b, Hb⟩ : ∃ b, Hid (b = w1.heap.size) := ⟨_, Lib.hid rfl⟩
                have bB : Bk wb b 24 #[.int .i64 K, .slice A1 M c1] := by rw [Wb.out, Hb.out]; exact Bk.made w1 _ _
                have bR2 := bR.fr f3 (fun e => e)
                have fit : (⟨K, A1, r.take M, c1⟩ : FrV).Fit wb wb.heap.size := by
                  obtain ⟨_, _, hv, hnc, hcm, _⟩ := own_shape hown1
                  simp only [Value.slice.injEq] at hv
                  obtain ⟨-, -, rfl⟩ := hv
                  exact ⟨by simp only; omega, by simp only; omega, (Sl.ofOwn hown1).since f3, fun v hv => h64 v (by simp [List.mem_of_mem_take hv]), by simp only [hM]; exact hnc, hcm⟩
                have Hput : Hid (∀ W, Fr No wb W → Calls Try.prog 15 #[.int .i64 ep, .int .i64 n, .agg #[.int .i64 K, .slice A1 M c1]] W fun e w' =>
                    ∃ g c5, e = .returned (.slice (some ⟨g, 0, none⟩) (M + 1) c5) ∧ w'.cell? ⟨g, 0, none⟩ = some (.int .u64 (mark K M (ep.toNat :: n.toNat :: r.take M) : Nat)) ∧ Fr No W w') := Lib.hid (by
                  intro W hW
                  have := refPut_any ep n hE hN ⟨K, A1, r.take M, c1⟩ W (fit.since hW) (by simp only [hM]; omega)
                  simp only [FrV.agg, hM] at this
                  refine this.mono ?_
                  rintro e w' ⟨A5, c5, rfl, hown5, f5⟩
                  have hl := putW_len ep n (FrV.f ⟨K, A1, r.take M, c1⟩)
                  simp only [FrV.f, hM] at hl
                  have hmk : mkOk ((K : Nat) : Int) (M : Int) = true := by simp [mkOk]; omega
                  have e1 : mkW ((K : Nat) : Int) (M : Int) (ep.toNat :: n.toNat :: r.take M) = mark K M (ep.toNat :: n.toNat :: r.take M) := by unfold mkW; rw [if_pos hmk]; rfl
                  simp only [FrV.f] at hown5 ⊢
                  rw [hl] at hown5 ⊢
                  obtain ⟨g, cap, hv, _, _⟩ := hown5.form (by omega)
                  simp only [Value.slice.injEq] at hv
                  obtain ⟨rfl, -, rfl⟩ := hv
                  refine ⟨g, _, rfl, ?_, f5⟩
                  have := hown5.cells (g := g) rfl 0 (.int .u64 (mark K M (ep.toNat :: n.toNat :: r.take M) : Nat)) (by simp [putW, u64s, hM, e1])
                  exact this)
                have hcA : wb.cell? ad = some (.int .u64 u) := (f4.cell (p := ad) hadB (fun e => e)).trans hc0
                have Hcell : Hid (∀ W, Fr No wb W → W.cell? ad = some (.int .u64 u) ∧ W.cell? ⟨b, 0, none⟩ = some (.int .i64 K) ∧ W.cell? ⟨b, 1, none⟩ = some (.slice A1 M c1)) := Lib.hid (fun W hW =>
                  ⟨(hW.cell (p := ad) (Nat.lt_of_lt_of_le hadB f4.size) (fun e => e)).trans hcA, (bB.fr hW (fun e => e)).cell 0, (bB.fr hW (fun e => e)).cell 1⟩)
                obtain ⟨k0, k1, k2⟩ := Hcell.out wb (Fr.refl _ _)
                rw [← Wb.out, ← Hb.out]
                have Hfit := Lib.hid fit
                have Hap : Hid (∀ a, A1 = some a → u64s (r.take M) ≠ [] → ¬ (fun k => k = w.heap.size) a.block) := Lib.hid (by
                  rintro a rfl _ e
                  exact own_apart hown1 bR (by decide) (by simp [Value.ownBlock]; exact e))
                have Hnew : Hid (∀ a, A1 = some a → w.heap.size ≤ a.block) := Lib.hid (by
                  rintro a rfl
                  exact (hown1.lt a.block (by simp [Value.ownBlock])).1)
                clear hW h S1 hcA bB fit hown1 bR f2 f3 hc0
                generalize hMKe : mark K M (ep.toNat :: n.toNat :: r.take M) = MK at Hput
                have HMK := Lib.hid hMKe
                clear hMKe
                first | go_region_with (first
                   | (go_at_call 15
                      refine (Hput.out _ (by first | exact Fr.refl _ _ | exact (Fr.refl _ _).drew | exact (Fr.refl _ _).drewN _)).mono ?_
                      rintro e w5 ⟨g5, c5, rfl, hz5, f5⟩
                      have F5 : Fr No wb w5 := Fr.trans' (by first | exact Fr.refl _ _ | exact (Fr.refl _ _).drew | exact (Fr.refl _ _).drewN _) f5 (fun _ _ e => e)
                      obtain ⟨k3, k4, k5⟩ := Hcell.out w5 F5)) | fail
                all_goals
                 have bR5 := bR2.fr F5 (fun e => e)
                 obtain ⟨-, k1, k2⟩ := Hcell.out w5 F5
                 have f6 : Fr No w w5 := f4.trans' F5 (fun _ _ e => e)
                 have z0 : w5.cell? ⟨w.heap.size, 0, none⟩ = some (.int .i64 0) := bR5.cell 0
                 have z1 : w5.cell? ⟨w.heap.size, 1, none⟩ = some (.slice none 0 0) := bR5.cell 1
                 have y0 := bR5.frozen 0
                 have y1 := bR5.frozen 1
                 have fit5 := Hfit.out.since F5
                 clear Hput Hcell f5 bR2 f4 F5 Hfit
                 by_cases hbad : MK = u
                 · have hq : ((MK : Int) == (u : Int)) = true := by simp; omega
                   subst hbad
                   have Hr : Hid (getF ep n (MK :: r) = some (⟨K, r.take M⟩, M + 1)) := Lib.hid (by
                     have := getF_yes (e := ep) (n := n) (u := MK) (r := r) hE hN (by
                       have := Hq.out
                       unfold headOk
                       rw [← HK.out, ← HM.out]
                       exact ⟨by omega, by omega, by omega⟩) (by rw [← HK.out, ← HM.out]; exact HMK.out)
                     rw [← HK.out, ← HM.out] at this
                     exact this)
                   go_wp2
                   refine bodyPost_ret (v := .tuple #[.agg #[.int .i64 K, .slice A1 M c1], .int .i64 ((M : Int) + 1), .bool true]) (by simp [results, Try.results17, go_sem, z0, z1]) rfl ?_
                   rw [Hr.out]
                   refine ⟨⟨K, A1, r.take M, c1⟩, M + 1, ?_, (f6.setCell (p := ⟨w.heap.size, 0, none⟩) (.inr (Nat.le_refl _)) _).setCell (p := ⟨w.heap.size, 1, none⟩) (.inr (Nat.le_refl _)) _, ?_, fun a ha _ => Hnew.out a ha, rfl⟩
                   · simp [FrV.agg, hM]
                   · have f7 : Fr (fun k => k = w.heap.size) w5 ((w5.setCell ⟨w.heap.size, 0, none⟩ (.int .i64 K)).setCell ⟨w.heap.size, 1, none⟩ (.slice A1 M c1)) := ((Fr.refl (fun k => k = w.heap.size) w5).setCell (p := ⟨w.heap.size, 0, none⟩) (.inl rfl) _).setCell (p := ⟨w.heap.size, 1, none⟩) (.inl rfl) _
                     exact ⟨fit5.k1, fit5.k2, (fit5.sl.fr f7 (Nat.le_refl _) Hap.out).more f7.size, fit5.lt, fit5.cap, fit5.cap2⟩
                 · have hq : ((MK : Int) == (u : Int)) = false := by simp; omega
                   have Hr : Hid (getF ep n (u :: r) = none) := Lib.hid (getF_bad (by rw [← HK.out, ← HM.out, HMK.out]; exact hbad))
                   go_wp2
                   refine bodyPost_ret (v := .tuple #[.agg #[.int .i64 0, .slice none 0 0], .int .i64 0, .bool false]) (by simp [results, Try.results17, go_sem, z0, z1]) rfl ?_
                   rw [Hr.out]
                   exact GotF.none ((f6.setCell (p := ⟨w.heap.size, 0, none⟩) (.inr (Nat.le_refl _)) _).setCell (p := ⟨w.heap.size, 1, none⟩) (.inr (Nat.le_refl _)) _)
      · have hN : numOk n = false := by simpa using hN
        have Hr : Hid (getF ep n (u :: r) = none) := Lib.hid (by simp [getF, hN])
        rw [Hr.out]
        go_enter Try.func17, Try.ntmps17
        go_wp2_with (go_at_call 11; refine (refNumber_any _ _).mono ?_; rintro e w' ⟨rfl, rfl⟩)
        refine bodyPost_ret (v := .tuple #[.agg #[.int .i64 0, .slice none 0 0], .int .i64 0, .bool false]) (by simp [results, Try.results17, go_sem]) rfl ?_
        exact GotF.none ((Fr.refl _ w).alloc _)
    · have hE : numOk ep = false := by simpa using hE
      have Hr : Hid (getF ep n (u :: r) = none) := Lib.hid (by simp [getF, hE])
      rw [Hr.out]
      go_enter Try.func17, Try.ntmps17
      go_wp2_with (go_at_call 11; refine (refNumber_any _ _).mono ?_; rintro e w' ⟨rfl, rfl⟩)
      refine bodyPost_ret (v := .tuple #[.agg #[.int .i64 0, .slice none 0 0], .int .i64 0, .bool false]) (by simp [results, Try.results17, go_sem]) rfl ?_
      exact GotF.none ((Fr.refl _ w).alloc _)
end Go.Proofs.Ytinfeollcmfjeaa
