/- The document's own frames: Get. -/
import Derived.Test.YtdmllfjeofiddaaRef6
namespace Go.Proofs.Ytdmllfjeofiddaa
open Go.RowKit

theorem cell_keep6 {w w' : World} (hf : Fr No w.drew w') {p : Addr} {v : Value} (h : w.cell? p = some v) : w'.cell? p = some v :=
  (hf.cell (p := p) (World.block_lt_of_cell? w p h) (fun e => e)).trans h
/-- What Get answers. -/
def GotF (w : World) (r : Option (Frm × Nat)) (e : Ending) (w' : World) : Prop :=
  ∃ (x : FrV) (k : Nat), e = .returned (.tuple #[x.agg, .int .i64 k, .bool r.isSome]) ∧ Fr No w w' ∧ x.Fit w' w'.heap.size ∧ (∀ ad, x.A = some ad → x.ws ≠ [] → w.heap.size ≤ ad.block) ∧ (r.getD (⟨0, []⟩, 0)) = (x.f, k)
theorem GotF.none {w w' : World} (h : Fr No w w') : GotF w none (.returned (.tuple #[.agg #[.int .i64 0, .slice none 0 0], .int .i64 0, .bool false])) w' :=
  ⟨⟨0, Option.none, [], 0⟩, 0, rfl, h, ⟨by simp, by simp, Sl.nil _ _ _, by simp, by simp, by simp⟩, by simp, rfl⟩

set_option maxRecDepth 100000 in
set_option maxHeartbeats 4000000 in
theorem refGet_any (ep n : Int) (l : List Nat) (h64 : ∀ u ∈ l, u < 18446744073709551616) (m : Nat) (A : Option Addr) (c : Nat) (w : World) (h : Sl w w.heap.size A (u64s l)) (hm : l.length = m) (hmc : m ≤ c) (hlen : c ≤ maxLen) :
    Calls Try.prog 52 #[.int .i64 ep, .int .i64 n, .slice A m c] w (GotF w (getF ep n l)) := by
  have Hlen := Lib.hid hlen
  clear hlen
  cases l with
  | nil =>
    obtain rfl : 0 = m := hm
    go_enter Try.func52, Try.ntmps52
    go_wp2
    refine bodyPost_ret (v := .tuple #[.agg #[.int .i64 0, .slice none 0 0], .int .i64 0, .bool false]) (by simp [results, Try.results52, go_sem]) rfl ?_
    exact GotF.none ((Fr.refl _ w).alloc _)
  | cons u r =>
    obtain ⟨ad, rfl, hadB, hc⟩ := h.wordB (show 0 < (u :: r).length by simp)
    have hc0 : w.cell? ad = some (.int .u64 u) := hc
    clear hc
    have hu := h64 u (by simp)
    obtain ⟨q, rfl⟩ : ∃ q, m = q + 1 := ⟨r.length, by simpa using hm.symm⟩
    have Hq : Hid (r.length = q) := Lib.hid (by simpa using hm)
    clear hm
    by_cases hE : numOk ep = true
    · by_cases hN : numOk n = true
      · have hW : (w.alloc (.cells #[.int .i64 0, .slice none 0 0] 38)).cell? ad = some (.int .u64 u) := (((Fr.refl No w).alloc _).cell (p := ad) hadB (fun e => e)).trans hc0
        have hk1 : u / 72057594037927936 ≤ 255 := by omega
        have hn1 : u / 4294967296 % 16777216 ≤ 16777215 := by omega
        by_cases g1 : u / 72057594037927936 = 0
        · have Hr : Hid (getF ep n (u :: r) = none) := Lib.hid (getF_no (fun c => c.1 g1))
          rw [Hr.out]
          have g1' : decide ((u : Int) / 72057594037927936 = 0) = true := by simp; omega
          go_enter Try.func52, Try.ntmps52
          go_wp2_with (go_at_call 12; refine (refNumber_any _ _).mono ?_; rintro e w' ⟨rfl, rfl⟩)
          go_region
          go_wp2
          refine bodyPost_ret (v := .tuple #[.agg #[.int .i64 0, .slice none 0 0], .int .i64 0, .bool false]) (by simp [results, Try.results52, go_sem]) rfl ?_
          exact GotF.none ((Fr.refl _ w).alloc _).drew
        · have g1' : decide ((u : Int) / 72057594037927936 = 0) = false := by simp; omega
          by_cases g2 : 2000 < u / 4294967296 % 16777216
          · have Hr : Hid (getF ep n (u :: r) = none) := Lib.hid (getF_no (fun c => by have := c.2.1; omega))
            rw [Hr.out]
            have g2' : decide (2000 < (u : Int) / 4294967296 % 16777216) = true := by simp; omega
            go_enter Try.func52, Try.ntmps52
            go_wp2_with (go_at_call 12; refine (refNumber_any _ _).mono ?_; rintro e w' ⟨rfl, rfl⟩)
            go_region
            go_wp2
            refine bodyPost_ret (v := .tuple #[.agg #[.int .i64 0, .slice none 0 0], .int .i64 0, .bool false]) (by simp [results, Try.results52, go_sem]) rfl ?_
            exact GotF.none ((Fr.refl _ w).alloc _).drew
          · have g2' : decide (2000 < (u : Int) / 4294967296 % 16777216) = false := by simp; omega
            by_cases g3 : q < u / 4294967296 % 16777216
            · have Hr : Hid (getF ep n (u :: r) = none) := Lib.hid (getF_no (fun c => by have := c.2.2; have := Hq.out; omega))
              rw [Hr.out]
              have g3' : decide ((q : Int) < (u : Int) / 4294967296 % 16777216) = true := by simp; omega
              go_enter Try.func52, Try.ntmps52
              go_wp2_with (go_at_call 12; refine (refNumber_any _ _).mono ?_; rintro e w' ⟨rfl, rfl⟩)
              go_region
              go_wp2
              refine bodyPost_ret (v := .tuple #[.agg #[.int .i64 0, .slice none 0 0], .int .i64 0, .bool false]) (by simp [results, Try.results52, go_sem]) rfl ?_
              exact GotF.none ((Fr.refl _ w).alloc _).drew
            · obtain ⟨K, M, HK, HM⟩ : ∃ K M : Nat, Hid (K = u / 72057594037927936) ∧ Hid (M = u / 4294967296 % 16777216) := ⟨_, _, Lib.hid rfl, Lib.hid rfl⟩
              have eK : ((u : Int) / 72057594037927936) = (K : Int) := by rw [HK.out]; omega
              have eM : ((u : Int) / 4294967296 % 16777216) = (M : Int) := by rw [HM.out]; omega
              have g1 : ¬ K = 0 := by rw [HK.out]; exact g1
              have g2 : ¬ 2000 < M := by rw [HM.out]; exact g2
              have g3 : ¬ q < M := by rw [HM.out]; exact g3
              have hk1 : K ≤ 255 := by rw [HK.out]; exact hk1
              have d1 : decide ((K : Int) = 0) = false := by simp; omega
              have d2 : decide (2000 < (M : Int)) = false := by simp; omega
              have d3 : decide ((q : Int) < (M : Int)) = false := by simp; omega
              have EK := Lib.hid eK
              have EM := Lib.hid eM
              clear eK eM hn1 g1'
              have fZ : Fr No w ((w.alloc (.cells #[.int .i64 0, .slice none 0 0] 38)).alloc (.cells #[] 40)).drew := (((Fr.refl No w).alloc _).alloc _).drew
              have bZ : Bk ((w.alloc (.cells #[.int .i64 0, .slice none 0 0] 38)).alloc (.cells #[] 40)).drew w.heap.size 38 #[.int .i64 0, .slice none 0 0] := (Bk.made w _ _).fr (((Fr.refl No _).alloc _).drew) (fun e => e)
              have hown : (((w.alloc (.cells #[.int .i64 0, .slice none 0 0] 38)).alloc (.cells #[] 40)).drew).ownsRow w.heap.size 40 1 (.slice (some ⟨w.heap.size + 1, 0, none⟩) 0 0) 0 (u64s []) := by
                have := World.ownsRow_lit (base := w.heap.size) (e := 40) (size := 1) (w.alloc (.cells #[.int .i64 0, .slice none 0 0] 38)) #[] 0 (by simp) (by unfold maxLen; omega) rfl
                rw [show (w.alloc (.cells #[.int .i64 0, .slice none 0 0] 38)).heap.size = w.heap.size + 1 by simp] at this
                exact own_fr this (S := No) ((Fr.refl No _).drew) (fun k hk e => e)
              have hM : (r.take M).length = M := by have := Hq.out; simp; omega
              have S1 : ∀ (W : World) (B : Nat) (A : Option Addr), M = 0 → Sl W B A (u64s (r.take M)) := by
                intro W B A e
                rw [e]
                exact Sl.nil _ _ _
              have S2 : Sl ((w.alloc (.cells #[.int .i64 0, .slice none 0 0] 38)).alloc (.cells #[] 40)).drew ((w.alloc (.cells #[.int .i64 0, .slice none 0 0] 38)).alloc (.cells #[] 40)).drew.heap.size (some ⟨ad.block, ad.off + 1, none⟩) (u64s (r.take M)) := by
                have a1 := (h.drop (k := 1) (n := q + 1) (cap := q + 2) (sz := 1) (by simp [u64s]; exact Hq.out) (by omega) (by omega)).since fZ
                rw [if_neg (by omega)] at a1
                have a2 := a1.take M
                have a3 : ((u64s (u :: r)).drop (1 * 1)).take M = u64s (r.take M) := by simp [u64s]
                rw [a3] at a2
                exact a2
              by_cases hc1 : c = 1
              all_goals
                go_enter Try.func52, Try.ntmps52
                go_wp2_with (go_at_call 12; refine (refNumber_any _ _).mono ?_; rintro e w' ⟨rfl, rfl⟩)
                go_region
                rw [EK.out, EM.out]
                go_wp2_with (
                  at_builtin
                  first
                    | refine append_words rfl _ _ rfl w.heap.size (some ⟨w.heap.size + 1, 0, none⟩) 0 0 [] rfl _ (some ⟨ad.block, ad.off + 1, none⟩) (1 + M - 1) _ (r.take M) rfl (by omega) S2 hown (by omega) (by simp; omega) ?_
                    | refine append_words rfl _ _ rfl w.heap.size (some ⟨w.heap.size + 1, 0, none⟩) 0 0 [] rfl (w.heap.size + 1) (some ad) (1 + M - 1) _ (r.take M) rfl (by omega) (S1 _ _ _ (by omega)) hown (by omega) (by simp; omega) ?_
                  intro A1 c1 w1 hown1 hf1 hg1
                  rw [show 0 + (1 + M - 1) = M by omega] at hown1 ⊢
                  have bR := bZ.fr hf1 (by simp [Value.ownBlock])
                  have f2 : Fr No w w1 := fZ.trans' hf1 (fun b hb e => by simp [Value.ownBlock] at e; omega)
                  clear hf1 hg1 S2 hown bZ fZ)
                simp only [List.nil_append] at hown1
                obtain ⟨wb, Wb⟩ : ∃ wb, Hid (wb = w1.alloc (.cells #[.int .i64 K, .slice A1 M c1] 38)) := ⟨_, Lib.hid rfl⟩
                have f3 : Fr No w1 wb := by rw [Wb.out]; exact (Fr.refl _ _).alloc _
                have f4 : Fr No w wb := f2.trans' f3 (fun _ _ e => e)
                obtain ⟨b, Hb⟩ : ∃ b, Hid (b = w1.heap.size) := ⟨_, Lib.hid rfl⟩
                have bB : Bk wb b 38 #[.int .i64 K, .slice A1 M c1] := by rw [Wb.out, Hb.out]; exact Bk.made w1 _ _
                have bR2 := bR.fr f3 (fun e => e)
                have fit : (⟨K, A1, r.take M, c1⟩ : FrV).Fit wb wb.heap.size := by
                  obtain ⟨_, _, hv, hnc, hcm, _⟩ := own_shape hown1
                  simp only [Value.slice.injEq] at hv
                  obtain ⟨-, -, rfl⟩ := hv
                  exact ⟨by simp only; omega, by simp only; omega, (Sl.ofOwn hown1).since f3, fun v hv => h64 v (by simp [List.mem_of_mem_take hv]), by simp only [hM]; exact hnc, hcm⟩
                have Hput : Hid (∀ W, Fr No wb W → Calls Try.prog 50 #[.int .i64 ep, .int .i64 n, .agg #[.int .i64 K, .slice A1 M c1]] W fun e w' =>
                    ∃ g c5, e = .returned (.slice (some ⟨g, 0, none⟩) (M + 1) c5) ∧ w'.cell? ⟨g, 0, none⟩ = some (.int .u64 (mark K M (ep.toNat :: n.toNat :: r.take M) : Nat)) ∧ Fr No W w') := Lib.hid (by
                  intro W hW
                  have := refPut_any ep n hE hN ⟨K, A1, r.take M, c1⟩ W (fit.since hW) (by simp only [hM]; omega)
                  simp only [FrV.agg, hM] at this
                  refine this.mono ?_
                  rintro e w' ⟨A5, c5, rfl, hown5, f5⟩
                  have hl := putW_len ep n (FrV.f ⟨K, A1, r.take M, c1⟩)
                  simp only [FrV.f, hM] at hl
                  have hmk : mkOk ((K : Nat) : Int) (M : Int) = true := by simp [mkOk]; omega
                  have e1 : mkW ((K : Nat) : Int) (M : Int) (ep.toNat :: n.toNat :: r.take M) = mark K M (ep.toNat :: n.toNat :: r.take M) := by unfold mkW; rw [if_pos hmk]; rfl
                  simp only [FrV.f] at hown5 ⊢
                  rw [hl] at hown5 ⊢
                  obtain ⟨g, cap, hv, _, _⟩ := hown5.form (by omega)
                  simp only [Value.slice.injEq] at hv
                  obtain ⟨rfl, -, rfl⟩ := hv
                  refine ⟨g, _, rfl, ?_, f5⟩
                  have := hown5.cells (g := g) rfl 0 (.int .u64 (mark K M (ep.toNat :: n.toNat :: r.take M) : Nat)) (by simp [putW, u64s, hM, e1])
                  exact this)
                have hcA : wb.cell? ad = some (.int .u64 u) := (f4.cell (p := ad) hadB (fun e => e)).trans hc0
                have Hcell : Hid (∀ W, Fr No wb W → W.cell? ad = some (.int .u64 u) ∧ W.cell? ⟨b, 0, none⟩ = some (.int .i64 K) ∧ W.cell? ⟨b, 1, none⟩ = some (.slice A1 M c1)) := Lib.hid (fun W hW =>
                  ⟨(hW.cell (p := ad) (Nat.lt_of_lt_of_le hadB f4.size) (fun e => e)).trans hcA, (bB.fr hW (fun e => e)).cell 0, (bB.fr hW (fun e => e)).cell 1⟩)
                obtain ⟨k0, k1, k2⟩ := Hcell.out wb (Fr.refl _ _)
                rw [← Wb.out, ← Hb.out]
                have Hfit := Lib.hid fit
                have Hap : Hid (∀ a, A1 = some a → u64s (r.take M) ≠ [] → ¬ (fun k => k = w.heap.size) a.block) := Lib.hid (by
                  rintro a rfl _ e
                  exact own_apart hown1 bR (by decide) (by simp [Value.ownBlock]; exact e))
                have Hnew : Hid (∀ a, A1 = some a → w.heap.size ≤ a.block) := Lib.hid (by
                  rintro a rfl
                  exact (hown1.lt a.block (by simp [Value.ownBlock])).1)
                clear hW h S1 hcA bB fit hown1 bR f2 f3 hc0
                generalize hMKe : mark K M (ep.toNat :: n.toNat :: r.take M) = MK at Hput
                have HMK := Lib.hid hMKe
                clear hMKe
                first | go_region_with (first
                   | (go_at_call 50
                      refine (Hput.out _ (by first | exact Fr.refl _ _ | exact (Fr.refl _ _).drew | exact (Fr.refl _ _).drewN _)).mono ?_
                      rintro e w5 ⟨g5, c5, rfl, hz5, f5⟩
                      have F5 : Fr No wb w5 := Fr.trans' (by first | exact Fr.refl _ _ | exact (Fr.refl _ _).drew | exact (Fr.refl _ _).drewN _) f5 (fun _ _ e => e)
                      obtain ⟨k3, k4, k5⟩ := Hcell.out w5 F5)) | fail
                all_goals
                 have bR5 := bR2.fr F5 (fun e => e)
                 obtain ⟨-, k1, k2⟩ := Hcell.out w5 F5
                 have f6 : Fr No w w5 := f4.trans' F5 (fun _ _ e => e)
                 have z0 : w5.cell? ⟨w.heap.size, 0, none⟩ = some (.int .i64 0) := bR5.cell 0
                 have z1 : w5.cell? ⟨w.heap.size, 1, none⟩ = some (.slice none 0 0) := bR5.cell 1
                 have y0 := bR5.frozen 0
                 have y1 := bR5.frozen 1
                 have fit5 := Hfit.out.since F5
                 clear Hput Hcell f5 bR2 f4 F5 Hfit
                 by_cases hbad : MK = u
                 · have hq : ((MK : Int) == (u : Int)) = true := by simp; omega
                   subst hbad
                   have Hr : Hid (getF ep n (MK :: r) = some (⟨K, r.take M⟩, M + 1)) := Lib.hid (by
                     have := getF_yes (e := ep) (n := n) (u := MK) (r := r) hE hN (by
                       have := Hq.out
                       unfold headOk
                       rw [← HK.out, ← HM.out]
                       exact ⟨by omega, by omega, by omega⟩) (by rw [← HK.out, ← HM.out]; exact HMK.out)
                     rw [← HK.out, ← HM.out] at this
                     exact this)
                   go_wp2
                   refine bodyPost_ret (v := .tuple #[.agg #[.int .i64 K, .slice A1 M c1], .int .i64 ((M : Int) + 1), .bool true]) (by simp [results, Try.results52, go_sem, z0, z1]) rfl ?_
                   rw [Hr.out]
                   refine ⟨⟨K, A1, r.take M, c1⟩, M + 1, ?_, (f6.setCell (p := ⟨w.heap.size, 0, none⟩) (.inr (Nat.le_refl _)) _).setCell (p := ⟨w.heap.size, 1, none⟩) (.inr (Nat.le_refl _)) _, ?_, fun a ha _ => Hnew.out a ha, rfl⟩
                   · simp [FrV.agg, hM]
                   · have f7 : Fr (fun k => k = w.heap.size) w5 ((w5.setCell ⟨w.heap.size, 0, none⟩ (.int .i64 K)).setCell ⟨w.heap.size, 1, none⟩ (.slice A1 M c1)) := ((Fr.refl (fun k => k = w.heap.size) w5).setCell (p := ⟨w.heap.size, 0, none⟩) (.inl rfl) _).setCell (p := ⟨w.heap.size, 1, none⟩) (.inl rfl) _
                     exact ⟨fit5.k1, fit5.k2, (fit5.sl.fr f7 (Nat.le_refl _) Hap.out).more f7.size, fit5.lt, fit5.cap, fit5.cap2⟩
                 · have hq : ((MK : Int) == (u : Int)) = false := by simp; omega
                   have Hr : Hid (getF ep n (u :: r) = none) := Lib.hid (getF_bad (by rw [← HK.out, ← HM.out, HMK.out]; exact hbad))
                   go_wp2
                   refine bodyPost_ret (v := .tuple #[.agg #[.int .i64 0, .slice none 0 0], .int .i64 0, .bool false]) (by simp [results, Try.results52, go_sem, z0, z1]) rfl ?_
                   rw [Hr.out]
                   exact GotF.none ((f6.setCell (p := ⟨w.heap.size, 0, none⟩) (.inr (Nat.le_refl _)) _).setCell (p := ⟨w.heap.size, 1, none⟩) (.inr (Nat.le_refl _)) _)
      · have hN : numOk n = false := by simpa using hN
        have Hr : Hid (getF ep n (u :: r) = none) := Lib.hid (by simp [getF, hN])
        rw [Hr.out]
        go_enter Try.func52, Try.ntmps52
        go_wp2_with (go_at_call 12; refine (refNumber_any _ _).mono ?_; rintro e w' ⟨rfl, rfl⟩)
        refine bodyPost_ret (v := .tuple #[.agg #[.int .i64 0, .slice none 0 0], .int .i64 0, .bool false]) (by simp [results, Try.results52, go_sem]) rfl ?_
        exact GotF.none ((Fr.refl _ w).alloc _)
    · have hE : numOk ep = false := by simpa using hE
      have Hr : Hid (getF ep n (u :: r) = none) := Lib.hid (by simp [getF, hE])
      rw [Hr.out]
      go_enter Try.func52, Try.ntmps52
      go_wp2_with (go_at_call 12; refine (refNumber_any _ _).mono ?_; rintro e w' ⟨rfl, rfl⟩)
      refine bodyPost_ret (v := .tuple #[.agg #[.int .i64 0, .slice none 0 0], .int .i64 0, .bool false]) (by simp [results, Try.results52, go_sem]) rfl ?_
      exact GotF.none ((Fr.refl _ w).alloc _)
end Go.Proofs.Ytdmllfjeofiddaa
/- Lists of frames: how they lie there, one more behind them; the document's All, Same. -/
namespace Go.Proofs.Ytdmllfjeofiddaa
open Go.RowKit

/-- A list of frames that is new since w0; the frames' words lie in other blocks. -/
structure FrsO (w0 w : World) (A : Option Addr) (c : Nat) (xs : List FrV) : Prop where
  own : w.ownsRow w0.heap.size 38 2 (.slice A xs.length c) xs.length (xs.flatMap FrV.cells)
  fit : ∀ x ∈ xs, x.Fit w w.heap.size
  apart : ∀ x ∈ xs, ∀ ad, x.A = some ad → x.ws ≠ [] → (Value.slice A xs.length c).ownBlock ≠ some ad.block
  fr : Fr No w0 w
theorem FrsO.nil (w0 w : World) (h : Fr No w0 w) : FrsO w0 w none 0 [] := ⟨World.ownsRow_nil _ _ _ _, by simp, by simp, h⟩
theorem FrsO.since {w0 w W : World} {A : Option Addr} {c : Nat} {xs : List FrV} (h : FrsO w0 w A c xs) (hf : Fr No w W) : FrsO w0 W A c xs :=
  ⟨own_fr h.own hf (fun _ _ e => e), fun x hx => (h.fit x hx).since hf, h.apart, h.fr.trans' hf (fun _ _ e => e)⟩
theorem FrsO.frs {w0 w : World} {A : Option Addr} {c : Nat} {xs : List FrV} (h : FrsO w0 w A c xs) : Frs w A xs := ⟨Sl.ofOwn h.own, h.fit⟩
theorem FrsO.cap {w0 w : World} {A : Option Addr} {c : Nat} {xs : List FrV} (h : FrsO w0 w A c xs) : xs.length ≤ c ∧ c ≤ maxLen := by
  obtain ⟨A3, c3, hv3, hc3, hc4, -⟩ := own_shape h.own
  injection hv3 with _ _ h3
  omega
theorem info_frame : (Try.prog.info? 38).map (fun i => (i.zero, i.size, i.bytes)) = some (some (.agg #[.int .i64 0, .slice none 0 0]), 2, 32) := by kernel_rfl
theorem FrsO.snoc {w0 w w' : World} {A A' : Option Addr} {c c' : Nat} {xs : List FrV} {x : FrV} (h : FrsO w0 w A c xs) (hx : x.Fit w w.heap.size)
    (ha : ∀ ad, x.A = some ad → x.ws ≠ [] → (Value.slice A xs.length c).ownBlock ≠ some ad.block)
    (q1 : w'.ownsRow w0.heap.size 38 2 (.slice A' (xs.length + 1) c') (xs.length + 1) (xs.flatMap FrV.cells ++ x.cells)) (q2 : Fr (fun k => (Value.slice A xs.length c).ownBlock = some k) w w')
    (q3 : (Value.slice A' (xs.length + 1) c').ownBlock = (Value.slice A xs.length c).ownBlock ∨ ∃ k, (Value.slice A' (xs.length + 1) c').ownBlock = some k ∧ w.heap.size ≤ k) : FrsO w0 w' A' c' (xs ++ [x]) := by
  have e1 : (xs ++ [x]).length = xs.length + 1 := by simp
  have e2 : (xs ++ [x]).flatMap FrV.cells = xs.flatMap FrV.cells ++ x.cells := by simp
  have hfit : ∀ y : FrV, y.Fit w w.heap.size → (∀ ad, y.A = some ad → y.ws ≠ [] → (Value.slice A xs.length c).ownBlock ≠ some ad.block) → y.Fit w' w'.heap.size ∧
      (∀ ad, y.A = some ad → y.ws ≠ [] → (Value.slice A' (xs ++ [x]).length c').ownBlock ≠ some ad.block) := by
    intro y hy hya
    refine ⟨⟨hy.k1, hy.k2, (hy.sl.fr q2 (Nat.le_refl _) (fun ad e hn => hya ad e (u64s_ne hn))).more q2.size, hy.lt, hy.cap, hy.cap2⟩, fun ad e hn => ?_⟩
    rw [e1]
    rcases q3 with q3 | ⟨k, q3, hk⟩
    · rw [q3]
      exact hya ad e hn
    · rw [q3]
      intro e3
      injection e3 with e3
      obtain ⟨ad2, e4, hlt, -⟩ := hy.sl (by intro e5; apply hn; simpa [u64s] using e5)
      rw [e] at e4
      injection e4 with e4
      subst e4
      omega
  refine ⟨by rw [e1, e2]; exact q1, fun y hy => ?_, fun y hy => ?_, h.fr.trans' q2 (fun k hk e => by have := (h.own.lt k e).1; omega)⟩
  · rcases List.mem_append.1 hy with hy | hy
    · exact (hfit y (h.fit y hy) (h.apart y hy)).1
    · rw [List.mem_singleton.1 hy]
      exact (hfit x hx ha).1
  · rcases List.mem_append.1 hy with hy | hy
    · exact (hfit y (h.fit y hy) (h.apart y hy)).2
    · rw [List.mem_singleton.1 hy]
      exact (hfit x hx ha).2
/-- A new frame behind a list of frames, as one step of the walk. -/
theorem app_frame {w0 w : World} {ops : Array Oper} {rest : List Oper} {o : Oper} {a : Act} {Q : Exit → Act → World → Prop} (hgd : o.guard = none) (s x : Operand)
    (ho : o.op = .call { callee := .builtin .append, args := #[s, x], argTypes := #[60, 60] })
    (A : Option Addr) (c : Nat) (xs : List FrV) (y : FrV) (n : Nat) (hn : n = xs.length) (hs : a.eval s = .slice A n c) (H : Nat) (hH : w.heap.size = H) (hx : a.eval x = .slice (some ⟨H, 0, none⟩) 1 1) (h : FrsO w0 w A c xs) (hy : y.Fit w w.heap.size)
    (ha : ∀ ad, y.A = some ad → y.ws ≠ [] → (Value.slice A xs.length c).ownBlock ≠ some ad.block) (hlen : n ≤ 1099511627776)
    (hK : ∀ A' c' w', FrsO w0 w' A' c' (xs ++ [y]) → Fr No w0 w' → Fr (fun k => (Value.slice A n c).ownBlock = some k) w w' → wpList Try.prog ops Q rest (a.put o.dst (.slice A' (n + 1) c')) w') :
    wpList Try.prog ops Q (o :: rest) a (w.alloc (.cells #[.int .i64 y.kind, .slice y.A y.ws.length y.c] 38)) := by
  subst hn
  refine wpList_append_elem hgd s x _ ho w0.heap.size 38 _ 2 32 Try.underlying60 info_frame rfl (by omega) (.slice A xs.length c) xs.length (xs.flatMap FrV.cells) #[.int .i64 y.kind, .slice y.A y.ws.length y.c] rfl
    (by intro u hu; simp at hu; rcases hu with rfl | rfl <;> rfl) hs H hH hx h.own (by unfold maxLen; omega) (by omega) h.fr.size ?_
  intro A' c' w' q1 q2 q3
  have h1 := h.snoc (A' := A') (c' := c') hy ha q1 q2 q3
  exact hK A' c' w' h1 h1.fr q2

/-- What All answers. -/
def AllF (ep : Int) (l : List Nat) (w : World) (e : Ending) (w' : World) : Prop :=
  ∃ (xs : List FrV) (A : Option Addr) (c k : Nat), e = .returned (.tuple #[.slice A xs.length c, .int .i64 k]) ∧ Told ep l (xs.map FrV.f) k ∧ FrsO w w' A c xs
theorem drop_sl {w : World} {A : Option Addr} {l : List Nat} {m c k : Nat} (h : Sl w w.heap.size A (u64s l)) (hm : l.length = m) (hc : m ≤ c) (hk : k ≤ m) : Sl w w.heap.size (if c = k then A else A.map (·.add k)) (u64s (l.drop k)) := by
  have := h.drop (k := k) (n := m) (cap := c) (sz := 1) (by simp [u64s, hm]) hk hc
  rw [Nat.mul_one] at this
  have e : (u64s l).drop k = u64s (l.drop k) := by simp [u64s]
  rw [e] at this
  exact this

set_option maxRecDepth 100000 in
set_option maxHeartbeats 2000000 in
theorem refAll_any (ep : Int) (l : List Nat) (h64 : ∀ u ∈ l, u < 18446744073709551616) (m : Nat) (A : Option Addr) (c : Nat) (w : World) (h : Sl w w.heap.size A (u64s l)) (hm : l.length = m) (hmc : m ≤ c) (hc : c ≤ maxLen) (hlen : m ≤ 1073741824) :
    Calls Try.prog 30 #[.int .i64 ep, .slice A m c] w (AllF ep l w) := by
  have Hm := Lib.hid hm
  have H64 := Lib.hid h64
  have Hc := Lib.hid hc
  have Hs := Lib.hid (fun W (hW : Fr No w W) => h.since hW)
  have hcap : c ≤ 9223372036854775807 := hc
  clear hm h64 hc h
  go_enter Try.func30, Try.ntmps30
  go_wp2
  go_loopw [6, 7] (fun ov av wr => ∃ (xs : List FrV) (k : Nat) (B : Option Addr) (cb z : Nat), Hid (z = xs.length) ∧ ov = .slice B z cb ∧ av = .int .i64 k ∧ k ≤ m ∧ z ≤ k ∧ Hid (stepsF ep l xs.length = some (xs.map FrV.f, k)) ∧ Hid (FrsO w wr B cb xs)) (fun _ av _ => m - (intOf av).toNat)
  case atStart => exact ⟨[], 0, none, 0, 0, Lib.hid rfl, rfl, rfl, by omega, by omega, Lib.hid rfl, Lib.hid (FrsO.nil _ _ (Fr.refl _ _))⟩
  case round =>
    obtain ⟨xs, k, B, cb, z, Hz, rfl, rfl, hk, hzk, Hst, Hf⟩ := hrel
    have hsl := drop_sl (Hs.out wr Hf.out.fr) Hm.out hmc hk
    have hdl : (l.drop k).length = m - k := by rw [List.length_drop, Hm.out]
    have Hl64 : Hid (∀ u ∈ l.drop k, u < 18446744073709551616) := Lib.hid (fun u hu => H64.out u (List.mem_of_mem_drop hu))
    have HgA : Hid (c = k → l.drop k = [] ∧ Calls Try.prog 52 #[.int .i64 ep, .int .i64 (z : Int), .slice A (m - k) 0] wr (GotF wr (getF ep z (l.drop k)))) := Lib.hid (by
      intro e
      have h0 : l.drop k = [] := List.eq_nil_of_length_eq_zero (by omega)
      rw [h0] at hdl ⊢
      exact ⟨rfl, refGet_any ep z [] (by simp) (m - k) A 0 wr (Sl.nil _ _ _) hdl (by omega) (by unfold maxLen; omega)⟩)
    have HgB : Hid (¬ c = k → Calls Try.prog 52 #[.int .i64 ep, .int .i64 (z : Int), .slice (Option.map (fun x => x.add k) A) (m - k) (c - k)] wr (GotF wr (getF ep z (l.drop k)))) := Lib.hid (by
      intro e
      rw [if_neg e] at hsl
      exact refGet_any ep z (l.drop k) Hl64.out (m - k) _ (c - k) wr hsl hdl (by omega) (by unfold maxLen; omega))
    clear hsl hdl
    go_wp2_with fail
    · refine (HgA.out (by assumption)).2.mono ?_
      rintro e w1 ⟨⟨xk, xA, xw, xc⟩, q, rfl, f1, -, -, -⟩
      have h0 := (HgA.out (by assumption)).1
      rw [h0] at HgA HgB ⊢
      have hF := Lib.hid (Hf.out.since (f1.alloc (.cells #[.int .i64 xk, .slice xA xw.length xc] 38)))
      unfold FrV.agg
      dsimp only
      generalize xw.length = xm at *
      have hno : (getF ep z []).isSome = false := rfl
      have H0 := Lib.hid h0
      clear HgA HgB h0
      go_wp2
      go_ret2
      have hF2 := hF.out
      rw [Hz.out] at *
      exact ⟨xs, B, cb, k, rfl, ⟨by simp only [List.length_map]; exact Hst.out, by rw [H0.out]; rfl⟩, hF.out⟩
    · refine (HgB.out (by assumption)).mono ?_
      rintro e w1 ⟨⟨xk, xA, xw, xc⟩, q, rfl, f1, hfit, hnew, hr⟩
      have f2 := f1.alloc (.cells #[.int .i64 xk, .slice xA xw.length xc] 38)
      have Hfit := Lib.hid (hfit.since ((Fr.refl _ w1).alloc (.cells #[.int .i64 xk, .slice xA xw.length xc] 38)))
      have Hnew := Lib.hid hnew
      clear hfit hnew HgA HgB
      unfold FrV.agg
      dsimp only
      cases hgr : getF ep z (l.drop k) with
      | none =>
        have Hgr := Lib.hid hgr
        have hF := Lib.hid (Hf.out.since f2)
        clear hgr hr f2 Hfit Hnew
        generalize xw.length = xm at *
        go_wp2
        go_ret2
        rw [Hz.out] at *
        exact ⟨xs, B, cb, k, rfl, ⟨by simp only [List.length_map]; exact Hst.out, by simp only [List.length_map]; exact Hgr.out⟩, hF.out⟩
      | some fq =>
        rw [hgr] at hr
        simp only [Option.getD_some] at hr
        subst hr
        have hgl := getF_len hgr
        have hq1 : 1 ≤ q := hgl.2.2.1
        have hq2 : k + q ≤ m := by have := hgl.2.1; rw [List.length_drop, Hm.out] at this; omega
        have Hgr := Lib.hid hgr
        have hF := Lib.hid (Hf.out.since f2)
        have hby : Hid (∀ ad, xA = some ad → xw ≠ [] → (Value.slice B xs.length cb).ownBlock ≠ some ad.block) := Lib.hid (fun ad e hn e2 => by
          have h1 := (Hf.out.own.lt _ e2).2
          have h2 := Hnew.out ad e hn
          omega)
        clear hgr hgl f2 Hnew f1
        have hsz : (w1.alloc (.cells #[.int .i64 xk, .slice xA xw.length xc] 38)).heap.size = w1.heap.size + 1 := by simp
        have c0 : (w1.alloc (.cells #[.int .i64 xk, .slice xA xw.length xc] 38)).cell? ⟨w1.heap.size, 0, none⟩ = some (.int .i64 xk) := (Bk.made w1 _ _).cell 0
        have c1 : (w1.alloc (.cells #[.int .i64 xk, .slice xA xw.length xc] 38)).cell? ⟨w1.heap.size, 1, none⟩ = some (.slice xA xw.length xc) := (Bk.made w1 _ _).cell 1
        go_wp2_with (
          at_builtin
          refine app_frame (w0 := w) rfl _ _ rfl B cb xs ⟨xk, xA, xw, xc⟩ z Hz.out rfl (w1.heap.size + 1) hsz rfl hF.out Hfit.out hby.out (by omega) ?_
          intro A' c' w2 q1 q2 q3
          have Q1 := Lib.hid q1
          clear q1 q2 q3 c0 c1 hsz)
        go_roundw
        case rel =>
          refine ⟨xs ++ [⟨xk, xA, xw, xc⟩], k + q, A', c', z + 1, Lib.hid (by simp [Hz.out]), rfl, by go_num, hq2, by omega, Lib.hid ?_, Q1⟩
          rw [List.map_append, List.map_singleton]
          have := stepsF_succ (e := ep) (l := l) (fs := xs.map FrV.f) (k := k) (by simp only [List.length_map]; exact Hst.out) (f := FrV.f ⟨xk, xA, xw, xc⟩) (m := q) (by simp only [List.length_map]; rw [← Hz.out]; exact Hgr.out)
          simp only [List.length_append, List.length_map, List.length_singleton] at this ⊢
          exact this
        case measure => simp [intOf]; omega
end Go.Proofs.Ytdmllfjeofiddaa
/- The document's All: the frames' words are new, too. -/
namespace Go.Proofs.Ytdmllfjeofiddaa
open Go.RowKit

/-- The frames' words stand in blocks from B on. -/
def NewX (B : Nat) (xs : List FrV) : Prop := ∀ x ∈ xs, ∀ ad, x.A = some ad → x.ws ≠ [] → B ≤ ad.block
theorem NewX.nil (B : Nat) : NewX B [] := by intro x hx; simp at hx
theorem NewX.snoc {B : Nat} {xs : List FrV} {x : FrV} (h : NewX B xs) (hx : ∀ ad, x.A = some ad → x.ws ≠ [] → B ≤ ad.block) : NewX B (xs ++ [x]) := by
  intro y hy
  rcases List.mem_append.1 hy with hy | hy
  · exact h y hy
  · rw [List.mem_singleton.1 hy]
    exact hx
/-- What All answers. -/
def AllN (ep : Int) (l : List Nat) (w : World) (e : Ending) (w' : World) : Prop :=
  ∃ (xs : List FrV) (A : Option Addr) (c k : Nat), e = .returned (.tuple #[.slice A xs.length c, .int .i64 k]) ∧ Told ep l (xs.map FrV.f) k ∧ FrsO w w' A c xs ∧ NewX w.heap.size xs
set_option maxRecDepth 100000 in
set_option maxHeartbeats 2000000 in
theorem refAllN_any (ep : Int) (l : List Nat) (h64 : ∀ u ∈ l, u < 18446744073709551616) (m : Nat) (A : Option Addr) (c : Nat) (w : World) (h : Sl w w.heap.size A (u64s l)) (hm : l.length = m) (hmc : m ≤ c) (hc : c ≤ maxLen) (hlen : m ≤ 1073741824) :
    Calls Try.prog 30 #[.int .i64 ep, .slice A m c] w (AllN ep l w) := by
  have Hm := Lib.hid hm
  have H64 := Lib.hid h64
  have Hc := Lib.hid hc
  have Hs := Lib.hid (fun W (hW : Fr No w W) => h.since hW)
  have hcap : c ≤ 9223372036854775807 := hc
  clear hm h64 hc h
  go_enter Try.func30, Try.ntmps30
  go_wp2
  go_loopw [6, 7] (fun ov av wr => ∃ (xs : List FrV) (k : Nat) (B : Option Addr) (cb z : Nat), Hid (z = xs.length) ∧ ov = .slice B z cb ∧ av = .int .i64 k ∧ k ≤ m ∧ z ≤ k ∧ Hid (stepsF ep l xs.length = some (xs.map FrV.f, k)) ∧ Hid (FrsO w wr B cb xs) ∧ Hid (NewX w.heap.size xs)) (fun _ av _ => m - (intOf av).toNat)
  case atStart => exact ⟨[], 0, none, 0, 0, Lib.hid rfl, rfl, rfl, by omega, by omega, Lib.hid rfl, Lib.hid (FrsO.nil _ _ (Fr.refl _ _)), Lib.hid (NewX.nil _)⟩
  case round =>
    obtain ⟨xs, k, B, cb, z, Hz, rfl, rfl, hk, hzk, Hst, Hf, HX⟩ := hrel
    have hsl := drop_sl (Hs.out wr Hf.out.fr) Hm.out hmc hk
    have hdl : (l.drop k).length = m - k := by rw [List.length_drop, Hm.out]
    have Hl64 : Hid (∀ u ∈ l.drop k, u < 18446744073709551616) := Lib.hid (fun u hu => H64.out u (List.mem_of_mem_drop hu))
    have HgA : Hid (c = k → l.drop k = [] ∧ Calls Try.prog 52 #[.int .i64 ep, .int .i64 (z : Int), .slice A (m - k) 0] wr (GotF wr (getF ep z (l.drop k)))) := Lib.hid (by
      intro e
      have h0 : l.drop k = [] := List.eq_nil_of_length_eq_zero (by omega)
      rw [h0] at hdl ⊢
      exact ⟨rfl, refGet_any ep z [] (by simp) (m - k) A 0 wr (Sl.nil _ _ _) hdl (by omega) (by unfold maxLen; omega)⟩)
    have HgB : Hid (¬ c = k → Calls Try.prog 52 #[.int .i64 ep, .int .i64 (z : Int), .slice (Option.map (fun x => x.add k) A) (m - k) (c - k)] wr (GotF wr (getF ep z (l.drop k)))) := Lib.hid (by
      intro e
      rw [if_neg e] at hsl
      exact refGet_any ep z (l.drop k) Hl64.out (m - k) _ (c - k) wr hsl hdl (by omega) (by unfold maxLen; omega))
    clear hsl hdl
    go_wp2_with fail
    · refine (HgA.out (by assumption)).2.mono ?_
      rintro e w1 ⟨⟨xk, xA, xw, xc⟩, q, rfl, f1, -, -, -⟩
      have h0 := (HgA.out (by assumption)).1
      rw [h0] at HgA HgB ⊢
      have hF := Lib.hid (Hf.out.since (f1.alloc (.cells #[.int .i64 xk, .slice xA xw.length xc] 38)))
      unfold FrV.agg
      dsimp only
      generalize xw.length = xm at *
      have hno : (getF ep z []).isSome = false := rfl
      have H0 := Lib.hid h0
      clear HgA HgB h0
      go_wp2
      go_ret2
      have hF2 := hF.out
      rw [Hz.out] at *
      exact ⟨xs, B, cb, k, rfl, ⟨by simp only [List.length_map]; exact Hst.out, by rw [H0.out]; rfl⟩, hF.out, HX.out⟩
    · refine (HgB.out (by assumption)).mono ?_
      rintro e w1 ⟨⟨xk, xA, xw, xc⟩, q, rfl, f1, hfit, hnew, hr⟩
      have f2 := f1.alloc (.cells #[.int .i64 xk, .slice xA xw.length xc] 38)
      have Hfit := Lib.hid (hfit.since ((Fr.refl _ w1).alloc (.cells #[.int .i64 xk, .slice xA xw.length xc] 38)))
      have Hnew := Lib.hid hnew
      clear hfit hnew HgA HgB
      unfold FrV.agg
      dsimp only
      cases hgr : getF ep z (l.drop k) with
      | none =>
        have Hgr := Lib.hid hgr
        have hF := Lib.hid (Hf.out.since f2)
        clear hgr hr f2 Hfit Hnew
        generalize xw.length = xm at *
        go_wp2
        go_ret2
        rw [Hz.out] at *
        exact ⟨xs, B, cb, k, rfl, ⟨by simp only [List.length_map]; exact Hst.out, by simp only [List.length_map]; exact Hgr.out⟩, hF.out, HX.out⟩
      | some fq =>
        rw [hgr] at hr
        simp only [Option.getD_some] at hr
        subst hr
        have hgl := getF_len hgr
        have hq1 : 1 ≤ q := hgl.2.2.1
        have hq2 : k + q ≤ m := by have := hgl.2.1; rw [List.length_drop, Hm.out] at this; omega
        have Hgr := Lib.hid hgr
        have hF := Lib.hid (Hf.out.since f2)
        have hby : Hid (∀ ad, xA = some ad → xw ≠ [] → (Value.slice B xs.length cb).ownBlock ≠ some ad.block) := Lib.hid (fun ad e hn e2 => by
          have h1 := (Hf.out.own.lt _ e2).2
          have h2 := Hnew.out ad e hn
          omega)
        have HXn : Hid (NewX w.heap.size (xs ++ [⟨xk, xA, xw, xc⟩])) := Lib.hid (HX.out.snoc (fun ad e hn => Nat.le_trans Hf.out.fr.size (Hnew.out ad e hn)))
        clear hgr hgl f2 Hnew f1
        have hsz : (w1.alloc (.cells #[.int .i64 xk, .slice xA xw.length xc] 38)).heap.size = w1.heap.size + 1 := by simp
        have c0 : (w1.alloc (.cells #[.int .i64 xk, .slice xA xw.length xc] 38)).cell? ⟨w1.heap.size, 0, none⟩ = some (.int .i64 xk) := (Bk.made w1 _ _).cell 0
        have c1 : (w1.alloc (.cells #[.int .i64 xk, .slice xA xw.length xc] 38)).cell? ⟨w1.heap.size, 1, none⟩ = some (.slice xA xw.length xc) := (Bk.made w1 _ _).cell 1
        go_wp2_with (
          at_builtin
          refine app_frame (w0 := w) rfl _ _ rfl B cb xs ⟨xk, xA, xw, xc⟩ z Hz.out rfl (w1.heap.size + 1) hsz rfl hF.out Hfit.out hby.out (by omega) ?_
          intro A' c' w2 q1 q2 q3
          have Q1 := Lib.hid q1
          clear q1 q2 q3 c0 c1 hsz)
        go_roundw
        case rel =>
          refine ⟨xs ++ [⟨xk, xA, xw, xc⟩], k + q, A', c', z + 1, Lib.hid (by simp [Hz.out]), rfl, by go_num, hq2, by omega, Lib.hid ?_, Q1, HXn⟩
          rw [List.map_append, List.map_singleton]
          have := stepsF_succ (e := ep) (l := l) (fs := xs.map FrV.f) (k := k) (by simp only [List.length_map]; exact Hst.out) (f := FrV.f ⟨xk, xA, xw, xc⟩) (m := q) (by simp only [List.length_map]; rw [← Hz.out]; exact Hgr.out)
          simp only [List.length_append, List.length_map, List.length_singleton] at this ⊢
          exact this
        case measure => simp [intOf]; omega
end Go.Proofs.Ytdmllfjeofiddaa
