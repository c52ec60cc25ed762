/- Package frames: the frame at the beginning of words. -/
import Derived.Test.YtdmllfjeofiddaaPut6
import Derived.Test.YtdmllfjeofiddaaHand
namespace Go.Proofs.Ytdmllfjeofiddaa
open Go.RowKit

/-- A frame's words lie in a block of words. -/
def FrV.Typed (w : World) (x : FrV) : Prop := ∀ ad, x.A = some ad → x.ws ≠ [] → ∃ cs, Bk w ad.block 40 cs
/-- What the package's Get answers: the document's answer, its words in a block of words. -/
def GotP (w : World) (r : Option (Frm × Nat)) (e : Ending) (w' : World) : Prop :=
  ∃ (x : FrV) (k : Nat), e = .returned (.tuple #[x.agg, .int .i64 k, .bool r.isSome]) ∧ Fr No w w' ∧ x.Fit w' w'.heap.size ∧ (∀ ad, x.A = some ad → x.ws ≠ [] → w.heap.size ≤ ad.block) ∧ x.Typed w' ∧ (r.getD (⟨0, []⟩, 0)) = (x.f, k)
theorem GotP.none {w w' : World} (h : Fr No w w') : GotP w none (.returned (.tuple #[.agg #[.int .i64 0, .slice none 0 0], .int .i64 0, .bool false])) w' :=
  ⟨⟨0, Option.none, [], 0⟩, 0, rfl, h, ⟨by simp, by simp, Sl.nil _ _ _, by simp, by simp, by simp⟩, by simp, (by intro ad e; cases e), rfl⟩
theorem GotP.gotF {w w' : World} {r : Option (Frm × Nat)} {e : Ending} (h : GotP w r e w') : GotF w r e w' := by
  obtain ⟨x, k, h1, h2, h3, h4, -, h6⟩ := h
  exact ⟨x, k, h1, h2, h3, h4, h6⟩
/-- The zero frame is stored into the result. -/
theorem Fr.put2 {w W : World} (h : Fr No w W) {b : Nat} (hb : w.heap.size ≤ b) (x y : Value) : Fr No w ((W.setCell ⟨b, 0, none⟩ x).setCell ⟨b, 1, none⟩ y) :=
  (h.setCell (p := ⟨b, 0, none⟩) (.inr hb) _).setCell (p := ⟨b, 1, none⟩) (.inr hb) _

set_option maxRecDepth 100000 in
set_option maxHeartbeats 4000000 in
theorem get_any (ep n : Int) (he : -9223372036854775808 ≤ ep ∧ ep < 9223372036854775808) (hn : -9223372036854775808 ≤ n ∧ n < 9223372036854775808) (l : List Nat) (h64 : ∀ u ∈ l, u < 18446744073709551616) (m : Nat) (A : Option Addr) (c : Nat) (w : World) (h : Sl w w.heap.size A (u64s l)) (hm : l.length = m) (hmc : m ≤ c) (hlen : c ≤ maxLen) :
    Calls Try.prog 63 #[.int .i64 ep, .int .i64 n, .slice A m c] w (GotP w (getF ep n l)) := by
  have HE : Hid (∀ W, Calls Try.prog 58 #[.int .i64 ep] W fun e w' => e = .returned (.bool (numOk ep)) ∧ W = w') := Lib.hid (fun W => isNumber_any ep he.1 he.2 W)
  have HN : Hid (∀ W, Calls Try.prog 58 #[.int .i64 n] W fun e w' => e = .returned (.bool (numOk n)) ∧ W = w') := Lib.hid (fun W => isNumber_any n hn.1 hn.2 W)
  have Hlen := Lib.hid hlen
  have f0 : Fr No w (w.alloc (.cells #[.int .i64 0, .slice none 0 0] 38)) := (Fr.refl _ _).alloc _
  have bR : Bk (w.alloc (.cells #[.int .i64 0, .slice none 0 0] 38)) w.heap.size 38 #[.int .i64 0, .slice none 0 0] := Bk.made w _ _
  have z0 : (w.alloc (.cells #[.int .i64 0, .slice none 0 0] 38)).cell? ⟨w.heap.size, 0, none⟩ = some (.int .i64 0) := bR.cell 0
  have z1 : (w.alloc (.cells #[.int .i64 0, .slice none 0 0] 38)).cell? ⟨w.heap.size, 1, none⟩ = some (.slice none 0 0) := bR.cell 1
  have y0 := bR.frozen 0
  have y1 := bR.frozen 1
  clear he hn hlen
  cases l with
  | nil =>
    obtain rfl : 0 = m := hm
    clear HE HN h
    go_enter Try.func63, Try.ntmps63
    go_wp2
    refine bodyPost_ret (v := .tuple #[.agg #[.int .i64 0, .slice none 0 0], .int .i64 0, .bool false]) (by simp [results, Try.results63, go_sem, z0, z1]) rfl ?_
    exact GotP.none f0
  | cons u r =>
    obtain ⟨ad, rfl, hadB, hc⟩ := h.wordB (show 0 < (u :: r).length by simp)
    have hc0 : w.cell? ad = some (.int .u64 u) := hc
    clear hc
    have hu := h64 u (by simp)
    obtain ⟨q, rfl⟩ : ∃ q, m = q + 1 := ⟨r.length, by simpa using hm.symm⟩
    have Hq : Hid (r.length = q) := Lib.hid (by simpa using hm)
    have hcap : c ≤ 9223372036854775807 := Hlen.out
    clear hm
    cases hE : numOk ep with
    | false =>
      have Hr : Hid (getF ep n (u :: r) = none) := Lib.hid (by simp [getF, hE])
      rw [Hr.out]
      rw [hE] at HE
      clear h h64 hc0 hE HN
      go_enter Try.func63, Try.ntmps63
      go_wp2_with (go_at_call 58; refine (HE.out _).mono ?_; rintro e w' ⟨rfl, rfl⟩)
      refine bodyPost_ret (v := .tuple #[.agg #[.int .i64 0, .slice none 0 0], .int .i64 0, .bool false]) (by simp [results, Try.results63, go_sem, z0, z1]) rfl ?_
      exact GotP.none f0
    | true =>
      rw [hE] at HE
      cases hN : numOk n with
      | false =>
        have Hr : Hid (getF ep n (u :: r) = none) := Lib.hid (by simp [getF, hN])
        rw [Hr.out]
        rw [hN] at HN
        clear h h64 hc0 hE hN
        go_enter Try.func63, Try.ntmps63
        go_wp2_with fail
        refine (HE.out _).mono ?_
        rintro e w' ⟨rfl, rfl⟩
        go_wp2_with fail
        refine (HN.out _).mono ?_
        rintro e w' ⟨rfl, rfl⟩
        go_wp2
        refine bodyPost_ret (v := .tuple #[.agg #[.int .i64 0, .slice none 0 0], .int .i64 0, .bool false]) (by simp [results, Try.results63, go_sem, z0, z1]) rfl ?_
        exact GotP.none f0
      | true =>
        rw [hN] at HN
        obtain ⟨K, M, S, HK, HM, HS⟩ : ∃ K M S : Nat, Hid (K = u / 72057594037927936) ∧ Hid (M = u / 4294967296 % 16777216) ∧ Hid (S = u % 4294967296) := ⟨_, _, _, Lib.hid rfl, Lib.hid rfl, Lib.hid rfl⟩
        have hk1 : K ≤ 255 := by rw [HK.out]; omega
        have hm1 : M ≤ 16777215 := by rw [HM.out]; omega
        have HO : Hid (∀ W, Calls Try.prog 72 #[.int .u64 u] W fun e w' => e = .returned (.tuple #[.int .i64 K, .int .i64 M, .int .u32 S]) ∧ Fr No W w') := Lib.hid (fun W => by
          have := sumsOpen_any u hu W
          rw [← HK.out, ← HM.out, ← HS.out] at this
          exact this)
        have x0 : (w.alloc (.cells #[.int .i64 0, .slice none 0 0] 38)).cell? ad = some (.int .u64 u) := (f0.cell (p := ad) hadB (fun e => e)).trans hc0
        by_cases g3 : q < M
        · have Hr : Hid (getF ep n (u :: r) = none) := Lib.hid (getF_no (fun c => by have := c.2.2; have := Hq.out; have := HM.out; omega))
          rw [Hr.out]
          clear h h64 hc0 hE hN
          go_enter Try.func63, Try.ntmps63
          go_wp2_with fail
          refine (HE.out _).mono ?_
          rintro e w' ⟨rfl, rfl⟩
          go_wp2_with fail
          refine (HN.out _).mono ?_
          rintro e w' ⟨rfl, rfl⟩
          go_wp2_with fail
          refine (HO.out _).mono ?_
          rintro e w1 ⟨rfl, f1⟩
          have b1 := bR.fr f1 (fun e => e)
          have z0 : w1.cell? ⟨w.heap.size, 0, none⟩ = some (.int .i64 0) := b1.cell 0
          have z1 : w1.cell? ⟨w.heap.size, 1, none⟩ = some (.slice none 0 0) := b1.cell 1
          have y0 := b1.frozen 0
          have y1 := b1.frozen 1
          go_wp2
          refine bodyPost_ret (v := .tuple #[.agg #[.int .i64 0, .slice none 0 0], .int .i64 0, .bool false]) (by simp [results, Try.results63, go_sem, z0, z1]) rfl ?_
          exact GotP.none ((f0.trans' f1 (fun _ _ e => e)).put2 (Nat.le_refl _) _ _)
        · have hM : (r.take M).length = M := by have := Hq.out; simp; omega
          have Hsl : Hid (∀ W, Fr No w W → c ≠ 1 → Sl W W.heap.size (some ⟨ad.block, ad.off + 1, none⟩) (u64s (r.take M))) := Lib.hid (by
            intro W hW hc1
            have a1 := (h.drop (k := 1) (n := q + 1) (cap := c) (sz := 1) (by simp [u64s]; exact Hq.out) (by omega) (by omega)).since hW
            rw [if_neg hc1] at a1
            have a2 := a1.take M
            have a3 : ((u64s (u :: r)).drop (1 * 1)).take M = u64s (r.take M) := by simp [u64s]
            rw [a3] at a2
            exact a2)
          have Hsl1 : Hid (∀ W A', c = 1 → Sl W W.heap.size A' (u64s (r.take M))) := Lib.hid (by
            intro W A' hc1
            have : M = 0 := by omega
            rw [this]
            exact Sl.nil _ _ _)
          have Hc0 : Hid (∀ W, Fr No w W → W.cell? ad = some (.int .u64 u)) := Lib.hid (fun W hW => (hW.cell (p := ad) hadB (fun e => e)).trans hc0)
          have Hlt : Hid (∀ u ∈ r.take M, u < 18446744073709551616) := Lib.hid (fun v hv => h64 v (by simp [List.mem_of_mem_take hv]))
          have Hget : Hid (headOk u (r.length + 1) ↔ K ≠ 0 ∧ M ≤ 2000) := Lib.hid (by
            unfold headOk
            rw [← HK.out, ← HM.out]
            have := Hq.out
            omega)
          have Hno : Hid (¬ (K ≠ 0 ∧ M ≤ 2000) → getF ep n (u :: r) = none) := Lib.hid (fun hne => getF_no (fun c => hne (Hget.out.1 c)))
          have Hfn : Hid (fits u (ep.toNat :: n.toNat :: r.take M) = false → getF ep n (u :: r) = none) := Lib.hid (by
            intro hf
            refine getF_bad ?_
            rw [HM.out] at hf
            simpa [fits] using hf)
          have Hfy : Hid (K ≠ 0 ∧ M ≤ 2000 → fits u (ep.toNat :: n.toNat :: r.take M) = true → getF ep n (u :: r) = some (⟨K, r.take M⟩, M + 1)) := Lib.hid (by
            intro hok hf
            have := getF_yes (e := ep) (n := n) (u := u) (r := r) hE hN (Hget.out.2 hok) (by
              rw [HM.out] at hf
              simpa [fits] using hf)
            rw [← HK.out, ← HM.out] at this
            exact this)
          obtain ⟨E, rfl⟩ := Int.eq_ofNat_of_zero_le ((numOk_iff _).1 hE).1
          obtain ⟨N, rfl⟩ := Int.eq_ofNat_of_zero_le ((numOk_iff _).1 hN).1
          have bE : E < 4294967296 := by have := ((numOk_iff _).1 hE).2; omega
          have bN : N < 4294967296 := by have := ((numOk_iff _).1 hN).2; omega
          simp only [Int.toNat_natCast] at Hfn Hfy
          have Hu := Lib.hid hu
          have BE := Lib.hid bE
          have BN := Lib.hid bN
          have HR := Lib.hid (fun W (hW : Fr No (w.alloc (.cells #[.int .i64 0, .slice none 0 0] 38)) W) => bR.fr hW (fun e => e))
          clear h h64 hc0 hE hN Hget hu bE bN bR
          obtain ⟨V, HVd, HV⟩ : ∃ V : Value, Hid (V = if c = 1 then Value.slice (some ad) M 0 else Value.slice (some ⟨ad.block, ad.off + 1, none⟩) M (c - 1)) ∧ Hid (∃ AA cc, V = .slice AA M cc ∧ M ≤ cc ∧ cc ≤ maxLen ∧ ∀ W, Fr No w W → Sl W W.heap.size AA (u64s (r.take M))) := by
            refine ⟨_, Lib.hid rfl, Lib.hid ?_⟩
            by_cases hc1 : c = 1
            · rw [if_pos hc1]
              exact ⟨_, _, rfl, by omega, Nat.zero_le _, fun W _ => Hsl1.out W _ hc1⟩
            · rw [if_neg hc1]
              exact ⟨_, _, rfl, by omega, by have := Hlen.out; omega, fun W hW => Hsl.out W hW hc1⟩
          clear Hsl Hsl1
          have HMay : Hid (∀ W, Calls Try.prog 46 #[.agg #[.int .i64 (K : Int), V]] W fun e w' => e = .returned (.bool (frmOk ⟨K, r.take M⟩)) ∧ Fr No W w') := Lib.hid (fun W => by
            obtain ⟨AA, cc, rfl, -, -, -⟩ := HV.out
            have := may_any ⟨K, AA, r.take M, cc⟩ W
            simp only [FrV.agg, FrV.f, hM] at this
            exact this)
          have HMk : Hid (∀ W, Fr No w W → M ≤ 2000 → Calls Try.prog 60 #[.int .i64 (E : Int), .int .i64 (N : Int), V] W fun e w' => ∃ A' c', e = .returned (.slice A' (2 + M) c') ∧ Sl w' w'.heap.size A' (u64s (E :: N :: r.take M)) ∧ Fr No W w') := Lib.hid (fun W hW hle => by
            obtain ⟨AA, cc, rfl, -, -, hs⟩ := HV.out
            exact marked_any E N BE.out BN.out (r.take M) M AA cc W (hs W hW) hM (by omega))
          have HFt : Hid (∀ W A' c', Sl W W.heap.size A' (u64s (E :: N :: r.take M)) → M ≤ 2000 → Calls Try.prog 73 #[.int .u64 (u : Int), .slice A' (2 + M) c'] W fun e w' => e = .returned (.bool (fits u (E :: N :: r.take M))) ∧ Fr No W w') := Lib.hid (fun W A' c' hs hle =>
            sumsFits_any u Hu.out (E :: N :: r.take M) (by
              intro v hv
              simp only [List.mem_cons] at hv
              rcases hv with rfl | rfl | hv
              · have := BE.out; omega
              · have := BN.out; omega
              · exact Hlt.out v hv) (2 + M) A' c' W hs (by simp [hM]; omega) (by omega))
          clear hM
          generalize getF (E : Int) (N : Int) (u :: r) = R at Hno Hfn Hfy ⊢
          by_cases hc1 : c = 1
          all_goals
            go_enter Try.func63, Try.ntmps63
            go_wp2_with fail
            refine (HE.out _).mono ?_
            rintro e w' ⟨rfl, rfl⟩
            go_wp2_with fail
            refine (HN.out _).mono ?_
            rintro e w' ⟨rfl, rfl⟩
            go_wp2_with fail
            refine (HO.out _).mono ?_
            rintro e w1 ⟨rfl, f1⟩
            go_wp2_with fail
            first
              | (have HVe : Value.slice (some ad) M 0 = V := by rw [HVd.out, if_pos hc1]
                 rw [HVe])
              | (have HVe : Value.slice (some ⟨ad.block, ad.off + 1, none⟩) M (c - 1) = V := by rw [HVd.out, if_neg hc1]
                 rw [HVe])
            clear HVe
            obtain ⟨wb, Wb⟩ : ∃ wb, Hid (wb = w1.alloc (.cells #[.int .i64 K, V] 38)) := ⟨_, Lib.hid rfl⟩
            have f3 : Fr No w1 wb := by rw [Wb.out]; exact (Fr.refl _ _).alloc _
            have f4 : Fr No w wb := (f0.trans' f1 (fun _ _ e => e)).trans' f3 (fun _ _ e => e)
            have bR4 := HR.out wb (f1.trans' f3 (fun _ _ e => e))
            obtain ⟨b, Hb⟩ : ∃ b, Hid (b = w1.heap.size) := ⟨_, Lib.hid rfl⟩
            have bB : Bk wb b 38 #[.int .i64 K, V] := by rw [Wb.out, Hb.out]; exact Bk.made w1 _ _
            have hbG : Hid (w.heap.size ≤ b) := Lib.hid (by rw [Hb.out]; have := f1.size; simp at this; omega)
            have hbR : Hid (b ≠ w.heap.size) := Lib.hid (by rw [Hb.out]; have := f1.size; simp at this; omega)
            have Hcell : Hid (∀ W, Fr No wb W → W.cell? ad = some (.int .u64 u) ∧ W.cell? ⟨b, 0, none⟩ = some (.int .i64 K) ∧ W.cell? ⟨b, 1, none⟩ = some V) := Lib.hid (fun W hW =>
              ⟨Hc0.out W (f4.trans' hW (fun _ _ e => e)), (bB.fr hW (fun e => e)).cell 0, (bB.fr hW (fun e => e)).cell 1⟩)
            obtain ⟨k0, k1, k2⟩ := Hcell.out wb (Fr.refl _ _)
            rw [← Wb.out, ← Hb.out]
            have F4 := Lib.hid f4
            have BR := Lib.hid bR4
            have BB := Lib.hid bB
            clear f0 f1 f3 f4 bR4 bB z0 z1 y0 y1 x0 HR Wb HE HN HO
            by_cases hok : K ≠ 0 ∧ M ≤ 2000
            · have hf : Hid (frmOk ⟨K, r.take M⟩ = true) := Lib.hid (by
                have : (r.take M).length = M := by have := Hq.out; simp; omega
                unfold frmOk
                simp only [decide_eq_true_eq]
                rw [this]
                omega)
              rw [hf.out] at HMay
              have hle := hok.2
              cases hft : fits u (E :: N :: r.take M)
              all_goals
               rw [hft] at HFt
               go_region_held3 (fun w' => w'.cell? ad = some (.int .u64 u) ∧ w'.cell? ⟨b, 0, none⟩ = some (.int .i64 K) ∧ w'.cell? ⟨b, 1, none⟩ = some V) (first
                 | exact Hcell.out _ F7
                 | exact Hcell.out _ F6
                 | exact Hcell.out _ F5
                 | go_keep)
                 (first
                  | (go_at_call 73
                     refine (HFt.out _ _ _ (hs6.since (by first | exact Fr.refl _ _ | exact (Fr.refl _ _).drew | exact (Fr.refl _ _).drewN _)) hle).mono ?_
                     rintro e w7 ⟨rfl, f7⟩
                     have F7 : Fr No wb w7 := Fr.trans' (Fr.trans' F6 (by first | exact Fr.refl _ _ | exact (Fr.refl _ _).drew | exact (Fr.refl _ _).drewN _) (fun _ _ e => e)) f7 (fun _ _ e => e))
                  | (go_at_call 60
                     have _ := F5
                     refine (HMk.out _ (F4.out.trans' (Fr.trans' F5 (by first | exact Fr.refl _ _ | exact (Fr.refl _ _).drew | exact (Fr.refl _ _).drewN _) (fun _ _ e => e)) (fun _ _ e => e)) hle).mono ?_
                     rintro e w6 ⟨A6, c6, rfl, hs6, f6⟩
                     have F6 : Fr No wb w6 := Fr.trans' (Fr.trans' F5 (by first | exact Fr.refl _ _ | exact (Fr.refl _ _).drew | exact (Fr.refl _ _).drewN _) (fun _ _ e => e)) f6 (fun _ _ e => e))
                  | (go_at_call 46
                     refine (HMay.out _).mono ?_
                     rintro e w5 ⟨rfl, f5⟩
                     have F5 : Fr No wb w5 := Fr.trans' (by first | exact Fr.refl _ _ | exact (Fr.refl _ _).drew | exact (Fr.refl _ _).drewN _) f5 (fun _ _ e => e)))
               have bR7 := BR.out.fr F7 (fun e => e)
               have bB7 := BB.out.fr F7 (fun e => e)
               have f7 := F4.out.trans' F7 (fun _ _ e => e)
               clear f5 F5 f6 F6 hs6 k0 k1 k2 HMay HMk HFt Hcell F7
              · have HNo := Lib.hid (Hfn.out hft)
                have y0 := bR7.frozen 0
                have y1 := bR7.frozen 1
                have BR7 := Lib.hid bR7
                clear bR7 bB7 hft hok hcap hmc g3 hk1 hm1
                clear Hlt Hno Hfn Hfy Hu BE BN HVd HV Hc0 HK HM HS Hlen Hq hf hle F4 BR BB Hb hbR
                have z0 : w7.cell? ⟨w.heap.size, 0, none⟩ = some (.int .i64 0) := BR7.out.cell 0
                have z1 : w7.cell? ⟨w.heap.size, 1, none⟩ = some (.slice none 0 0) := BR7.out.cell 1
                go_wp2
                refine bodyPost_ret (v := .tuple #[.agg #[.int .i64 0, .slice none 0 0], .int .i64 0, .bool false]) (by simp [results, Try.results63, go_sem, z0, z1]) rfl ?_
                rw [HNo.out]
                exact GotP.none (f7.put2 (Nat.le_refl _) _ _)
              · have HYe := Lib.hid (Hfy.out hok hft)
                clear hft Hfy Hfn Hno hok
                obtain ⟨AA, cc, rfl, hc2, -, hs⟩ := HV.out
                have hsM := hs w7 f7
                have k1 : w7.cell? ⟨b, 0, none⟩ = some (.int .i64 K) := bB7.cell 0
                have k2 : w7.cell? ⟨b, 1, none⟩ = some (.slice AA M cc) := bB7.cell 1
                have hM : (r.take M).length = M := by have := Hq.out; simp; omega
                have HB7 := Lib.hid bB7
                have HR7 := Lib.hid bR7
                have HF7 := Lib.hid f7
                have HbR := hbR
                have Hcl : Hid (∀ w8, Fr (fun k => (Value.slice none 0 0).ownBlock = some k) w7 w8 → Fr No w7 w8) := Lib.hid (fun w8 h8 => h8.weak (fun i _ e => by simp [Value.ownBlock] at e))
                clear hs bB7 bR7 f7 hcap hmc hk1 hm1 g3
                go_wp2_with (
                  at_builtin
                  refine append_words rfl _ _ rfl w.heap.size none 0 0 [] rfl _ AA M cc (r.take M) rfl hM hsM (World.ownsRow_nil _ _ _ _) (by omega) HF7.out.size ?_
                  intro A1 c1 w8 hown1 hf1 hg1
                  rw [show 0 + M = M by omega] at hown1 ⊢
                  have F8 := Hcl.out w8 hf1
                  have bB8 := HB7.out.fr F8 (fun e => e)
                  have bR8 := HR7.out.fr F8 (fun e => e)
                  have d0 : w8.cell? ⟨b, 0, none⟩ = some (.int .i64 K) := bB8.cell 0
                  have d1 : w8.cell? ⟨b, 1, none⟩ = some (.slice AA M cc) := bB8.cell 1
                  have y0 := bB8.frozen 0
                  have y1 := bB8.frozen 1
                  have e0 : w8.cell? ⟨w.heap.size, 0, none⟩ = some (.int .i64 0) := bR8.cell 0
                  have e1 : w8.cell? ⟨w.heap.size, 1, none⟩ = some (.slice none 0 0) := bR8.cell 1
                  have x0 := bR8.frozen 0
                  have x1 := bR8.frozen 1
                  have hne := HbR.out
                  clear hf1 hg1 hsM k1 k2)
                have hnc : M ≤ c1 ∧ c1 ≤ maxLen := by
                  obtain ⟨_, _, hv, hnc, hcm, _⟩ := own_shape hown1
                  simp only [Value.slice.injEq] at hv
                  obtain ⟨-, -, rfl⟩ := hv
                  exact ⟨hnc, hcm⟩
                have hAb : ∀ a, A1 = some a → u64s (r.take M) ≠ [] → a.block ≠ b ∧ a.block ≠ w.heap.size := by
                  rintro a rfl -
                  have q1 := own_apart hown1 bB8 (by decide)
                  have q2 := own_apart hown1 bR8 (by decide)
                  simp only [Value.ownBlock, ne_eq, Option.some.injEq] at q1 q2
                  exact ⟨q1, q2⟩
                have hslw := Sl.ofOwn hown1
                have HF8 := HF7.out.trans' F8 (fun _ _ e => e)
                have c0 : (w8.setCell ⟨b, 1, none⟩ (.slice A1 M c1)).cell? ⟨w.heap.size, 0, none⟩ = some (.int .i64 0) := (World.cell?_setCell_far w8 ⟨b, 1, none⟩ ⟨w.heap.size, 0, none⟩ _ hne).trans e0
                have c1' : (w8.setCell ⟨b, 1, none⟩ (.slice A1 M c1)).cell? ⟨w.heap.size, 1, none⟩ = some (.slice none 0 0) := (World.cell?_setCell_far w8 ⟨b, 1, none⟩ ⟨w.heap.size, 1, none⟩ _ hne).trans e1
                refine bodyPost_ret (v := .tuple #[.agg #[.int .i64 K, .slice A1 M c1], .int .i64 (1 + (M : Int)), .bool true]) (by simp [results, Try.results63, go_sem, c0, c1']) rfl ?_
                rw [HYe.out]
                have hb := hbG.out
                have hk255 : K ≤ 255 := by have := HK.out; have := Hu.out; omega
                refine ⟨⟨K, A1, r.take M, c1⟩, M + 1, ?_, ?_, ?_, ?_, ?_, rfl⟩
                · simp [FrV.agg, hM]
                  omega
                · exact (HF8.setCell (p := ⟨b, 1, none⟩) (.inr hb) _).put2 (Nat.le_refl _) _ _
                · have f9 : Fr (fun k => k = b ∨ k = w.heap.size) w8 (((w8.setCell ⟨b, 1, none⟩ (.slice A1 M c1)).setCell ⟨w.heap.size, 0, none⟩ (.int .i64 K)).setCell ⟨w.heap.size, 1, none⟩ (.slice A1 M c1)) :=
                    (((Fr.refl _ w8).setCell (p := ⟨b, 1, none⟩) (.inl (.inl rfl)) _).setCell (p := ⟨w.heap.size, 0, none⟩) (.inl (.inr rfl)) _).setCell (p := ⟨w.heap.size, 1, none⟩) (.inl (.inr rfl)) _
                  exact ⟨by simp only; omega, by simp only; omega, (hslw.fr f9 (Nat.le_refl _) (fun a ha hn e => by have := hAb a ha hn; rcases e with e | e <;> simp_all)).more f9.size, Hlt.out, by simp only [hM]; exact hnc.1, hnc.2⟩
                · intro a ha _
                  simp only at ha
                  subst ha
                  exact (hown1.lt a.block (by simp [Value.ownBlock])).1
                · intro a ha hn
                  simp only at ha hn
                  subst ha
                  have hAb2 := hAb a rfl (by intro e; apply hn; simpa [u64s] using e)
                  obtain ⟨cs, hcs⟩ : ∃ cs, Bk w8 a.block 40 cs := by
                    rcases hown1.2 with ⟨hv, _⟩ | ⟨g', cap, cur, hv, _, hh, _⟩
                    · cases hv
                    · simp only [Value.slice.injEq, Option.some.injEq] at hv
                      rw [hv.1]
                      exact ⟨_, hh⟩
                  have f9 : Fr (fun k => k = b ∨ k = w.heap.size) w8 (((w8.setCell ⟨b, 1, none⟩ (.slice (some a) M c1)).setCell ⟨w.heap.size, 0, none⟩ (.int .i64 K)).setCell ⟨w.heap.size, 1, none⟩ (.slice (some a) M c1)) :=
                    (((Fr.refl _ w8).setCell (p := ⟨b, 1, none⟩) (.inl (.inl rfl)) _).setCell (p := ⟨w.heap.size, 0, none⟩) (.inl (.inr rfl)) _).setCell (p := ⟨w.heap.size, 1, none⟩) (.inl (.inr rfl)) _
                  exact ⟨cs, hcs.fr f9 (fun e => by rcases e with e | e; exact hAb2.1 e; exact hAb2.2 e)⟩
            · have hf : Hid (frmOk ⟨K, r.take M⟩ = false) := Lib.hid (by
                have : (r.take M).length = M := by have := Hq.out; simp; omega
                unfold frmOk
                simp only [decide_eq_false_iff_not]
                rw [this]
                omega)
              rw [hf.out] at HMay
              have HNo := Lib.hid (Hno.out hok)
              refine wp_region_held_drew (S := fun w' => w'.cell? ad = some (.int .u64 u) ∧ w'.cell? ⟨b, 0, none⟩ = some (.int .i64 K) ∧ w'.cell? ⟨b, 1, none⟩ = some V) (by kernel_rfl) ⟨k0, k1, k2⟩ (fun hHeld => ?_)
              refine any_take 48 (.agg #[.int .i64 K, V]) (i := 0) rfl rfl (by kernel_rfl) (by kernel_rfl) (by kernel_rfl) (fun _ _ _ h => h) (by rfl) (by intro w hSw; (try dsimp only at hSw); go_simp; try with_reducible rfl) (by assumption) ?_
              simp only [Act.put, List.setIfInBounds_toArray, List.set_cons_zero, List.set_cons_succ]
              refine wpAnyH_ready (rs := [1]) (by kernel_rfl) (by simp) ?_
              refine AllReadyH.cons rfl (fun K' hK => ?_) AllReadyH.nil
              go_simp
              go_at_call 46
              refine (HMay.out _).mono ?_
              rintro e w5 ⟨rfl, f5⟩
              have F5 : Fr No wb w5 := Fr.trans' ((Fr.refl _ _).drew) f5 (fun _ _ e => e)
              dsimp only
              refine hK.out _ _ (Hcell.out w5 F5) (fun hHeld => ?_)
              clear hK
              refine any_take 50 (.bool true) (i := 2) rfl rfl (by kernel_rfl) (by kernel_rfl) (by kernel_rfl) (fun _ _ _ h => h) (by rfl) (by intro w hSw; (try dsimp only at hSw); go_simp; try with_reducible rfl) (by assumption) ?_
              simp only [Act.put, List.setIfInBounds_toArray, List.set_cons_zero, List.set_cons_succ]
              refine any_take 51 (.bool true) (i := 3) rfl rfl (by kernel_rfl) (by kernel_rfl) (by kernel_rfl) (fun _ _ _ h => h) (by rfl) (by intro w hSw; (try dsimp only at hSw); go_simp; try with_reducible rfl) (by assumption) ?_
              simp only [Act.put, List.setIfInBounds_toArray, List.set_cons_zero, List.set_cons_succ]
              refine any_skip 52 (i := 4) rfl rfl (by kernel_rfl) (by kernel_rfl) (by kernel_rfl) (fun _ _ _ h => h) (by rfl) (by assumption) ?_
              simp only [Act.put, List.setIfInBounds_toArray, List.set_cons_zero, List.set_cons_succ]
              refine any_skip 53 (i := 5) rfl rfl (by kernel_rfl) (by kernel_rfl) (by kernel_rfl) (fun _ _ _ h => h) (by rfl) (by assumption) ?_
              simp only [Act.put, List.setIfInBounds_toArray, List.set_cons_zero, List.set_cons_succ]
              refine any_skip 54 (i := 6) rfl rfl (by kernel_rfl) (by kernel_rfl) (by kernel_rfl) (fun _ _ _ h => h) (by rfl) (by assumption) ?_
              simp only [Act.put, List.setIfInBounds_toArray, List.set_cons_zero, List.set_cons_succ]
              refine any_skip 55 (i := 7) rfl rfl (by kernel_rfl) (by kernel_rfl) (by kernel_rfl) (fun _ _ _ h => h) (by rfl) (by assumption) ?_
              simp only [Act.put, List.setIfInBounds_toArray, List.set_cons_zero, List.set_cons_succ]
              refine any_skip 56 (i := 8) rfl rfl (by kernel_rfl) (by kernel_rfl) (by kernel_rfl) (fun _ _ _ h => h) (by rfl) (by assumption) ?_
              simp only [Act.put, List.setIfInBounds_toArray, List.set_cons_zero, List.set_cons_succ]
              refine any_skip 57 (i := 9) rfl rfl (by kernel_rfl) (by kernel_rfl) (by kernel_rfl) (fun _ _ _ h => h) (by rfl) (by assumption) ?_
              simp only [Act.put, List.setIfInBounds_toArray, List.set_cons_zero, List.set_cons_succ]
              refine any_skip 58 (i := 10) rfl rfl (by kernel_rfl) (by kernel_rfl) (by kernel_rfl) (fun _ _ _ h => h) (by rfl) (by assumption) ?_
              simp only [Act.put, List.setIfInBounds_toArray, List.set_cons_zero, List.set_cons_succ]
              refine any_skip 59 (i := 11) rfl rfl (by kernel_rfl) (by kernel_rfl) (by kernel_rfl) (fun _ _ _ h => h) (by rfl) (by assumption) ?_
              simp only [Act.put, List.setIfInBounds_toArray, List.set_cons_zero, List.set_cons_succ]
              refine any_skip 60 (i := 12) rfl rfl (by kernel_rfl) (by kernel_rfl) (by kernel_rfl) (fun _ _ _ h => h) (by rfl) (by assumption) ?_
              simp only [Act.put, List.setIfInBounds_toArray, List.set_cons_zero, List.set_cons_succ]
              refine any_skip 61 (i := 13) rfl rfl (by kernel_rfl) (by kernel_rfl) (by kernel_rfl) (fun _ _ _ h => h) (by rfl) (by assumption) ?_
              simp only [Act.put, List.setIfInBounds_toArray, List.set_cons_zero, List.set_cons_succ]
              refine any_take 62 (.bool true) (i := 14) rfl rfl (by kernel_rfl) (by kernel_rfl) (by kernel_rfl) (fun _ _ _ h => h) (by rfl) (by intro w hSw; (try dsimp only at hSw); go_simp; try with_reducible rfl) (by assumption) ?_
              simp only [Act.put, List.setIfInBounds_toArray, List.set_cons_zero, List.set_cons_succ]
              refine wpAnyH_done (by kernel_rfl) ?_ _
              have bR5 := BR.out.fr F5 (fun e => e)
              have BR5 := Lib.hid bR5
              have y0 := bR5.frozen 0
              have y1 := bR5.frozen 1
              have hfr := F4.out.trans' F5 (fun _ _ e => e)
              clear hok hHeld f5 F5 bR5 k0 k1 k2 hcap hmc g3 hk1 hm1
              clear Hcell HMay HMk HFt Hlt Hno Hfn Hfy Hu BE BN HVd HV Hc0 HK HM HS Hlen Hq hf F4 BR BB Hb hbR
              have z0 : w5.cell? ⟨w.heap.size, 0, none⟩ = some (.int .i64 0) := BR5.out.cell 0
              have z1 : w5.cell? ⟨w.heap.size, 1, none⟩ = some (.slice none 0 0) := BR5.out.cell 1
              go_wp2
              refine bodyPost_ret (v := .tuple #[.agg #[.int .i64 0, .slice none 0 0], .int .i64 0, .bool false]) (by simp [results, Try.results63, go_sem, z0, z1]) rfl ?_
              rw [HNo.out]
              exact GotP.none (hfr.put2 (Nat.le_refl _) _ _)
end Go.Proofs.Ytdmllfjeofiddaa
