/- The document's own Read of a sector. -/
import Derived.Test.YtcjbdoppphjpjaaRea7
import Derived.Test.YtcjbdoppphjpjaaHand
namespace Go.Proofs.Ytcjbdoppphjpjaa
open Go.RowKit

set_option maxRecDepth 100000 in
set_option maxHeartbeats 4000000 in
theorem refRead7_lit (s0 s1 s2 s3 s4 s5 s6 s7 : Nat) (hs : Sec [s0, s1, s2, s3, s4, s5, s6, s7]) (w : World) :
    Calls Try.prog 10 #[.agg #[.int .u64 s0, .int .u64 s1, .int .u64 s2, .int .u64 s3, .int .u64 s4, .int .u64 s5, .int .u64 s6, .int .u64 s7]] w fun e w' =>
      e = .returned (.tuple #[(getA (readA [s0, s1, s2, s3, s4, s5, s6, s7])).val, .bool (readA [s0, s1, s2, s3, s4, s5, s6, s7]).isSome]) ∧ Fr No w w' := by
  have HG : Hid (∀ i, 1 ≤ i → i < 5 → 4294967296 ≤ [s0, s1, s2, s3, s4, s5, s6, s7].getD i 0 → readA [s0, s1, s2, s3, s4, s5, s6, s7] = none) := Lib.hid (fun i h1 h2 h => readA_great ⟨h1, h2⟩ h)
  obtain ⟨r, Hr⟩ : ∃ r, Hid (readA [s0, s1, s2, s3, s4, s5, s6, s7] = r) := ⟨_, Lib.hid rfl⟩
  rw [Hr.out] at HG ⊢
  have b0 := ((Bk.made w 25 #[.int .u64 s0, .int .u64 s1, .int .u64 s2, .int .u64 s3, .int .u64 s4, .int .u64 s5, .int .u64 s6, .int .u64 s7]).fr ((Fr.refl No _).alloc (.cells #[.int .i64 0, .int .i64 0, .int .i64 0, .int .i64 0] 23)) (fun e => e))
  have b1 := (Bk.made (w.alloc (.cells #[.int .u64 s0, .int .u64 s1, .int .u64 s2, .int .u64 s3, .int .u64 s4, .int .u64 s5, .int .u64 s6, .int .u64 s7] 25)) 23 #[.int .i64 0, .int .i64 0, .int .i64 0, .int .i64 0])
  have f1 : Fr No w ((w.alloc (.cells #[.int .u64 s0, .int .u64 s1, .int .u64 s2, .int .u64 s3, .int .u64 s4, .int .u64 s5, .int .u64 s6, .int .u64 s7] 25)).alloc (.cells #[.int .i64 0, .int .i64 0, .int .i64 0, .int .i64 0] 23)) := ((Fr.refl _ _).alloc _).alloc _
  rw [World.size_alloc] at b1
  obtain ⟨wa, Hwa⟩ : ∃ wa, Hid (wa = ((w.alloc (.cells #[.int .u64 s0, .int .u64 s1, .int .u64 s2, .int .u64 s3, .int .u64 s4, .int .u64 s5, .int .u64 s6, .int .u64 s7] 25)).alloc (.cells #[.int .i64 0, .int .i64 0, .int .i64 0, .int .i64 0] 23))) := ⟨_, Lib.hid rfl⟩
  go_enter Try.func10, Try.ntmps10
  go_wp2
  rw [← Hwa.out] at b0 b1 f1 ⊢
  have F1 := Lib.hid f1
  obtain ⟨x0, x1, x2, x3, x4, x5, x6, x7⟩ := bk8 b0
  obtain ⟨z0, z1, z2, z3⟩ := bk4 b1
  obtain ⟨y0, y1, y2, y3⟩ := fz4 b1
  have B0 := Lib.hid b0
  have B1 := Lib.hid b1
  have Hs := Lib.hid hs
  clear f1 b0 b1 hs
  go_loop [4] (fun i => ∃ j : Nat, 1 ≤ j ∧ j ≤ 5 ∧ i = .int .i64 j ∧ ∀ k, 1 ≤ k → k < j → [s0, s1, s2, s3, s4, s5, s6, s7].getD k 0 < 4294967296) (fun i => 5 - (intOf i).toNat)
  case atStart => exact ⟨1, by omega, by omega, rfl, fun k h1 h2 => by omega⟩
  case round =>
    obtain ⟨j, hj1, hj5, rfl, hb⟩ := hrel
    have Hb := Lib.hid hb
    clear hb
    by_cases hj : j < 5
    · have hjj : j = 1 ∨ j = 2 ∨ j = 3 ∨ j = 4 := by omega
      clear hj hj1 hj5
      rcases hjj with rfl | rfl | rfl | rfl
      · by_cases hlt : s1 < 4294967296
        · have hd : decide ((4294967296 : Int) ≤ (s1 : Int)) = false := by simp; omega
          have Hlt := Lib.hid hlt
          clear hlt
          go_wp2
          go_round
          case rel =>
            refine ⟨2, by omega, by omega, rfl, fun k h1 h2 => ?_⟩
            rcases Nat.lt_or_ge k 1 with h3 | h3
            · exact Hb.out k h1 h3
            · obtain rfl : k = 1 := by omega
              exact Hlt.out
          case measure => simp [intOf]
        · have hnone := HG.out 1 (by omega) (by omega) (by show 4294967296 ≤ s1; omega)
          have hd : decide ((4294967296 : Int) ≤ (s1 : Int)) = true := by simp; omega
          have Hnone := Lib.hid hnone
          clear Hb HG hlt hnone
          go_wp2
          refine bodyPost_ret (v := .tuple #[.agg #[.int .i64 0, .int .i64 0, .int .i64 0, .int .i64 0], .bool false]) (by simp [results, Try.results10, go_sem, z0, z1, z2, z3]) rfl ?_
          refine ⟨by rw [Hnone.out]; rfl, ?_⟩
          repeat (first | with_reducible exact F1.out | refine Fr.setCell ?_ (.inr (Nat.le_succ _)) _)
      · by_cases hlt : s2 < 4294967296
        · have hd : decide ((4294967296 : Int) ≤ (s2 : Int)) = false := by simp; omega
          have Hlt := Lib.hid hlt
          clear hlt
          go_wp2
          go_round
          case rel =>
            refine ⟨3, by omega, by omega, rfl, fun k h1 h2 => ?_⟩
            rcases Nat.lt_or_ge k 2 with h3 | h3
            · exact Hb.out k h1 h3
            · obtain rfl : k = 2 := by omega
              exact Hlt.out
          case measure => simp [intOf]
        · have hnone := HG.out 2 (by omega) (by omega) (by show 4294967296 ≤ s2; omega)
          have hd : decide ((4294967296 : Int) ≤ (s2 : Int)) = true := by simp; omega
          have Hnone := Lib.hid hnone
          clear Hb HG hlt hnone
          go_wp2
          refine bodyPost_ret (v := .tuple #[.agg #[.int .i64 0, .int .i64 0, .int .i64 0, .int .i64 0], .bool false]) (by simp [results, Try.results10, go_sem, z0, z1, z2, z3]) rfl ?_
          refine ⟨by rw [Hnone.out]; rfl, ?_⟩
          repeat (first | with_reducible exact F1.out | refine Fr.setCell ?_ (.inr (Nat.le_succ _)) _)
      · by_cases hlt : s3 < 4294967296
        · have hd : decide ((4294967296 : Int) ≤ (s3 : Int)) = false := by simp; omega
          have Hlt := Lib.hid hlt
          clear hlt
          go_wp2
          go_round
          case rel =>
            refine ⟨4, by omega, by omega, rfl, fun k h1 h2 => ?_⟩
            rcases Nat.lt_or_ge k 3 with h3 | h3
            · exact Hb.out k h1 h3
            · obtain rfl : k = 3 := by omega
              exact Hlt.out
          case measure => simp [intOf]
        · have hnone := HG.out 3 (by omega) (by omega) (by show 4294967296 ≤ s3; omega)
          have hd : decide ((4294967296 : Int) ≤ (s3 : Int)) = true := by simp; omega
          have Hnone := Lib.hid hnone
          clear Hb HG hlt hnone
          go_wp2
          refine bodyPost_ret (v := .tuple #[.agg #[.int .i64 0, .int .i64 0, .int .i64 0, .int .i64 0], .bool false]) (by simp [results, Try.results10, go_sem, z0, z1, z2, z3]) rfl ?_
          refine ⟨by rw [Hnone.out]; rfl, ?_⟩
          repeat (first | with_reducible exact F1.out | refine Fr.setCell ?_ (.inr (Nat.le_succ _)) _)
      · by_cases hlt : s4 < 4294967296
        · have hd : decide ((4294967296 : Int) ≤ (s4 : Int)) = false := by simp; omega
          have Hlt := Lib.hid hlt
          clear hlt
          go_wp2
          go_round
          case rel =>
            refine ⟨5, by omega, by omega, rfl, fun k h1 h2 => ?_⟩
            rcases Nat.lt_or_ge k 4 with h3 | h3
            · exact Hb.out k h1 h3
            · obtain rfl : k = 4 := by omega
              exact Hlt.out
          case measure => simp [intOf]
        · have hnone := HG.out 4 (by omega) (by omega) (by show 4294967296 ≤ s4; omega)
          have hd : decide ((4294967296 : Int) ≤ (s4 : Int)) = true := by simp; omega
          have Hnone := Lib.hid hnone
          clear Hb HG hlt hnone
          go_wp2
          refine bodyPost_ret (v := .tuple #[.agg #[.int .i64 0, .int .i64 0, .int .i64 0, .int .i64 0], .bool false]) (by simp [results, Try.results10, go_sem, z0, z1, z2, z3]) rfl ?_
          refine ⟨by rw [Hnone.out]; rfl, ?_⟩
          repeat (first | with_reducible exact F1.out | refine Fr.setCell ?_ (.inr (Nat.le_succ _)) _)
    · obtain rfl : j = 5 := by omega
      have l1 : s1 < 4294967296 := Hb.out 1 (by omega) (by omega)
      have l2 : s2 < 4294967296 := Hb.out 2 (by omega) (by omega)
      have l3 : s3 < 4294967296 := Hb.out 3 (by omega) (by omega)
      have l4 : s4 < 4294967296 := Hb.out 4 (by omega) (by omega)
      have e1 := w64_lt (show s1 < 9223372036854775808 by omega)
      have e2 := w64_lt (show s2 < 9223372036854775808 by omega)
      have e3 := w64_lt (show s3 < 9223372036854775808 by omega)
      have e4 := w64_lt (show s4 < 9223372036854775808 by omega)
      have Hsz : Hid (w.heap.size + 1 + 1 = wa.heap.size) := Lib.hid (by rw [Hwa.out]; simp)
      clear hj hj1 hj5 Hb l1 l2 l3 l4 HG
      go_wp2_with fail
      have hof : ofSec [s0, s1, s2, s3, s4, s5, s6, s7] = ⟨s1, s2, s3, s4⟩ := rfl
      have g1 : Fr No wa (wa.alloc (.cells #[.int .i64 s1, .int .i64 s2, .int .i64 s3, .int .i64 s4] 23)) := (Fr.refl _ _).alloc _
      have B0' := Lib.hid (B0.out.fr g1 (fun e => e))
      have B1' := Lib.hid (B1.out.fr g1 (fun e => e))
      have B2' := Lib.hid (Bk.made wa 23 #[.int .i64 s1, .int .i64 s2, .int .i64 s3, .int .i64 s4])
      have F2 := Lib.hid (F1.out.trans' g1 (fun _ _ e => e))
      clear g1 F1 B0 B1 x0 x1 x2 x3 x4 x5 x6 x7 z0 z1 z2 z3 y0 y1 y2 y3
      obtain ⟨wb, Hwb⟩ : ∃ wb, Hid (wb = wa.alloc (.cells #[.int .i64 s1, .int .i64 s2, .int .i64 s3, .int .i64 s4] 23)) := ⟨_, Lib.hid rfl⟩
      obtain ⟨b, Hb⟩ : ∃ b, Hid (b = wa.heap.size) := ⟨_, Lib.hid rfl⟩
      rw [← Hwb.out] at B0' B1' B2' F2 ⊢
      rw [← Hb.out] at B2' ⊢
      have HM : Hid (∀ W, Calls Try.prog 11 #[.agg #[.int .i64 s1, .int .i64 s2, .int .i64 s3, .int .i64 s4]] W fun e w' => e = .returned (.bool (ancOk ⟨s1, s2, s3, s4⟩)) ∧ Fr No W w') := Lib.hid (fun W => refMay7_any ⟨s1, s2, s3, s4⟩ W)
      have Hcell : Hid (∀ w', Fr No wb w' → w'.cell? ⟨b, 0, none⟩ = some (.int .i64 s1) ∧ w'.cell? ⟨b, 1, none⟩ = some (.int .i64 s2) ∧ w'.cell? ⟨b, 2, none⟩ = some (.int .i64 s3) ∧ w'.cell? ⟨b, 3, none⟩ = some (.int .i64 s4) ∧ w'.cell? ⟨w.heap.size, 0, none⟩ = some (.int .u64 s0) ∧ w'.cell? ⟨w.heap.size, 1, none⟩ = some (.int .u64 s1) ∧ w'.cell? ⟨w.heap.size, 2, none⟩ = some (.int .u64 s2) ∧ w'.cell? ⟨w.heap.size, 3, none⟩ = some (.int .u64 s3) ∧ w'.cell? ⟨w.heap.size, 4, none⟩ = some (.int .u64 s4) ∧ w'.cell? ⟨w.heap.size, 5, none⟩ = some (.int .u64 s5) ∧ w'.cell? ⟨w.heap.size, 6, none⟩ = some (.int .u64 s6) ∧ w'.cell? ⟨w.heap.size, 7, none⟩ = some (.int .u64 s7)) := Lib.hid (fun w' hw => by
        obtain ⟨a0, a1, a2, a3⟩ := bk4 (B2'.out.fr hw (fun e => e))
        obtain ⟨x0, x1, x2, x3, x4, x5, x6, x7⟩ := bk8 (B0'.out.fr hw (fun e => e))
        exact ⟨a0, a1, a2, a3, x0, x1, x2, x3, x4, x5, x6, x7⟩)
      clear Hwa Hsz Hwb
      have h0 := Hcell.out wb (Fr.refl _ _)
      cases hok : ancOk ⟨s1, s2, s3, s4⟩ with
      | false =>
        rw [hok] at HM
        have HR : Hid (r = none) := Lib.hid (by
          rw [← Hr.out]
          unfold readA
          rw [if_neg]
          rintro ⟨c, -⟩
          rw [hof, hok] at c
          cases c)
        clear hof hok
        refine wp_region_held_drew (S := fun w' => w'.cell? ⟨b, 0, none⟩ = some (.int .i64 s1) ∧ w'.cell? ⟨b, 1, none⟩ = some (.int .i64 s2) ∧ w'.cell? ⟨b, 2, none⟩ = some (.int .i64 s3) ∧ w'.cell? ⟨b, 3, none⟩ = some (.int .i64 s4) ∧ w'.cell? ⟨w.heap.size, 0, none⟩ = some (.int .u64 s0) ∧ w'.cell? ⟨w.heap.size, 1, none⟩ = some (.int .u64 s1) ∧ w'.cell? ⟨w.heap.size, 2, none⟩ = some (.int .u64 s2) ∧ w'.cell? ⟨w.heap.size, 3, none⟩ = some (.int .u64 s3) ∧ w'.cell? ⟨w.heap.size, 4, none⟩ = some (.int .u64 s4) ∧ w'.cell? ⟨w.heap.size, 5, none⟩ = some (.int .u64 s5) ∧ w'.cell? ⟨w.heap.size, 6, none⟩ = some (.int .u64 s6) ∧ w'.cell? ⟨w.heap.size, 7, none⟩ = some (.int .u64 s7)) (by kernel_rfl) h0 (fun hHeld => ?_)
        refine any_take 28 (.agg #[.int .i64 s1, .int .i64 s2, .int .i64 s3, .int .i64 s4]) (i := 0) rfl rfl (by kernel_rfl) (by kernel_rfl) (by kernel_rfl) (fun _ _ _ h => h) (by rfl) (by intro w hSw; (try dsimp only at hSw); go_simp; try with_reducible rfl) (by assumption) ?_
        simp only [Act.put, List.setIfInBounds_toArray, List.set_cons_zero, List.set_cons_succ]
        refine wpAnyH_ready (rs := [1]) (by kernel_rfl) (by simp) ?_
        refine AllReadyH.cons rfl (fun K' hK => ?_) AllReadyH.nil
        go_simp
        go_at_call 11
        refine (HM.out _).mono ?_
        rintro e w5 ⟨rfl, f5⟩
        have F6 : Fr No wb w5 := Fr.trans' ((Fr.refl _ _).drew) f5 (fun _ _ e => e)
        dsimp only
        refine hK.out _ _ (Hcell.out w5 F6) (fun hHeld => ?_)
        clear hK
        refine any_take 30 (.bool true) (i := 2) rfl rfl (by kernel_rfl) (by kernel_rfl) (by kernel_rfl) (fun _ _ _ h => h) (by rfl) (by intro w hSw; (try dsimp only at hSw); go_simp; try with_reducible rfl) (by assumption) ?_
        simp only [Act.put, List.setIfInBounds_toArray, List.set_cons_zero, List.set_cons_succ]
        refine any_take 31 (.bool true) (i := 3) rfl rfl (by kernel_rfl) (by kernel_rfl) (by kernel_rfl) (fun _ _ _ h => h) (by rfl) (by intro w hSw; (try dsimp only at hSw); go_simp; try with_reducible rfl) (by assumption) ?_
        simp only [Act.put, List.setIfInBounds_toArray, List.set_cons_zero, List.set_cons_succ]
        refine any_skip 32 (i := 4) rfl rfl (by kernel_rfl) (by kernel_rfl) (by kernel_rfl) (fun _ _ _ h => h) (by rfl) (by assumption) ?_
        simp only [Act.put, List.setIfInBounds_toArray, List.set_cons_zero, List.set_cons_succ]
        refine any_skip 33 (i := 5) rfl rfl (by kernel_rfl) (by kernel_rfl) (by kernel_rfl) (fun _ _ _ h => h) (by rfl) (by assumption) ?_
        simp only [Act.put, List.setIfInBounds_toArray, List.set_cons_zero, List.set_cons_succ]
        refine any_skip 34 (i := 6) rfl rfl (by kernel_rfl) (by kernel_rfl) (by kernel_rfl) (fun _ _ _ h => h) (by rfl) (by assumption) ?_
        simp only [Act.put, List.setIfInBounds_toArray, List.set_cons_zero, List.set_cons_succ]
        refine any_skip 35 (i := 7) rfl rfl (by kernel_rfl) (by kernel_rfl) (by kernel_rfl) (fun _ _ _ h => h) (by rfl) (by assumption) ?_
        simp only [Act.put, List.setIfInBounds_toArray, List.set_cons_zero, List.set_cons_succ]
        refine any_take 36 (.bool true) (i := 8) rfl rfl (by kernel_rfl) (by kernel_rfl) (by kernel_rfl) (fun _ _ _ h => h) (by rfl) (by intro w hSw; (try dsimp only at hSw); go_simp; try with_reducible rfl) (by assumption) ?_
        simp only [Act.put, List.setIfInBounds_toArray, List.set_cons_zero, List.set_cons_succ]
        refine wpAnyH_done (by kernel_rfl) ?_ _
        have bR := B1'.out.fr F6 (fun e => e)
        obtain ⟨z0, z1, z2, z3⟩ := bk4 bR
        obtain ⟨y0, y1, y2, y3⟩ := fz4 bR
        have F7 := Lib.hid (F2.out.trans' F6 (fun _ _ e => e))
        clear hHeld f5 F6 h0 Hcell HM B0' B1' B2' F2 bR e1 e2 e3 e4
        go_wp2
        refine bodyPost_ret (v := .tuple #[.agg #[.int .i64 0, .int .i64 0, .int .i64 0, .int .i64 0], .bool false]) (by simp [results, Try.results10, go_sem, z0, z1, z2, z3]) rfl ?_
        refine ⟨by rw [HR.out]; rfl, ?_⟩
        repeat (first | with_reducible exact F7.out | refine Fr.setCell ?_ (.inr (Nat.le_succ _)) _)
      | true =>
        rw [hok] at HM
        have HS0 := fun W => refSector7_any ⟨s1, s2, s3, s4⟩ hok W
        obtain ⟨mk, Hmk⟩ : ∃ mk, Hid (ancM ⟨s1, s2, s3, s4⟩ = mk) := ⟨_, Lib.hid rfl⟩
        have Hs2 : Hid (ancS ⟨s1, s2, s3, s4⟩ = [mk, s1, s2, s3, s4, 0, 0, 0]) := Lib.hid (by
          unfold ancS
          rw [Hmk.out]
          rfl)
        have HS : Hid (∀ W, Calls Try.prog 12 #[.agg #[.int .i64 s1, .int .i64 s2, .int .i64 s3, .int .i64 s4]] W fun e w' => e = .returned (.agg #[.int .u64 mk, .int .u64 s1, .int .u64 s2, .int .u64 s3, .int .u64 s4, .int .u64 0, .int .u64 0, .int .u64 0]) ∧ Fr No W w') := Lib.hid (fun W => by
          have := HS0 W
          rw [Hs2.out] at this
          exact this)
        obtain ⟨q, Hq⟩ : ∃ q : Bool, Hid (readOk [s0, s1, s2, s3, s4, s5, s6, s7] ↔ q = true) := ⟨decide (readOk [s0, s1, s2, s3, s4, s5, s6, s7]), Lib.hid (by simp)⟩
        have Hq2 : Hid (readOk [s0, s1, s2, s3, s4, s5, s6, s7] ↔ [mk, s1, s2, s3, s4, 0, 0, 0] = [s0, s1, s2, s3, s4, s5, s6, s7]) := Lib.hid (by
          unfold readOk
          rw [hof, Hs2.out]
          exact ⟨fun h => h.2, fun h => ⟨hok, h⟩⟩)
        have q8 : ∀ W, (Op.equalIn 10000 25 (.agg #[.int .u64 mk, .int .u64 s1, .int .u64 s2, .int .u64 s3, .int .u64 s4, .int .u64 0, .int .u64 0, .int .u64 0]) (.agg #[.int .u64 s0, .int .u64 s1, .int .u64 s2, .int .u64 s3, .int .u64 s4, .int .u64 s5, .int .u64 s6, .int .u64 s7])).run Try.prog W = .ok q W := fun W => by
          rw [eq8]
          congr 1
          rw [Bool.eq_iff_iff, ← Hq.out, Hq2.out]
          simp
          omega
        have HR : Hid (r = if q = true then some ⟨s1, s2, s3, s4⟩ else none) := Lib.hid (by
          rw [← Hr.out]
          unfold readA
          rw [hof]
          by_cases hc : readOk [s0, s1, s2, s3, s4, s5, s6, s7]
          · rw [if_pos hc, if_pos (Hq.out.1 hc)]
          · rw [if_neg hc, if_neg (fun e => hc (Hq.out.2 e))])
        clear Hq Hq2 hof HS0 hok Hs2 Hmk
        refine wp_region_held_drew (S := fun w' => w'.cell? ⟨b, 0, none⟩ = some (.int .i64 s1) ∧ w'.cell? ⟨b, 1, none⟩ = some (.int .i64 s2) ∧ w'.cell? ⟨b, 2, none⟩ = some (.int .i64 s3) ∧ w'.cell? ⟨b, 3, none⟩ = some (.int .i64 s4) ∧ w'.cell? ⟨w.heap.size, 0, none⟩ = some (.int .u64 s0) ∧ w'.cell? ⟨w.heap.size, 1, none⟩ = some (.int .u64 s1) ∧ w'.cell? ⟨w.heap.size, 2, none⟩ = some (.int .u64 s2) ∧ w'.cell? ⟨w.heap.size, 3, none⟩ = some (.int .u64 s3) ∧ w'.cell? ⟨w.heap.size, 4, none⟩ = some (.int .u64 s4) ∧ w'.cell? ⟨w.heap.size, 5, none⟩ = some (.int .u64 s5) ∧ w'.cell? ⟨w.heap.size, 6, none⟩ = some (.int .u64 s6) ∧ w'.cell? ⟨w.heap.size, 7, none⟩ = some (.int .u64 s7)) (by kernel_rfl) h0 (fun hHeld => ?_)
        refine any_take 28 (.agg #[.int .i64 s1, .int .i64 s2, .int .i64 s3, .int .i64 s4]) (i := 0) rfl rfl (by kernel_rfl) (by kernel_rfl) (by kernel_rfl) (fun _ _ _ h => h) (by rfl) (by intro w hSw; (try dsimp only at hSw); go_simp; try with_reducible rfl) (by assumption) ?_
        simp only [Act.put, List.setIfInBounds_toArray, List.set_cons_zero, List.set_cons_succ]
        refine wpAnyH_ready (rs := [1]) (by kernel_rfl) (by simp) ?_
        refine AllReadyH.cons rfl (fun K' hK => ?_) AllReadyH.nil
        go_simp
        go_at_call 11
        refine (HM.out _).mono ?_
        rintro e w5 ⟨rfl, f5⟩
        have F5 : Fr No wb w5 := Fr.trans' ((Fr.refl _ _).drew) f5 (fun _ _ e => e)
        dsimp only
        refine hK.out _ _ (Hcell.out w5 F5) (fun hHeld => ?_)
        clear hK
        refine any_take 30 (.bool false) (i := 2) rfl rfl (by kernel_rfl) (by kernel_rfl) (by kernel_rfl) (fun _ _ _ h => h) (by rfl) (by intro w hSw; (try dsimp only at hSw); go_simp; try with_reducible rfl) (by assumption) ?_
        simp only [Act.put, List.setIfInBounds_toArray, List.set_cons_zero, List.set_cons_succ]
        refine any_take 31 (.bool false) (i := 3) rfl rfl (by kernel_rfl) (by kernel_rfl) (by kernel_rfl) (fun _ _ _ h => h) (by rfl) (by intro w hSw; (try dsimp only at hSw); go_simp; try with_reducible rfl) (by assumption) ?_
        simp only [Act.put, List.setIfInBounds_toArray, List.set_cons_zero, List.set_cons_succ]
        refine any_take 32 (.agg #[.int .i64 s1, .int .i64 s2, .int .i64 s3, .int .i64 s4]) (i := 4) rfl rfl (by kernel_rfl) (by kernel_rfl) (by kernel_rfl) (fun _ _ _ h => h) (by rfl) (by intro w hSw; (try dsimp only at hSw); go_simp; try with_reducible rfl) (by assumption) ?_
        simp only [Act.put, List.setIfInBounds_toArray, List.set_cons_zero, List.set_cons_succ]
        refine any_take 34 (.agg #[.int .u64 s0, .int .u64 s1, .int .u64 s2, .int .u64 s3, .int .u64 s4, .int .u64 s5, .int .u64 s6, .int .u64 s7]) (i := 6) rfl rfl (by kernel_rfl) (by kernel_rfl) (by kernel_rfl) (fun _ _ _ h => h) (by rfl) (by intro w hSw; (try dsimp only at hSw); go_simp; try with_reducible rfl) (by assumption) ?_
        simp only [Act.put, List.setIfInBounds_toArray, List.set_cons_zero, List.set_cons_succ]
        refine wpAnyH_ready (rs := [5]) (by kernel_rfl) (by simp) ?_
        refine AllReadyH.cons rfl (fun K' hK => ?_) AllReadyH.nil
        go_simp
        go_at_call 12
        refine (HS.out _).mono ?_
        rintro e w6 ⟨rfl, f6⟩
        have F6 : Fr No wb w6 := Fr.trans' F5 f6 (fun _ _ e => e)
        dsimp only
        refine hK.out _ _ (Hcell.out w6 F6) (fun hHeld => ?_)
        clear hK
        refine any_take 35 (.bool (!q)) (i := 7) rfl rfl (by kernel_rfl) (by kernel_rfl) (by kernel_rfl) (fun _ _ _ h => h) (by rfl) (by intro w hSw; (try dsimp only at hSw); go_simp; try with_reducible rfl) (by assumption) ?_
        simp only [Act.put, List.setIfInBounds_toArray, List.set_cons_zero, List.set_cons_succ]
        refine any_take 36 (.bool (!q)) (i := 8) rfl rfl (by kernel_rfl) (by kernel_rfl) (by kernel_rfl) (fun _ _ _ h => h) (by rfl) (by intro w hSw; (try dsimp only at hSw); go_simp; try with_reducible rfl) (by assumption) ?_
        simp only [Act.put, List.setIfInBounds_toArray, List.set_cons_zero, List.set_cons_succ]
        refine wpAnyH_done (by kernel_rfl) ?_ _
        have bR := B1'.out.fr F6 (fun e => e)
        obtain ⟨z0, z1, z2, z3⟩ := bk4 bR
        obtain ⟨y0, y1, y2, y3⟩ := fz4 bR
        have F7 := Lib.hid (F2.out.trans' F6 (fun _ _ e => e))
        obtain ⟨v0, v1, v2, v3⟩ := bk4 (B2'.out.fr F6 (fun e => e))
        clear hHeld f5 f6 F5 F6 h0 Hcell HM HS B0' B1' B2' F2 bR e1 e2 e3 e4
        cases q with
        | true =>
          go_wp2
          refine bodyPost_ret (v := .tuple #[.agg #[.int .i64 s1, .int .i64 s2, .int .i64 s3, .int .i64 s4], .bool true]) (by simp [results, Try.results10, go_sem, z0, z1, z2, z3]) rfl ?_
          refine ⟨by rw [HR.out]; rfl, ?_⟩
          repeat (first | with_reducible exact F7.out | refine Fr.setCell ?_ (.inr (Nat.le_succ _)) _)
        | false =>
          go_wp2
          refine bodyPost_ret (v := .tuple #[.agg #[.int .i64 0, .int .i64 0, .int .i64 0, .int .i64 0], .bool false]) (by simp [results, Try.results10, go_sem, z0, z1, z2, z3]) rfl ?_
          refine ⟨by rw [HR.out]; rfl, ?_⟩
          repeat (first | with_reducible exact F7.out | refine Fr.setCell ?_ (.inr (Nat.le_succ _)) _)
theorem refRead7_any (s : List Nat) (hs : Sec s) (w : World) : Calls Try.prog 10 #[secV s] w fun e w' => e = .returned (.tuple #[(getA (readA s)).val, .bool (readA s).isSome]) ∧ Fr No w w' := by
  obtain ⟨a, b, c, d, e, f, g, i, rfl⟩ := sec_lit hs
  exact refRead7_lit a b c d e f g i hs w
end Go.Proofs.Ytcjbdoppphjpjaa
