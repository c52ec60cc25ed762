/- The law 'KeysSame': its walk, arm b. -/
import Derived.Test.YthnpgepniiicaaaSame4
namespace Go.Proofs.Ythnpgepniiicaaa
open Go.RowKit


set_option maxRecDepth 100000 in
set_option maxHeartbeats 4000000 in
theorem same4_b (a b : List Span) (A B : Option Addr) (n m c1 c2 : Nat) (x y : Int) (hx1 : -9223372036854775808 ≤ x) (hx2 : x < 9223372036854775808) (hy1 : -9223372036854775808 ≤ y) (hy2 : y < 9223372036854775808) (w : World) (hA : Sl w w.heap.size A (sps a)) (hB : Sl w w.heap.size B (sps b)) (hn : a.length = n) (hm : b.length = m) (hnl : n ≤ 9223372036854775807) (hml : m ≤ 9223372036854775807) (h1 : ¬ 40 < n) (h2 : ¬ 40 < m) (hb1 : decide (0 ≤ x) = true) (hb2 : decide (y ≤ 999) = false) :
    Calls Try.prog 5 #[.slice A n c1, .slice B m c2, .agg #[.int .i64 x, .int .i64 y]] w fun e w' => e = .returned (.bool true) ∧ Fr No w w' := by
  have e1 : decide ((40 : Int) < (n : Int)) = false := by simp; omega
  have e2 : decide ((40 : Int) < (m : Int)) = false := by simp; omega
  have IA : In4 w A n a := ⟨hA, hn, by omega⟩
  have IB : In4 w B m b := ⟨hB, hm, by omega⟩
  have q3 := eqSet
  have Hx := Lib.hid (And.intro (And.intro hx1 hx2) (And.intro hy1 hy2))
  clear hA hB hn hm hx1 hx2 hy1 hy2
  have HB1 := Lib.hid hb1
  clear hb1
  have HB2 := Lib.hid hb2
  clear hb2
  go_enter Try.func5, Try.ntmps5
  go_wp2_with fail
  refine (alive4_any _).mono ?_
  rintro e w1 ⟨rfl, hf⟩
  have g1 := ((Fr.refl No w).alloc (.cells #[.int .i64 x, .int .i64 y] 30)).trans' hf (fun _ _ e => e)
  have v1 := (Bk.made w 30 #[.int .i64 x, .int .i64 y]).fr hf (fun e => e)
  clear hf
  generalize w.heap.size = v at v1 ⊢
  go_wp2_with fail
  go_cut [7] from 18 to 26 (fun s7 wx => s7 = .bool (sameB (keysOf a) (keysOf b)) ∧ Fr No w1 wx)
  case first =>
    refine wp_region_any (by kernel_rfl) ?_
    try (change wpAny _ _ _ _ _ _ _ (World.drew _))
    (refine wpAny_take (i := 0) (v := ?_) rfl (by kernel_rfl) (by kernel_rfl) (by kernel_rfl) (fun _ _ _ h => h) (Or.inl ⟨by rfl, ?_⟩) ?_; rotate_left; focus (intro _; go_simp; try with_reducible rfl))
    (refine wpAny_take (i := 4) (v := ?_) rfl (by kernel_rfl) (by kernel_rfl) (by kernel_rfl) (fun _ _ _ h => h) (Or.inl ⟨by rfl, ?_⟩) ?_; rotate_left; focus (intro _; go_simp; try with_reducible rfl))
    (refine wpAny_ready (rs := [1]) (by kernel_rfl) (by simp) ?_; refine AllReady.cons rfl (fun K hK => ?_) AllReady.nil)
    go_simp
    go_wp2_with (
      refine (refOf4_any a n A c1 _ (IA.since g1.drew).sl IA.len (by omega)).mono ?_
      rintro e w2 ⟨ga, rfl, hba, hga, hfa⟩)
    (refine wpAny_take (i := 2) (v := ?_) rfl (by kernel_rfl) (by kernel_rfl) (by kernel_rfl) (fun _ _ _ h => h) (Or.inl ⟨by rfl, ?_⟩) ?_; rotate_left; focus (intro _; go_simp; try with_reducible rfl))
    (refine wpAny_ready (rs := [3, 5]) (by kernel_rfl) (by simp) ?_; refine AllReady.cons rfl (fun K hK => ?_) (AllReady.cons rfl (fun K hK => ?_) AllReady.nil))
    · (refine ite_yes rfl ?_; refine wp_load_bk ga (keysOf a) hba rfl ?_; refine hK _ _ ?_; clear hK)
      (refine wpAny_ready (rs := [5]) (by kernel_rfl) (by simp) ?_; refine AllReady.cons rfl (fun K hK => ?_) AllReady.nil)
      go_simp
      go_wp2_with (
        refine (refOf4_any b m B c2 _ (IB.since (g1.drew.trans' hfa (fun _ _ e => e))).sl IB.len (by omega)).mono ?_
        rintro e w3 ⟨gb, rfl, hbb, hgb, hfb⟩)
      (refine wpAny_take (i := 6) (v := ?_) rfl (by kernel_rfl) (by kernel_rfl) (by kernel_rfl) (fun _ _ _ h => h) (Or.inl ⟨by rfl, ?_⟩) ?_; rotate_left; focus (intro _; go_simp; try with_reducible rfl))
      (refine wpAny_ready (rs := [7]) (by kernel_rfl) (by simp) ?_; refine AllReady.cons rfl (fun K hK => ?_) AllReady.nil)
      (refine ite_yes rfl ?_; refine wp_load_bk gb (keysOf b) hbb rfl ?_; refine hK _ _ ?_; clear hK)
      (refine wpAny_take (i := 8) (v := ?_) rfl (by kernel_rfl) (by kernel_rfl) (by kernel_rfl) (fun _ _ _ h => h) (Or.inl ⟨by rfl, ?_⟩) ?_; rotate_left; focus (intro _; go_simp; try with_reducible rfl))
      (refine wpAny_take (i := 9) (v := ?_) rfl (by kernel_rfl) (by kernel_rfl) (by kernel_rfl) (fun _ _ _ h => h) (Or.inl ⟨by rfl, ?_⟩) ?_; rotate_left; focus (intro _; go_simp; try with_reducible rfl))
      refine wpAny_done (by kernel_rfl) ?_ _
      go_wp2_with fail
      go_meet
      exact ⟨rfl, ((Fr.refl No w1).drew.trans' hfa (fun _ _ e => e)).trans' hfb (fun _ _ e => e)⟩
    · go_simp
      go_wp2_with (
        refine (refOf4_any b m B c2 _ (IB.since (g1.drew.trans' hfa (fun _ _ e => e))).sl IB.len (by omega)).mono ?_
        rintro e w3 ⟨gb, rfl, hbb, hgb, hfb⟩)
      (refine wpAny_take (i := 6) (v := ?_) rfl (by kernel_rfl) (by kernel_rfl) (by kernel_rfl) (fun _ _ _ h => h) (Or.inl ⟨by rfl, ?_⟩) ?_; rotate_left; focus (intro _; go_simp; try with_reducible rfl))
      have hba' := hba.fr hfb (fun e => e)
      (refine wpAny_ready (rs := [3, 7]) (by kernel_rfl) (by simp) ?_; refine AllReady.cons rfl (fun K hK => ?_) (AllReady.cons rfl (fun K hK => ?_) AllReady.nil))
      · (refine ite_yes rfl ?_; refine wp_load_bk ga (keysOf a) hba' rfl ?_; refine hK _ _ ?_; clear hK)
        (refine wpAny_ready (rs := [7]) (by kernel_rfl) (by simp) ?_; refine AllReady.cons rfl (fun K hK => ?_) AllReady.nil)
        (refine ite_yes rfl ?_; refine wp_load_bk gb (keysOf b) hbb rfl ?_; refine hK _ _ ?_; clear hK)
        (refine wpAny_take (i := 8) (v := ?_) rfl (by kernel_rfl) (by kernel_rfl) (by kernel_rfl) (fun _ _ _ h => h) (Or.inl ⟨by rfl, ?_⟩) ?_; rotate_left; focus (intro _; go_simp; try with_reducible rfl))
        (refine wpAny_take (i := 9) (v := ?_) rfl (by kernel_rfl) (by kernel_rfl) (by kernel_rfl) (fun _ _ _ h => h) (Or.inl ⟨by rfl, ?_⟩) ?_; rotate_left; focus (intro _; go_simp; try with_reducible rfl))
        refine wpAny_done (by kernel_rfl) ?_ _
        go_wp2_with fail
        go_meet
        exact ⟨rfl, ((Fr.refl No w1).drew.trans' hfa (fun _ _ e => e)).trans' hfb (fun _ _ e => e)⟩
      · (refine ite_yes rfl ?_; refine wp_load_bk gb (keysOf b) hbb rfl ?_; refine hK _ _ ?_; clear hK)
        (refine wpAny_ready (rs := [3]) (by kernel_rfl) (by simp) ?_; refine AllReady.cons rfl (fun K hK => ?_) AllReady.nil)
        (refine ite_yes rfl ?_; refine wp_load_bk ga (keysOf a) hba' rfl ?_; refine hK _ _ ?_; clear hK)
        (refine wpAny_take (i := 8) (v := ?_) rfl (by kernel_rfl) (by kernel_rfl) (by kernel_rfl) (fun _ _ _ h => h) (Or.inl ⟨by rfl, ?_⟩) ?_; rotate_left; focus (intro _; go_simp; try with_reducible rfl))
        (refine wpAny_take (i := 9) (v := ?_) rfl (by kernel_rfl) (by kernel_rfl) (by kernel_rfl) (fun _ _ _ h => h) (Or.inl ⟨by rfl, ?_⟩) ?_; rotate_left; focus (intro _; go_simp; try with_reducible rfl))
        refine wpAny_done (by kernel_rfl) ?_ _
        go_wp2_with fail
        go_meet
        exact ⟨rfl, ((Fr.refl No w1).drew.trans' hfa (fun _ _ e => e)).trans' hfb (fun _ _ e => e)⟩
  case rest =>
    obtain ⟨rfl, g2⟩ := hcut
    have g3 := g1.trans' g2 (fun _ _ e => e)
    have v2 := v1.fr g2 (fun e => e)
    have hpa := plainOf_le (keysOf a)
    have hpb := plainOf_le (keysOf b)
    clear g1 q3
    obtain ⟨⟨hx1, hx2⟩, hy1, hy2⟩ := Hx.out
    rw [sameB_plain]
    have CA : ∀ W, Fr No w W → Calls Try.prog 14 #[.slice A n c1] W (NewS W (plainOf (keysOf a))) := fun W h => kPlain_any a A n c1 W (IA.since h)
    have CB : ∀ W, Fr No w W → Calls Try.prog 14 #[.slice B m c2] W (NewS W (plainOf (keysOf b))) := fun W h => kPlain_any b B m c2 W (IB.since h)
    generalize hq : decide (plainOf (keysOf a) = plainOf (keysOf b)) = q
    have CS : ∀ W A1 A2 d1 d2, Sl W W.heap.size A1 (sps (plainOf (keysOf a))) → Sl W W.heap.size A2 (sps (plainOf (keysOf b))) → Calls Try.prog 13 #[.slice A1 (plainOf (keysOf a)).length d1, .slice A2 (plainOf (keysOf b)).length d2] W fun e w' => e = .returned (.bool q) ∧ Fr No W w' := fun W A1 A2 d1 d2 h1 h2 => by
      rw [← hq]
      exact refSame4_any _ _ A1 A2 _ _ d1 d2 W h1 h2 rfl rfl (by omega) (by omega)
    clear hq
    generalize hla : (plainOf (keysOf a)).length = la at CS
    generalize hlb : (plainOf (keysOf b)).length = lb at CS
    have CA' : ∀ W, Fr No w W → Calls Try.prog 14 #[.slice A n c1] W fun e w' => ∃ A1 d1, e = .returned (.slice A1 la d1) ∧ Sl w' w'.heap.size A1 (sps (plainOf (keysOf a))) ∧ Fr No W w' := fun W h => by
      have := CA W h
      unfold NewS at this
      rw [hla] at this
      exact this
    have CB' : ∀ W, Fr No w W → Calls Try.prog 14 #[.slice B m c2] W fun e w' => ∃ A1 d1, e = .returned (.slice A1 lb d1) ∧ Sl w' w'.heap.size A1 (sps (plainOf (keysOf b))) ∧ Fr No W w' := fun W h => by
      have := CB W h
      unfold NewS at this
      rw [hlb] at this
      exact this
    clear CA CB hla hlb hpa hpb
    have CM := fun W => kMay_any x y W
    have hmay : mayB x y = (decide (0 ≤ x) && (decide (y ≤ 999) && decide (x ≤ y))) := by unfold mayB; rw [Bool.decide_and, Bool.decide_and]
    rw [hmay] at CM
    clear hmay
    generalize hb3 : decide (x ≤ y) = b3 at CM
    have H3 := Lib.hid hb3
    clear v1 g2
    have hb1 := HB1.out
    have hb2 := HB2.out
    rw [hb1, hb2] at CM
    simp only [Bool.true_and, Bool.false_and] at CM
    go_wp2_with fail
    first | go_region_with (first
      | (go_at_call_of 14 (Value.slice A n c1)
         refine (CA' _ g3.drew).mono ?_
         rintro e w4 ⟨A1, d1, rfl, hs4, hf4⟩
         have g4 := g3.drew.trans' hf4 (fun _ _ e => e)
         have v4 := v2.drew.fr hf4 (fun e => e))
      | (go_at_call_of 14 (Value.slice B m c2)
         refine (CB' _ g4).mono ?_
         rintro e w5 ⟨A2, d2, rfl, hs5, hf5⟩
         have g5 := g4.trans' hf5 (fun _ _ e => e)
         have hs4' := hs4.since hf5
         have v5 := v4.fr hf5 (fun e => e))
      | (go_at_call 13
         refine (CS _ _ _ _ _ hs4' hs5).mono ?_
         rintro e w6 ⟨rfl, hf6⟩
         have g6 := g5.trans' hf6 (fun _ _ e => e)
         have v6 := v5.fr hf6 (fun e => e)
         have x0 := v6.cell 0
         have x1 := v6.cell 1
         simp at x0 x1)
      | (go_at_call 22
         refine (CM _).mono ?_
         rintro e w7 ⟨rfl, hf7⟩
         have g7 := g6.trans' hf7 (fun _ _ e => e)
         have v7 := v6.fr hf7 (fun e => e)
         have y0 := v7.cell 0
         have y1 := v7.cell 1
         simp at y0 y1)) | fail
    all_goals (
      go_wp2_with fail
      go_ret
      exact ⟨rfl, g7⟩)
end Go.Proofs.Ythnpgepniiicaaa
