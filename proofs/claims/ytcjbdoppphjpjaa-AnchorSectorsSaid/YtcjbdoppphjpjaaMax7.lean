/- Package anchor: of one or two anchors the one with the greatest number. -/
import Derived.Test.YtcjbdoppphjpjaaRea7
import Derived.Test.YtcjbdoppphjpjaaHand
namespace Go.Proofs.Ytcjbdoppphjpjaa
open Go.RowKit

def cmpI (x y : Int) : Int := if x < y then -1 else if y < x then 1 else 0
theorem nan_any (x : Int) (w : World) : Calls Try.prog 40 #[.int .i64 x] w fun e w' => e = .returned (.bool false) ∧ w = w' := by
  go_enter Try.func40, Try.ntmps40
  go_wp2
  go_ret
  exact ⟨by simp, rfl⟩
theorem compare_any (x y : Int) (w : World) : Calls Try.prog 29 #[.int .i64 x, .int .i64 y] w fun e w' => e = .returned (.int .i64 (cmpI x y)) ∧ w = w' := by
  have HN := Lib.hid nan_any
  by_cases h1 : x < y
  · have hc : Hid (cmpI x y = -1) := Lib.hid (by unfold cmpI; rw [if_pos h1])
    rw [hc.out]
    go_enter Try.func29, Try.ntmps29
    go_wp2_with fail
    refine (HN.out _ _).mono ?_
    rintro e w1 ⟨rfl, rfl⟩
    go_wp2_with fail
    refine (HN.out _ _).mono ?_
    rintro e w1 ⟨rfl, rfl⟩
    go_wp2
    go_ret
    exact ⟨rfl, rfl⟩
  · by_cases h2 : y < x
    · have hc : Hid (cmpI x y = 1) := Lib.hid (by unfold cmpI; rw [if_neg h1, if_pos h2])
      rw [hc.out]
      go_enter Try.func29, Try.ntmps29
      go_wp2_with fail
      refine (HN.out _ _).mono ?_
      rintro e w1 ⟨rfl, rfl⟩
      go_wp2_with fail
      refine (HN.out _ _).mono ?_
      rintro e w1 ⟨rfl, rfl⟩
      go_wp2
      go_ret
      exact ⟨rfl, rfl⟩
    · have hc : Hid (cmpI x y = 0) := Lib.hid (by unfold cmpI; rw [if_neg h1, if_neg h2])
      rw [hc.out]
      go_enter Try.func29, Try.ntmps29
      go_wp2_with fail
      refine (HN.out _ _).mono ?_
      rintro e w1 ⟨rfl, rfl⟩
      go_wp2_with fail
      refine (HN.out _ _).mono ?_
      rintro e w1 ⟨rfl, rfl⟩
      go_wp2
      go_ret
      exact ⟨rfl, rfl⟩
theorem anCmp_any (x y : Anc) (w : World) : Calls Try.prog 28 #[x.val, y.val] w fun e w' => e = .returned (.int .i64 (cmpI x.n y.n)) ∧ Fr No w w' := by
  have HC := Lib.hid compare_any
  obtain ⟨n, e, a, ws⟩ := x
  obtain ⟨n', e', a', ws'⟩ := y
  unfold Anc.val
  dsimp only
  have f : Fr No w ((w.alloc (.cells #[.int .i64 n, .int .i64 e, .int .i64 a, .int .i64 ws] 23)).alloc (.cells #[.int .i64 n', .int .i64 e', .int .i64 a', .int .i64 ws'] 23)) := ((Fr.refl _ _).alloc _).alloc _
  go_enter Try.func28, Try.ntmps28
  go_wp2_with fail
  refine (HC.out _ _ _).mono ?_
  rintro e w1 ⟨rfl, rfl⟩
  go_wp2
  go_ret
  exact ⟨rfl, f⟩
def cellsA (xs : List Anc) : List Value := xs.flatMap Anc.cells
/-- Anchors that lie one behind the other at a block's beginning. -/
def AtG (w : World) (g : Nat) (xs : List Anc) : Prop := g < w.heap.size ∧ ∀ j u, (cellsA xs)[j]? = some u → w.cell? ⟨g, j, none⟩ = some u
theorem AtG.fr {S : Nat → Prop} {w w' : World} {g : Nat} {xs : List Anc} (h : AtG w g xs) (hf : Fr S w w') (hS : ¬ S g) : AtG w' g xs :=
  ⟨Nat.lt_of_lt_of_le h.1 hf.size, fun j u hu => by rw [hf.cell h.1 hS]; exact h.2 j u hu⟩
set_option maxRecDepth 100000 in
set_option maxHeartbeats 2000000 in
theorem maxOne_any (x : Anc) (g c : Nat) (w : World) (h : AtG w g [x]) (v : Value) : Calls Try.prog 27 #[.slice (some ⟨g, 0, none⟩) (1 : Nat) c, v] w fun e w' => e = .returned x.val ∧ Fr No w w' := by
  obtain ⟨n, e, a, ws⟩ := x
  have f1 : Fr No w (w.alloc (.cells #[.int .i64 0, .int .i64 0, .int .i64 0, .int .i64 0] 23)) := (Fr.refl _ _).alloc _
  have h' := h.fr f1 (fun e => e)
  have b0 := (Bk.made w 23 #[.int .i64 0, .int .i64 0, .int .i64 0, .int .i64 0]).fr ((Fr.refl No _).alloc (.cells #[.int .i64 n, .int .i64 e, .int .i64 a, .int .i64 ws] 23)) (fun e => e)
  obtain ⟨z0, z1, z2, z3⟩ := bk4 b0
  obtain ⟨y0, y1, y2, y3⟩ := fz4 b0
  have k0 := h'.2 0 (.int .i64 n) rfl
  have k1 := h'.2 1 (.int .i64 e) rfl
  have k2 := h'.2 2 (.int .i64 a) rfl
  have k3 := h'.2 3 (.int .i64 ws) rfl
  have F := Lib.hid (f1.alloc (.cells #[.int .i64 n, .int .i64 e, .int .i64 a, .int .i64 ws] 23))
  clear h h' b0 f1
  unfold Anc.val
  dsimp only
  go_enter Try.func27, Try.ntmps27
  go_wp2
  obtain ⟨wa, Hwa⟩ : ∃ wa, Hid (wa = (w.alloc (.cells #[.int .i64 0, .int .i64 0, .int .i64 0, .int .i64 0] 23)).alloc (.cells #[.int .i64 n, .int .i64 e, .int .i64 a, .int .i64 ws] 23)) := ⟨_, Lib.hid rfl⟩
  have b1 := Bk.made (w.alloc (.cells #[.int .i64 0, .int .i64 0, .int .i64 0, .int .i64 0] 23)) 23 #[.int .i64 n, .int .i64 e, .int .i64 a, .int .i64 ws]
  rw [World.size_alloc] at b1
  obtain ⟨x0, x1, x2, x3⟩ := bk4 b1
  clear b1
  have F0 := F.out
  rw [← Hwa.out] at F0 z0 z1 z2 z3 y0 y1 y2 y3 x0 x1 x2 x3 ⊢
  have F1 := Lib.hid F0
  clear Hwa k0 k1 k2 k3 F F0
  go_loop [6] (fun i => i = .int .i64 1) (fun _ => 0)
  case atStart => rfl
  case round =>
    subst hrel
    go_wp2
    refine bodyPost_ret (v := .agg #[.int .i64 n, .int .i64 e, .int .i64 a, .int .i64 ws]) (by simp [results, Try.results27, go_sem, z0, z1, z2, z3]) rfl ?_
    refine ⟨rfl, ?_⟩
    repeat (first | with_reducible exact F1.out | refine Fr.setCell ?_ (.inr (Nat.le_refl _)) _)
theorem anc_pick (x y : Anc) (p : Bool) : (if p = true then y.val else x.val) = (if p = true then y else x).val := by cases p <;> rfl
set_option maxRecDepth 100000 in
set_option maxHeartbeats 4000000 in
theorem maxTwo_any (x y : Anc) (g c : Nat) (w : World) (h : AtG w g [x, y]) : Calls Try.prog 27 #[.slice (some ⟨g, 0, none⟩) (2 : Nat) c, .func (.func 28) #[] #[]] w fun e w' => e = .returned (if x.n < y.n then y else x).val ∧ Fr No w w' := by
  have HC := Lib.hid (anCmp_any y x)
  obtain ⟨q, Hq⟩ : ∃ q : Bool, Hid (decide (0 < cmpI y.n x.n) = q ∧ decide (x.n < y.n) = q) := ⟨decide (x.n < y.n), Lib.hid ⟨by
    unfold cmpI
    rw [decide_eq_decide]
    split
    · constructor <;> intro <;> omega
    · split
      · constructor <;> intro <;> omega
      · constructor <;> intro <;> omega, rfl⟩⟩
  obtain ⟨m, Hm⟩ : ∃ m, Hid ((if x.n < y.n then y else x) = m ∧ m = if q = true then y else x) := ⟨_, Lib.hid ⟨rfl, by
    have := Hq.out.2
    by_cases h : x.n < y.n
    · rw [decide_eq_true h] at this
      rw [if_pos h, ← this, if_pos rfl]
    · rw [decide_eq_false h] at this
      rw [if_neg h, ← this, if_neg (by simp)]⟩⟩
  rw [Hm.out.1]
  obtain ⟨n, e, a, ws⟩ := x
  obtain ⟨n', e', a', ws'⟩ := y
  have hcq := Hq.out.1
  simp only at hcq
  unfold Anc.val at HC
  dsimp only at HC
  obtain ⟨k, Hk⟩ : ∃ k, Hid (cmpI n' n = k) := ⟨_, Lib.hid rfl⟩
  rw [Hk.out] at hcq HC
  have f1 : Fr No w (w.alloc (.cells #[.int .i64 0, .int .i64 0, .int .i64 0, .int .i64 0] 23)) := (Fr.refl _ _).alloc _
  have h' := h.fr f1 (fun e => e)
  have k0 := h'.2 0 (.int .i64 n) rfl
  have k1 := h'.2 1 (.int .i64 e) rfl
  have k2 := h'.2 2 (.int .i64 a) rfl
  have k3 := h'.2 3 (.int .i64 ws) rfl
  have f2 := f1.alloc (.cells #[.int .i64 n, .int .i64 e, .int .i64 a, .int .i64 ws] 23)
  have h2 := h'.fr ((Fr.refl No _).alloc (.cells #[.int .i64 n, .int .i64 e, .int .i64 a, .int .i64 ws] 23)) (fun e => e)
  have b0 := (Bk.made w 23 #[.int .i64 0, .int .i64 0, .int .i64 0, .int .i64 0]).fr ((Fr.refl No _).alloc (.cells #[.int .i64 n, .int .i64 e, .int .i64 a, .int .i64 ws] 23)) (fun e => e)
  have b1 := Bk.made (w.alloc (.cells #[.int .i64 0, .int .i64 0, .int .i64 0, .int .i64 0] 23)) 23 #[.int .i64 n, .int .i64 e, .int .i64 a, .int .i64 ws]
  rw [World.size_alloc] at b1
  have hgw := h.1
  clear h h' f1
  go_enter Try.func27, Try.ntmps27
  go_wp2
  obtain ⟨wa, Hwa⟩ : ∃ wa, Hid (wa = (w.alloc (.cells #[.int .i64 0, .int .i64 0, .int .i64 0, .int .i64 0] 23)).alloc (.cells #[.int .i64 n, .int .i64 e, .int .i64 a, .int .i64 ws] 23)) := ⟨_, Lib.hid rfl⟩
  rw [← Hwa.out] at f2 h2 b0 b1 ⊢
  clear Hwa k0 k1 k2 k3
  have F2 := Lib.hid f2
  have G2 := Lib.hid h2
  have B0 := Lib.hid b0
  have B1 := Lib.hid b1
  clear f2 h2 b0 b1
  go_loopw [6] (fun i wr => (i = .int .i64 1 ∧ wr = wa) ∨ (i = .int .i64 2 ∧ Fr (fun k => k = w.heap.size + 1) wa wr ∧ Bk wr (w.heap.size + 1) 23 (m.cells).toArray)) (fun i _ => 2 - (intOf i).toNat)
  case atStart => exact .inl ⟨rfl, rfl⟩
  case round =>
    rcases hrel with ⟨rfl, rfl⟩ | ⟨rfl, hf, hb⟩
    · have Hcell : Hid (∀ w', Fr No wr w' → w'.cell? ⟨g, 0, none⟩ = some (.int .i64 n) ∧ w'.cell? ⟨g, 1, none⟩ = some (.int .i64 e) ∧ w'.cell? ⟨g, 2, none⟩ = some (.int .i64 a) ∧ w'.cell? ⟨g, 3, none⟩ = some (.int .i64 ws) ∧ w'.cell? ⟨g, 4, none⟩ = some (.int .i64 n') ∧ w'.cell? ⟨g, 5, none⟩ = some (.int .i64 e') ∧ w'.cell? ⟨g, 6, none⟩ = some (.int .i64 a') ∧ w'.cell? ⟨g, 7, none⟩ = some (.int .i64 ws') ∧ w'.cell? ⟨w.heap.size + 1, 0, none⟩ = some (.int .i64 n) ∧ w'.cell? ⟨w.heap.size + 1, 1, none⟩ = some (.int .i64 e) ∧ w'.cell? ⟨w.heap.size + 1, 2, none⟩ = some (.int .i64 a) ∧ w'.cell? ⟨w.heap.size + 1, 3, none⟩ = some (.int .i64 ws)) := Lib.hid (fun w' hw => by
        obtain ⟨a0, a1, a2, a3⟩ := bk4 (B1.out.fr hw (fun e => e))
        have G3 := (G2.out.fr hw (fun e => e)).2
        exact ⟨G3 0 _ rfl, G3 1 _ rfl, G3 2 _ rfl, G3 3 _ rfl, G3 4 _ rfl, G3 5 _ rfl, G3 6 _ rfl, G3 7 _ rfl, a0, a1, a2, a3⟩)
      have h0 := Hcell.out wr (Fr.refl _ _)
      go_wp2_with fail
      refine wp_region_held_drew (S := fun w' => w'.cell? ⟨g, 0, none⟩ = some (.int .i64 n) ∧ w'.cell? ⟨g, 1, none⟩ = some (.int .i64 e) ∧ w'.cell? ⟨g, 2, none⟩ = some (.int .i64 a) ∧ w'.cell? ⟨g, 3, none⟩ = some (.int .i64 ws) ∧ w'.cell? ⟨g, 4, none⟩ = some (.int .i64 n') ∧ w'.cell? ⟨g, 5, none⟩ = some (.int .i64 e') ∧ w'.cell? ⟨g, 6, none⟩ = some (.int .i64 a') ∧ w'.cell? ⟨g, 7, none⟩ = some (.int .i64 ws') ∧ w'.cell? ⟨w.heap.size + 1, 0, none⟩ = some (.int .i64 n) ∧ w'.cell? ⟨w.heap.size + 1, 1, none⟩ = some (.int .i64 e) ∧ w'.cell? ⟨w.heap.size + 1, 2, none⟩ = some (.int .i64 a) ∧ w'.cell? ⟨w.heap.size + 1, 3, none⟩ = some (.int .i64 ws)) (by kernel_rfl) h0 (fun hHeld => ?_)
      refine any_take 20 (.func (.func 28) #[] #[]) (i := 0) rfl rfl (by kernel_rfl) (by kernel_rfl) (by kernel_rfl) (fun _ _ _ h => h) (by rfl) (by intro w hSw; (try dsimp only at hSw); go_simp; try with_reducible rfl) (by assumption) ?_
      simp only [Act.put, List.setIfInBounds_toArray, List.set_cons_zero, List.set_cons_succ]
      refine any_take 21 (.slice (some ⟨g, 0, none⟩) (2 : Nat) c) (i := 1) rfl rfl (by kernel_rfl) (by kernel_rfl) (by kernel_rfl) (fun _ _ _ h => h) (by rfl) (by intro w hSw; (try dsimp only at hSw); go_simp; try with_reducible rfl) (by assumption) ?_
      simp only [Act.put, List.setIfInBounds_toArray, List.set_cons_zero, List.set_cons_succ]
      refine any_take 22 (.int .i64 1) (i := 2) rfl rfl (by kernel_rfl) (by kernel_rfl) (by kernel_rfl) (fun _ _ _ h => h) (by rfl) (by intro w hSw; (try dsimp only at hSw); go_simp; try with_reducible rfl) (by assumption) ?_
      simp only [Act.put, List.setIfInBounds_toArray, List.set_cons_zero, List.set_cons_succ]
      refine any_take 23 (.pointer (some ⟨g, 4, none⟩)) (i := 3) rfl rfl (by kernel_rfl) (by kernel_rfl) (by kernel_rfl) (fun _ _ _ h => h) (by rfl) (by intro w hSw; (try dsimp only at hSw); go_simp; try with_reducible rfl) (by assumption) ?_
      simp only [Act.put, List.setIfInBounds_toArray, List.set_cons_zero, List.set_cons_succ]
      refine any_take 24 (.agg #[.int .i64 n', .int .i64 e', .int .i64 a', .int .i64 ws']) (i := 4) rfl rfl (by kernel_rfl) (by kernel_rfl) (by kernel_rfl) (fun _ _ _ h => h) (by rfl) (by intro w hSw; (try dsimp only at hSw); go_simp; try with_reducible rfl) (by assumption) ?_
      simp only [Act.put, List.setIfInBounds_toArray, List.set_cons_zero, List.set_cons_succ]
      refine any_take 25 (.agg #[.int .i64 n, .int .i64 e, .int .i64 a, .int .i64 ws]) (i := 5) rfl rfl (by kernel_rfl) (by kernel_rfl) (by kernel_rfl) (fun _ _ _ h => h) (by rfl) (by intro w hSw; (try dsimp only at hSw); go_simp; try with_reducible rfl) (by assumption) ?_
      simp only [Act.put, List.setIfInBounds_toArray, List.set_cons_zero, List.set_cons_succ]
      refine wpAnyH_ready (rs := [6]) (by kernel_rfl) (by simp) ?_
      refine AllReadyH.cons rfl (fun K' hK => ?_) AllReadyH.nil
      go_simp
      go_at_call 28
      refine (HC.out _).mono ?_
      rintro e0 w5 ⟨rfl, f5⟩
      have F5 : Fr No wr w5 := Fr.trans' ((Fr.refl _ _).drew) f5 (fun _ _ e => e)
      dsimp only
      refine hK.out _ _ (Hcell.out w5 F5) (fun hHeld => ?_)
      clear hK
      refine any_take 27 (.bool q) (i := 7) rfl rfl (by kernel_rfl) (by kernel_rfl) (by kernel_rfl) (fun _ _ _ h => h) (by rfl) (by intro w hSw; (try dsimp only at hSw); go_simp; try with_reducible rfl) (by assumption) ?_
      simp only [Act.put, List.setIfInBounds_toArray, List.set_cons_zero, List.set_cons_succ]
      refine wpAnyH_done (by kernel_rfl) ?_ _
      obtain ⟨-, -, -, -, c4, c5, c6, c7, -⟩ := Hcell.out w5 F5
      have b5 := B1.out.fr F5 (fun e => e)
      obtain ⟨v0, v1, v2, v3⟩ := bk4 b5
      obtain ⟨y0, y1, y2, y3⟩ := fz4 b5
      have B5 := Lib.hid b5
      have FF := Lib.hid F5
      clear hHeld h0 f5 F5 b5 Hcell HC hcq
      cases q with
      | false =>
        go_wp2
        go_roundw
        case rel => exact .inr ⟨by go_num, FF.out.weak (fun _ _ e => e.elim), by rw [Hm.out.2]; exact B5.out⟩
        case measure => simp [intOf]
      | true =>
        go_wp2
        have b6 := (((B5.out.put 0 (.int .i64 n')).put 1 (.int .i64 e')).put 2 (.int .i64 a')).put 3 (.int .i64 ws')
        have f6 : Fr (fun k => k = w.heap.size + 1) wr ((((w5.setCell ⟨w.heap.size + 1, 0, none⟩ (.int .i64 n')).setCell ⟨w.heap.size + 1, 1, none⟩ (.int .i64 e')).setCell ⟨w.heap.size + 1, 2, none⟩ (.int .i64 a')).setCell ⟨w.heap.size + 1, 3, none⟩ (.int .i64 ws')) :=
          ((((FF.out.weak (S' := fun k => k = w.heap.size + 1) (fun _ _ e => e.elim)).setCell (p := ⟨w.heap.size + 1, 0, none⟩) (.inl rfl) _).setCell (p := ⟨w.heap.size + 1, 1, none⟩) (.inl rfl) _).setCell (p := ⟨w.heap.size + 1, 2, none⟩) (.inl rfl) _).setCell (p := ⟨w.heap.size + 1, 3, none⟩) (.inl rfl) _
        go_roundw
        case rel => exact .inr ⟨by go_num, f6, by rw [Hm.out.2]; exact b6⟩
        case measure => simp [intOf]
    · obtain ⟨m0, m1, m2, m3⟩ := m
      simp only [Anc.cells] at hb
      obtain ⟨v0, v1, v2, v3⟩ := bk4 hb
      have bz := B0.out.fr hf (by omega)
      obtain ⟨z0, z1, z2, z3⟩ := bk4 bz
      obtain ⟨y0, y1, y2, y3⟩ := fz4 bz
      have FF : Hid (Fr No w wr) := Lib.hid (F2.out.trans' hf (fun k hk e => by omega))
      clear hf hb bz HC hcq Hm Hq
      go_wp2
      refine bodyPost_ret (v := .agg #[.int .i64 m0, .int .i64 m1, .int .i64 m2, .int .i64 m3]) (by simp [results, Try.results27, go_sem, z0, z1, z2, z3]) rfl ?_
      refine ⟨rfl, ?_⟩
      repeat (first | with_reducible exact FF.out | refine Fr.setCell ?_ (.inr (Nat.le_refl _)) _)
end Go.Proofs.Ytcjbdoppphjpjaa
