/- The law's own 'same': a log as the document's. -/
import Derived.Test.YtdmllfjeofiddaaJo8
import Derived.Test.YtdmllfjeofiddaaHand
namespace Go.Proofs.Ytdmllfjeofiddaa
open Go.RowKit

set_option maxRecDepth 100000 in
set_option maxHeartbeats 4000000 in
theorem same8_any {wb w : World} {S T B : Nat → Prop} {d l r gl gr gd lg : Nat} {D D' : Dv} {M : Lg} (h : JB wb w S T B d l r gl gr gd lg D M D' M) :
    Calls Try.prog 26 #[.pointer (some ⟨l, 0, none⟩), .pointer (some ⟨lg, 0, none⟩)] w fun e w' => e = .returned (.bool true) ∧ Fr No w w' := by
  have hu := h.le.inv.used_le
  have hn4 := h.le.inv.small
  have hlo := h.le.lo
  have hrl := h.rl
  have hlen := h.le.inv.len
  obtain ⟨bA, bc, bs, hb1, hb2, hb3, hb4, hb5, hb6, hb7⟩ := hrl.lies
  have F0 : Fr No w w.drew := (Fr.refl No w).drew
  have CF := Lib.hid (lFrames_any w.drew (hlo.fr F0 (fun _ _ e => e)))
  have HWo := Lib.hid (fun W (hW : Fr No w W) => lWords_any W (hlo.fr hW (fun _ _ e => e)) hu hn4)
  have HU := Lib.hid (fun W (hW : Fr No w W) => show Calls Try.prog 49 #[.pointer (some ⟨lg, 0, none⟩)] W (fun e w' => e = .returned (.int .i64 M.used) ∧ Fr No W w') from (refUsed8_any B lg r M (by omega) W (hrl.fr hW (fun _ _ e => e))).mono (fun e w' q => ⟨q.1, q.2 ▸ Fr.refl No W⟩))
  have HE := Lib.hid (fun W (hW : Fr No w W) => lEpoch_any W (hlo.fr hW (fun _ _ e => e)))
  have eR : ((8 * M.n - M.used : Nat) : Int) = 8 * (M.n : Int) - (M.used : Int) := by omega
  have HR0 := fun W (hW : Fr No w W) => lRoom_any W (hlo.fr hW (fun _ _ e => e)) hu hn4
  rw [eR] at HR0
  have HR := Lib.hid HR0
  obtain ⟨bn, Hbn⟩ : ∃ bn, Hid (bs.length = bn) := ⟨_, Lib.hid rfl⟩
  rw [Hbn.out] at hb1 hb4
  have hbl : bn ≤ 32768 := by rw [← Hbn.out, ← List.length_map (f := FrV.f), hb3]; exact hlen
  have Hb2 := Lib.hid hb2
  have Hb3 := Lib.hid hb3
  obtain ⟨u, Hu⟩ : ∃ u, Hid (M.used = u) := ⟨_, Lib.hid rfl⟩
  obtain ⟨n, Hn⟩ : ∃ n, Hid (M.n = n) := ⟨_, Lib.hid rfl⟩
  obtain ⟨ep, Hep⟩ : ∃ ep, Hid (M.ep = ep) := ⟨_, Lib.hid rfl⟩
  rw [Hu.out] at HWo HU HR hu
  rw [Hn.out] at HR hu hn4 hb1
  rw [Hep.out] at HE hb1
  have HC := Lib.hid (fun W (hW : Fr No w W) => show (W.cell? ⟨lg, 4, none⟩ = some (.slice bA bn bc) ∧ W.cell? ⟨lg, 2, none⟩ = some (.int .i64 (n : Int)) ∧ W.cell? ⟨lg, 3, none⟩ = some (.int .i64 ep)) from ⟨(hb1.fr hW (fun e => e)).cell 4, (hb1.fr hW (fun e => e)).cell 2, (hb1.fr hW (fun e => e)).cell 3⟩)
  have hw1 : IntKind.i64.wrap (8 * (n : Int)) = 8 * (n : Int) := IntWalk.i64_in _ (by omega)
  have hw2 : IntKind.i64.wrap (8 * (n : Int) - (u : Int)) = 8 * (n : Int) - (u : Int) := IntWalk.i64_in _ (by omega)
  clear h hlo hrl hlen hb1 hb2 hb3 hb4 hb5 hb6 hb7 HR0 eR
  go_enter Try.func26, Try.ntmps26
  go_wp2_with fail
  refine wp_region_held_drew (S := (fun w' => w'.cell? ⟨lg, 4, none⟩ = some (.slice bA bn bc) ∧ w'.cell? ⟨lg, 2, none⟩ = some (.int .i64 (n : Int)) ∧ w'.cell? ⟨lg, 3, none⟩ = some (.int .i64 ep))) (by kernel_rfl) (HC.out _ F0) (fun hHeld => ?_)
  refine any_take 5 (.pointer (some ⟨l, 0, none⟩)) (i := 0) rfl rfl (by kernel_rfl) (by kernel_rfl) (by kernel_rfl) (fun _ _ _ h => h) (by rfl) (by intro w hSw; (try dsimp only at hSw); go_simp; try with_reducible rfl) (by assumption) ?_
  simp only [Act.put, List.setIfInBounds_toArray, List.set_cons_zero, List.set_cons_succ]
  refine any_take 7 (.pointer (some ⟨lg, 0, none⟩)) (i := 2) rfl rfl (by kernel_rfl) (by kernel_rfl) (by kernel_rfl) (fun _ _ _ h => h) (by rfl) (by intro w hSw; (try dsimp only at hSw); go_simp; try with_reducible rfl) (by assumption) ?_
  simp only [Act.put, List.setIfInBounds_toArray, List.set_cons_zero, List.set_cons_succ]
  refine any_take 8 (.pointer (some ⟨lg, 0, none⟩)) (i := 3) rfl rfl (by kernel_rfl) (by kernel_rfl) (by kernel_rfl) (fun _ _ _ h => h) (by rfl) (by intro w hSw; (try dsimp only at hSw); go_simp; try with_reducible rfl) (by assumption) ?_
  simp only [Act.put, List.setIfInBounds_toArray, List.set_cons_zero, List.set_cons_succ]
  refine any_take 9 (.pointer (some ⟨lg, 4, none⟩)) (i := 4) rfl rfl (by kernel_rfl) (by kernel_rfl) (by kernel_rfl) (fun _ _ _ h => h) (by rfl) (by intro w hSw; (try dsimp only at hSw); go_simp; try with_reducible rfl) (by assumption) ?_
  simp only [Act.put, List.setIfInBounds_toArray, List.set_cons_zero, List.set_cons_succ]
  refine any_take 10 (.slice bA bn bc) (i := 5) rfl rfl (by kernel_rfl) (by kernel_rfl) (by kernel_rfl) (fun _ _ _ h => h) (by rfl) (by intro w hSw; (try dsimp only at hSw); go_simp; try with_reducible rfl) (by assumption) ?_
  simp only [Act.put, List.setIfInBounds_toArray, List.set_cons_zero, List.set_cons_succ]
  refine wpAnyH_ready (rs := [1]) (by kernel_rfl) (by simp) ?_
  refine AllReadyH.cons rfl (fun K' hK => ?_) AllReadyH.nil
  go_simp
  go_at_call 29
  refine (CF.out).mono ?_
  rintro e1 w1 ⟨zA, zc, zs, rfl, hz1, hz2, hz3, hz4, hz5, hz6⟩
  have F1 : Fr No w w1 := F0.trans' hz5 (fun _ _ e => e)
  have hzl : zs.length = bn := by rw [← Hbn.out, ← List.length_map (f := FrV.f), hz1, ← Hb3.out, List.length_map]
  have CS := Lib.hid (refSame6_any zs bs zA bA zs.length bn zc bc w1 hz2 (Hb2.out.since F1) rfl Hbn.out (by omega) (by omega))
  have HZy : Hid (zs.map FrV.f = bs.map FrV.f) := Lib.hid (by rw [hz1, Hb3.out])
  generalize zs.length = zl at *
  clear hz1 hz2 hz3 hz4 hz5 hz6 hzl CF
  dsimp only
  refine hK.out _ _ (HC.out w1 F1) (fun hHeld => ?_)
  clear hK
  try simp only [Act.put, List.setIfInBounds_toArray, List.set_cons_zero, List.set_cons_succ]
  refine wpAnyH_ready (rs := [6]) (by kernel_rfl) (by simp) ?_
  refine AllReadyH.cons rfl (fun K' hK => ?_) AllReadyH.nil
  go_simp
  go_at_call 31
  refine (CS.out).mono ?_
  rintro e2 w2 ⟨⟨bb, rfl, hbb⟩, hf2⟩
  obtain rfl : bb = true := hbb.2 HZy.out
  have F2 := F1.trans' hf2 (fun _ _ e => e)
  clear hbb CS HZy
  dsimp only
  refine hK.out _ _ (HC.out w2 F2) (fun hHeld => ?_)
  clear hK
  try simp only [Act.put, List.setIfInBounds_toArray, List.set_cons_zero, List.set_cons_succ]
  refine any_take 12 (.bool true) (i := 7) rfl rfl (by kernel_rfl) (by kernel_rfl) (by kernel_rfl) (fun _ _ _ h => h) (by rfl) (by intro w hSw; (try dsimp only at hSw); go_simp; try with_reducible rfl) (by assumption) ?_
  simp only [Act.put, List.setIfInBounds_toArray, List.set_cons_zero, List.set_cons_succ]
  refine any_take 13 (.pointer (some ⟨l, 0, none⟩)) (i := 8) rfl rfl (by kernel_rfl) (by kernel_rfl) (by kernel_rfl) (fun _ _ _ h => h) (by rfl) (by intro w hSw; (try dsimp only at hSw); go_simp; try with_reducible rfl) (by assumption) ?_
  simp only [Act.put, List.setIfInBounds_toArray, List.set_cons_zero, List.set_cons_succ]
  refine any_take 15 (.pointer (some ⟨lg, 0, none⟩)) (i := 10) rfl rfl (by kernel_rfl) (by kernel_rfl) (by kernel_rfl) (fun _ _ _ h => h) (by rfl) (by intro w hSw; (try dsimp only at hSw); go_simp; try with_reducible rfl) (by assumption) ?_
  simp only [Act.put, List.setIfInBounds_toArray, List.set_cons_zero, List.set_cons_succ]
  refine wpAnyH_ready (rs := [9]) (by kernel_rfl) (by simp) ?_
  refine AllReadyH.cons rfl (fun K' hK => ?_) AllReadyH.nil
  go_simp
  go_at_call 33
  refine (HWo.out w2 F2).mono ?_
  rintro e3 w3 ⟨rfl, hf3⟩
  have F3 := F2.trans' hf3 (fun _ _ e => e)
  dsimp only
  refine hK.out _ _ (HC.out w3 F3) (fun hHeld => ?_)
  clear hK
  try simp only [Act.put, List.setIfInBounds_toArray, List.set_cons_zero, List.set_cons_succ]
  refine wpAnyH_ready (rs := [11]) (by kernel_rfl) (by simp) ?_
  refine AllReadyH.cons rfl (fun K' hK => ?_) AllReadyH.nil
  go_simp
  go_at_call 49
  refine (HU.out w3 F3).mono ?_
  rintro e4 w4 ⟨rfl, hf4⟩
  have F4 := F3.trans' hf4 (fun _ _ e => e)
  dsimp only
  refine hK.out _ _ (HC.out w4 F4) (fun hHeld => ?_)
  clear hK
  try simp only [Act.put, List.setIfInBounds_toArray, List.set_cons_zero, List.set_cons_succ]
  refine any_take 17 (.bool true) (i := 12) rfl rfl (by kernel_rfl) (by kernel_rfl) (by kernel_rfl) (fun _ _ _ h => h) (by rfl) (by intro w hSw; (try dsimp only at hSw); go_simp; try with_reducible rfl) (by assumption) ?_
  simp only [Act.put, List.setIfInBounds_toArray, List.set_cons_zero, List.set_cons_succ]
  refine any_take 18 (.bool true) (i := 13) rfl rfl (by kernel_rfl) (by kernel_rfl) (by kernel_rfl) (fun _ _ _ h => h) (by rfl) (by intro w hSw; (try dsimp only at hSw); go_simp; try with_reducible rfl) (by assumption) ?_
  simp only [Act.put, List.setIfInBounds_toArray, List.set_cons_zero, List.set_cons_succ]
  refine any_take 19 (.bool true) (i := 14) rfl rfl (by kernel_rfl) (by kernel_rfl) (by kernel_rfl) (fun _ _ _ h => h) (by rfl) (by intro w hSw; (try dsimp only at hSw); go_simp; try with_reducible rfl) (by assumption) ?_
  simp only [Act.put, List.setIfInBounds_toArray, List.set_cons_zero, List.set_cons_succ]
  refine any_take 20 (.pointer (some ⟨l, 0, none⟩)) (i := 15) rfl rfl (by kernel_rfl) (by kernel_rfl) (by kernel_rfl) (fun _ _ _ h => h) (by rfl) (by intro w hSw; (try dsimp only at hSw); go_simp; try with_reducible rfl) (by assumption) ?_
  simp only [Act.put, List.setIfInBounds_toArray, List.set_cons_zero, List.set_cons_succ]
  refine any_take 22 (.pointer (some ⟨lg, 0, none⟩)) (i := 17) rfl rfl (by kernel_rfl) (by kernel_rfl) (by kernel_rfl) (fun _ _ _ h => h) (by rfl) (by intro w hSw; (try dsimp only at hSw); go_simp; try with_reducible rfl) (by assumption) ?_
  simp only [Act.put, List.setIfInBounds_toArray, List.set_cons_zero, List.set_cons_succ]
  refine any_take 23 (.pointer (some ⟨lg, 0, none⟩)) (i := 18) rfl rfl (by kernel_rfl) (by kernel_rfl) (by kernel_rfl) (fun _ _ _ h => h) (by rfl) (by intro w hSw; (try dsimp only at hSw); go_simp; try with_reducible rfl) (by assumption) ?_
  simp only [Act.put, List.setIfInBounds_toArray, List.set_cons_zero, List.set_cons_succ]
  refine any_take 24 (.pointer (some ⟨lg, 2, none⟩)) (i := 19) rfl rfl (by kernel_rfl) (by kernel_rfl) (by kernel_rfl) (fun _ _ _ h => h) (by rfl) (by intro w hSw; (try dsimp only at hSw); go_simp; try with_reducible rfl) (by assumption) ?_
  simp only [Act.put, List.setIfInBounds_toArray, List.set_cons_zero, List.set_cons_succ]
  refine any_take 25 (.int .i64 (n : Int)) (i := 20) rfl rfl (by kernel_rfl) (by kernel_rfl) (by kernel_rfl) (fun _ _ _ h => h) (by rfl) (by intro w hSw; (try dsimp only at hSw); go_simp; try with_reducible rfl) (by assumption) ?_
  simp only [Act.put, List.setIfInBounds_toArray, List.set_cons_zero, List.set_cons_succ]
  refine any_take 26 (.int .i64 (8 * (n : Int))) (i := 21) rfl rfl (by kernel_rfl) (by kernel_rfl) (by kernel_rfl) (fun _ _ _ h => h) (by rfl) (by intro w hSw; (try dsimp only at hSw); go_simp; try with_reducible rfl) (by assumption) ?_
  simp only [Act.put, List.setIfInBounds_toArray, List.set_cons_zero, List.set_cons_succ]
  refine any_take 27 (.pointer (some ⟨lg, 0, none⟩)) (i := 22) rfl rfl (by kernel_rfl) (by kernel_rfl) (by kernel_rfl) (fun _ _ _ h => h) (by rfl) (by intro w hSw; (try dsimp only at hSw); go_simp; try with_reducible rfl) (by assumption) ?_
  simp only [Act.put, List.setIfInBounds_toArray, List.set_cons_zero, List.set_cons_succ]
  refine wpAnyH_ready (rs := [16]) (by kernel_rfl) (by simp) ?_
  refine AllReadyH.cons rfl (fun K' hK => ?_) AllReadyH.nil
  go_simp
  go_at_call 32
  refine (HR.out w4 F4).mono ?_
  rintro e5 w5 ⟨rfl, hf5⟩
  have F5 := F4.trans' hf5 (fun _ _ e => e)
  dsimp only
  refine hK.out _ _ (HC.out w5 F5) (fun hHeld => ?_)
  clear hK
  try simp only [Act.put, List.setIfInBounds_toArray, List.set_cons_zero, List.set_cons_succ]
  refine wpAnyH_ready (rs := [23]) (by kernel_rfl) (by simp) ?_
  refine AllReadyH.cons rfl (fun K' hK => ?_) AllReadyH.nil
  go_simp
  go_at_call 49
  refine (HU.out w5 F5).mono ?_
  rintro e6 w6 ⟨rfl, hf6⟩
  have F6 := F5.trans' hf6 (fun _ _ e => e)
  dsimp only
  refine hK.out _ _ (HC.out w6 F6) (fun hHeld => ?_)
  clear hK
  try simp only [Act.put, List.setIfInBounds_toArray, List.set_cons_zero, List.set_cons_succ]
  refine any_take 29 (.int .i64 (8 * (n : Int) - (u : Int))) (i := 24) rfl rfl (by kernel_rfl) (by kernel_rfl) (by kernel_rfl) (fun _ _ _ h => h) (by rfl) (by intro w hSw; (try dsimp only at hSw); go_simp; try with_reducible rfl) (by assumption) ?_
  simp only [Act.put, List.setIfInBounds_toArray, List.set_cons_zero, List.set_cons_succ]
  refine any_take 30 (.bool true) (i := 25) rfl rfl (by kernel_rfl) (by kernel_rfl) (by kernel_rfl) (fun _ _ _ h => h) (by rfl) (by intro w hSw; (try dsimp only at hSw); go_simp; try with_reducible rfl) (by assumption) ?_
  simp only [Act.put, List.setIfInBounds_toArray, List.set_cons_zero, List.set_cons_succ]
  refine any_take 31 (.bool true) (i := 26) rfl rfl (by kernel_rfl) (by kernel_rfl) (by kernel_rfl) (fun _ _ _ h => h) (by rfl) (by intro w hSw; (try dsimp only at hSw); go_simp; try with_reducible rfl) (by assumption) ?_
  simp only [Act.put, List.setIfInBounds_toArray, List.set_cons_zero, List.set_cons_succ]
  refine any_take 32 (.bool true) (i := 27) rfl rfl (by kernel_rfl) (by kernel_rfl) (by kernel_rfl) (fun _ _ _ h => h) (by rfl) (by intro w hSw; (try dsimp only at hSw); go_simp; try with_reducible rfl) (by assumption) ?_
  simp only [Act.put, List.setIfInBounds_toArray, List.set_cons_zero, List.set_cons_succ]
  refine any_take 33 (.pointer (some ⟨l, 0, none⟩)) (i := 28) rfl rfl (by kernel_rfl) (by kernel_rfl) (by kernel_rfl) (fun _ _ _ h => h) (by rfl) (by intro w hSw; (try dsimp only at hSw); go_simp; try with_reducible rfl) (by assumption) ?_
  simp only [Act.put, List.setIfInBounds_toArray, List.set_cons_zero, List.set_cons_succ]
  refine any_take 35 (.pointer (some ⟨lg, 0, none⟩)) (i := 30) rfl rfl (by kernel_rfl) (by kernel_rfl) (by kernel_rfl) (fun _ _ _ h => h) (by rfl) (by intro w hSw; (try dsimp only at hSw); go_simp; try with_reducible rfl) (by assumption) ?_
  simp only [Act.put, List.setIfInBounds_toArray, List.set_cons_zero, List.set_cons_succ]
  refine any_take 36 (.pointer (some ⟨lg, 0, none⟩)) (i := 31) rfl rfl (by kernel_rfl) (by kernel_rfl) (by kernel_rfl) (fun _ _ _ h => h) (by rfl) (by intro w hSw; (try dsimp only at hSw); go_simp; try with_reducible rfl) (by assumption) ?_
  simp only [Act.put, List.setIfInBounds_toArray, List.set_cons_zero, List.set_cons_succ]
  refine any_take 37 (.pointer (some ⟨lg, 3, none⟩)) (i := 32) rfl rfl (by kernel_rfl) (by kernel_rfl) (by kernel_rfl) (fun _ _ _ h => h) (by rfl) (by intro w hSw; (try dsimp only at hSw); go_simp; try with_reducible rfl) (by assumption) ?_
  simp only [Act.put, List.setIfInBounds_toArray, List.set_cons_zero, List.set_cons_succ]
  refine any_take 38 (.int .i64 ep) (i := 33) rfl rfl (by kernel_rfl) (by kernel_rfl) (by kernel_rfl) (fun _ _ _ h => h) (by rfl) (by intro w hSw; (try dsimp only at hSw); go_simp; try with_reducible rfl) (by assumption) ?_
  simp only [Act.put, List.setIfInBounds_toArray, List.set_cons_zero, List.set_cons_succ]
  refine wpAnyH_ready (rs := [29]) (by kernel_rfl) (by simp) ?_
  refine AllReadyH.cons rfl (fun K' hK => ?_) AllReadyH.nil
  go_simp
  go_at_call 51
  refine (HE.out w6 F6).mono ?_
  rintro e7 w7 ⟨rfl, hf7⟩
  have F7 := F6.trans' hf7 (fun _ _ e => e)
  dsimp only
  refine hK.out _ _ (HC.out w7 F7) (fun hHeld => ?_)
  clear hK
  try simp only [Act.put, List.setIfInBounds_toArray, List.set_cons_zero, List.set_cons_succ]
  refine any_take 39 (.bool true) (i := 34) rfl rfl (by kernel_rfl) (by kernel_rfl) (by kernel_rfl) (fun _ _ _ h => h) (by rfl) (by intro w hSw; (try dsimp only at hSw); go_simp; try with_reducible rfl) (by assumption) ?_
  simp only [Act.put, List.setIfInBounds_toArray, List.set_cons_zero, List.set_cons_succ]
  refine any_take 40 (.bool true) (i := 35) rfl rfl (by kernel_rfl) (by kernel_rfl) (by kernel_rfl) (fun _ _ _ h => h) (by rfl) (by intro w hSw; (try dsimp only at hSw); go_simp; try with_reducible rfl) (by assumption) ?_
  simp only [Act.put, List.setIfInBounds_toArray, List.set_cons_zero, List.set_cons_succ]
  refine any_take 4 (.bool true) (i := 36) rfl rfl (by kernel_rfl) (by kernel_rfl) (by kernel_rfl) (fun _ _ _ h => h) (by rfl) (by intro w hSw; (try dsimp only at hSw); go_simp; try with_reducible rfl) (by assumption) ?_
  simp only [Act.put, List.setIfInBounds_toArray, List.set_cons_zero, List.set_cons_succ]
  refine wpAnyH_done (by kernel_rfl) ?_ _
  clear hHeld HC HWo HU HE HR
  go_wp2
  go_ret
  exact ⟨rfl, F7⟩
end Go.Proofs.Ytdmllfjeofiddaa
