/- The document's own log: Append. -/
import Derived.Test.YtdmllfjeofiddaaRou8
import Derived.Test.YtdmllfjeofiddaaHand
import Derived.Test.YtdmllfjeofiddaaNew
import Derived.Deep.CutRange
import Derived.StillTailTactics
import Derived.Deep.RegionHeld3
namespace Go.Proofs.Ytdmllfjeofiddaa
open Go.RowKit

theorem cells_one (xs : List FrV) : ∀ u ∈ xs.flatMap FrV.cells, u.oneCell' = true := by
  intro u hu
  obtain ⟨y, -, hy⟩ := List.mem_flatMap.1 hu
  simp [FrV.cells] at hy
  rcases hy with rfl | rfl <;> rfl
theorem bk_sl2 {W : World} {f : Nat} {t : TypeId} {u v : Value} (h : Bk W f t #[u, v]) : Sl W W.heap.size (some ⟨f, 0, none⟩) [u, v] := by
  intro _
  refine ⟨_, rfl, h.lt, fun j y hy => ?_⟩
  match j, hy with
  | 0, hy => simp at hy; subst hy; exact h.cell 0
  | 1, hy => simp at hy; subst hy; exact h.cell 1
theorem own_set_far {w : World} {base size n : Nat} {e : TypeId} {v : Value} {xs : List Value} (h : w.ownsRow base e size v n xs) {p : Addr} (u : Value) (hp : v.ownBlock ≠ some p.block) : (w.setCell p u).ownsRow base e size v n xs :=
  own_fr h ((Fr.refl (fun k => k = p.block) w).setCell (.inl rfl) u) (fun k hk e => hp (by rw [hk, e]))
/-- Behind the new list of frames: it stands in the log, all else as it was. -/
structure Lg7 (w3 wx : World) (lg r : Nat) (M : Lg) (A' : Option Addr) (c' m : Nat) (xs : List FrV) (kd : Int) (xA : Option Addr) (z xc : Nat) : Prop where
  bk : Bk wx lg 69 #[.pointer (some ⟨r, 0, none⟩), .int .i64 M.q, .int .i64 M.n, .int .i64 M.ep, .slice A' (m + 1 : Nat) c']
  fr : Fr (fun k => k = lg) w3 wx
  own : wx.ownsRow w3.heap.size 38 2 (.slice A' (m + 1 : Nat) c') (m + 1) (xs.flatMap FrV.cells ++ [.int .i64 kd, .slice xA z xc])
/-- The first k words of a sector that is written. -/
def preS (s : List Nat) (k : Nat) : List Nat := (List.range 8).map fun j => if j < k then s.getD j 0 else 0
theorem preS_zero (s : List Nat) : preS s 0 = zSec := by
  unfold preS zSec
  simp only [Nat.not_lt_zero, if_false]
  rfl
theorem preS_all {s : List Nat} (h : Sec s) : preS s 8 = s := by
  conv => rhs; rw [sec_of_words h]
  unfold preS
  refine List.map_congr_left fun j hj => ?_
  simp only [List.mem_range] at hj
  rw [if_pos hj]
theorem preS_at (s : List Nat) (k j : Nat) (hj : j < 8) : (preS s k)[j]? = some (if j < k then s.getD j 0 else 0) := by simp [preS, hj]
theorem preS_put (s : List Nat) (k : Nat) (hk : k < 8) : (secA (preS s k)).setIfInBounds k (.int .u64 (s.getD k 0 : Nat)) = secA (preS s (k + 1)) := by
  refine Array.ext_getElem? fun j => ?_
  have hz : (secA (preS s k)).size = 8 := by simp [secA, u64s, preS]
  have e1 : ∀ k, (secA (preS s k))[j]? = ((preS s k)[j]?).map fun (u : Nat) => Value.int .u64 (u : Int) := fun k => by simp [secA, u64s]
  rw [Array.getElem?_setIfInBounds, hz]
  by_cases hj : k = j
  · subst hj
    rw [if_pos rfl, if_pos hk, e1, preS_at _ _ _ hk, if_pos (by omega)]
    rfl
  · rw [if_neg hj, e1, e1]
    by_cases hj8 : j < 8
    · rw [preS_at _ _ _ hj8, preS_at _ _ _ hj8]
      have : j < k + 1 ↔ j < k := by omega
      simp only [this]
    · rw [List.getElem?_eq_none (by simp [preS]; omega), List.getElem?_eq_none (by simp [preS]; omega)]
theorem preS_skip (s : List Nat) (k : Nat) (h : s.getD k 0 = 0) : preS s (k + 1) = preS s k := by
  unfold preS
  refine List.map_congr_left fun j _ => ?_
  by_cases hj : j = k
  · subst hj
    rw [if_pos (by omega), if_neg (by omega), h]
  · have : j < k + 1 ↔ j < k := by omega
    simp only [this]
/-- The block of a frame's words. -/
def xB (x : FrV) : Nat → Prop := fun k => ∃ ad, x.A = some ad ∧ x.ws ≠ [] ∧ ad.block = k
/-- What the document's Append answers. -/
def AppR (r gl gr gd lg : Nat) (B : Nat → Prop) (D : Dv) (M : Lg) (x : FrV) (w : World) (e : Ending) (w' : World) : Prop :=
  e = .returned (.int .i64 (appE M x.f : Nat)) ∧ RD w' r gl gr gd (appDv D M x.f) ∧ Fr (fun k => Rb r gl gr gd k ∨ k = lg) w w' ∧ ∃ B', RL w' B' lg r (appM M x.f) ∧ ∀ k, B' k → B k ∨ w.heap.size ≤ k ∨ xB x k
set_option maxRecDepth 100000 in
set_option maxHeartbeats 4000000 in
theorem refAppend8_any (r gl gr gd lg : Nat) (B : Nat → Prop) (D : Dv) (M : Lg) (x : FrV) (hD : D.n ≤ 4096) (w : World) (h : RD w r gl gr gd D) (hl : RL w B lg r M) (hI : LInv D M) (hx : x.Fit w w.heap.size) (hb : ∀ k, B k → ¬ Rb r gl gr gd k) (hxb : ∀ k, xB x k → ¬ Rb r gl gr gd k ∧ k ≠ lg) :
    Calls Try.prog 25 #[.pointer (some ⟨lg, 0, none⟩), x.agg] w (AppR r gl gr gd lg B D M x w) := by
  have HMay := Lib.hid (fun W => refMay_any x W)
  have Hu := Lib.hid hI.used_le
  have Hsm := Lib.hid hI.small
  have HU : Hid (∀ W, Fr No w W → Calls Try.prog 49 #[.pointer (some ⟨lg, 0, none⟩)] W fun e w' => e = .returned (.int .i64 M.used) ∧ W = w') := Lib.hid (fun W hW => refUsed8_any B lg r M (by have := Hu.out; have := Hsm.out; omega) W (hl.fr hW (fun _ _ e => e)))
  have HP : Hid (frmOk x.f = true → ∀ W, Fr No w W → Calls Try.prog 50 #[.int .i64 M.ep, .int .i64 (M.L.length : Nat), x.agg] W (NewL W (putW M.ep M.L.length x.f))) := Lib.hid (fun h1 W hW => refPut_any M.ep (M.L.length : Nat) hI.num ((numOk_iff _).2 (by have := hI.len; omega)) x W (hx.since hW) (by have := ((frmOk_iff _).1 h1).2.2; simp only [FrV.f] at this; omega))
  have HD := Lib.hid (fun W (hW : Fr No w W) => h.fr hW (fun _ _ e => e))
  have HL := Lib.hid (fun W (hW : Fr No w W) => hl.fr hW (fun _ _ e => e))
  have Hx := Lib.hid hx
  have HI := Lib.hid hI
  have Hb := Lib.hid hb
  have Hxb := Lib.hid hxb
  have Hrl := Lib.hid h.lt
  have Hll := Lib.hid hl.lt
  have HbB := Lib.hid (fun (h1 : ¬ frmOk x.f = true ∨ ¬ M.roomFor x.f = true) => (show appDv D M x.f = D ∧ appM M x.f = M from by unfold appDv appM; rw [if_neg (by rintro ⟨a, b⟩; rcases h1 with h1 | h1; exact h1 a; exact h1 b), if_neg (by rintro ⟨a, b⟩; rcases h1 with h1 | h1; exact h1 a; exact h1 b)]; exact ⟨rfl, rfl⟩))
  have HE := Lib.hid (show appE M x.f = if frmOk x.f = true then (if M.roomFor x.f = true then 0 else 4) else 1 from rfl)
  obtain ⟨A, c, xs, h1, h2, h3, h4, h5, h6, h7⟩ := hl.lies
  have H2 := Lib.hid h2
  have H3 := Lib.hid h3
  have H6 := Lib.hid h6
  have H7 := Lib.hid h7
  have Hc : Hid (c ≤ maxLen) := Lib.hid h5
  have hcl : c ≤ 9223372036854775807 := h5
  have hML : M.L.length = xs.length := by rw [← h3, List.length_map]
  obtain ⟨m, Hm⟩ : ∃ m, Hid (xs.length = m) := ⟨_, Lib.hid rfl⟩
  have hm3 : m ≤ 32768 := by rw [← Hm.out, ← hML]; exact hI.len
  rw [hML] at HP
  rw [Hm.out] at h1 HP h4
  have Hlg := Lib.hid h1
  obtain ⟨z, Hz⟩ : ∃ z, Hid (x.ws.length = z) := ⟨_, Lib.hid rfl⟩
  obtain ⟨u, Hus⟩ : ∃ u, Hid (M.used = u) := ⟨_, Lib.hid rfl⟩
  have Hroom : Hid (M.roomFor x.f = true ↔ u + (z + 1) ≤ 8 * M.n) := Lib.hid (by unfold Lg.roomFor; simp only [FrV.f, Hus.out, Hz.out, decide_eq_true_eq])
  have HPl : Hid ((putW M.ep m x.f).length = z + 1) := Lib.hid (by rw [putW_len]; simp only [FrV.f]; rw [Hz.out])
  rw [Hus.out] at HU Hu
  have hu8 := Hu.out
  have hs8 := Hsm.out
  obtain ⟨kd, Hkd⟩ : ∃ kd, Hid (x.kind = kd) := ⟨_, Lib.hid rfl⟩
  obtain ⟨xA, HxA⟩ : ∃ xA, Hid (x.A = xA) := ⟨_, Lib.hid rfl⟩
  obtain ⟨xc, Hxc⟩ : ∃ xc, Hid (x.c = xc) := ⟨_, Lib.hid rfl⟩
  have hag2 : x.cells = [.int .i64 kd, .slice xA z xc] := by unfold FrV.cells; rw [Hkd.out, HxA.out, Hxc.out, Hz.out]
  have hag : x.agg = .agg #[.int .i64 kd, .slice xA z xc] := by unfold FrV.agg; rw [Hkd.out, HxA.out, Hxc.out, Hz.out]
  rw [hag] at HMay HP ⊢
  have bx := Bk.made w 38 #[.int .i64 kd, .slice xA z xc]
  have f0 : Fr No w (w.alloc (.cells #[.int .i64 kd, .slice xA z xc] 38)) := (Fr.refl _ _).alloc _
  clear h hl hI hx hb hxb h1 h2 h3 h5 h6 h7 hML hag
  cases hok : frmOk x.f with
  | false =>
    rw [hok] at HMay
    have HB0 := Lib.hid (HbB.out (.inl (by rw [hok]; simp)))
    have HE0 : Hid (appE M x.f = 1) := Lib.hid (by rw [HE.out, hok]; rfl)
    clear HP HU hok HbB HE
    go_enter Try.func25, Try.ntmps25
    go_wp2_with fail
    refine (HMay.out _).mono ?_
    rintro e w1 ⟨rfl, f1⟩
    have f2 := f0.trans' f1 (fun _ _ e => e)
    go_wp2
    go_ret
    exact ⟨by rw [HE0.out]; rfl, by rw [HB0.out.1]; exact HD.out _ f2, f2.weak (fun _ _ e => e.elim), B, by rw [HB0.out.2]; exact HL.out _ f2, fun k hk => .inl hk⟩
  | true =>
    rw [hok] at HMay
    have HP2 := Lib.hid (HP.out hok)
    have hz2 : z < 2001 := by
      have := ((frmOk_iff _).1 hok).2.2
      simp only [FrV.f] at this
      rw [← Hz.out]
      exact this
    have Hok := Lib.hid hok
    clear HP
    go_enter Try.func25, Try.ntmps25
    go_wp2_with fail
    refine (HMay.out _).mono ?_
    rintro e w1 ⟨rfl, f1⟩
    have f2 := f0.trans' f1 (fun _ _ e => e)
    have bx2 := bx.fr f1 (fun e => e)
    clear f0 f1 bx HMay
    go_wp2_with fail
    refine (HU.out _ f2).mono ?_
    rintro e w1' ⟨rfl, rfl⟩
    clear HU
    have Hcell : Hid (∀ w', Fr No w1 w' → w'.cell? ⟨lg, 3, none⟩ = some (.int .i64 M.ep) ∧ w'.cell? ⟨lg, 4, none⟩ = some (.slice A m c) ∧ w'.cell? ⟨w.heap.size, 0, none⟩ = some (.int .i64 kd) ∧ w'.cell? ⟨w.heap.size, 1, none⟩ = some (.slice xA z xc)) := Lib.hid (fun w' hw => by
      have hb1 := (Hlg.out.fr f2 (fun e => e)).fr hw (fun e => e)
      have hb2 := bx2.fr hw (fun e => e)
      exact ⟨hb1.cell 3, hb1.cell 4, hb2.cell 0, hb2.cell 1⟩)
    have F2 := Lib.hid f2
    have BX2 := Lib.hid bx2
    have h0 := Hcell.out w1 (Fr.refl _ _)
    clear f2 bx2
    go_wp2_with fail
    refine wp_region_held_drew (S := fun w' => w'.cell? ⟨lg, 3, none⟩ = some (.int .i64 M.ep) ∧ w'.cell? ⟨lg, 4, none⟩ = some (.slice A m c) ∧ w'.cell? ⟨w.heap.size, 0, none⟩ = some (.int .i64 kd) ∧ w'.cell? ⟨w.heap.size, 1, none⟩ = some (.slice xA z xc)) (by kernel_rfl) h0 (fun hHeld => ?_)
    refine any_take 16 (.pointer (some ⟨lg, 0, none⟩)) (i := 0) rfl rfl (by kernel_rfl) (by kernel_rfl) (by kernel_rfl) (fun _ _ _ h => h) (by rfl) (by intro w hSw; (try dsimp only at hSw); go_simp; try with_reducible rfl) (by assumption) ?_
    simp only [Act.put, List.setIfInBounds_toArray, List.set_cons_zero, List.set_cons_succ]
    refine any_take 17 (.pointer (some ⟨lg, 0, none⟩)) (i := 1) rfl rfl (by kernel_rfl) (by kernel_rfl) (by kernel_rfl) (fun _ _ _ h => h) (by rfl) (by intro w hSw; (try dsimp only at hSw); go_simp; try with_reducible rfl) (by assumption) ?_
    simp only [Act.put, List.setIfInBounds_toArray, List.set_cons_zero, List.set_cons_succ]
    refine any_take 18 (.pointer (some ⟨lg, 3, none⟩)) (i := 2) rfl rfl (by kernel_rfl) (by kernel_rfl) (by kernel_rfl) (fun _ _ _ h => h) (by rfl) (by intro w hSw; (try dsimp only at hSw); go_simp; try with_reducible rfl) (by assumption) ?_
    simp only [Act.put, List.setIfInBounds_toArray, List.set_cons_zero, List.set_cons_succ]
    refine any_take 19 (.int .i64 M.ep) (i := 3) rfl rfl (by kernel_rfl) (by kernel_rfl) (by kernel_rfl) (fun _ _ _ h => h) (by rfl) (by intro w hSw; (try dsimp only at hSw); go_simp; try with_reducible rfl) (by assumption) ?_
    simp only [Act.put, List.setIfInBounds_toArray, List.set_cons_zero, List.set_cons_succ]
    refine any_take 20 (.pointer (some ⟨lg, 0, none⟩)) (i := 4) rfl rfl (by kernel_rfl) (by kernel_rfl) (by kernel_rfl) (fun _ _ _ h => h) (by rfl) (by intro w hSw; (try dsimp only at hSw); go_simp; try with_reducible rfl) (by assumption) ?_
    simp only [Act.put, List.setIfInBounds_toArray, List.set_cons_zero, List.set_cons_succ]
    refine any_take 21 (.pointer (some ⟨lg, 0, none⟩)) (i := 5) rfl rfl (by kernel_rfl) (by kernel_rfl) (by kernel_rfl) (fun _ _ _ h => h) (by rfl) (by intro w hSw; (try dsimp only at hSw); go_simp; try with_reducible rfl) (by assumption) ?_
    simp only [Act.put, List.setIfInBounds_toArray, List.set_cons_zero, List.set_cons_succ]
    refine any_take 22 (.pointer (some ⟨lg, 4, none⟩)) (i := 6) rfl rfl (by kernel_rfl) (by kernel_rfl) (by kernel_rfl) (fun _ _ _ h => h) (by rfl) (by intro w hSw; (try dsimp only at hSw); go_simp; try with_reducible rfl) (by assumption) ?_
    simp only [Act.put, List.setIfInBounds_toArray, List.set_cons_zero, List.set_cons_succ]
    refine any_take 23 (.slice A m c) (i := 7) rfl rfl (by kernel_rfl) (by kernel_rfl) (by kernel_rfl) (fun _ _ _ h => h) (by rfl) (by intro w hSw; (try dsimp only at hSw); go_simp; try with_reducible rfl) (by assumption) ?_
    simp only [Act.put, List.setIfInBounds_toArray, List.set_cons_zero, List.set_cons_succ]
    refine any_take 24 (.int .i64 m) (i := 8) rfl rfl (by kernel_rfl) (by kernel_rfl) (by kernel_rfl) (fun _ _ _ h => h) (by rfl) (by intro w hSw; (try dsimp only at hSw); go_simp; try with_reducible rfl) (by assumption) ?_
    simp only [Act.put, List.setIfInBounds_toArray, List.set_cons_zero, List.set_cons_succ]
    refine any_take 25 (.agg #[.int .i64 kd, .slice xA z xc]) (i := 9) rfl rfl (by kernel_rfl) (by kernel_rfl) (by kernel_rfl) (fun _ _ _ h => h) (by rfl) (by intro w hSw; (try dsimp only at hSw); go_simp; try with_reducible rfl) (by assumption) ?_
    simp only [Act.put, List.setIfInBounds_toArray, List.set_cons_zero, List.set_cons_succ]
    refine wpAnyH_ready (rs := [10]) (by kernel_rfl) (by simp) ?_
    refine AllReadyH.cons rfl (fun K' hK => ?_) AllReadyH.nil
    go_simp
    go_at_call 50
    refine (HP2.out _ F2.out.drew).mono ?_
    rintro e w3 ⟨pA, pc, rfl, hown, f3⟩
    have F3 : Fr No w1 w3 := Fr.trans' ((Fr.refl _ _).drew) f3 (fun _ _ e => e)
    rw [HPl.out] at hown ⊢
    dsimp only
    clear hHeld
    refine hK.out _ _ (Hcell.out w3 F3) (fun hHeld => ?_)
    clear hK
    refine any_take 6 (.slice pA (z + 1 : Nat) pc) (i := 11) rfl rfl (by kernel_rfl) (by kernel_rfl) (by kernel_rfl) (fun _ _ _ h => h) (by rfl) (by intro w hSw; (try dsimp only at hSw); go_simp; try with_reducible rfl) (by assumption) ?_
    simp only [Act.put, List.setIfInBounds_toArray, List.set_cons_zero, List.set_cons_succ]
    refine wpAnyH_done (by kernel_rfl) ?_ _
    have HW : Hid (Sl w3 w3.heap.size pA (u64s (putW M.ep m x.f))) := Lib.hid (Sl.ofOwn hown)
    have HWn : Hid (∀ ad, pA = some ad → w.heap.size ≤ ad.block) := Lib.hid (fun ad e => by
      subst e
      obtain ⟨g, cap, hv, hg, _⟩ := hown.form (by omega)
      injection hv with e1 e2 e3
      injection e1 with e1
      subst e1
      have := F2.out.size
      have h5 : w1.drew.heap.size = w1.heap.size := rfl
      show w.heap.size ≤ g
      omega)
    have F23 := Lib.hid (F2.out.trans' F3 (fun _ _ e => e))
    have BX3 := Lib.hid (BX2.out.fr F3 (fun e => e))
    have BL3 := Lib.hid (Hlg.out.fr F23.out (fun e => e))
    have l0 := BL3.out.cell 0
    have l1 := BL3.out.cell 1
    have l2 := BL3.out.cell 2
    have l4 := BL3.out.cell 4
    simp at l0 l1 l2 l4
    clear hHeld h0 f3 hown Hcell HP2 F3 BX2 F2
    by_cases hr : u + (z + 1) ≤ 8 * M.n
    · have HsA : Hid (∀ W, Fr No w3 W → Sl W W.heap.size A (xs.flatMap FrV.cells)) := Lib.hid (fun W hW => (H2.out.since (F23.out.trans' hW (fun _ _ e => e))).sl)
      have Hcx : Hid (∀ W, Fr No w3 W → W.cell? ⟨w.heap.size, 0, none⟩ = some (.int .i64 kd) ∧ W.cell? ⟨w.heap.size, 1, none⟩ = some (.slice xA z xc)) := Lib.hid (fun W hW => ⟨(BX3.out.fr hW (fun e => e)).cell 0, (BX3.out.fr hW (fun e => e)).cell 1⟩)
      have hlgx : lg ≠ w.heap.size := by have := Hlg.out.lt; omega
      go_wp2_with fail
      go_cut [46] from 37 to 48 (fun s46 wx => ∃ A' c', Lg7 w3 wx lg r M A' c' m xs kd xA z xc)
      case first =>
        clear Hx HI Hb Hxb Hrl Hll HbB HE H6 H7 Hlg Hroom HPl Hu HD HL HW HWn l0 l1 l2 l4
        refine wp_region_held_drew (S := (fun w' => w'.cell? ⟨w.heap.size, 0, none⟩ = some (.int .i64 kd) ∧ w'.cell? ⟨w.heap.size, 1, none⟩ = some (.slice xA z xc))) (by kernel_rfl) (Hcx.out _ (Fr.refl _ _).drew) (fun hHeld => ?_)
        refine any_take 37 (.pointer (some ⟨lg, 0, none⟩)) (i := 0) rfl rfl (by kernel_rfl) (by kernel_rfl) (by kernel_rfl) (fun _ _ _ h => h) (by rfl) (by intro w hSw; (try dsimp only at hSw); go_simp; try with_reducible rfl) (by assumption) ?_
        simp only [Act.put, List.setIfInBounds_toArray, List.set_cons_zero, List.set_cons_succ]
        refine any_take 39 (.pointer (some ⟨lg, 0, none⟩)) (i := 2) rfl rfl (by kernel_rfl) (by kernel_rfl) (by kernel_rfl) (fun _ _ _ h => h) (by rfl) (by intro w hSw; (try dsimp only at hSw); go_simp; try with_reducible rfl) (by assumption) ?_
        simp only [Act.put, List.setIfInBounds_toArray, List.set_cons_zero, List.set_cons_succ]
        refine any_take 40 (.pointer (some ⟨lg, 0, none⟩)) (i := 3) rfl rfl (by kernel_rfl) (by kernel_rfl) (by kernel_rfl) (fun _ _ _ h => h) (by rfl) (by intro w hSw; (try dsimp only at hSw); go_simp; try with_reducible rfl) (by assumption) ?_
        simp only [Act.put, List.setIfInBounds_toArray, List.set_cons_zero, List.set_cons_succ]
        refine any_take 41 (.pointer (some ⟨lg, 4, none⟩)) (i := 4) rfl rfl (by kernel_rfl) (by kernel_rfl) (by kernel_rfl) (fun _ _ _ h => h) (by rfl) (by intro w hSw; (try dsimp only at hSw); go_simp; try with_reducible rfl) (by assumption) ?_
        simp only [Act.put, List.setIfInBounds_toArray, List.set_cons_zero, List.set_cons_succ]
        refine any_take 44 (.agg #[.int .i64 kd, .slice xA z xc]) (i := 7) rfl rfl (by kernel_rfl) (by kernel_rfl) (by kernel_rfl) (fun _ _ _ h => h) (by rfl) (by intro w hSw; (try dsimp only at hSw); go_simp; try with_reducible rfl) (by assumption) ?_
        simp only [Act.put, List.setIfInBounds_toArray, List.set_cons_zero, List.set_cons_succ]
        have FW : Fr No w3 w3.drew := (Fr.refl _ _).drew
        obtain ⟨wd, Hwd⟩ : ∃ wd, Hid (w3.drew = wd) := ⟨_, Lib.hid rfl⟩
        rw [Hwd.out] at FW hHeld ⊢
        clear Hwd
        refine wpAnyH_ready (rs := [1, 5, 8]) (by kernel_rfl) (by simp) ?_
        refine AllReadyH.cons rfl (fun K' hK => ?_) (AllReadyH.cons rfl (fun K' hK => ?_) (AllReadyH.cons rfl (fun K' hK => ?_) AllReadyH.nil))
        · go_simp
          have hE2 := Bk.made (wd) 38 #[]
          obtain ⟨e, He⟩ : ∃ e, Hid ((wd).heap.size = e) := ⟨_, Lib.hid rfl⟩
          have he : w3.heap.size ≤ e := by rw [← He.out]; exact FW.size
          have FW2 : Fr No w3 ((wd).alloc (.cells #[] 38)) := FW.alloc _
          rw [He.out] at hE2 ⊢
          refine hK.out _ _ (Hcx.out _ FW2) (fun hHeld => ?_)
          clear hK
          try simp only [Act.put, List.setIfInBounds_toArray, List.set_cons_zero, List.set_cons_succ]
          obtain ⟨wE, HwE⟩ : ∃ wE, Hid ((wd).alloc (.cells #[] 38) = wE) := ⟨_, Lib.hid rfl⟩
          rw [HwE.out] at hE2 FW2 hHeld ⊢
          clear FW HwE He 
          have hE := hE2
          have FW := FW2
          clear hE2 FW2
          refine wpAnyH_ready (rs := [5, 8]) (by kernel_rfl) (by simp) ?_
          refine AllReadyH.cons rfl (fun K' hK => ?_) (AllReadyH.cons rfl (fun K' hK => ?_) AllReadyH.nil)
          · have l4 := (BL3.out.fr FW (fun e => e)).cell 4
            simp at l4
            go_simp
            refine hK.out _ _ (Hcx.out _ FW) (fun hHeld => ?_)
            clear hK l4
            try simp only [Act.put, List.setIfInBounds_toArray, List.set_cons_zero, List.set_cons_succ]
            refine wpAnyH_ready (rs := [6, 8]) (by kernel_rfl) (by simp) ?_
            refine AllReadyH.cons rfl (fun K' hK => ?_) (AllReadyH.cons rfl (fun K' hK => ?_) AllReadyH.nil)
            · refine step_append_new (w0 := w3) rfl _ _ _ rfl 38 (.agg #[.int .i64 0, .slice none 0 0]) 2 32 Try.underlying60 info_frame rfl (by omega) (.slice (some ⟨e, 0, none⟩) 0 0) 0 [] rfl (wE).heap.size A m c (xs.flatMap FrV.cells) rfl (own_empty hE he) FW (by rw [flat_len FrV.cells 2 FrV.cells_len, Hm.out]) (HsA.out _ FW) (cells_one xs) (by unfold maxLen; omega) (by omega) ?_
              intro A6 c6 wA oA FA fA gA
              rw [Nat.zero_add, List.nil_append] at oA
              rw [Nat.zero_add] at gA ⊢
              refine hK.out _ _ (Hcx.out _ FA) (fun hHeld => ?_)
              clear hK
              try simp only [Act.put, List.setIfInBounds_toArray, List.set_cons_zero, List.set_cons_succ]
              clear FW hE gA fA 
              have FW := FA
              clear FA
              refine wpAnyH_ready (rs := [8]) (by kernel_rfl) (by simp) ?_
              refine AllReadyH.cons rfl (fun K' hK => ?_) AllReadyH.nil
              · go_simp
                have bF2 := Bk.made (wA) 38 #[.int .i64 kd, .slice xA z xc]
                obtain ⟨f, Hf⟩ : ∃ f, Hid ((wA).heap.size = f) := ⟨_, Lib.hid rfl⟩
                have hAf : (Value.slice A6 m c6).ownBlock ≠ some f := fun h9 => by have := (oA.lt f h9).2; rw [← Hf.out] at this; omega
                have oA2 := own_fr oA ((Fr.refl No _).alloc (.cells #[.int .i64 kd, .slice xA z xc] 38)) (fun _ _ e => e)
                have FW2 : Fr No w3 ((wA).alloc (.cells #[.int .i64 kd, .slice xA z xc] 38)) := FW.alloc _
                rw [Hf.out] at bF2 ⊢
                refine hK.out _ _ (Hcx.out _ FW2) (fun hHeld => ?_)
                clear hK
                try simp only [Act.put, List.setIfInBounds_toArray, List.set_cons_zero, List.set_cons_succ]
                obtain ⟨wF, HwF⟩ : ∃ wF, Hid ((wA).alloc (.cells #[.int .i64 kd, .slice xA z xc] 38) = wF) := ⟨_, Lib.hid rfl⟩
                rw [HwF.out] at bF2 FW2 hHeld oA2 ⊢
                clear FW HwF Hf oA 
                have bF := bF2
                have FW := FW2
                have oA := oA2
                clear oA2
                clear bF2 FW2
                refine wpAnyH_ready (rs := [9]) (by kernel_rfl) (by simp) ?_
                refine AllReadyH.cons rfl (fun K' hK => ?_) AllReadyH.nil
                · have hsF : Sl (wF) (wF).heap.size (some ⟨f, 0, none⟩) [.int .i64 kd, .slice xA z xc] := bk_sl2 bF
                  refine step_append_new (w0 := w3) rfl _ _ _ rfl 38 (.agg #[.int .i64 0, .slice none 0 0]) 2 32 Try.underlying60 info_frame rfl (by omega) (.slice A6 m c6) m (xs.flatMap FrV.cells) rfl (wF).heap.size (some ⟨f, 0, none⟩) 1 1 [.int .i64 kd, .slice xA z xc] rfl oA FW rfl hsF (by intro v hv; simp at hv; rcases hv with rfl | rfl <;> rfl) (by unfold maxLen; omega) (by omega) ?_
                  intro A7 c7 wB oB FB' fB gB
                  refine hK.out _ _ (Hcx.out _ FB') (fun hHeld => ?_)
                  clear hK
                  try simp only [Act.put, List.setIfInBounds_toArray, List.set_cons_zero, List.set_cons_succ]
                  clear FW oA gB fB hsF bF hAf
                  have FW := FB'
                  clear FB'
                  refine any_take 47 (.pointer (some ⟨lg, 0, none⟩)) (i := 10) rfl rfl (by kernel_rfl) (by kernel_rfl) (by kernel_rfl) (fun _ _ _ h => h) (by rfl) (by intro w hSw; (try dsimp only at hSw); go_simp; try with_reducible rfl) (by assumption) ?_
                  simp only [Act.put, List.setIfInBounds_toArray, List.set_cons_zero, List.set_cons_succ]
                  refine any_take 48 (.pointer (some ⟨lg, 4, none⟩)) (i := 11) rfl rfl (by kernel_rfl) (by kernel_rfl) (by kernel_rfl) (fun _ _ _ h => h) (by rfl) (by intro w hSw; (try dsimp only at hSw); go_simp; try with_reducible rfl) (by assumption) ?_
                  simp only [Act.put, List.setIfInBounds_toArray, List.set_cons_zero, List.set_cons_succ]
                  refine wpAnyH_ready (rs := [12]) (by kernel_rfl) (by simp) ?_
                  refine AllReadyH.cons rfl (fun K' hK => ?_) AllReadyH.nil
                  · have hBL := BL3.out.fr FW (fun e => e)
                    have k4 := hBL.cell 4
                    have hy4 := hBL.frozen 4
                    simp at k4
                    go_simp
                    have hSt := hBL.put 4 (.slice A7 (m + 1 : Nat) c7)
                    have FS : Fr (fun k => k = lg) w3 ((wB).setCell ⟨lg, 4, none⟩ (.slice A7 (m + 1 : Nat) c7)) := (FW.weak (S' := fun k => k = lg) (fun _ _ e => e.elim)).setCell (p := ⟨lg, 4, none⟩) (.inl rfl) _
                    have ownS := own_set_far oB (p := ⟨lg, 4, none⟩) (.slice A7 (m + 1 : Nat) c7) (fun h9 => absurd BL3.out.lt (Nat.not_lt.2 (oB.lt _ h9).1))
                    have hc2 := hHeld
                    refine hK.out _ _ ?_ (fun hHeld => ?_)
                    · exact ⟨by rw [World.cell?_setCell_far _ _ _ _ (show lg ≠ w.heap.size from hlgx)]; exact hc2.1, by rw [World.cell?_setCell_far _ _ _ _ (show lg ≠ w.heap.size from hlgx)]; exact hc2.2⟩
                    clear hK hc2
                    try simp only [Act.put, List.setIfInBounds_toArray, List.set_cons_zero, List.set_cons_succ]
                    refine wpAnyH_done (by kernel_rfl) ?_ _
                    clear hHeld
                    go_wp2
                    go_meet
                    exact ⟨A7, c7, Lg7.mk hSt FS ownS⟩
            · go_simp
              have bF2 := Bk.made (wE) 38 #[.int .i64 kd, .slice xA z xc]
              obtain ⟨f, Hf⟩ : ∃ f, Hid ((wE).heap.size = f) := ⟨_, Lib.hid rfl⟩
              have hef : e < f := by rw [← Hf.out]; exact hE.lt
              have hE2 := hE.fr ((Fr.refl No _).alloc (.cells #[.int .i64 kd, .slice xA z xc] 38)) (fun e => e)
              have FW2 : Fr No w3 ((wE).alloc (.cells #[.int .i64 kd, .slice xA z xc] 38)) := FW.alloc _
              rw [Hf.out] at bF2 ⊢
              refine hK.out _ _ (Hcx.out _ FW2) (fun hHeld => ?_)
              clear hK
              try simp only [Act.put, List.setIfInBounds_toArray, List.set_cons_zero, List.set_cons_succ]
              obtain ⟨wF, HwF⟩ : ∃ wF, Hid ((wE).alloc (.cells #[.int .i64 kd, .slice xA z xc] 38) = wF) := ⟨_, Lib.hid rfl⟩
              rw [HwF.out] at bF2 FW2 hHeld hE2 ⊢
              clear FW HwF Hf hE 
              have bF := bF2
              have FW := FW2
              have hE := hE2
              clear hE2
              clear bF2 FW2
              refine wpAnyH_ready (rs := [6]) (by kernel_rfl) (by simp) ?_
              refine AllReadyH.cons rfl (fun K' hK => ?_) AllReadyH.nil
              · refine step_append_new (w0 := w3) rfl _ _ _ rfl 38 (.agg #[.int .i64 0, .slice none 0 0]) 2 32 Try.underlying60 info_frame rfl (by omega) (.slice (some ⟨e, 0, none⟩) 0 0) 0 [] rfl (wF).heap.size A m c (xs.flatMap FrV.cells) rfl (own_empty hE he) FW (by rw [flat_len FrV.cells 2 FrV.cells_len, Hm.out]) (HsA.out _ FW) (cells_one xs) (by unfold maxLen; omega) (by omega) ?_
                intro A6 c6 wA oA FA fA gA
                rw [Nat.zero_add, List.nil_append] at oA
                rw [Nat.zero_add] at gA ⊢
                have bF2 := bF.fr fA (fun h9 => by simp [Value.ownBlock] at h9; omega)
                have hAf : (Value.slice A6 m c6).ownBlock ≠ some f := fun h9 => by
                  rw [h9] at gA
                  have := bF.lt
                  rcases gA with gA | gA
                  · simp [Value.ownBlock] at gA; omega
                  · injection gA with gA; omega
                refine hK.out _ _ (Hcx.out _ FA) (fun hHeld => ?_)
                clear hK
                try simp only [Act.put, List.setIfInBounds_toArray, List.set_cons_zero, List.set_cons_succ]
                clear FW hE gA fA bF hef
                have FW := FA
                clear FA
                have bF := bF2
                clear bF2
                refine wpAnyH_ready (rs := [9]) (by kernel_rfl) (by simp) ?_
                refine AllReadyH.cons rfl (fun K' hK => ?_) AllReadyH.nil
                · have hsF : Sl (wA) (wA).heap.size (some ⟨f, 0, none⟩) [.int .i64 kd, .slice xA z xc] := bk_sl2 bF
                  refine step_append_new (w0 := w3) rfl _ _ _ rfl 38 (.agg #[.int .i64 0, .slice none 0 0]) 2 32 Try.underlying60 info_frame rfl (by omega) (.slice A6 m c6) m (xs.flatMap FrV.cells) rfl (wA).heap.size (some ⟨f, 0, none⟩) 1 1 [.int .i64 kd, .slice xA z xc] rfl oA FW rfl hsF (by intro v hv; simp at hv; rcases hv with rfl | rfl <;> rfl) (by unfold maxLen; omega) (by omega) ?_
                  intro A7 c7 wB oB FB' fB gB
                  refine hK.out _ _ (Hcx.out _ FB') (fun hHeld => ?_)
                  clear hK
                  try simp only [Act.put, List.setIfInBounds_toArray, List.set_cons_zero, List.set_cons_succ]
                  clear FW oA gB fB hsF bF hAf
                  have FW := FB'
                  clear FB'
                  refine any_take 47 (.pointer (some ⟨lg, 0, none⟩)) (i := 10) rfl rfl (by kernel_rfl) (by kernel_rfl) (by kernel_rfl) (fun _ _ _ h => h) (by rfl) (by intro w hSw; (try dsimp only at hSw); go_simp; try with_reducible rfl) (by assumption) ?_
                  simp only [Act.put, List.setIfInBounds_toArray, List.set_cons_zero, List.set_cons_succ]
                  refine any_take 48 (.pointer (some ⟨lg, 4, none⟩)) (i := 11) rfl rfl (by kernel_rfl) (by kernel_rfl) (by kernel_rfl) (fun _ _ _ h => h) (by rfl) (by intro w hSw; (try dsimp only at hSw); go_simp; try with_reducible rfl) (by assumption) ?_
                  simp only [Act.put, List.setIfInBounds_toArray, List.set_cons_zero, List.set_cons_succ]
                  refine wpAnyH_ready (rs := [12]) (by kernel_rfl) (by simp) ?_
                  refine AllReadyH.cons rfl (fun K' hK => ?_) AllReadyH.nil
                  · have hBL := BL3.out.fr FW (fun e => e)
                    have k4 := hBL.cell 4
                    have hy4 := hBL.frozen 4
                    simp at k4
                    go_simp
                    have hSt := hBL.put 4 (.slice A7 (m + 1 : Nat) c7)
                    have FS : Fr (fun k => k = lg) w3 ((wB).setCell ⟨lg, 4, none⟩ (.slice A7 (m + 1 : Nat) c7)) := (FW.weak (S' := fun k => k = lg) (fun _ _ e => e.elim)).setCell (p := ⟨lg, 4, none⟩) (.inl rfl) _
                    have ownS := own_set_far oB (p := ⟨lg, 4, none⟩) (.slice A7 (m + 1 : Nat) c7) (fun h9 => absurd BL3.out.lt (Nat.not_lt.2 (oB.lt _ h9).1))
                    have hc2 := hHeld
                    refine hK.out _ _ ?_ (fun hHeld => ?_)
                    · exact ⟨by rw [World.cell?_setCell_far _ _ _ _ (show lg ≠ w.heap.size from hlgx)]; exact hc2.1, by rw [World.cell?_setCell_far _ _ _ _ (show lg ≠ w.heap.size from hlgx)]; exact hc2.2⟩
                    clear hK hc2
                    try simp only [Act.put, List.setIfInBounds_toArray, List.set_cons_zero, List.set_cons_succ]
                    refine wpAnyH_done (by kernel_rfl) ?_ _
                    clear hHeld
                    go_wp2
                    go_meet
                    exact ⟨A7, c7, Lg7.mk hSt FS ownS⟩
          · go_simp
            have bF2 := Bk.made (wE) 38 #[.int .i64 kd, .slice xA z xc]
            obtain ⟨f, Hf⟩ : ∃ f, Hid ((wE).heap.size = f) := ⟨_, Lib.hid rfl⟩
            have hef : e < f := by rw [← Hf.out]; exact hE.lt
            have hE2 := hE.fr ((Fr.refl No _).alloc (.cells #[.int .i64 kd, .slice xA z xc] 38)) (fun e => e)
            have FW2 : Fr No w3 ((wE).alloc (.cells #[.int .i64 kd, .slice xA z xc] 38)) := FW.alloc _
            rw [Hf.out] at bF2 ⊢
            refine hK.out _ _ (Hcx.out _ FW2) (fun hHeld => ?_)
            clear hK
            try simp only [Act.put, List.setIfInBounds_toArray, List.set_cons_zero, List.set_cons_succ]
            obtain ⟨wF, HwF⟩ : ∃ wF, Hid ((wE).alloc (.cells #[.int .i64 kd, .slice xA z xc] 38) = wF) := ⟨_, Lib.hid rfl⟩
            rw [HwF.out] at bF2 FW2 hHeld hE2 ⊢
            clear FW HwF Hf hE 
            have bF := bF2
            have FW := FW2
            have hE := hE2
            clear hE2
            clear bF2 FW2
            refine wpAnyH_ready (rs := [5]) (by kernel_rfl) (by simp) ?_
            refine AllReadyH.cons rfl (fun K' hK => ?_) AllReadyH.nil
            · have l4 := (BL3.out.fr FW (fun e => e)).cell 4
              simp at l4
              go_simp
              refine hK.out _ _ (Hcx.out _ FW) (fun hHeld => ?_)
              clear hK l4
              try simp only [Act.put, List.setIfInBounds_toArray, List.set_cons_zero, List.set_cons_succ]
              refine wpAnyH_ready (rs := [6]) (by kernel_rfl) (by simp) ?_
              refine AllReadyH.cons rfl (fun K' hK => ?_) AllReadyH.nil
              · refine step_append_new (w0 := w3) rfl _ _ _ rfl 38 (.agg #[.int .i64 0, .slice none 0 0]) 2 32 Try.underlying60 info_frame rfl (by omega) (.slice (some ⟨e, 0, none⟩) 0 0) 0 [] rfl (wF).heap.size A m c (xs.flatMap FrV.cells) rfl (own_empty hE he) FW (by rw [flat_len FrV.cells 2 FrV.cells_len, Hm.out]) (HsA.out _ FW) (cells_one xs) (by unfold maxLen; omega) (by omega) ?_
                intro A6 c6 wA oA FA fA gA
                rw [Nat.zero_add, List.nil_append] at oA
                rw [Nat.zero_add] at gA ⊢
                have bF2 := bF.fr fA (fun h9 => by simp [Value.ownBlock] at h9; omega)
                have hAf : (Value.slice A6 m c6).ownBlock ≠ some f := fun h9 => by
                  rw [h9] at gA
                  have := bF.lt
                  rcases gA with gA | gA
                  · simp [Value.ownBlock] at gA; omega
                  · injection gA with gA; omega
                refine hK.out _ _ (Hcx.out _ FA) (fun hHeld => ?_)
                clear hK
                try simp only [Act.put, List.setIfInBounds_toArray, List.set_cons_zero, List.set_cons_succ]
                clear FW hE gA fA bF hef
                have FW := FA
                clear FA
                have bF := bF2
                clear bF2
                refine wpAnyH_ready (rs := [9]) (by kernel_rfl) (by simp) ?_
                refine AllReadyH.cons rfl (fun K' hK => ?_) AllReadyH.nil
                · have hsF : Sl (wA) (wA).heap.size (some ⟨f, 0, none⟩) [.int .i64 kd, .slice xA z xc] := bk_sl2 bF
                  refine step_append_new (w0 := w3) rfl _ _ _ rfl 38 (.agg #[.int .i64 0, .slice none 0 0]) 2 32 Try.underlying60 info_frame rfl (by omega) (.slice A6 m c6) m (xs.flatMap FrV.cells) rfl (wA).heap.size (some ⟨f, 0, none⟩) 1 1 [.int .i64 kd, .slice xA z xc] rfl oA FW rfl hsF (by intro v hv; simp at hv; rcases hv with rfl | rfl <;> rfl) (by unfold maxLen; omega) (by omega) ?_
                  intro A7 c7 wB oB FB' fB gB
                  refine hK.out _ _ (Hcx.out _ FB') (fun hHeld => ?_)
                  clear hK
                  try simp only [Act.put, List.setIfInBounds_toArray, List.set_cons_zero, List.set_cons_succ]
                  clear FW oA gB fB hsF bF hAf
                  have FW := FB'
                  clear FB'
                  refine any_take 47 (.pointer (some ⟨lg, 0, none⟩)) (i := 10) rfl rfl (by kernel_rfl) (by kernel_rfl) (by kernel_rfl) (fun _ _ _ h => h) (by rfl) (by intro w hSw; (try dsimp only at hSw); go_simp; try with_reducible rfl) (by assumption) ?_
                  simp only [Act.put, List.setIfInBounds_toArray, List.set_cons_zero, List.set_cons_succ]
                  refine any_take 48 (.pointer (some ⟨lg, 4, none⟩)) (i := 11) rfl rfl (by kernel_rfl) (by kernel_rfl) (by kernel_rfl) (fun _ _ _ h => h) (by rfl) (by intro w hSw; (try dsimp only at hSw); go_simp; try with_reducible rfl) (by assumption) ?_
                  simp only [Act.put, List.setIfInBounds_toArray, List.set_cons_zero, List.set_cons_succ]
                  refine wpAnyH_ready (rs := [12]) (by kernel_rfl) (by simp) ?_
                  refine AllReadyH.cons rfl (fun K' hK => ?_) AllReadyH.nil
                  · have hBL := BL3.out.fr FW (fun e => e)
                    have k4 := hBL.cell 4
                    have hy4 := hBL.frozen 4
                    simp at k4
                    go_simp
                    have hSt := hBL.put 4 (.slice A7 (m + 1 : Nat) c7)
                    have FS : Fr (fun k => k = lg) w3 ((wB).setCell ⟨lg, 4, none⟩ (.slice A7 (m + 1 : Nat) c7)) := (FW.weak (S' := fun k => k = lg) (fun _ _ e => e.elim)).setCell (p := ⟨lg, 4, none⟩) (.inl rfl) _
                    have ownS := own_set_far oB (p := ⟨lg, 4, none⟩) (.slice A7 (m + 1 : Nat) c7) (fun h9 => absurd BL3.out.lt (Nat.not_lt.2 (oB.lt _ h9).1))
                    have hc2 := hHeld
                    refine hK.out _ _ ?_ (fun hHeld => ?_)
                    · exact ⟨by rw [World.cell?_setCell_far _ _ _ _ (show lg ≠ w.heap.size from hlgx)]; exact hc2.1, by rw [World.cell?_setCell_far _ _ _ _ (show lg ≠ w.heap.size from hlgx)]; exact hc2.2⟩
                    clear hK hc2
                    try simp only [Act.put, List.setIfInBounds_toArray, List.set_cons_zero, List.set_cons_succ]
                    refine wpAnyH_done (by kernel_rfl) ?_ _
                    clear hHeld
                    go_wp2
                    go_meet
                    exact ⟨A7, c7, Lg7.mk hSt FS ownS⟩
        · have l4 := (BL3.out.fr FW (fun e => e)).cell 4
          simp at l4
          go_simp
          refine hK.out _ _ (Hcx.out _ FW) (fun hHeld => ?_)
          clear hK l4
          try simp only [Act.put, List.setIfInBounds_toArray, List.set_cons_zero, List.set_cons_succ]
          refine wpAnyH_ready (rs := [1, 8]) (by kernel_rfl) (by simp) ?_
          refine AllReadyH.cons rfl (fun K' hK => ?_) (AllReadyH.cons rfl (fun K' hK => ?_) AllReadyH.nil)
          · go_simp
            have hE2 := Bk.made (wd) 38 #[]
            obtain ⟨e, He⟩ : ∃ e, Hid ((wd).heap.size = e) := ⟨_, Lib.hid rfl⟩
            have he : w3.heap.size ≤ e := by rw [← He.out]; exact FW.size
            have FW2 : Fr No w3 ((wd).alloc (.cells #[] 38)) := FW.alloc _
            rw [He.out] at hE2 ⊢
            refine hK.out _ _ (Hcx.out _ FW2) (fun hHeld => ?_)
            clear hK
            try simp only [Act.put, List.setIfInBounds_toArray, List.set_cons_zero, List.set_cons_succ]
            obtain ⟨wE, HwE⟩ : ∃ wE, Hid ((wd).alloc (.cells #[] 38) = wE) := ⟨_, Lib.hid rfl⟩
            rw [HwE.out] at hE2 FW2 hHeld ⊢
            clear FW HwE He 
            have hE := hE2
            have FW := FW2
            clear hE2 FW2
            refine wpAnyH_ready (rs := [6, 8]) (by kernel_rfl) (by simp) ?_
            refine AllReadyH.cons rfl (fun K' hK => ?_) (AllReadyH.cons rfl (fun K' hK => ?_) AllReadyH.nil)
            · refine step_append_new (w0 := w3) rfl _ _ _ rfl 38 (.agg #[.int .i64 0, .slice none 0 0]) 2 32 Try.underlying60 info_frame rfl (by omega) (.slice (some ⟨e, 0, none⟩) 0 0) 0 [] rfl (wE).heap.size A m c (xs.flatMap FrV.cells) rfl (own_empty hE he) FW (by rw [flat_len FrV.cells 2 FrV.cells_len, Hm.out]) (HsA.out _ FW) (cells_one xs) (by unfold maxLen; omega) (by omega) ?_
              intro A6 c6 wA oA FA fA gA
              rw [Nat.zero_add, List.nil_append] at oA
              rw [Nat.zero_add] at gA ⊢
              refine hK.out _ _ (Hcx.out _ FA) (fun hHeld => ?_)
              clear hK
              try simp only [Act.put, List.setIfInBounds_toArray, List.set_cons_zero, List.set_cons_succ]
              clear FW hE gA fA 
              have FW := FA
              clear FA
              refine wpAnyH_ready (rs := [8]) (by kernel_rfl) (by simp) ?_
              refine AllReadyH.cons rfl (fun K' hK => ?_) AllReadyH.nil
              · go_simp
                have bF2 := Bk.made (wA) 38 #[.int .i64 kd, .slice xA z xc]
                obtain ⟨f, Hf⟩ : ∃ f, Hid ((wA).heap.size = f) := ⟨_, Lib.hid rfl⟩
                have hAf : (Value.slice A6 m c6).ownBlock ≠ some f := fun h9 => by have := (oA.lt f h9).2; rw [← Hf.out] at this; omega
                have oA2 := own_fr oA ((Fr.refl No _).alloc (.cells #[.int .i64 kd, .slice xA z xc] 38)) (fun _ _ e => e)
                have FW2 : Fr No w3 ((wA).alloc (.cells #[.int .i64 kd, .slice xA z xc] 38)) := FW.alloc _
                rw [Hf.out] at bF2 ⊢
                refine hK.out _ _ (Hcx.out _ FW2) (fun hHeld => ?_)
                clear hK
                try simp only [Act.put, List.setIfInBounds_toArray, List.set_cons_zero, List.set_cons_succ]
                obtain ⟨wF, HwF⟩ : ∃ wF, Hid ((wA).alloc (.cells #[.int .i64 kd, .slice xA z xc] 38) = wF) := ⟨_, Lib.hid rfl⟩
                rw [HwF.out] at bF2 FW2 hHeld oA2 ⊢
                clear FW HwF Hf oA 
                have bF := bF2
                have FW := FW2
                have oA := oA2
                clear oA2
                clear bF2 FW2
                refine wpAnyH_ready (rs := [9]) (by kernel_rfl) (by simp) ?_
                refine AllReadyH.cons rfl (fun K' hK => ?_) AllReadyH.nil
                · have hsF : Sl (wF) (wF).heap.size (some ⟨f, 0, none⟩) [.int .i64 kd, .slice xA z xc] := bk_sl2 bF
                  refine step_append_new (w0 := w3) rfl _ _ _ rfl 38 (.agg #[.int .i64 0, .slice none 0 0]) 2 32 Try.underlying60 info_frame rfl (by omega) (.slice A6 m c6) m (xs.flatMap FrV.cells) rfl (wF).heap.size (some ⟨f, 0, none⟩) 1 1 [.int .i64 kd, .slice xA z xc] rfl oA FW rfl hsF (by intro v hv; simp at hv; rcases hv with rfl | rfl <;> rfl) (by unfold maxLen; omega) (by omega) ?_
                  intro A7 c7 wB oB FB' fB gB
                  refine hK.out _ _ (Hcx.out _ FB') (fun hHeld => ?_)
                  clear hK
                  try simp only [Act.put, List.setIfInBounds_toArray, List.set_cons_zero, List.set_cons_succ]
                  clear FW oA gB fB hsF bF hAf
                  have FW := FB'
                  clear FB'
                  refine any_take 47 (.pointer (some ⟨lg, 0, none⟩)) (i := 10) rfl rfl (by kernel_rfl) (by kernel_rfl) (by kernel_rfl) (fun _ _ _ h => h) (by rfl) (by intro w hSw; (try dsimp only at hSw); go_simp; try with_reducible rfl) (by assumption) ?_
                  simp only [Act.put, List.setIfInBounds_toArray, List.set_cons_zero, List.set_cons_succ]
                  refine any_take 48 (.pointer (some ⟨lg, 4, none⟩)) (i := 11) rfl rfl (by kernel_rfl) (by kernel_rfl) (by kernel_rfl) (fun _ _ _ h => h) (by rfl) (by intro w hSw; (try dsimp only at hSw); go_simp; try with_reducible rfl) (by assumption) ?_
                  simp only [Act.put, List.setIfInBounds_toArray, List.set_cons_zero, List.set_cons_succ]
                  refine wpAnyH_ready (rs := [12]) (by kernel_rfl) (by simp) ?_
                  refine AllReadyH.cons rfl (fun K' hK => ?_) AllReadyH.nil
                  · have hBL := BL3.out.fr FW (fun e => e)
                    have k4 := hBL.cell 4
                    have hy4 := hBL.frozen 4
                    simp at k4
                    go_simp
                    have hSt := hBL.put 4 (.slice A7 (m + 1 : Nat) c7)
                    have FS : Fr (fun k => k = lg) w3 ((wB).setCell ⟨lg, 4, none⟩ (.slice A7 (m + 1 : Nat) c7)) := (FW.weak (S' := fun k => k = lg) (fun _ _ e => e.elim)).setCell (p := ⟨lg, 4, none⟩) (.inl rfl) _
                    have ownS := own_set_far oB (p := ⟨lg, 4, none⟩) (.slice A7 (m + 1 : Nat) c7) (fun h9 => absurd BL3.out.lt (Nat.not_lt.2 (oB.lt _ h9).1))
                    have hc2 := hHeld
                    refine hK.out _ _ ?_ (fun hHeld => ?_)
                    · exact ⟨by rw [World.cell?_setCell_far _ _ _ _ (show lg ≠ w.heap.size from hlgx)]; exact hc2.1, by rw [World.cell?_setCell_far _ _ _ _ (show lg ≠ w.heap.size from hlgx)]; exact hc2.2⟩
                    clear hK hc2
                    try simp only [Act.put, List.setIfInBounds_toArray, List.set_cons_zero, List.set_cons_succ]
                    refine wpAnyH_done (by kernel_rfl) ?_ _
                    clear hHeld
                    go_wp2
                    go_meet
                    exact ⟨A7, c7, Lg7.mk hSt FS ownS⟩
            · go_simp
              have bF2 := Bk.made (wE) 38 #[.int .i64 kd, .slice xA z xc]
              obtain ⟨f, Hf⟩ : ∃ f, Hid ((wE).heap.size = f) := ⟨_, Lib.hid rfl⟩
              have hef : e < f := by rw [← Hf.out]; exact hE.lt
              have hE2 := hE.fr ((Fr.refl No _).alloc (.cells #[.int .i64 kd, .slice xA z xc] 38)) (fun e => e)
              have FW2 : Fr No w3 ((wE).alloc (.cells #[.int .i64 kd, .slice xA z xc] 38)) := FW.alloc _
              rw [Hf.out] at bF2 ⊢
              refine hK.out _ _ (Hcx.out _ FW2) (fun hHeld => ?_)
              clear hK
              try simp only [Act.put, List.setIfInBounds_toArray, List.set_cons_zero, List.set_cons_succ]
              obtain ⟨wF, HwF⟩ : ∃ wF, Hid ((wE).alloc (.cells #[.int .i64 kd, .slice xA z xc] 38) = wF) := ⟨_, Lib.hid rfl⟩
              rw [HwF.out] at bF2 FW2 hHeld hE2 ⊢
              clear FW HwF Hf hE 
              have bF := bF2
              have FW := FW2
              have hE := hE2
              clear hE2
              clear bF2 FW2
              refine wpAnyH_ready (rs := [6]) (by kernel_rfl) (by simp) ?_
              refine AllReadyH.cons rfl (fun K' hK => ?_) AllReadyH.nil
              · refine step_append_new (w0 := w3) rfl _ _ _ rfl 38 (.agg #[.int .i64 0, .slice none 0 0]) 2 32 Try.underlying60 info_frame rfl (by omega) (.slice (some ⟨e, 0, none⟩) 0 0) 0 [] rfl (wF).heap.size A m c (xs.flatMap FrV.cells) rfl (own_empty hE he) FW (by rw [flat_len FrV.cells 2 FrV.cells_len, Hm.out]) (HsA.out _ FW) (cells_one xs) (by unfold maxLen; omega) (by omega) ?_
                intro A6 c6 wA oA FA fA gA
                rw [Nat.zero_add, List.nil_append] at oA
                rw [Nat.zero_add] at gA ⊢
                have bF2 := bF.fr fA (fun h9 => by simp [Value.ownBlock] at h9; omega)
                have hAf : (Value.slice A6 m c6).ownBlock ≠ some f := fun h9 => by
                  rw [h9] at gA
                  have := bF.lt
                  rcases gA with gA | gA
                  · simp [Value.ownBlock] at gA; omega
                  · injection gA with gA; omega
                refine hK.out _ _ (Hcx.out _ FA) (fun hHeld => ?_)
                clear hK
                try simp only [Act.put, List.setIfInBounds_toArray, List.set_cons_zero, List.set_cons_succ]
                clear FW hE gA fA bF hef
                have FW := FA
                clear FA
                have bF := bF2
                clear bF2
                refine wpAnyH_ready (rs := [9]) (by kernel_rfl) (by simp) ?_
                refine AllReadyH.cons rfl (fun K' hK => ?_) AllReadyH.nil
                · have hsF : Sl (wA) (wA).heap.size (some ⟨f, 0, none⟩) [.int .i64 kd, .slice xA z xc] := bk_sl2 bF
                  refine step_append_new (w0 := w3) rfl _ _ _ rfl 38 (.agg #[.int .i64 0, .slice none 0 0]) 2 32 Try.underlying60 info_frame rfl (by omega) (.slice A6 m c6) m (xs.flatMap FrV.cells) rfl (wA).heap.size (some ⟨f, 0, none⟩) 1 1 [.int .i64 kd, .slice xA z xc] rfl oA FW rfl hsF (by intro v hv; simp at hv; rcases hv with rfl | rfl <;> rfl) (by unfold maxLen; omega) (by omega) ?_
                  intro A7 c7 wB oB FB' fB gB
                  refine hK.out _ _ (Hcx.out _ FB') (fun hHeld => ?_)
                  clear hK
                  try simp only [Act.put, List.setIfInBounds_toArray, List.set_cons_zero, List.set_cons_succ]
                  clear FW oA gB fB hsF bF hAf
                  have FW := FB'
                  clear FB'
                  refine any_take 47 (.pointer (some ⟨lg, 0, none⟩)) (i := 10) rfl rfl (by kernel_rfl) (by kernel_rfl) (by kernel_rfl) (fun _ _ _ h => h) (by rfl) (by intro w hSw; (try dsimp only at hSw); go_simp; try with_reducible rfl) (by assumption) ?_
                  simp only [Act.put, List.setIfInBounds_toArray, List.set_cons_zero, List.set_cons_succ]
                  refine any_take 48 (.pointer (some ⟨lg, 4, none⟩)) (i := 11) rfl rfl (by kernel_rfl) (by kernel_rfl) (by kernel_rfl) (fun _ _ _ h => h) (by rfl) (by intro w hSw; (try dsimp only at hSw); go_simp; try with_reducible rfl) (by assumption) ?_
                  simp only [Act.put, List.setIfInBounds_toArray, List.set_cons_zero, List.set_cons_succ]
                  refine wpAnyH_ready (rs := [12]) (by kernel_rfl) (by simp) ?_
                  refine AllReadyH.cons rfl (fun K' hK => ?_) AllReadyH.nil
                  · have hBL := BL3.out.fr FW (fun e => e)
                    have k4 := hBL.cell 4
                    have hy4 := hBL.frozen 4
                    simp at k4
                    go_simp
                    have hSt := hBL.put 4 (.slice A7 (m + 1 : Nat) c7)
                    have FS : Fr (fun k => k = lg) w3 ((wB).setCell ⟨lg, 4, none⟩ (.slice A7 (m + 1 : Nat) c7)) := (FW.weak (S' := fun k => k = lg) (fun _ _ e => e.elim)).setCell (p := ⟨lg, 4, none⟩) (.inl rfl) _
                    have ownS := own_set_far oB (p := ⟨lg, 4, none⟩) (.slice A7 (m + 1 : Nat) c7) (fun h9 => absurd BL3.out.lt (Nat.not_lt.2 (oB.lt _ h9).1))
                    have hc2 := hHeld
                    refine hK.out _ _ ?_ (fun hHeld => ?_)
                    · exact ⟨by rw [World.cell?_setCell_far _ _ _ _ (show lg ≠ w.heap.size from hlgx)]; exact hc2.1, by rw [World.cell?_setCell_far _ _ _ _ (show lg ≠ w.heap.size from hlgx)]; exact hc2.2⟩
                    clear hK hc2
                    try simp only [Act.put, List.setIfInBounds_toArray, List.set_cons_zero, List.set_cons_succ]
                    refine wpAnyH_done (by kernel_rfl) ?_ _
                    clear hHeld
                    go_wp2
                    go_meet
                    exact ⟨A7, c7, Lg7.mk hSt FS ownS⟩
          · go_simp
            have bF2 := Bk.made (wd) 38 #[.int .i64 kd, .slice xA z xc]
            obtain ⟨f, Hf⟩ : ∃ f, Hid ((wd).heap.size = f) := ⟨_, Lib.hid rfl⟩
            have FW2 : Fr No w3 ((wd).alloc (.cells #[.int .i64 kd, .slice xA z xc] 38)) := FW.alloc _
            rw [Hf.out] at bF2 ⊢
            refine hK.out _ _ (Hcx.out _ FW2) (fun hHeld => ?_)
            clear hK
            try simp only [Act.put, List.setIfInBounds_toArray, List.set_cons_zero, List.set_cons_succ]
            obtain ⟨wF, HwF⟩ : ∃ wF, Hid ((wd).alloc (.cells #[.int .i64 kd, .slice xA z xc] 38) = wF) := ⟨_, Lib.hid rfl⟩
            rw [HwF.out] at bF2 FW2 hHeld ⊢
            clear FW HwF Hf 
            have bF := bF2
            have FW := FW2
            clear bF2 FW2
            refine wpAnyH_ready (rs := [1]) (by kernel_rfl) (by simp) ?_
            refine AllReadyH.cons rfl (fun K' hK => ?_) AllReadyH.nil
            · go_simp
              have hE2 := Bk.made (wF) 38 #[]
              obtain ⟨e, He⟩ : ∃ e, Hid ((wF).heap.size = e) := ⟨_, Lib.hid rfl⟩
              have he : w3.heap.size ≤ e := by rw [← He.out]; exact FW.size
              have hef : f < e := by rw [← He.out]; exact bF.lt
              have bF2 := bF.fr ((Fr.refl No _).alloc (.cells #[] 38)) (fun e => e)
              have FW2 : Fr No w3 ((wF).alloc (.cells #[] 38)) := FW.alloc _
              rw [He.out] at hE2 ⊢
              refine hK.out _ _ (Hcx.out _ FW2) (fun hHeld => ?_)
              clear hK
              try simp only [Act.put, List.setIfInBounds_toArray, List.set_cons_zero, List.set_cons_succ]
              obtain ⟨wE, HwE⟩ : ∃ wE, Hid ((wF).alloc (.cells #[] 38) = wE) := ⟨_, Lib.hid rfl⟩
              rw [HwE.out] at hE2 FW2 hHeld bF2 ⊢
              clear FW HwE He bF 
              have hE := hE2
              have FW := FW2
              have bF := bF2
              clear bF2
              clear hE2 FW2
              refine wpAnyH_ready (rs := [6]) (by kernel_rfl) (by simp) ?_
              refine AllReadyH.cons rfl (fun K' hK => ?_) AllReadyH.nil
              · refine step_append_new (w0 := w3) rfl _ _ _ rfl 38 (.agg #[.int .i64 0, .slice none 0 0]) 2 32 Try.underlying60 info_frame rfl (by omega) (.slice (some ⟨e, 0, none⟩) 0 0) 0 [] rfl (wE).heap.size A m c (xs.flatMap FrV.cells) rfl (own_empty hE he) FW (by rw [flat_len FrV.cells 2 FrV.cells_len, Hm.out]) (HsA.out _ FW) (cells_one xs) (by unfold maxLen; omega) (by omega) ?_
                intro A6 c6 wA oA FA fA gA
                rw [Nat.zero_add, List.nil_append] at oA
                rw [Nat.zero_add] at gA ⊢
                have bF2 := bF.fr fA (fun h9 => by simp [Value.ownBlock] at h9; omega)
                have hAf : (Value.slice A6 m c6).ownBlock ≠ some f := fun h9 => by
                  rw [h9] at gA
                  have := bF.lt
                  rcases gA with gA | gA
                  · simp [Value.ownBlock] at gA; omega
                  · injection gA with gA; omega
                refine hK.out _ _ (Hcx.out _ FA) (fun hHeld => ?_)
                clear hK
                try simp only [Act.put, List.setIfInBounds_toArray, List.set_cons_zero, List.set_cons_succ]
                clear FW hE gA fA bF hef
                have FW := FA
                clear FA
                have bF := bF2
                clear bF2
                refine wpAnyH_ready (rs := [9]) (by kernel_rfl) (by simp) ?_
                refine AllReadyH.cons rfl (fun K' hK => ?_) AllReadyH.nil
                · have hsF : Sl (wA) (wA).heap.size (some ⟨f, 0, none⟩) [.int .i64 kd, .slice xA z xc] := bk_sl2 bF
                  refine step_append_new (w0 := w3) rfl _ _ _ rfl 38 (.agg #[.int .i64 0, .slice none 0 0]) 2 32 Try.underlying60 info_frame rfl (by omega) (.slice A6 m c6) m (xs.flatMap FrV.cells) rfl (wA).heap.size (some ⟨f, 0, none⟩) 1 1 [.int .i64 kd, .slice xA z xc] rfl oA FW rfl hsF (by intro v hv; simp at hv; rcases hv with rfl | rfl <;> rfl) (by unfold maxLen; omega) (by omega) ?_
                  intro A7 c7 wB oB FB' fB gB
                  refine hK.out _ _ (Hcx.out _ FB') (fun hHeld => ?_)
                  clear hK
                  try simp only [Act.put, List.setIfInBounds_toArray, List.set_cons_zero, List.set_cons_succ]
                  clear FW oA gB fB hsF bF hAf
                  have FW := FB'
                  clear FB'
                  refine any_take 47 (.pointer (some ⟨lg, 0, none⟩)) (i := 10) rfl rfl (by kernel_rfl) (by kernel_rfl) (by kernel_rfl) (fun _ _ _ h => h) (by rfl) (by intro w hSw; (try dsimp only at hSw); go_simp; try with_reducible rfl) (by assumption) ?_
                  simp only [Act.put, List.setIfInBounds_toArray, List.set_cons_zero, List.set_cons_succ]
                  refine any_take 48 (.pointer (some ⟨lg, 4, none⟩)) (i := 11) rfl rfl (by kernel_rfl) (by kernel_rfl) (by kernel_rfl) (fun _ _ _ h => h) (by rfl) (by intro w hSw; (try dsimp only at hSw); go_simp; try with_reducible rfl) (by assumption) ?_
                  simp only [Act.put, List.setIfInBounds_toArray, List.set_cons_zero, List.set_cons_succ]
                  refine wpAnyH_ready (rs := [12]) (by kernel_rfl) (by simp) ?_
                  refine AllReadyH.cons rfl (fun K' hK => ?_) AllReadyH.nil
                  · have hBL := BL3.out.fr FW (fun e => e)
                    have k4 := hBL.cell 4
                    have hy4 := hBL.frozen 4
                    simp at k4
                    go_simp
                    have hSt := hBL.put 4 (.slice A7 (m + 1 : Nat) c7)
                    have FS : Fr (fun k => k = lg) w3 ((wB).setCell ⟨lg, 4, none⟩ (.slice A7 (m + 1 : Nat) c7)) := (FW.weak (S' := fun k => k = lg) (fun _ _ e => e.elim)).setCell (p := ⟨lg, 4, none⟩) (.inl rfl) _
                    have ownS := own_set_far oB (p := ⟨lg, 4, none⟩) (.slice A7 (m + 1 : Nat) c7) (fun h9 => absurd BL3.out.lt (Nat.not_lt.2 (oB.lt _ h9).1))
                    have hc2 := hHeld
                    refine hK.out _ _ ?_ (fun hHeld => ?_)
                    · exact ⟨by rw [World.cell?_setCell_far _ _ _ _ (show lg ≠ w.heap.size from hlgx)]; exact hc2.1, by rw [World.cell?_setCell_far _ _ _ _ (show lg ≠ w.heap.size from hlgx)]; exact hc2.2⟩
                    clear hK hc2
                    try simp only [Act.put, List.setIfInBounds_toArray, List.set_cons_zero, List.set_cons_succ]
                    refine wpAnyH_done (by kernel_rfl) ?_ _
                    clear hHeld
                    go_wp2
                    go_meet
                    exact ⟨A7, c7, Lg7.mk hSt FS ownS⟩
        · go_simp
          have bF2 := Bk.made (wd) 38 #[.int .i64 kd, .slice xA z xc]
          obtain ⟨f, Hf⟩ : ∃ f, Hid ((wd).heap.size = f) := ⟨_, Lib.hid rfl⟩
          have FW2 : Fr No w3 ((wd).alloc (.cells #[.int .i64 kd, .slice xA z xc] 38)) := FW.alloc _
          rw [Hf.out] at bF2 ⊢
          refine hK.out _ _ (Hcx.out _ FW2) (fun hHeld => ?_)
          clear hK
          try simp only [Act.put, List.setIfInBounds_toArray, List.set_cons_zero, List.set_cons_succ]
          obtain ⟨wF, HwF⟩ : ∃ wF, Hid ((wd).alloc (.cells #[.int .i64 kd, .slice xA z xc] 38) = wF) := ⟨_, Lib.hid rfl⟩
          rw [HwF.out] at bF2 FW2 hHeld ⊢
          clear FW HwF Hf 
          have bF := bF2
          have FW := FW2
          clear bF2 FW2
          refine wpAnyH_ready (rs := [1, 5]) (by kernel_rfl) (by simp) ?_
          refine AllReadyH.cons rfl (fun K' hK => ?_) (AllReadyH.cons rfl (fun K' hK => ?_) AllReadyH.nil)
          · go_simp
            have hE2 := Bk.made (wF) 38 #[]
            obtain ⟨e, He⟩ : ∃ e, Hid ((wF).heap.size = e) := ⟨_, Lib.hid rfl⟩
            have he : w3.heap.size ≤ e := by rw [← He.out]; exact FW.size
            have hef : f < e := by rw [← He.out]; exact bF.lt
            have bF2 := bF.fr ((Fr.refl No _).alloc (.cells #[] 38)) (fun e => e)
            have FW2 : Fr No w3 ((wF).alloc (.cells #[] 38)) := FW.alloc _
            rw [He.out] at hE2 ⊢
            refine hK.out _ _ (Hcx.out _ FW2) (fun hHeld => ?_)
            clear hK
            try simp only [Act.put, List.setIfInBounds_toArray, List.set_cons_zero, List.set_cons_succ]
            obtain ⟨wE, HwE⟩ : ∃ wE, Hid ((wF).alloc (.cells #[] 38) = wE) := ⟨_, Lib.hid rfl⟩
            rw [HwE.out] at hE2 FW2 hHeld bF2 ⊢
            clear FW HwE He bF 
            have hE := hE2
            have FW := FW2
            have bF := bF2
            clear bF2
            clear hE2 FW2
            refine wpAnyH_ready (rs := [5]) (by kernel_rfl) (by simp) ?_
            refine AllReadyH.cons rfl (fun K' hK => ?_) AllReadyH.nil
            · have l4 := (BL3.out.fr FW (fun e => e)).cell 4
              simp at l4
              go_simp
              refine hK.out _ _ (Hcx.out _ FW) (fun hHeld => ?_)
              clear hK l4
              try simp only [Act.put, List.setIfInBounds_toArray, List.set_cons_zero, List.set_cons_succ]
              refine wpAnyH_ready (rs := [6]) (by kernel_rfl) (by simp) ?_
              refine AllReadyH.cons rfl (fun K' hK => ?_) AllReadyH.nil
              · refine step_append_new (w0 := w3) rfl _ _ _ rfl 38 (.agg #[.int .i64 0, .slice none 0 0]) 2 32 Try.underlying60 info_frame rfl (by omega) (.slice (some ⟨e, 0, none⟩) 0 0) 0 [] rfl (wE).heap.size A m c (xs.flatMap FrV.cells) rfl (own_empty hE he) FW (by rw [flat_len FrV.cells 2 FrV.cells_len, Hm.out]) (HsA.out _ FW) (cells_one xs) (by unfold maxLen; omega) (by omega) ?_
                intro A6 c6 wA oA FA fA gA
                rw [Nat.zero_add, List.nil_append] at oA
                rw [Nat.zero_add] at gA ⊢
                have bF2 := bF.fr fA (fun h9 => by simp [Value.ownBlock] at h9; omega)
                have hAf : (Value.slice A6 m c6).ownBlock ≠ some f := fun h9 => by
                  rw [h9] at gA
                  have := bF.lt
                  rcases gA with gA | gA
                  · simp [Value.ownBlock] at gA; omega
                  · injection gA with gA; omega
                refine hK.out _ _ (Hcx.out _ FA) (fun hHeld => ?_)
                clear hK
                try simp only [Act.put, List.setIfInBounds_toArray, List.set_cons_zero, List.set_cons_succ]
                clear FW hE gA fA bF hef
                have FW := FA
                clear FA
                have bF := bF2
                clear bF2
                refine wpAnyH_ready (rs := [9]) (by kernel_rfl) (by simp) ?_
                refine AllReadyH.cons rfl (fun K' hK => ?_) AllReadyH.nil
                · have hsF : Sl (wA) (wA).heap.size (some ⟨f, 0, none⟩) [.int .i64 kd, .slice xA z xc] := bk_sl2 bF
                  refine step_append_new (w0 := w3) rfl _ _ _ rfl 38 (.agg #[.int .i64 0, .slice none 0 0]) 2 32 Try.underlying60 info_frame rfl (by omega) (.slice A6 m c6) m (xs.flatMap FrV.cells) rfl (wA).heap.size (some ⟨f, 0, none⟩) 1 1 [.int .i64 kd, .slice xA z xc] rfl oA FW rfl hsF (by intro v hv; simp at hv; rcases hv with rfl | rfl <;> rfl) (by unfold maxLen; omega) (by omega) ?_
                  intro A7 c7 wB oB FB' fB gB
                  refine hK.out _ _ (Hcx.out _ FB') (fun hHeld => ?_)
                  clear hK
                  try simp only [Act.put, List.setIfInBounds_toArray, List.set_cons_zero, List.set_cons_succ]
                  clear FW oA gB fB hsF bF hAf
                  have FW := FB'
                  clear FB'
                  refine any_take 47 (.pointer (some ⟨lg, 0, none⟩)) (i := 10) rfl rfl (by kernel_rfl) (by kernel_rfl) (by kernel_rfl) (fun _ _ _ h => h) (by rfl) (by intro w hSw; (try dsimp only at hSw); go_simp; try with_reducible rfl) (by assumption) ?_
                  simp only [Act.put, List.setIfInBounds_toArray, List.set_cons_zero, List.set_cons_succ]
                  refine any_take 48 (.pointer (some ⟨lg, 4, none⟩)) (i := 11) rfl rfl (by kernel_rfl) (by kernel_rfl) (by kernel_rfl) (fun _ _ _ h => h) (by rfl) (by intro w hSw; (try dsimp only at hSw); go_simp; try with_reducible rfl) (by assumption) ?_
                  simp only [Act.put, List.setIfInBounds_toArray, List.set_cons_zero, List.set_cons_succ]
                  refine wpAnyH_ready (rs := [12]) (by kernel_rfl) (by simp) ?_
                  refine AllReadyH.cons rfl (fun K' hK => ?_) AllReadyH.nil
                  · have hBL := BL3.out.fr FW (fun e => e)
                    have k4 := hBL.cell 4
                    have hy4 := hBL.frozen 4
                    simp at k4
                    go_simp
                    have hSt := hBL.put 4 (.slice A7 (m + 1 : Nat) c7)
                    have FS : Fr (fun k => k = lg) w3 ((wB).setCell ⟨lg, 4, none⟩ (.slice A7 (m + 1 : Nat) c7)) := (FW.weak (S' := fun k => k = lg) (fun _ _ e => e.elim)).setCell (p := ⟨lg, 4, none⟩) (.inl rfl) _
                    have ownS := own_set_far oB (p := ⟨lg, 4, none⟩) (.slice A7 (m + 1 : Nat) c7) (fun h9 => absurd BL3.out.lt (Nat.not_lt.2 (oB.lt _ h9).1))
                    have hc2 := hHeld
                    refine hK.out _ _ ?_ (fun hHeld => ?_)
                    · exact ⟨by rw [World.cell?_setCell_far _ _ _ _ (show lg ≠ w.heap.size from hlgx)]; exact hc2.1, by rw [World.cell?_setCell_far _ _ _ _ (show lg ≠ w.heap.size from hlgx)]; exact hc2.2⟩
                    clear hK hc2
                    try simp only [Act.put, List.setIfInBounds_toArray, List.set_cons_zero, List.set_cons_succ]
                    refine wpAnyH_done (by kernel_rfl) ?_ _
                    clear hHeld
                    go_wp2
                    go_meet
                    exact ⟨A7, c7, Lg7.mk hSt FS ownS⟩
          · have l4 := (BL3.out.fr FW (fun e => e)).cell 4
            simp at l4
            go_simp
            refine hK.out _ _ (Hcx.out _ FW) (fun hHeld => ?_)
            clear hK l4
            try simp only [Act.put, List.setIfInBounds_toArray, List.set_cons_zero, List.set_cons_succ]
            refine wpAnyH_ready (rs := [1]) (by kernel_rfl) (by simp) ?_
            refine AllReadyH.cons rfl (fun K' hK => ?_) AllReadyH.nil
            · go_simp
              have hE2 := Bk.made (wF) 38 #[]
              obtain ⟨e, He⟩ : ∃ e, Hid ((wF).heap.size = e) := ⟨_, Lib.hid rfl⟩
              have he : w3.heap.size ≤ e := by rw [← He.out]; exact FW.size
              have hef : f < e := by rw [← He.out]; exact bF.lt
              have bF2 := bF.fr ((Fr.refl No _).alloc (.cells #[] 38)) (fun e => e)
              have FW2 : Fr No w3 ((wF).alloc (.cells #[] 38)) := FW.alloc _
              rw [He.out] at hE2 ⊢
              refine hK.out _ _ (Hcx.out _ FW2) (fun hHeld => ?_)
              clear hK
              try simp only [Act.put, List.setIfInBounds_toArray, List.set_cons_zero, List.set_cons_succ]
              obtain ⟨wE, HwE⟩ : ∃ wE, Hid ((wF).alloc (.cells #[] 38) = wE) := ⟨_, Lib.hid rfl⟩
              rw [HwE.out] at hE2 FW2 hHeld bF2 ⊢
              clear FW HwE He bF 
              have hE := hE2
              have FW := FW2
              have bF := bF2
              clear bF2
              clear hE2 FW2
              refine wpAnyH_ready (rs := [6]) (by kernel_rfl) (by simp) ?_
              refine AllReadyH.cons rfl (fun K' hK => ?_) AllReadyH.nil
              · refine step_append_new (w0 := w3) rfl _ _ _ rfl 38 (.agg #[.int .i64 0, .slice none 0 0]) 2 32 Try.underlying60 info_frame rfl (by omega) (.slice (some ⟨e, 0, none⟩) 0 0) 0 [] rfl (wE).heap.size A m c (xs.flatMap FrV.cells) rfl (own_empty hE he) FW (by rw [flat_len FrV.cells 2 FrV.cells_len, Hm.out]) (HsA.out _ FW) (cells_one xs) (by unfold maxLen; omega) (by omega) ?_
                intro A6 c6 wA oA FA fA gA
                rw [Nat.zero_add, List.nil_append] at oA
                rw [Nat.zero_add] at gA ⊢
                have bF2 := bF.fr fA (fun h9 => by simp [Value.ownBlock] at h9; omega)
                have hAf : (Value.slice A6 m c6).ownBlock ≠ some f := fun h9 => by
                  rw [h9] at gA
                  have := bF.lt
                  rcases gA with gA | gA
                  · simp [Value.ownBlock] at gA; omega
                  · injection gA with gA; omega
                refine hK.out _ _ (Hcx.out _ FA) (fun hHeld => ?_)
                clear hK
                try simp only [Act.put, List.setIfInBounds_toArray, List.set_cons_zero, List.set_cons_succ]
                clear FW hE gA fA bF hef
                have FW := FA
                clear FA
                have bF := bF2
                clear bF2
                refine wpAnyH_ready (rs := [9]) (by kernel_rfl) (by simp) ?_
                refine AllReadyH.cons rfl (fun K' hK => ?_) AllReadyH.nil
                · have hsF : Sl (wA) (wA).heap.size (some ⟨f, 0, none⟩) [.int .i64 kd, .slice xA z xc] := bk_sl2 bF
                  refine step_append_new (w0 := w3) rfl _ _ _ rfl 38 (.agg #[.int .i64 0, .slice none 0 0]) 2 32 Try.underlying60 info_frame rfl (by omega) (.slice A6 m c6) m (xs.flatMap FrV.cells) rfl (wA).heap.size (some ⟨f, 0, none⟩) 1 1 [.int .i64 kd, .slice xA z xc] rfl oA FW rfl hsF (by intro v hv; simp at hv; rcases hv with rfl | rfl <;> rfl) (by unfold maxLen; omega) (by omega) ?_
                  intro A7 c7 wB oB FB' fB gB
                  refine hK.out _ _ (Hcx.out _ FB') (fun hHeld => ?_)
                  clear hK
                  try simp only [Act.put, List.setIfInBounds_toArray, List.set_cons_zero, List.set_cons_succ]
                  clear FW oA gB fB hsF bF hAf
                  have FW := FB'
                  clear FB'
                  refine any_take 47 (.pointer (some ⟨lg, 0, none⟩)) (i := 10) rfl rfl (by kernel_rfl) (by kernel_rfl) (by kernel_rfl) (fun _ _ _ h => h) (by rfl) (by intro w hSw; (try dsimp only at hSw); go_simp; try with_reducible rfl) (by assumption) ?_
                  simp only [Act.put, List.setIfInBounds_toArray, List.set_cons_zero, List.set_cons_succ]
                  refine any_take 48 (.pointer (some ⟨lg, 4, none⟩)) (i := 11) rfl rfl (by kernel_rfl) (by kernel_rfl) (by kernel_rfl) (fun _ _ _ h => h) (by rfl) (by intro w hSw; (try dsimp only at hSw); go_simp; try with_reducible rfl) (by assumption) ?_
                  simp only [Act.put, List.setIfInBounds_toArray, List.set_cons_zero, List.set_cons_succ]
                  refine wpAnyH_ready (rs := [12]) (by kernel_rfl) (by simp) ?_
                  refine AllReadyH.cons rfl (fun K' hK => ?_) AllReadyH.nil
                  · have hBL := BL3.out.fr FW (fun e => e)
                    have k4 := hBL.cell 4
                    have hy4 := hBL.frozen 4
                    simp at k4
                    go_simp
                    have hSt := hBL.put 4 (.slice A7 (m + 1 : Nat) c7)
                    have FS : Fr (fun k => k = lg) w3 ((wB).setCell ⟨lg, 4, none⟩ (.slice A7 (m + 1 : Nat) c7)) := (FW.weak (S' := fun k => k = lg) (fun _ _ e => e.elim)).setCell (p := ⟨lg, 4, none⟩) (.inl rfl) _
                    have ownS := own_set_far oB (p := ⟨lg, 4, none⟩) (.slice A7 (m + 1 : Nat) c7) (fun h9 => absurd BL3.out.lt (Nat.not_lt.2 (oB.lt _ h9).1))
                    have hc2 := hHeld
                    refine hK.out _ _ ?_ (fun hHeld => ?_)
                    · exact ⟨by rw [World.cell?_setCell_far _ _ _ _ (show lg ≠ w.heap.size from hlgx)]; exact hc2.1, by rw [World.cell?_setCell_far _ _ _ _ (show lg ≠ w.heap.size from hlgx)]; exact hc2.2⟩
                    clear hK hc2
                    try simp only [Act.put, List.setIfInBounds_toArray, List.set_cons_zero, List.set_cons_succ]
                    refine wpAnyH_done (by kernel_rfl) ?_ _
                    clear hHeld
                    go_wp2
                    go_meet
                    exact ⟨A7, c7, Lg7.mk hSt FS ownS⟩
      case rest =>
        obtain ⟨A', c', hL7⟩ := hcut
        have hBlg : B lg := (H6.out lg).2 (.inl rfl)
        have hRD3 := (HD.out w3 F23.out).fr hL7.fr (fun k hk e => Hb.out lg hBlg (by rw [← e]; exact hk))
        have HRD : Hid (RD wc r gl gr gd D) := Lib.hid hRD3
        have HL7 := Lib.hid hL7
        have Hlgs : Hid (lg < w.heap.size) := Lib.hid Hlg.out.lt
        obtain ⟨W, HWd⟩ : ∃ W, Hid (putW M.ep m x.f = W) := ⟨_, Lib.hid rfl⟩
        rw [HWd.out] at HW HPl
        have hwcs : w.heap.size ≤ wc.heap.size := Nat.le_trans F23.out.size hL7.fr.size
        have Hws : Hid (w3.heap.size ≤ wc.heap.size ∧ w.heap.size ≤ wc.heap.size) := Lib.hid ⟨hL7.fr.size, hwcs⟩
        have HWc : Hid (Sl wc w3.heap.size pA (u64s W)) := Lib.hid (HW.out.fr hL7.fr (Nat.le_refl _) (fun ad e _ e2 => by have := HWn.out ad e; have := Hlgs.out; omega))
        have HWnr : Hid (∀ ad, pA = some ad → ¬ Rb r gl gr gd ad.block) := Lib.hid (fun ad e h9 => by have := HWn.out ad e; have := Hrl.out _ h9; omega)
        have Hfit : Hid (M.q + M.n ≤ D.n) := Lib.hid HI.out.fits
        have W64 : Hid (∀ k, W.getD k 0 < 18446744073709551616) := Lib.hid (fun k => by rw [← HWd.out]; exact getD_lt (putW_lt _ _ _ (by simp only [FrV.f]; exact Hx.out.lt)) k)
        have hW64 : ∀ v ∈ W, v < 18446744073709551616 := by rw [← HWd.out]; exact putW_lt _ _ _ (by simp only [FrV.f]; exact Hx.out.lt)
        have HW64 := Lib.hid hW64
        have HALL := Lib.hid (And.intro HbB.out (And.intro HE.out (And.intro H2.out (And.intro H3.out (And.intro H6.out (And.intro H7.out (And.intro Hc.out (And.intro Hm.out (And.intro Hz.out (And.intro Hus.out (And.intro Hroom.out (And.intro hok (And.intro Hx.out (And.intro Hxb.out (And.intro HI.out (And.intro HWd.out (And.intro hag2 F23.out)))))))))))))))))
        have HBlg : Hid (∀ k, Rb r gl gr gd k → k ≠ lg) := Lib.hid (fun k hk e => Hb.out lg hBlg (by rw [← e]; exact hk))
        clear hL7 hRD3 hBlg hwcs HD HsA Hcx HW hW64 BL3 BX3 HbB HE H2 H3 H6 H7 Hc Hm Hz Hus Hroom hok Hok Hx Hxb HI HWd hag2 HL Hll Hlg Hu Hkd HxA Hxc F23 Hsm hcl h4 HWn W64
        go_wp2
        go_loopw [7] (fun iv wr => ∃ j : Nat, u / 8 ≤ j ∧ 8 * j ≤ u + z + 8 ∧ iv = .int .i64 j ∧ Hid (RD wr r gl gr gd (appTo D M.q u W j)) ∧ Hid (Fr (Rb r gl gr gd) wc wr)) (fun iv _ => (u + z + 9) - 8 * (intOf iv).toNat)
        case atStart => exact ⟨u / 8, Nat.le_refl _, by omega, by go_num, Lib.hid (by rw [appTo_zero]; exact HRD.out), Lib.hid (Fr.refl _ _)⟩
        case round =>
          obtain ⟨j, hj1, hj2, rfl, HDr, HFr⟩ := hrel
          have hBl := HL7.out.bk.fr HFr.out (fun e => HBlg.out _ e rfl)
          by_cases hlt : 8 * j < u + (z + 1)
          · have Hbx : Hid (wc.heap.size ≤ wr.heap.size) := Lib.hid HFr.out.size
            have hb0 := Bk.made wr 41 #[.int .u64 0, .int .u64 0, .int .u64 0, .int .u64 0, .int .u64 0, .int .u64 0, .int .u64 0, .int .u64 0]
            obtain ⟨wa, Hwa⟩ : ∃ wa, Hid (wa = wr.alloc (.cells #[.int .u64 0, .int .u64 0, .int .u64 0, .int .u64 0, .int .u64 0, .int .u64 0, .int .u64 0, .int .u64 0] 41)) := ⟨_, Lib.hid rfl⟩
            have HDa := Lib.hid (HDr.out.alloc (.cells #[.int .u64 0, .int .u64 0, .int .u64 0, .int .u64 0, .int .u64 0, .int .u64 0, .int .u64 0, .int .u64 0] 41))
            have HFa : Hid (Fr (Rb r gl gr gd) wc (wr.alloc (.cells #[.int .u64 0, .int .u64 0, .int .u64 0, .int .u64 0, .int .u64 0, .int .u64 0, .int .u64 0, .int .u64 0] 41))) := Lib.hid (HFr.out.alloc _)
            have HBl := Lib.hid (hBl.fr ((Fr.refl No _).alloc (.cells #[.int .u64 0, .int .u64 0, .int .u64 0, .int .u64 0, .int .u64 0, .int .u64 0, .int .u64 0, .int .u64 0] 41)) (fun e => e))
            have hqn : M.q + j < D.n := by have := Hfit.out; omega
            have hd57 := decide_eq_true (show (j : Int) * 8 < (u : Int) + ((z : Int) + 1) by omega)
            have hss := appS_sec (t := u) (w := W) (i := j) (HRD.out.ok.rd (M.q + j) hqn) HW64.out
            have Hss := Lib.hid hss
            have Hsd := Lib.hid (appTo_succ D M.q u W j hj1)
            have Hat := Lib.hid (fun k hk => appS_at D M.q u W j k hk)
            have HB0 : Hid (Bk (wr.alloc (.cells #[.int .u64 0, .int .u64 0, .int .u64 0, .int .u64 0, .int .u64 0, .int .u64 0, .int .u64 0, .int .u64 0] 41)) wr.heap.size 41 (secA (preS (appS D M.q u W j) 0))) := Lib.hid (by rw [preS_zero]; exact hb0)
            rw [← Hwa.out] at HDa HFa HBl HB0
            clear hb0 hBl HDr HFr hss
            generalize appS D M.q u W j = sj at *
            generalize hbx : wr.heap.size = bx at *
            go_wp2
            rw [← Hwa.out]
            clear Hwa hbx
            go_loopw [9] (fun kv wi => ∃ y : Nat, y ≤ 8 ∧ kv = .int .i64 y ∧ Hid (Bk wi bx 41 (secA (preS sj y))) ∧ Hid (Fr (fun k => k = bx) wa wi)) (fun kv _ => 8 - (intOf kv).toNat)
            case atStart => exact ⟨0, by omega, rfl, HB0, Lib.hid (Fr.refl _ _)⟩
            case round =>
              obtain ⟨y, hy, rfl, HBy, HFy⟩ := hrel
              have Hnb : Hid (∀ k, k < wc.heap.size → ¬ k = bx) := Lib.hid (fun k hk e => by have := Hbx.out; omega)
              by_cases hy8 : y < 8
              · have fz := HBy.out.frozen y
                have hay := Hat.out y hy8
                have hpt := preS_put sj y hy8
                have hsk := preS_skip sj y
                have hlg1 := Hnb.out lg (by have := Hlgs.out; have := Hws.out; omega)
                have hr1 := Hnb.out r (by have := Hrl.out r (.inl rfl); have := Hws.out; omega)
                have hgr1 := Hnb.out gr (by have := Hrl.out gr (.inr (.inr (.inl rfl))); have := Hws.out; omega)
                by_cases h1 : 8 * j + y < u
                · have hv : sj.getD y 0 = (D.rd (M.q + j)).getD y 0 := by rw [hay, if_pos h1]
                  have hBi := HBl.out.fr HFy.out hlg1
                  have hDi := HDa.out.fr HFy.out (fun k hk => Hnb.out k (by have := Hrl.out k hk; have := Hws.out; omega))
                  have cw := hDi.word (i := M.q + j) (k := y) hqn hy8
                  rw [appTo_rd_new, ← hv] at cw
                  have k0 := hBi.cell 0
                  have k1 := hBi.cell 1
                  have r1 : wr.cell? ⟨r, 1, none⟩ = some (.slice (some ⟨gr, 0, none⟩) D.n D.n) := by rw [hDi.self.cell 1]; rfl
                  simp at k0 k1
                  have Hpt := Lib.hid hpt
                  generalize sj.getD y 0 = v at *
                  clear hay hpt hsk hv hBi hDi
                  have hqi : (M.q : Int) + (j : Int) < (D.n : Int) := by omega
                  have hwr : IntKind.i64.wrap ((M.q : Int) + (j : Int)) = (M.q : Int) + (j : Int) := IntWalk.i64_in _ (by omega)
                  have h0q : (0 : Int) ≤ (M.q : Int) + (j : Int) := by omega
                  have hnq : ((M.q : Int) + (j : Int)).toNat = M.q + j := by omega
                  have hyi : (y : Int) < 8 := by omega
                  go_wp2_with fail
                  refine wp_region_held_drew (S := (fun w' => w'.cell? ⟨lg, 0, none⟩ = some (.pointer (some ⟨r, 0, none⟩)) ∧ w'.cell? ⟨lg, 1, none⟩ = some (.int .i64 M.q) ∧ w'.cell? ⟨r, 1, none⟩ = some (.slice (some ⟨gr, 0, none⟩) D.n D.n) ∧ w'.cell? ⟨gr, (M.q + j) * 8 + y, none⟩ = some (.int .u64 v))) (by kernel_rfl) ⟨k0, k1, r1, cw⟩ (fun hHeld => ?_)
                  refine any_take 71 (.int .i64 y) (i := 0) rfl rfl (by kernel_rfl) (by kernel_rfl) (by kernel_rfl) (fun _ _ _ h => h) (by rfl) (by intro w hSw; (try dsimp only at hSw); go_simp; try with_reducible rfl) (by assumption) ?_
                  simp only [Act.put, List.setIfInBounds_toArray, List.set_cons_zero, List.set_cons_succ]
                  refine any_take 72 (.pointer (some ⟨lg, 0, none⟩)) (i := 1) rfl rfl (by kernel_rfl) (by kernel_rfl) (by kernel_rfl) (fun _ _ _ h => h) (by rfl) (by intro w hSw; (try dsimp only at hSw); go_simp; try with_reducible rfl) (by assumption) ?_
                  simp only [Act.put, List.setIfInBounds_toArray, List.set_cons_zero, List.set_cons_succ]
                  refine any_take 73 (.pointer (some ⟨lg, 0, none⟩)) (i := 2) rfl rfl (by kernel_rfl) (by kernel_rfl) (by kernel_rfl) (fun _ _ _ h => h) (by rfl) (by intro w hSw; (try dsimp only at hSw); go_simp; try with_reducible rfl) (by assumption) ?_
                  simp only [Act.put, List.setIfInBounds_toArray, List.set_cons_zero, List.set_cons_succ]
                  refine any_take 74 (.pointer (some ⟨lg, 0, none⟩)) (i := 3) rfl rfl (by kernel_rfl) (by kernel_rfl) (by kernel_rfl) (fun _ _ _ h => h) (by rfl) (by intro w hSw; (try dsimp only at hSw); go_simp; try with_reducible rfl) (by assumption) ?_
                  simp only [Act.put, List.setIfInBounds_toArray, List.set_cons_zero, List.set_cons_succ]
                  refine any_take 75 (.pointer (some ⟨r, 0, none⟩)) (i := 4) rfl rfl (by kernel_rfl) (by kernel_rfl) (by kernel_rfl) (fun _ _ _ h => h) (by rfl) (by intro w hSw; (try dsimp only at hSw); go_simp; try with_reducible rfl) (by assumption) ?_
                  simp only [Act.put, List.setIfInBounds_toArray, List.set_cons_zero, List.set_cons_succ]
                  refine any_take 76 (.pointer (some ⟨r, 0, none⟩)) (i := 5) rfl rfl (by kernel_rfl) (by kernel_rfl) (by kernel_rfl) (fun _ _ _ h => h) (by rfl) (by intro w hSw; (try dsimp only at hSw); go_simp; try with_reducible rfl) (by assumption) ?_
                  simp only [Act.put, List.setIfInBounds_toArray, List.set_cons_zero, List.set_cons_succ]
                  refine any_take 77 (.pointer (some ⟨r, 1, none⟩)) (i := 6) rfl rfl (by kernel_rfl) (by kernel_rfl) (by kernel_rfl) (fun _ _ _ h => h) (by rfl) (by intro w hSw; (try dsimp only at hSw); go_simp; try with_reducible rfl) (by assumption) ?_
                  simp only [Act.put, List.setIfInBounds_toArray, List.set_cons_zero, List.set_cons_succ]
                  refine any_take 78 (.slice (some ⟨gr, 0, none⟩) D.n D.n) (i := 7) rfl rfl (by kernel_rfl) (by kernel_rfl) (by kernel_rfl) (fun _ _ _ h => h) (by rfl) (by intro w hSw; (try dsimp only at hSw); go_simp; try with_reducible rfl) (by assumption) ?_
                  simp only [Act.put, List.setIfInBounds_toArray, List.set_cons_zero, List.set_cons_succ]
                  refine any_take 79 (.pointer (some ⟨lg, 0, none⟩)) (i := 8) rfl rfl (by kernel_rfl) (by kernel_rfl) (by kernel_rfl) (fun _ _ _ h => h) (by rfl) (by intro w hSw; (try dsimp only at hSw); go_simp; try with_reducible rfl) (by assumption) ?_
                  simp only [Act.put, List.setIfInBounds_toArray, List.set_cons_zero, List.set_cons_succ]
                  refine any_take 80 (.pointer (some ⟨lg, 0, none⟩)) (i := 9) rfl rfl (by kernel_rfl) (by kernel_rfl) (by kernel_rfl) (fun _ _ _ h => h) (by rfl) (by intro w hSw; (try dsimp only at hSw); go_simp; try with_reducible rfl) (by assumption) ?_
                  simp only [Act.put, List.setIfInBounds_toArray, List.set_cons_zero, List.set_cons_succ]
                  refine any_take 81 (.pointer (some ⟨lg, 1, none⟩)) (i := 10) rfl rfl (by kernel_rfl) (by kernel_rfl) (by kernel_rfl) (fun _ _ _ h => h) (by rfl) (by intro w hSw; (try dsimp only at hSw); go_simp; try with_reducible rfl) (by assumption) ?_
                  simp only [Act.put, List.setIfInBounds_toArray, List.set_cons_zero, List.set_cons_succ]
                  refine any_take 82 (.int .i64 M.q) (i := 11) rfl rfl (by kernel_rfl) (by kernel_rfl) (by kernel_rfl) (fun _ _ _ h => h) (by rfl) (by intro w hSw; (try dsimp only at hSw); go_simp; try with_reducible rfl) (by assumption) ?_
                  simp only [Act.put, List.setIfInBounds_toArray, List.set_cons_zero, List.set_cons_succ]
                  refine any_take 83 (.int .i64 j) (i := 12) rfl rfl (by kernel_rfl) (by kernel_rfl) (by kernel_rfl) (fun _ _ _ h => h) (by rfl) (by intro w hSw; (try dsimp only at hSw); go_simp; try with_reducible rfl) (by assumption) ?_
                  simp only [Act.put, List.setIfInBounds_toArray, List.set_cons_zero, List.set_cons_succ]
                  refine any_take 84 (.int .i64 ((M.q : Int) + (j : Int))) (i := 13) rfl rfl (by kernel_rfl) (by kernel_rfl) (by kernel_rfl) (fun _ _ _ h => h) (by rfl) (by intro w hSw; (try dsimp only at hSw); go_simp; try with_reducible rfl) (by assumption) ?_
                  simp only [Act.put, List.setIfInBounds_toArray, List.set_cons_zero, List.set_cons_succ]
                  refine any_take 85 (.int .i64 y) (i := 14) rfl rfl (by kernel_rfl) (by kernel_rfl) (by kernel_rfl) (fun _ _ _ h => h) (by rfl) (by intro w hSw; (try dsimp only at hSw); go_simp; try with_reducible rfl) (by assumption) ?_
                  simp only [Act.put, List.setIfInBounds_toArray, List.set_cons_zero, List.set_cons_succ]
                  refine any_take 86 (.pointer (some ⟨gr, (M.q + j) * 8, none⟩)) (i := 15) rfl rfl (by kernel_rfl) (by kernel_rfl) (by kernel_rfl) (fun _ _ _ h => h) (by rfl) (by intro w hSw; (try dsimp only at hSw); go_simp; try with_reducible rfl) (by assumption) ?_
                  simp only [Act.put, List.setIfInBounds_toArray, List.set_cons_zero, List.set_cons_succ]
                  refine any_take 87 (.pointer (some ⟨gr, (M.q + j) * 8 + y, none⟩)) (i := 16) rfl rfl (by kernel_rfl) (by kernel_rfl) (by kernel_rfl) (fun _ _ _ h => h) (by rfl) (by intro w hSw; (try dsimp only at hSw); go_simp; try with_reducible rfl) (by assumption) ?_
                  simp only [Act.put, List.setIfInBounds_toArray, List.set_cons_zero, List.set_cons_succ]
                  refine any_take 88 (.int .u64 v) (i := 17) rfl rfl (by kernel_rfl) (by kernel_rfl) (by kernel_rfl) (fun _ _ _ h => h) (by rfl) (by intro w hSw; (try dsimp only at hSw); go_simp; try with_reducible rfl) (by assumption) ?_
                  simp only [Act.put, List.setIfInBounds_toArray, List.set_cons_zero, List.set_cons_succ]
                  refine any_take 89 (.pointer (some ⟨bx, y, none⟩)) (i := 18) rfl rfl (by kernel_rfl) (by kernel_rfl) (by kernel_rfl) (fun _ _ _ h => h) (by rfl) (by intro w hSw; (try dsimp only at hSw); go_simp; try with_reducible rfl) (by assumption) ?_
                  simp only [Act.put, List.setIfInBounds_toArray, List.set_cons_zero, List.set_cons_succ]
                  have HB2 : Hid (Bk wr.drew bx 41 (secA (preS sj y))) := HBy
                  have HF2 : Hid (Fr (fun k => k = bx) wa wr.drew) := Lib.hid HFy.out.drew
                  obtain ⟨wd, Hwd⟩ : ∃ wd, Hid (wr.drew = wd) := ⟨_, Lib.hid rfl⟩
                  rw [Hwd.out] at HB2 HF2 hHeld ⊢
                  clear fz cw k0 k1 r1 HBy HFy Hwd
                  have fz := HB2.out.frozen y
                  obtain ⟨v0, cz⟩ : ∃ v0, wd.cell? ⟨bx, y, none⟩ = some v0 := ⟨_, by rw [HB2.out.cell]; exact Array.getElem?_eq_getElem (by simp [secA, u64s, preS]; exact hy8)⟩
                  refine wpAnyH_ready (rs := [19]) (by kernel_rfl) (by simp) ?_
                  refine AllReadyH.cons rfl (fun K' hK => ?_) AllReadyH.nil
                  go_simp
                  have hc2 := hHeld
                  refine hK.out _ _ ?_ (fun hHeld => ?_)
                  · exact ⟨by rw [World.cell?_setCell_far _ _ _ _ (show bx ≠ lg from fun e => hlg1 e.symm)]; exact hc2.1, by rw [World.cell?_setCell_far _ _ _ _ (show bx ≠ lg from fun e => hlg1 e.symm)]; exact hc2.2.1, by rw [World.cell?_setCell_far _ _ _ _ (show bx ≠ r from fun e => hr1 e.symm)]; exact hc2.2.2.1, by rw [World.cell?_setCell_far _ _ _ _ (show bx ≠ gr from fun e => hgr1 e.symm)]; exact hc2.2.2.2⟩
                  clear hK hc2
                  try simp only [Act.put, List.setIfInBounds_toArray, List.set_cons_zero, List.set_cons_succ]
                  refine wpAnyH_done (by kernel_rfl) ?_ _
                  have HB3 : Hid (Bk _ bx 41 (secA (preS sj (y + 1)))) := Lib.hid (by rw [← Hpt.out]; exact HB2.out.put y (.int .u64 v))
                  have HF3 : Hid (Fr (fun k => k = bx) wa _) := Lib.hid (HF2.out.setCell (p := ⟨bx, y, none⟩) (.inl rfl) (.int .u64 v))
                  clear hHeld fz cz
                  go_wp2
                  go_roundw
                  case rel =>
                    exact ⟨y + 1, by omega, by go_num, HB3, HF3⟩
                  case measure => simp [intOf]; omega
                · by_cases h2 : 8 * j + y < u + (z + 1)
                  · have hv : sj.getD y 0 = W.getD (8 * j + y - u) 0 := by rw [hay, if_neg h1]
                    have hwl : 8 * j + y - u < W.length := by rw [HPl.out]; omega
                    have hsW := HWc.out.fr (Fr.trans' HFa.out HFy.out (fun k hk e => absurd e (Hnb.out k hk))) (Hws.out.1) (fun ad e _ => HWnr.out ad e)
                    obtain ⟨ad, hpA, cw⟩ := hsW.word hwl
                    have hvv : W[8 * j + y - u] = sj.getD y 0 := by rw [hv, List.getD, List.getElem?_eq_getElem hwl]; rfl
                    rw [hvv] at cw
                    have Hpt := Lib.hid hpt
                    generalize sj.getD y 0 = v at *
                    obtain ⟨v0, cz⟩ : ∃ v0, wr.cell? ⟨bx, y, none⟩ = some v0 := ⟨_, by rw [HBy.out.cell]; exact Array.getElem?_eq_getElem (by simp [secA, u64s, preS]; exact hy8)⟩
                    have hsub : ((8 * (j : Int) + (y : Int)) - (u : Int)).toNat = 8 * j + y - u := by omega
                    have hsb : IntKind.i64.wrap ((8 * (j : Int) + (y : Int)) - (u : Int)) = (8 * (j : Int) + (y : Int)) - (u : Int) := IntWalk.i64_in _ (by omega)
                    have hs0 : (0 : Int) ≤ (8 * (j : Int) + (y : Int)) - (u : Int) := by omega
                    have hs1 : (8 * (j : Int) + (y : Int)) - (u : Int) < ((z + 1 : Nat) : Int) := by omega
                    have hd1 := decide_eq_false (show ¬ (8 * (j : Int) + (y : Int) < (u : Int)) by omega)
                    subst hpA
                    clear hay hpt hsk hv hsW hwl hvv
                    go_wp2
                    go_roundw
                    case rel => exact ⟨y + 1, by omega, by go_num, Lib.hid (by rw [← Hpt.out]; exact HBy.out.put y (.int .u64 v)), Lib.hid (HFy.out.setCell (p := ⟨bx, y, none⟩) (.inl rfl) (.int .u64 v))⟩
                    case measure => simp [intOf]; omega
                  · have hv : sj.getD y 0 = 0 := by rw [hay, if_neg h1, List.getD, List.getElem?_eq_none (by rw [HPl.out]; omega)]; rfl
                    have hk := Lib.hid (hsk hv)
                    have hd1 := decide_eq_false (show ¬ (8 * (j : Int) + (y : Int) < (u : Int)) by omega)
                    have hd2 := decide_eq_false (show ¬ (8 * (j : Int) + (y : Int) < (u : Int) + ((z : Int) + 1)) by omega)
                    clear hay hpt hsk hv fz
                    have HB3 : Hid (Bk wr bx 41 (secA (preS sj (y + 1)))) := Lib.hid (by rw [hk.out]; exact HBy.out)
                    go_wp2
                    go_roundw
                    case rel =>
                      exact ⟨y + 1, by omega, by go_num, HB3, HFy⟩
                    case measure => simp [intOf]; omega
              · obtain rfl : y = 8 := by omega
                have hb8 := HBy.out
                rw [preS_all Hss.out] at hb8
                have hBi := HBl.out.fr HFy.out (Hnb.out lg (by have := Hlgs.out; have := Hws.out; omega))
                have hDi := HDa.out.fr HFy.out (fun k hk => Hnb.out k (by have := Hrl.out k hk; have := Hws.out; omega))
                have CW0 := refWrite_any r gl gr gd (appTo D M.q u W j) (M.q + j) sj wr.drew hDi.drew hqn hD Hss.out
                have HF9 : Hid (Fr (Rb r gl gr gd) wc wr.drew) := Lib.hid ((HFa.out.trans' HFy.out (fun k hk e => absurd e (Hnb.out k hk))).drew)
                have Hsd2 := Lib.hid Hsd.out
                have hsl := Hss.out
                obtain ⟨t0, t1, t2, t3, t4, t5, t6, t7, ht⟩ := sec_lit hsl
                rw [ht] at CW0 hb8 Hsd2
                simp only [secV, secA, u64s, List.map_cons, List.map_nil, Int.natCast_add] at CW0 hb8
                have Hcell : Hid (∀ w', Fr (Rb r gl gr gd) wr w' → w'.cell? ⟨lg, 0, none⟩ = some (.pointer (some ⟨r, 0, none⟩)) ∧ w'.cell? ⟨lg, 1, none⟩ = some (.int .i64 M.q) ∧ w'.cell? ⟨bx, 0, none⟩ = some (.int .u64 t0) ∧ w'.cell? ⟨bx, 1, none⟩ = some (.int .u64 t1) ∧ w'.cell? ⟨bx, 2, none⟩ = some (.int .u64 t2) ∧ w'.cell? ⟨bx, 3, none⟩ = some (.int .u64 t3) ∧ w'.cell? ⟨bx, 4, none⟩ = some (.int .u64 t4) ∧ w'.cell? ⟨bx, 5, none⟩ = some (.int .u64 t5) ∧ w'.cell? ⟨bx, 6, none⟩ = some (.int .u64 t6) ∧ w'.cell? ⟨bx, 7, none⟩ = some (.int .u64 t7)) := Lib.hid (fun w' hw => by
                  have h1 := hBi.fr hw (fun e => HBlg.out _ e rfl)
                  obtain ⟨x0, x1, x2, x3, x4, x5, x6, x7⟩ := bk8 (hb8.fr hw (fun e => by have := Hrl.out _ e; have := Hws.out; have := Hbx.out; omega))
                  exact ⟨h1.cell 0, h1.cell 1, x0, x1, x2, x3, x4, x5, x6, x7⟩)
                have h0 := Hcell.out wr.drew (Fr.refl _ _).drew
                have hwr : IntKind.i64.wrap ((M.q : Int) + (j : Int)) = (M.q : Int) + (j : Int) := IntWalk.i64_in _ (by omega)
                have CW := Lib.hid CW0
                clear hb8 hBi hDi CW0 ht hsl Hss HBy HFy HDa HFa HBl HB0 Hat hy8 hy Hsd
                go_wp2_with fail
                refine wp_region_held_drew (S := (fun w' => w'.cell? ⟨lg, 0, none⟩ = some (.pointer (some ⟨r, 0, none⟩)) ∧ w'.cell? ⟨lg, 1, none⟩ = some (.int .i64 M.q) ∧ w'.cell? ⟨bx, 0, none⟩ = some (.int .u64 t0) ∧ w'.cell? ⟨bx, 1, none⟩ = some (.int .u64 t1) ∧ w'.cell? ⟨bx, 2, none⟩ = some (.int .u64 t2) ∧ w'.cell? ⟨bx, 3, none⟩ = some (.int .u64 t3) ∧ w'.cell? ⟨bx, 4, none⟩ = some (.int .u64 t4) ∧ w'.cell? ⟨bx, 5, none⟩ = some (.int .u64 t5) ∧ w'.cell? ⟨bx, 6, none⟩ = some (.int .u64 t6) ∧ w'.cell? ⟨bx, 7, none⟩ = some (.int .u64 t7))) (by kernel_rfl) h0 (fun hHeld => ?_)
                refine any_take 104 (.pointer (some ⟨lg, 0, none⟩)) (i := 0) rfl rfl (by kernel_rfl) (by kernel_rfl) (by kernel_rfl) (fun _ _ _ h => h) (by rfl) (by intro w hSw; (try dsimp only at hSw); go_simp; try with_reducible rfl) (by assumption) ?_
                simp only [Act.put, List.setIfInBounds_toArray, List.set_cons_zero, List.set_cons_succ]
                refine any_take 105 (.pointer (some ⟨lg, 0, none⟩)) (i := 1) rfl rfl (by kernel_rfl) (by kernel_rfl) (by kernel_rfl) (fun _ _ _ h => h) (by rfl) (by intro w hSw; (try dsimp only at hSw); go_simp; try with_reducible rfl) (by assumption) ?_
                simp only [Act.put, List.setIfInBounds_toArray, List.set_cons_zero, List.set_cons_succ]
                refine any_take 106 (.pointer (some ⟨lg, 0, none⟩)) (i := 2) rfl rfl (by kernel_rfl) (by kernel_rfl) (by kernel_rfl) (fun _ _ _ h => h) (by rfl) (by intro w hSw; (try dsimp only at hSw); go_simp; try with_reducible rfl) (by assumption) ?_
                simp only [Act.put, List.setIfInBounds_toArray, List.set_cons_zero, List.set_cons_succ]
                refine any_take 107 (.pointer (some ⟨r, 0, none⟩)) (i := 3) rfl rfl (by kernel_rfl) (by kernel_rfl) (by kernel_rfl) (fun _ _ _ h => h) (by rfl) (by intro w hSw; (try dsimp only at hSw); go_simp; try with_reducible rfl) (by assumption) ?_
                simp only [Act.put, List.setIfInBounds_toArray, List.set_cons_zero, List.set_cons_succ]
                refine any_take 108 (.pointer (some ⟨lg, 0, none⟩)) (i := 4) rfl rfl (by kernel_rfl) (by kernel_rfl) (by kernel_rfl) (fun _ _ _ h => h) (by rfl) (by intro w hSw; (try dsimp only at hSw); go_simp; try with_reducible rfl) (by assumption) ?_
                simp only [Act.put, List.setIfInBounds_toArray, List.set_cons_zero, List.set_cons_succ]
                refine any_take 109 (.pointer (some ⟨lg, 0, none⟩)) (i := 5) rfl rfl (by kernel_rfl) (by kernel_rfl) (by kernel_rfl) (fun _ _ _ h => h) (by rfl) (by intro w hSw; (try dsimp only at hSw); go_simp; try with_reducible rfl) (by assumption) ?_
                simp only [Act.put, List.setIfInBounds_toArray, List.set_cons_zero, List.set_cons_succ]
                refine any_take 110 (.pointer (some ⟨lg, 1, none⟩)) (i := 6) rfl rfl (by kernel_rfl) (by kernel_rfl) (by kernel_rfl) (fun _ _ _ h => h) (by rfl) (by intro w hSw; (try dsimp only at hSw); go_simp; try with_reducible rfl) (by assumption) ?_
                simp only [Act.put, List.setIfInBounds_toArray, List.set_cons_zero, List.set_cons_succ]
                refine any_take 111 (.int .i64 M.q) (i := 7) rfl rfl (by kernel_rfl) (by kernel_rfl) (by kernel_rfl) (fun _ _ _ h => h) (by rfl) (by intro w hSw; (try dsimp only at hSw); go_simp; try with_reducible rfl) (by assumption) ?_
                simp only [Act.put, List.setIfInBounds_toArray, List.set_cons_zero, List.set_cons_succ]
                refine any_take 112 (.int .i64 j) (i := 8) rfl rfl (by kernel_rfl) (by kernel_rfl) (by kernel_rfl) (fun _ _ _ h => h) (by rfl) (by intro w hSw; (try dsimp only at hSw); go_simp; try with_reducible rfl) (by assumption) ?_
                simp only [Act.put, List.setIfInBounds_toArray, List.set_cons_zero, List.set_cons_succ]
                refine any_take 113 (.int .i64 ((M.q : Int) + (j : Int))) (i := 9) rfl rfl (by kernel_rfl) (by kernel_rfl) (by kernel_rfl) (fun _ _ _ h => h) (by rfl) (by intro w hSw; (try dsimp only at hSw); go_simp; try with_reducible rfl) (by assumption) ?_
                simp only [Act.put, List.setIfInBounds_toArray, List.set_cons_zero, List.set_cons_succ]
                refine any_take 114 (.agg #[.int .u64 t0, .int .u64 t1, .int .u64 t2, .int .u64 t3, .int .u64 t4, .int .u64 t5, .int .u64 t6, .int .u64 t7]) (i := 10) rfl rfl (by kernel_rfl) (by kernel_rfl) (by kernel_rfl) (fun _ _ _ h => h) (by rfl) (by intro w hSw; (try dsimp only at hSw); go_simp; try with_reducible rfl) (by assumption) ?_
                simp only [Act.put, List.setIfInBounds_toArray, List.set_cons_zero, List.set_cons_succ]
                refine wpAnyH_ready (rs := [11]) (by kernel_rfl) (by simp) ?_
                refine AllReadyH.cons rfl (fun K' hK => ?_) AllReadyH.nil
                go_simp
                go_at_call 21
                refine CW.out.mono ?_
                rintro e w5 ⟨rfl, hD5, hf5⟩
                dsimp only
                clear hHeld
                refine hK.out _ _ (Hcell.out w5 (Fr.trans' (Fr.refl _ _).drew hf5 (fun _ _ e => e))) (fun hHeld => ?_)
                clear hK
                try simp only [Act.put, List.setIfInBounds_toArray, List.set_cons_zero, List.set_cons_succ]
                refine wpAnyH_done (by kernel_rfl) ?_ _
                rw [← Hsd2.out] at hD5
                have HD5 := Lib.hid hD5
                have HF5 : Hid (Fr (Rb r gl gr gd) wc w5) := Lib.hid (HF9.out.trans' hf5 (fun _ _ e => e))
                clear hHeld h0 Hcell hD5 hf5 CW HF9
                go_wp2
                go_roundw
                case rel => exact ⟨j + 1, by omega, by omega, by go_num, HD5, HF5⟩
                case measure => simp [intOf]; omega
          · have hj : j = (u + (z + 1) + 7) / 8 := by omega
            obtain ⟨a1, a2, a3, a4, a5, a6, a7, a8, a9, a10, a11, a12, a13, a14, a15, a16, a17, a18⟩ := HALL.out
            have hroom := a11.2 hr
            have hE0 : appE M x.f = 0 := by rw [a2, if_pos a12, if_pos hroom]
            have hM0 : appM M x.f = { M with L := M.L ++ [x.f] } := by unfold appM; rw [if_pos ⟨a12, hroom⟩]
            have hD0 : appDv D M x.f = appTo D M.q u W j := by
              unfold appDv appD
              rw [if_pos ⟨a12, hroom⟩, a10, ← a4, List.length_map, a8, a16, HPl.out, hj]
            have hwcw : Fr (fun k => Rb r gl gr gd k ∨ k = lg) w3 wr := (HL7.out.fr.weak (S' := fun k => Rb r gl gr gd k ∨ k = lg) (fun _ _ e => .inr e)).trans' HFr.out (fun _ _ e => .inl e)
            have hww : Fr (fun k => Rb r gl gr gd k ∨ k = lg) w wr := (a18.weak (fun _ _ e => e.elim)).trans' hwcw (fun _ _ e => e)
            have hown := own_fr HL7.out.own HFr.out (fun k hk e => by have := (HL7.out.own.lt k hk).1; have := Hrl.out k e; have := a18.size; omega)
            have hcells : (xs ++ [x]).flatMap FrV.cells = xs.flatMap FrV.cells ++ [.int .i64 kd, .slice xA z xc] := by rw [List.flatMap_append]; simp [a17]
            have hsh := own_shape hown
            have hA' : ∀ ad, A' = some ad → w3.heap.size ≤ ad.block := fun ad e => by
              subst e
              obtain ⟨g, cap, hv, hg, _⟩ := hown.form (by omega)
              injection hv with e1 e2 e3
              injection e1 with e1
              subst e1
              exact hg
            have hfb : ∀ k, FB A' (xs ++ [x]) k → FB A xs k ∨ w3.heap.size ≤ k ∨ xB x k := by
              rintro k (⟨ad, e, hn, rfl⟩ | ⟨y, hy, ad, e, hn, rfl⟩)
              · exact .inr (.inl (hA' ad e))
              · rcases List.mem_append.1 hy with hy | hy
                · exact .inl (.inr ⟨y, hy, ad, e, hn, rfl⟩)
                · rw [List.mem_singleton.1 hy] at e hn
                  exact .inr (.inr ⟨ad, e, hn, rfl⟩)
            have hbo : ∀ k, FB A xs k → ¬ (Rb r gl gr gd k ∨ k = lg) := fun k hk e => by
              rcases e with e | e
              · exact Hb.out k ((a5 k).2 (.inr hk)) e
              · exact a6 (by rw [← e]; exact hk)
            have hfr := a3.frS hww hbo
            have hfrs : Frs wr A' (xs ++ [x]) := ⟨by rw [hcells]; exact Sl.ofOwn hown, fun y hy => by
              rcases List.mem_append.1 hy with hy | hy
              · exact hfr.fit y hy
              · rw [List.mem_singleton.1 hy]
                have q := a13
                exact ⟨q.k1, q.k2, (q.sl.fr hww (Nat.le_refl _) (fun ad e hn e2 => by
                  have h9 := a14 ad.block ⟨ad, e, u64s_ne hn, rfl⟩
                  rcases e2 with e2 | e2
                  · exact h9.1 e2
                  · exact h9.2 e2)).more hww.size, q.lt, q.cap, q.cap2⟩⟩
            have hbk := HL7.out.bk.fr HFr.out (fun e => HBlg.out _ e rfl)
            have hfin : AppR r gl gr gd lg B D M x w (.returned (.int .i64 0)) wr := by
              refine ⟨by rw [hE0]; rfl, by rw [hD0]; exact HDr.out, hww, fun k => k = lg ∨ FB A' (xs ++ [x]) k, ?_, ?_⟩
              · rw [hM0]
                refine ⟨A', c', xs ++ [x], ?_, hfrs, ?_, ?_, ?_, fun _ => Iff.rfl, ?_⟩
                · simp only [List.length_append, List.length_singleton, a8]
                  exact hbk
                · rw [List.map_append, a4]
                  rfl
                · obtain ⟨A2, c2, hv, h1, h2, -⟩ := hsh
                  injection hv with e1 e2 e3
                  subst e3
                  simp only [List.length_append, List.length_singleton, a8]
                  exact h1
                · obtain ⟨A2, c2, hv, h1, h2, -⟩ := hsh
                  injection hv with e1 e2 e3
                  subst e3
                  exact h2
                · intro hk
                  rcases hfb lg hk with h9 | h9 | h9
                  · exact a6 h9
                  · have := Hlgs.out; have := a18.size; omega
                  · exact (a14 lg h9).2 rfl
              · rintro k (rfl | hk)
                · exact .inl ((a5 k).2 (.inl rfl))
                · rcases hfb k hk with h9 | h9 | h9
                  · exact .inl ((a5 k).2 (.inr h9))
                  · exact .inr (.inl (Nat.le_trans a18.size h9))
                  · exact .inr (.inr h9)
            have Hfin := Lib.hid hfin
            clear hfin hbk hfrs hfr hbo hfb hA' hsh hcells hown hww hwcw hD0 hM0 hE0 hroom a1 a2 a3 a4 a5 a6 a7 a8 a9 a10 a11 a12 a13 a14 a15 a16 a17 a18 hBl
            go_wp2
            go_ret
            exact Hfin.out
    · have HB0 := Lib.hid (HbB.out (.inr (by rw [Hroom.out]; exact hr)))
      have HE0 : Hid (appE M x.f = 4) := Lib.hid (by rw [HE.out, hok, if_pos rfl, if_neg (by rw [Hroom.out]; exact hr)])
      clear HbB HE hok
      go_wp2
      go_ret
      exact ⟨by rw [HE0.out]; rfl, by rw [HB0.out.1]; exact HD.out _ F23.out, F23.out.weak (fun _ _ e => e.elim), B, by rw [HB0.out.2]; exact HL.out _ F23.out, fun k hk => .inl hk⟩
end Go.Proofs.Ytdmllfjeofiddaa
