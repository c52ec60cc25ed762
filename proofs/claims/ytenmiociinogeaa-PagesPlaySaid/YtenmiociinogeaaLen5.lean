/- Package pages: how many pairs, and the first keys of the pages. -/
import Derived.Test.YtenmiociinogeaaDel5
namespace Go.Proofs.Ytenmiociinogeaa
open Go.RowKit

section
variable {w w' : World} {S : Nat → Prop} {s : Nat} {P : List Pg}
/-- The list of a store, as a call of all tells it, at each later time. -/
theorem PS.list (h : PS w S s P) : ∃ A c, w.cell? ⟨s, 0, none⟩ = some (.slice A P.length c) ∧ (P ≠ [] → ∃ q o hs, A = some ⟨q, o, none⟩ ∧ hs.length = P.length ∧ LsN w S q o c hs P) := by
  obtain ⟨v, hb, hS, hlt, hcase⟩ := h
  rcases hcase with ⟨rfl, A, c, rfl⟩ | ⟨hne, q, o, c, hs, rfl, hL⟩
  · exact ⟨A, c, hb.cell 0, fun e => absurd rfl e⟩
  · exact ⟨_, c, by rw [← hL.len]; exact hb.cell 0, fun _ => ⟨q, o, hs, rfl, hL.len, hL⟩⟩
/-- Page j's header, and its page. -/
def HdrAt (w0 : World) (A : Option Addr) (P : List Pg) : Prop :=
  ∀ W, Fr No w0 W → ∀ j (hj : j < P.length), ∃ q o h, A = some ⟨q, o, none⟩ ∧ W.cell? ⟨q, o + j, none⟩ = some (Pgh.val h) ∧ PgA W h P[j]
theorem PS.hdrs (h : PS w S s P) : ∃ A c, (∀ W, Fr No w W → W.cell? ⟨s, 0, none⟩ = some (.slice A P.length c)) ∧ HdrAt w A P := by
  obtain ⟨A, c, h1, h2⟩ := h.list
  refine ⟨A, c, fun W hW => ?_, fun W hW j hj => ?_⟩
  · obtain ⟨v, hb, -⟩ := h
    have e0 := (hb.cell 0).symm.trans h1
    have e1 := (hb.fr hW (fun e => e)).cell 0
    rw [e1]
    exact e0
  · obtain ⟨q, o, hs, rfl, hl, hL⟩ := h2 (by intro e; subst e; simp at hj)
    exact ⟨q, o, hs[j]'(by omega), rfl, (hL.since hW).hdr (by omega), (hL.since hW).pg j (by omega) hj⟩
theorem all_val (A : Option Addr) (n c : Nat) (h : w.cell? ⟨s, 0, none⟩ = some (.slice A n c)) : Calls Try.prog 33 #[.pointer (some ⟨s, 0, none⟩)] w fun e w' => e = .returned (.slice A n c) ∧ w' = w := pAll_some s _ w h ⟨A, n, c, rfl⟩

set_option maxHeartbeats 4000000 in
set_option maxRecDepth 100000 in
theorem pLen_any (hi : InvP P) (h : PS w S s P) : Calls Try.prog 24 #[.pointer (some ⟨s, 0, none⟩)] w fun e w' => e = .returned (.int .i64 P.flatten.length) ∧ Fr No w w' := by
  obtain ⟨A, c, h1, h2⟩ := h.hdrs
  have hal := all_val A _ c (h1 w (Fr.refl _ _))
  have hlen := hi.len
  have H2 := Lib.hid h2
  obtain ⟨z, Hz⟩ : ∃ z, Hid (z = P.length) := ⟨_, Lib.hid rfl⟩
  have hz : z ≤ 1000 := by rw [Hz.out]; exact hlen.2
  have hfl := fun j => flat_take_le P j
  have Hfl := Lib.hid (fun j => Nat.le_trans (hfl j) hlen.1)
  rw [← Hz.out] at hal
  clear h1 h2 h hfl hlen
  go_enter Try.func24, Try.ntmps24
  go_wp2_with fail
  refine hal.mono ?_
  rintro e w1 ⟨rfl, rfl⟩
  go_wp2
  go_loopw [3, 9] (fun nv iv wr => ∃ j : Nat, j ≤ z ∧ iv = .int .i64 j ∧ nv = .int .i64 ((P.take j).flatten.length : Nat) ∧ Fr No w1 wr) (fun _ i _ => z - (intOf i).toNat)
  case atStart => exact ⟨0, by omega, rfl, rfl, Fr.refl _ _⟩
  case round =>
    obtain ⟨j, hj, rfl, rfl, hfr⟩ := hrel
    by_cases hlt : j < z
    · have hjP : j < P.length := by rw [← Hz.out]; exact hlt
      obtain ⟨q, o, x, rfl, hc, hp⟩ := H2.out wr hfr j hjP
      have hxl : Hid ((P.take (j + 1)).flatten.length = (P.take j).flatten.length + x.n) := Lib.hid (by rw [flat_snoc P j hjP, List.length_append, hp.len])
      have hb1 := Hfl.out j
      have hb2 := Hfl.out (j + 1)
      rw [hxl.out] at hb2
      generalize (P.take j).flatten.length = m at *
      obtain ⟨xg, xo, xn, xc⟩ := x
      unfold Pgh.val at hc
      simp only at hc hxl hb2
      have hf2 := hfr.alloc (.cells #[.slice (some ⟨xg, xo, none⟩) xn xc] 72)
      clear hp hfr
      go_wp2
      go_roundw
      case rel => exact ⟨j + 1, by omega, by go_num, by rw [hxl.out]; rfl, hf2⟩
      case measure => simp [intOf]; omega
    · have hjz : j = P.length := by rw [← Hz.out]; omega
      subst hjz
      rw [List.take_length]
      go_wp2
      go_ret
      exact ⟨rfl, hfr⟩
theorem pLen_nil (w : World) : Calls Try.prog 24 #[.pointer none] w fun e w' => e = .returned (.int .i64 0) ∧ Fr No w w' := by
  have hal := pAll_nil w
  go_enter Try.func24, Try.ntmps24
  go_wp2_with fail
  refine hal.mono ?_
  rintro e w1 ⟨rfl, rfl⟩
  go_wp2
  go_loopw [3, 9] (fun nv iv wr => iv = .int .i64 0 ∧ nv = .int .i64 0 ∧ Fr No w1 wr) (fun _ _ _ => 0)
  case atStart => exact ⟨rfl, rfl, Fr.refl _ _⟩
  case round =>
    obtain ⟨rfl, rfl, hfr⟩ := hrel
    go_wp2
    go_ret
    exact ⟨rfl, hfr⟩

theorem info_int : (Try.prog.info? 3).map (fun i => (i.zero, i.size, i.bytes)) = some (some (.int .i64 0), 1, 8) := by kernel_rfl
set_option maxHeartbeats 4000000 in
set_option maxRecDepth 100000 in
theorem pPages_any (hi : InvP P) (h : PS w S s P) : Calls Try.prog 23 #[.pointer (some ⟨s, 0, none⟩)] w fun e w' => ∃ A c, e = .returned (.slice A P.length c) ∧ Sl w' w'.heap.size A (P.map fun q => Value.int .i64 (headK q : Int)) ∧ Fr No w w' := by
  obtain ⟨A, c, h1, h2⟩ := h.hdrs
  have hal := all_val A _ c (h1 w (Fr.refl _ _))
  have hlen := hi.len
  have H2 := Lib.hid h2
  have H1 := Lib.hid hi.one
  obtain ⟨z, Hz⟩ : ∃ z, Hid (z = P.length) := ⟨_, Lib.hid rfl⟩
  have hz : z ≤ 1000 := by rw [Hz.out]; exact hlen.2
  rw [← Hz.out] at hal ⊢
  clear h1 h2 h hlen
  go_enter Try.func23, Try.ntmps23
  go_wp2_with fail
  refine hal.mono ?_
  rintro e w1 ⟨rfl, rfl⟩
  go_wp2
  go_loopw [3, 9] (fun lv iv wr => ∃ (j : Nat) (B : Option Addr) (cb : Nat), j ≤ z ∧ iv = .int .i64 j ∧ lv = .slice B j cb ∧ wr.ownsRow w1.heap.size 3 1 (.slice B j cb) j ((P.take j).map fun q => Value.int .i64 (headK q : Int)) ∧ Fr No w1 wr) (fun _ i _ => z - (intOf i).toNat)
  case atStart => exact ⟨0, none, 0, by omega, rfl, rfl, World.ownsRow_nil _ _ _ _, Fr.refl _ _⟩
  case round =>
    obtain ⟨j, B, cb, hj, rfl, rfl, hown, hfr⟩ := hrel
    by_cases hlt : j < z
    · have hjP : j < P.length := by rw [← Hz.out]; exact hlt
      obtain ⟨q, o, x, rfl, hc, hp⟩ := H2.out wr hfr j hjP
      have h1 := (H1.out _ (List.getElem_mem hjP)).1
      have hgP := (Fr.refl No wr).alloc (.cells #[Pgh.val x] 72)
      have hpr := ((hp.since hgP).pair (i := 0) h1).1
      rw [← headK_at h1] at hpr
      simp only [Nat.zero_mul, Nat.add_zero] at hpr
      have hxl : Hid ((P.take (j + 1)).map (fun q => Value.int .i64 (headK q : Int)) = (P.take j).map (fun q => Value.int .i64 (headK q : Int)) ++ [.int .i64 (headK P[j] : Int)]) := Lib.hid (by rw [List.take_succ_eq_append_getElem hjP, List.map_append]; rfl)
      have hn0 : 0 < x.n := by rw [hp.len]; exact h1
      generalize headK P[j] = k at *
      obtain ⟨xg, xo, xn, xc⟩ := x
      unfold Pgh.val at hc hpr
      simp only at hc hpr hn0
      have hf2 := hfr.alloc (.cells #[.slice (some ⟨xg, xo, none⟩) xn xc] 72)
      have hown2 := hown.alloc (.cells #[.slice (some ⟨xg, xo, none⟩) xn xc] 72)
      have hcal := pFirst_any xg xo xn xc k _ hn0 hpr
      clear hp hown hfr hgP h1
      go_wp2_with fail
      refine hcal.mono ?_
      rintro e w3 ⟨rfl, rfl⟩
      clear hcal hpr hc
      go_wp2_with (at_builtin; refine wpList_app1 (w0 := w1) rfl _ _ _ rfl 3 (.int .i64 0) 1 8 Try.underlying58 info_int rfl (by omega) (.slice B j cb) j _ #[.int .i64 (k : Int)] rfl (by intro u hu; simp at hu; subst hu; rfl) rfl (wr.heap.size + 1) (by simp) rfl hown2 hf2 (by unfold maxLen; omega) (by omega) ?r1)
      case r1 =>
        intro A2 c2 w4 own4 f4 g4
        clear g4 hown2 hf2
        go_wp2
        go_roundw
        case rel => exact ⟨j + 1, A2, c2, by omega, by go_num, rfl, by rw [hxl.out, List.map_take]; exact own4, f4⟩
        case measure => simp [intOf]; omega
    · have hjz : j = P.length := by rw [← Hz.out]; omega
      have hjz2 : j = z := by omega
      subst hjz2
      rw [show P.take j = P by rw [hjz, List.take_length]] at hown
      have hsl := Sl.ofOwn hown
      clear H2 H1 hown
      go_wp2
      go_ret
      exact ⟨B, cb, rfl, hsl, hfr⟩
theorem pPages_nil (w : World) : Calls Try.prog 23 #[.pointer none] w fun e w' => ∃ A c, e = .returned (.slice A 0 c) ∧ Fr No w w' := by
  have hal := pAll_nil w
  go_enter Try.func23, Try.ntmps23
  go_wp2_with fail
  refine hal.mono ?_
  rintro e w1 ⟨rfl, rfl⟩
  go_wp2
  go_loopw [3, 9] (fun lv iv wr => iv = .int .i64 0 ∧ lv = .slice none 0 0 ∧ Fr No w1 wr) (fun _ _ _ => 0)
  case atStart => exact ⟨rfl, rfl, Fr.refl _ _⟩
  case round =>
    obtain ⟨rfl, rfl, hfr⟩ := hrel
    go_wp2
    go_ret
    exact ⟨none, 0, rfl, hfr⟩
end
end Go.Proofs.Ytenmiociinogeaa
