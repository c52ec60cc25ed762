/- Package frames: which frames may be, which numbers there are, what a mark is of, a frame's words. -/
import Derived.Test.YtdmllfjeofiddaaLsf6
import Derived.Test.YtdmllfjeofiddaaSum6b
namespace Go.Proofs.Ytdmllfjeofiddaa
open Go.RowKit

theorem isNumber_any (n : Int) (h1 : -9223372036854775808 ≤ n) (h2 : n < 9223372036854775808) (w : World) : Calls Try.prog 58 #[.int .i64 n] w fun e w' => e = .returned (.bool (numOk n)) ∧ w = w' := by
  by_cases h : 0 ≤ n
  · obtain ⟨N, rfl⟩ := Int.eq_ofNat_of_zero_le h
    have hd : numOk (N : Int) = decide ((N : Int) ≤ 4294967295) := by unfold numOk; rw [decide_eq_decide]; omega
    rw [hd]
    have hmod : (N : Int) % 18446744073709551616 = (N : Int) := by omega
    go_enter Try.func58, Try.ntmps58
    go_wp2
    go_ret
    exact ⟨by simp, rfl⟩
  · have hd : numOk n = false := by unfold numOk; simp; omega
    rw [hd]
    go_enter Try.func58, Try.ntmps58
    go_wp2
    go_ret
    exact ⟨rfl, rfl⟩

set_option maxHeartbeats 1000000 in
theorem may_any (x : FrV) (w : World) : Calls Try.prog 46 #[x.agg] w fun e w' => e = .returned (.bool (frmOk x.f)) ∧ Fr No w w' := by
  obtain ⟨kind, A, ws, c⟩ := x
  have hd : frmOk (FrV.f ⟨kind, A, ws, c⟩) = (decide (1 ≤ kind) && (decide (kind ≤ 255) && decide ((ws.length : Int) ≤ 2000))) := by
    rw [← Bool.decide_and, ← Bool.decide_and]
    unfold frmOk FrV.f
    rw [decide_eq_decide]
    simp only
    omega
  rw [hd]
  show Calls _ _ #[Value.agg #[.int .i64 kind, .slice A ws.length c]] _ _
  clear hd
  generalize ws.length = n
  by_cases h : 1 ≤ kind
  · by_cases h2 : kind ≤ 255
    · go_enter Try.func46, Try.ntmps46
      go_wp2
      go_ret
      exact ⟨by simp [h, h2], (Fr.refl _ _).alloc _⟩
    · go_enter Try.func46, Try.ntmps46
      go_wp2
      go_ret
      exact ⟨by simp; omega, (Fr.refl _ _).alloc _⟩
  · go_enter Try.func46, Try.ntmps46
    go_wp2
    go_ret
    exact ⟨by simp; omega, (Fr.refl _ _).alloc _⟩

set_option maxRecDepth 100000 in
set_option maxHeartbeats 2000000 in
theorem marked_any (E N : Nat) (hE : E < 4294967296) (hN : N < 4294967296) (ws : List Nat) (m : Nat) (A : Option Addr) (c : Nat) (w : World) (h : Sl w w.heap.size A (u64s ws)) (hm : ws.length = m) (hl : m ≤ 1048574) :
    Calls Try.prog 60 #[.int .i64 E, .int .i64 N, .slice A m c] w fun e w' => ∃ A' c', e = .returned (.slice A' (2 + m) c') ∧ Sl w' w'.heap.size A' (u64s (E :: N :: ws)) ∧ Fr No w w' := by
  have Hm := Lib.hid hm
  clear hm
  have hown := World.ownsRow_lit (base := w.heap.size) (e := 40) (size := 1) w #[.int .u64 E, .int .u64 N] 2 (by simp) (by unfold maxLen; omega) rfl
  have f1 : Fr No w (w.alloc (.cells #[.int .u64 E, .int .u64 N] 40)) := (Fr.refl _ _).alloc _
  have hsl1 := h.since f1
  have e1 : (E : Int) % 18446744073709551616 = (E : Int) := by omega
  have e2 : (N : Int) % 18446744073709551616 = (N : Int) := by omega
  go_enter Try.func60, Try.ntmps60
  go_wp2_with (
    at_builtin
    refine append_words rfl _ _ rfl w.heap.size (some ⟨w.heap.size, 0, none⟩) 2 2 [E, N] rfl _ A m c ws rfl Hm.out hsl1 (by simpa [u64s] using hown) (by omega) (by simp) ?_
    intro A1 c1 w1 hown1 hf1 hg1
    have f2 : Fr No w w1 := f1.trans' hf1 (fun b hb e => by simp [Value.ownBlock] at e; omega)
    clear hf1 hg1 f1 hown hsl1)
  go_ret
  exact ⟨A1, c1, rfl, Sl.ofOwn hown1, f2⟩
end Go.Proofs.Ytdmllfjeofiddaa
/- Package frames: a frame's words. -/
namespace Go.Proofs.Ytdmllfjeofiddaa
open Go.RowKit

/-- A frame's words; none, where it may not be, or a number isn't such. -/
def putP (e n : Int) (f : Frm) : List Nat := if frmOk f = true ∧ numOk e = true ∧ numOk n = true then putW e n f else []
theorem NewL.nil {w w' : World} (h : Fr No w w') : NewL w [] (.returned (.slice none 0 0)) w' := ⟨none, 0, rfl, World.ownsRow_nil _ _ _ _, h⟩

set_option maxRecDepth 100000 in
set_option maxHeartbeats 4000000 in
theorem put_any (ep n : Int) (he : -9223372036854775808 ≤ ep ∧ ep < 9223372036854775808) (hn : -9223372036854775808 ≤ n ∧ n < 9223372036854775808) (x : FrV) (w : World) (hx : x.Fit w w.heap.size) :
    Calls Try.prog 47 #[.int .i64 ep, .int .i64 n, x.agg] w (NewL w (putP ep n x.f)) := by
  have HM : Hid (∀ W, Calls Try.prog 46 #[.agg #[.int .i64 x.kind, .slice x.A x.ws.length x.c]] W fun e w' => e = .returned (.bool (frmOk x.f)) ∧ Fr No W w') := Lib.hid (fun W => may_any x W)
  have HE : Hid (∀ W, Calls Try.prog 58 #[.int .i64 ep] W fun e w' => e = .returned (.bool (numOk ep)) ∧ W = w') := Lib.hid (fun W => isNumber_any ep he.1 he.2 W)
  have HN : Hid (∀ W, Calls Try.prog 58 #[.int .i64 n] W fun e w' => e = .returned (.bool (numOk n)) ∧ W = w') := Lib.hid (fun W => isNumber_any n hn.1 hn.2 W)
  have bx : Bk (w.alloc (.cells #[.int .i64 x.kind, .slice x.A x.ws.length x.c] 38)) w.heap.size 38 #[.int .i64 x.kind, .slice x.A x.ws.length x.c] := Bk.made w _ _
  have f0 : Fr No w (w.alloc (.cells #[.int .i64 x.kind, .slice x.A x.ws.length x.c] 38)) := (Fr.refl _ _).alloc _
  show Calls _ _ #[_, _, Value.agg #[.int .i64 x.kind, .slice x.A x.ws.length x.c]] _ _
  cases h1 : frmOk x.f with
  | false =>
    have Hp : Hid (putP ep n x.f = []) := Lib.hid (by unfold putP; rw [if_neg]; rintro ⟨c, -⟩; rw [h1] at c; cases c)
    rw [Hp.out]
    rw [h1] at HM
    clear h1 HE HN hx Hp
    obtain ⟨kind, A, ws, c⟩ := x
    simp only at *
    generalize ws.length = m at *
    go_enter Try.func47, Try.ntmps47
    go_wp2_with fail
    refine (HM.out _).mono ?_
    rintro e w1 ⟨rfl, f1⟩
    have f2 := f0.trans' f1 (fun _ _ e => e)
    go_wp2
    go_ret
    exact NewL.nil f2
  | true =>
    rw [h1] at HM
    cases h2 : numOk ep with
    | false =>
      have Hp : Hid (putP ep n x.f = []) := Lib.hid (by unfold putP; rw [if_neg]; rintro ⟨-, c, -⟩; rw [h2] at c; cases c)
      rw [Hp.out]
      rw [h2] at HE
      clear h1 h2 HN hx Hp
      obtain ⟨kind, A, ws, c⟩ := x
      simp only at *
      generalize ws.length = m at *
      go_enter Try.func47, Try.ntmps47
      go_wp2_with fail
      refine (HM.out _).mono ?_
      rintro e w1 ⟨rfl, f1⟩
      have f2 := f0.trans' f1 (fun _ _ e => e)
      go_wp2_with fail
      refine (HE.out _).mono ?_
      rintro e w2 ⟨rfl, rfl⟩
      go_wp2
      go_ret
      exact NewL.nil f2
    | true =>
      cases h3 : numOk n with
      | false =>
        have Hp : Hid (putP ep n x.f = []) := Lib.hid (by unfold putP; rw [if_neg]; rintro ⟨-, -, c⟩; rw [h3] at c; cases c)
        rw [Hp.out]
        rw [h2] at HE
        rw [h3] at HN
        clear h1 h2 h3 hx Hp
        obtain ⟨kind, A, ws, c⟩ := x
        simp only at *
        generalize ws.length = m at *
        go_enter Try.func47, Try.ntmps47
        go_wp2_with fail
        refine (HM.out _).mono ?_
        rintro e w1 ⟨rfl, f1⟩
        have f2 := f0.trans' f1 (fun _ _ e => e)
        go_wp2_with fail
        refine (HE.out _).mono ?_
        rintro e w2 ⟨rfl, rfl⟩
        go_wp2_with fail
        refine (HN.out _).mono ?_
        rintro e w2 ⟨rfl, rfl⟩
        go_wp2
        go_ret
        exact NewL.nil f2
      | true =>
        have Hp : Hid (putP ep n x.f = putW ep n x.f) := Lib.hid (by unfold putP; rw [if_pos ⟨h1, h2, h3⟩])
        rw [Hp.out]
        rw [h2] at HE
        rw [h3] at HN
        obtain ⟨a1, a2, a3⟩ := (frmOk_iff _).1 h1
        obtain ⟨E, rfl⟩ := Int.eq_ofNat_of_zero_le ((numOk_iff _).1 h2).1
        obtain ⟨N, rfl⟩ := Int.eq_ofNat_of_zero_le ((numOk_iff _).1 h3).1
        have hE := ((numOk_iff _).1 h2).2
        have hN := ((numOk_iff _).1 h3).2
        clear h1 h2 h3 Hp he hn
        obtain ⟨kind, A, ws, c⟩ := x
        simp only [FrV.f] at *
        have hp : putW E N ⟨kind, ws⟩ = mkW kind ws.length (E :: N :: ws) :: ws := rfl
        rw [hp]
        have Hsl : Hid (∀ W, Fr No w W → Sl W W.heap.size A (u64s ws)) := Lib.hid (fun W hW => hx.sl.since hW)
        have Hlt : Hid (∀ u ∈ E :: N :: ws, u < 18446744073709551616) := Lib.hid (by
          intro u hu
          simp only [List.mem_cons] at hu
          rcases hu with rfl | rfl | hu
          · omega
          · omega
          · exact hx.lt u hu)
        have hcm : c ≤ 9223372036854775807 := hx.cap2
        have hcl := hx.cap
        simp only at hcl
        clear hx hp
        obtain ⟨m, Hm⟩ : ∃ m, Hid (ws.length = m) := ⟨_, Lib.hid rfl⟩
        rw [Hm.out] at a3 hcl bx f0 HM ⊢
        have Hmk : Hid (∀ W, Fr No w W → Calls Try.prog 60 #[.int .i64 (E : Int), .int .i64 (N : Int), .slice A m c] W fun e w' => ∃ A' c', e = .returned (.slice A' (2 + m) c') ∧ Sl w' w'.heap.size A' (u64s (E :: N :: ws)) ∧ Fr No W w') :=
          Lib.hid (fun W hW => marked_any E N (by omega) (by omega) ws m A c W (Hsl.out W hW) Hm.out (by omega))
        have Hsm : Hid (∀ W A' c', Sl W W.heap.size A' (u64s (E :: N :: ws)) → Calls Try.prog 59 #[.int .i64 kind, .int .i64 (m : Int), .slice A' (2 + m) c'] W (Marked W kind m (E :: N :: ws))) :=
          Lib.hid (fun W A' c' hs => sumsMark_any kind m (by omega) (by omega) (by omega) (by omega) (E :: N :: ws) Hlt.out (2 + m) A' c' W hs (by simp [Hm.out]; omega) (by omega))
        go_enter Try.func47, Try.ntmps47
        go_wp2_with fail
        refine (HM.out _).mono ?_
        rintro e w1 ⟨rfl, f1⟩
        have f2 := f0.trans' f1 (fun _ _ e => e)
        have b2 := bx.fr f1 (fun e => e)
        clear f0 f1 bx
        go_wp2_with fail
        refine (HE.out _).mono ?_
        rintro e w2 ⟨rfl, rfl⟩
        go_wp2_with fail
        refine (HN.out _).mono ?_
        rintro e w2 ⟨rfl, rfl⟩
        obtain ⟨b, Hb⟩ : ∃ b, Hid (b = w.heap.size) := ⟨_, Lib.hid rfl⟩
        rw [← Hb.out] at b2 ⊢
        have Hcell : Hid (∀ W, Fr No w1 W → W.cell? ⟨b, 0, none⟩ = some (.int .i64 kind) ∧ W.cell? ⟨b, 1, none⟩ = some (.slice A m c)) := Lib.hid (fun W hW =>
          ⟨(b2.fr hW (fun e => e)).cell 0, (b2.fr hW (fun e => e)).cell 1⟩)
        obtain ⟨k0, k1⟩ := Hcell.out w1 (Fr.refl _ _)
        have F2 := Lib.hid f2
        have B2 := Lib.hid b2
        clear f2 b2 HM HE HN Hlt
        go_wp2_with fail
        go_region_held3 (fun w' => w'.cell? ⟨b, 0, none⟩ = some (.int .i64 kind) ∧ w'.cell? ⟨b, 1, none⟩ = some (.slice A m c)) (first
          | exact Hcell.out _ F6
          | exact Hcell.out _ F5
          | go_keep)
          (first
           | (go_at_call 59
              refine (Hsm.out _ _ _ (hs5.since (by first | exact Fr.refl _ _ | exact (Fr.refl _ _).drew | exact (Fr.refl _ _).drewN _))).mono ?_
              rintro e w6 ⟨rfl, f6⟩
              have F6 : Fr No w1 w6 := Fr.trans' (Fr.trans' F5 (by first | exact Fr.refl _ _ | exact (Fr.refl _ _).drew | exact (Fr.refl _ _).drewN _) (fun _ _ e => e)) f6 (fun _ _ e => e))
           | (go_at_call 60
              refine (Hmk.out _ (Fr.trans' F2.out (by first | exact Fr.refl _ _ | exact (Fr.refl _ _).drew | exact (Fr.refl _ _).drewN _) (fun _ _ e => e))).mono ?_
              rintro e w5 ⟨A5, c5, rfl, hs5, f5⟩
              have F5 : Fr No w1 w5 := Fr.trans' (by first | exact Fr.refl _ _ | exact (Fr.refl _ _).drew | exact (Fr.refl _ _).drewN _) f5 (fun _ _ e => e)))
        have hf : Fr No w w6 := F2.out.trans' F6 (fun _ _ e => e)
        have b6 := B2.out.fr F6 (fun e => e)
        clear Hmk Hsm Hcell k0 k1 f5 f6 F5 F6 hs5 hE hN
        have hsm := Lib.hid (mkW_lt kind m (E :: N :: ws))
        generalize mkW kind m (E :: N :: ws) = M at *
        have hn1 : Hid ((M :: ws).length = 1 + m) := Lib.hid (by simp [Hm.out]; omega)
        have b3 : Bk (w6.alloc (.cells #[.int .u64 M] 40)) b 38 #[.int .i64 kind, .slice A m c] := b6.fr ((Fr.refl No _).alloc _) (fun e => e)
        have d0 : (w6.alloc (.cells #[.int .u64 M] 40)).cell? ⟨b, 0, none⟩ = some (.int .i64 kind) := b3.cell 0
        have d1 : (w6.alloc (.cells #[.int .u64 M] 40)).cell? ⟨b, 1, none⟩ = some (.slice A m c) := b3.cell 1
        have hown := World.ownsRow_lit (base := w.heap.size) (e := 40) (size := 1) w6 #[.int .u64 M] 1 hf.size (by unfold maxLen; omega) rfl
        have f4 : Fr No w (w6.alloc (.cells #[.int .u64 M] 40)) := hf.alloc _
        have hsl1 := Hsl.out _ f4
        go_wp2_with (
          at_builtin
          refine append_words rfl _ _ rfl w.heap.size (some ⟨w6.heap.size, 0, none⟩) 1 1 [M] rfl _ A m c ws rfl Hm.out hsl1 (by simpa [u64s] using hown) (by omega) (by have := hf.size; simp; omega) ?_
          intro A2 c2 w3 hown2 hf2 hg2
          have f5 : Fr No w w3 := f4.trans' hf2 (fun b hb e => by have := hf.size; simp [Value.ownBlock] at e; omega)
          clear hf2 hg2)
        go_ret
        refine ⟨A2, c2, ?_, ?_, f5⟩
        · rw [hn1.out]
          rfl
        · rw [hn1.out]
          exact hown2
end Go.Proofs.Ytdmllfjeofiddaa
