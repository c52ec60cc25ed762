/- The document's own frames: Number, May, Put. -/
import Derived.Test.YtdmllfjeofiddaaFrm6
import Derived.BigQuiet
namespace Go.Proofs.Ytdmllfjeofiddaa
open Go.RowKit

/-- A frame as it lies there: its kind, its list of words. -/
structure FrV where
  kind : Int
  A : Option Addr
  ws : List Nat
  c : Nat
def FrV.f (x : FrV) : Frm := ⟨x.kind, x.ws⟩
def FrV.cells (x : FrV) : List Value := [.int .i64 x.kind, .slice x.A x.ws.length x.c]
def FrV.agg (x : FrV) : Value := .agg #[.int .i64 x.kind, .slice x.A x.ws.length x.c]
theorem FrV.cells_len (x : FrV) : x.cells.length = 2 := rfl
/-- A frame, its words below block B. -/
structure FrV.Fit (w : World) (B : Nat) (x : FrV) : Prop where
  k1 : -9223372036854775808 ≤ x.kind
  k2 : x.kind < 9223372036854775808
  sl : Sl w B x.A (u64s x.ws)
  lt : ∀ u ∈ x.ws, u < 18446744073709551616
  cap : x.ws.length ≤ x.c
  cap2 : x.c ≤ maxLen
theorem FrV.Fit.since {w W : World} {x : FrV} (h : x.Fit w w.heap.size) (hf : Fr No w W) : x.Fit W W.heap.size := ⟨h.k1, h.k2, h.sl.since hf, h.lt, h.cap, h.cap2⟩
/-- Frames one behind the other, as they lie there. -/
structure Frs (w : World) (A : Option Addr) (xs : List FrV) : Prop where
  sl : Sl w w.heap.size A (xs.flatMap FrV.cells)
  fit : ∀ x ∈ xs, x.Fit w w.heap.size
theorem Frs.since {w W : World} {A : Option Addr} {xs : List FrV} (h : Frs w A xs) (hf : Fr No w W) : Frs W A xs := ⟨h.sl.since hf, fun x hx => (h.fit x hx).since hf⟩
theorem Frs.nil (w : World) (A : Option Addr) : Frs w A [] := ⟨Sl.nil _ _ _, by simp⟩

theorem refNumber_any (n : Int) (w : World) : Calls Try.prog 12 #[.int .i64 n] w fun e w' => e = .returned (.bool (numOk n)) ∧ w = w' := by
  have hd : numOk n = (decide (0 ≤ n) && decide (n < 4294967296)) := by unfold numOk; rw [Bool.decide_and]
  rw [hd]
  by_cases h : 0 ≤ n
  · go_enter Try.func12, Try.ntmps12
    go_wp2
    go_ret
    exact ⟨by simp [h], rfl⟩
  · go_enter Try.func12, Try.ntmps12
    go_wp2
    go_ret
    exact ⟨by simp; omega, rfl⟩

set_option maxHeartbeats 1000000 in
theorem refMay_any (x : FrV) (w : World) : Calls Try.prog 22 #[x.agg] w fun e w' => e = .returned (.bool (frmOk x.f)) ∧ Fr No w w' := by
  obtain ⟨kind, A, ws, c⟩ := x
  have hd : frmOk (FrV.f ⟨kind, A, ws, c⟩) = (decide (0 < kind) && (decide (kind < 256) && decide ((ws.length : Int) < 2001))) := by
    have h3 : decide ((ws.length : Int) < 2001) = decide (ws.length < 2001) := decide_eq_decide.2 (by omega)
    rw [h3, ← Bool.decide_and, ← Bool.decide_and]
    rfl
  rw [hd]
  show Calls _ _ #[Value.agg #[.int .i64 kind, .slice A ws.length c]] _ _
  clear hd
  generalize ws.length = n
  by_cases h : 0 < kind
  · by_cases h2 : kind < 256
    · go_enter Try.func22, Try.ntmps22
      go_wp2
      go_ret
      exact ⟨by simp [h, h2], (Fr.refl _ _).alloc _⟩
    · go_enter Try.func22, Try.ntmps22
      go_wp2
      go_ret
      exact ⟨by simp; omega, (Fr.refl _ _).alloc _⟩
  · go_enter Try.func22, Try.ntmps22
    go_wp2
    go_ret
    exact ⟨by simp; omega, (Fr.refl _ _).alloc _⟩

set_option maxRecDepth 100000 in
set_option maxHeartbeats 2000000 in
theorem refPut_any (ep n : Int) (he : numOk ep = true) (hn : numOk n = true) (x : FrV) (w : World) (hx : x.Fit w w.heap.size) (hl : x.ws.length ≤ 1048574) :
    Calls Try.prog 50 #[.int .i64 ep, .int .i64 n, x.agg] w (NewL w (putW ep n x.f)) := by
  obtain ⟨kind, A, ws, c⟩ := x
  obtain ⟨k1, k2, hsl, hlt, hc1, hc2⟩ := hx
  obtain ⟨e1, e2⟩ := (numOk_iff _).1 he
  obtain ⟨n1, n2⟩ := (numOk_iff _).1 hn
  obtain ⟨E, rfl⟩ := Int.eq_ofNat_of_zero_le e1
  obtain ⟨N, rfl⟩ := Int.eq_ofNat_of_zero_le n1
  simp only at k1 k2 hsl hlt hc1 hc2 hl
  have hlen := putW_len E N (FrV.f ⟨kind, A, ws, c⟩)
  have hp : putW E N (FrV.f ⟨kind, A, ws, c⟩) = [mkW kind ws.length ([E, N] ++ ws)] ++ ws := rfl
  rw [hp] at hlen ⊢
  show Calls _ _ #[_, _, Value.agg #[.int .i64 kind, .slice A ws.length c]] _ _
  clear hp he hn
  generalize hm : ws.length = m at *
  have Hm := Lib.hid hm
  clear hm
  have K1 := Lib.hid k1
  have K2 := Lib.hid k2
  have C2 := Lib.hid hc2
  have H64 := Lib.hid hlt
  clear k1 k2 hc2 hlt
  have hsm := Lib.hid (mkW_lt kind m ([E, N] ++ ws))
  clear hlen
  have fb : Fr No w (w.alloc (.cells #[.int .i64 kind, .slice A m c] 38)) := (Fr.refl _ _).alloc _
  have hown := World.ownsRow_lit (base := w.heap.size) (e := 40) (size := 1) (w.alloc (.cells #[.int .i64 kind, .slice A m c] 38)) #[.int .u64 E, .int .u64 N] 2 (by simp) (by unfold maxLen; omega) rfl
  have f1 : Fr No w ((w.alloc (.cells #[.int .i64 kind, .slice A m c] 38)).alloc (.cells #[.int .u64 E, .int .u64 N] 40)) := fb.alloc _
  have hsl1 := hsl.since f1
  have hsz : (w.alloc (.cells #[.int .i64 kind, .slice A m c] 38)).heap.size = w.heap.size + 1 := by simp
  rw [hsz] at hown
  have b0 : Bk ((w.alloc (.cells #[.int .i64 kind, .slice A m c] 38)).alloc (.cells #[.int .u64 E, .int .u64 N] 40)) w.heap.size 38 #[.int .i64 kind, .slice A m c] := (Bk.made w _ _).fr ((Fr.refl No _).alloc _) (fun e => e)
  go_enter Try.func50, Try.ntmps50
  go_wp2_with (
    at_builtin
    refine append_words rfl _ _ rfl w.heap.size (some ⟨w.heap.size + 1, 0, none⟩) 2 2 [E, N] rfl _ A m c ws rfl Hm.out hsl1 (by simpa [u64s] using hown) (by omega) (by simp; omega) ?_
    intro A1 c1 w1 hown1 hf1 hg1
    have b1 := b0.fr hf1 (by simp [Value.ownBlock])
    have d0 : w1.cell? ⟨w.heap.size, 0, none⟩ = some (.int .i64 kind) := b1.cell 0
    have d1 : w1.cell? ⟨w.heap.size, 1, none⟩ = some (.slice A m c) := b1.cell 1
    have f2 : Fr No w w1 := f1.trans' hf1 (fun b hb e => by simp [Value.ownBlock] at e; omega)
    clear hf1 hg1 b0 f1 fb hown hsl1 hsz)
  have hlt2 : ∀ u ∈ [E, N] ++ ws, u < 18446744073709551616 := by
    intro u hu
    rcases List.mem_append.1 hu with hu | hu
    · simp at hu; omega
    · exact H64.out u hu
  refine (refMark_any kind m K1.out K2.out (by omega) (by omega) ([E, N] ++ ws) hlt2 (2 + m) A1 c1 w1 (Sl.ofOwn hown1) (by simp [Hm.out]; omega) (by omega)).mono ?_
  rintro e w2 ⟨rfl, f3⟩
  have hf : Fr No w w2 := f2.trans' f3 (fun _ _ e => e)
  have b2 := b1.fr f3 (fun e => e)
  have hns : [mkW kind m ([E, N] ++ ws)] ++ ws = mkW kind m ([E, N] ++ ws) :: ws := rfl
  have hn1 : ([mkW kind m ([E, N] ++ ws)] ++ ws).length = 1 + m := by simp [Hm.out]; omega
  simp only [List.cons_append, List.nil_append] at hns hn1 hsm ⊢
  generalize mkW kind m (E :: N :: ws) = M at *
  have b3 : Bk (w2.alloc (.cells #[.int .u64 M] 40)) w.heap.size 38 #[.int .i64 kind, .slice A m c] := b2.fr ((Fr.refl No _).alloc _) (fun e => e)
  have d0 : (w2.alloc (.cells #[.int .u64 M] 40)).cell? ⟨w.heap.size, 0, none⟩ = some (.int .i64 kind) := b3.cell 0
  have d1 : (w2.alloc (.cells #[.int .u64 M] 40)).cell? ⟨w.heap.size, 1, none⟩ = some (.slice A m c) := b3.cell 1
  have hown := World.ownsRow_lit (base := w.heap.size) (e := 40) (size := 1) w2 #[.int .u64 M] 1 hf.size (by unfold maxLen; omega) rfl
  have f4 : Fr No w (w2.alloc (.cells #[.int .u64 M] 40)) := hf.alloc _
  have hsl1 := hsl.since f4
  go_wp2_with (
    at_builtin
    refine append_words rfl _ _ rfl w.heap.size (some ⟨w2.heap.size, 0, none⟩) 1 1 [M] rfl _ A m c ws rfl Hm.out hsl1 (by simpa [u64s] using hown) (by omega) (by have := hf.size; simp; omega) ?_
    intro A2 c2 w3 hown2 hf2 hg2
    have f5 : Fr No w w3 := f4.trans' hf2 (fun b hb e => by have := hf.size; simp [Value.ownBlock] at e; omega)
    clear hf2 hg2)
  go_ret
  refine ⟨A2, c2, ?_, ?_, f5⟩
  · rw [hn1]
    rfl
  · rw [hn1]
    exact hown2
end Go.Proofs.Ytdmllfjeofiddaa
