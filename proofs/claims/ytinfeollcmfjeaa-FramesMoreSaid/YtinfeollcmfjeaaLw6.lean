/- The laws on frames: the document's example, lists that are too great; one frame as a list. -/
import Derived.Test.YtinfeollcmfjeaaStr6
namespace Go.Proofs.Ytinfeollcmfjeaa
open Go.RowKit

theorem frs_one (w : World) (x : FrV) (h : x.Fit w w.heap.size) : Frs (w.alloc (.cells #[.int .i64 x.kind, .slice x.A x.ws.length x.c] 24)) (some ⟨w.heap.size, 0, none⟩) [x] := by
  refine ⟨?_, fun y hy => ?_⟩
  · have := (Sl.made w 24 #[.int .i64 x.kind, .slice x.A x.ws.length x.c])
    rw [← World.size_alloc w (.cells #[.int .i64 x.kind, .slice x.A x.ws.length x.c] 24)] at this
    simpa [FrV.cells] using this
  · rw [List.mem_singleton.1 hy]
    exact h.since ((Fr.refl _ _).alloc _)

theorem mark_ex : putP 0 0 ⟨1, [5, 6]⟩ = [mkW 1 2 [0, 0, 5, 6], 5, 6] := by
  have h1 : frmOk ⟨1, [5, 6]⟩ = true := by decide
  have h2 : numOk 0 = true := by decide
  unfold putP
  rw [if_pos ⟨h1, h2, h2⟩]
  rfl
set_option maxHeartbeats 1000000 in
theorem alive6_any (w : World) : Calls Try.prog 7 #[] w fun e w' => e = .returned (.bool true) ∧ Fr No w w' := by
  have f1 : Fr No w (w.alloc (.cells #[.int .u64 5, .int .u64 6] 43)) := (Fr.refl _ _).alloc _
  have hsl : Sl (w.alloc (.cells #[.int .u64 5, .int .u64 6] 43)) (w.alloc (.cells #[.int .u64 5, .int .u64 6] 43)).heap.size (some ⟨w.heap.size, 0, none⟩) (u64s [5, 6]) := by
    rw [World.size_alloc]
    exact Sl.made w 43 #[.int .u64 5, .int .u64 6]
  have H := put_any 0 0 (by omega) (by omega) ⟨1, some ⟨w.heap.size, 0, none⟩, [5, 6], 2⟩ _ ⟨by simp, by simp, hsl, (by intro u hu; simp at hu; omega), by simp, by simp [maxLen]⟩
  simp only [FrV.agg, FrV.f, List.length_cons, List.length_nil] at H
  rw [mark_ex] at H
  have Hp := Lib.hid H
  clear H hsl
  generalize mkW 1 2 [0, 0, 5, 6] = M at *
  go_enter Try.func7, Try.ntmps7
  go_wp2_with fail
  refine Hp.out.mono ?_
  rintro e w1 ⟨A, c, rfl, hown, f2⟩
  obtain ⟨g, cap, hv, _⟩ := hown.form (by simp)
  simp only [Value.slice.injEq] at hv
  obtain ⟨rfl, -, rfl⟩ := hv
  have c1 : w1.cell? ⟨g, 1, none⟩ = some (.int .u64 5) := hown.cells (g := g) rfl 1 _ rfl
  have c2 : w1.cell? ⟨g, 2, none⟩ = some (.int .u64 6) := hown.cells (g := g) rfl 2 _ rfl
  have hf := f1.trans' f2 (fun _ _ e => e)
  clear hown Hp f1 f2
  simp only [List.length_cons, List.length_nil]
  go_wp2
  go_ret
  exact ⟨rfl, hf⟩

/-- A list that isn't too great has few frames, none of many words. -/
def Great6 (xs : List FrV) (n : Nat) (e : Ending) : Prop := ∃ b : Bool, e = .returned (.bool b) ∧ (b = false → n ≤ 30 ∧ ∀ x ∈ xs, x.ws.length ≤ 2100)
set_option maxHeartbeats 1000000 in
theorem great6_any (xs : List FrV) (A : Option Addr) (n c : Nat) (w : World) (h : Frs w A xs) (hn : xs.length = n) (hn1 : n ≤ 9223372036854775807) :
    Calls Try.prog 8 #[.slice A n c] w fun e w' => Great6 xs n e ∧ w' = w := by
  have Hn := Lib.hid hn
  clear hn
  go_enter Try.func8, Try.ntmps8
  go_wp2
  go_loop [3] (fun i => ∃ k : Nat, k ≤ n ∧ i = .int .i64 k ∧ Hid (∀ x ∈ xs.take k, x.ws.length ≤ 2100)) (fun i => n - (intOf i).toNat)
  case atStart => exact ⟨0, Nat.zero_le _, rfl, Lib.hid (by simp)⟩
  case round =>
    obtain ⟨k, hk, rfl, Hk⟩ := hrel
    by_cases hlt : k < n
    · have hkx : k < xs.length := by rw [Hn.out]; exact hlt
      obtain ⟨ad, rfl, -, x0, x1⟩ := h.at hkx
      have Htk : Hid (xs.take (k + 1) = xs.take k ++ [xs[k]]) := Lib.hid (List.take_succ_eq_append_getElem hkx)
      generalize xs[k] = x at *
      obtain ⟨xk, xA, xw, xc⟩ := x
      simp only at x0 x1
      obtain ⟨m, Hm⟩ : ∃ m, Hid (m = xw.length) := ⟨_, Lib.hid rfl⟩
      rw [← Hm.out] at x1
      by_cases hgr : 2100 < m
      · have hd : decide ((2100 : Int) < (m : Int)) = true := by simp; omega
        go_wp2
        go_ret
        exact ⟨⟨true, rfl, by simp⟩, rfl⟩
      · have hd : decide ((2100 : Int) < (m : Int)) = false := by simp; omega
        go_wp2
        go_round
        case rel =>
          refine ⟨k + 1, by omega, by go_num, Lib.hid (fun y hy => ?_)⟩
          rw [Htk.out, List.mem_append, List.mem_singleton] at hy
          rcases hy with hy | rfl
          · exact Hk.out y hy
          · rw [← Hm.out]
            omega
        case measure => simp [intOf]; omega
    · have hall : Hid (∀ x ∈ xs, x.ws.length ≤ 2100) := Lib.hid (by
        have := Hk.out
        rwa [List.take_of_length_le (by rw [Hn.out]; omega)] at this)
      go_wp2
      go_ret
      refine ⟨⟨_, rfl, fun e => ⟨?_, hall.out⟩⟩, rfl⟩
      simp at e
      omega
end Go.Proofs.Ytinfeollcmfjeaa
