/- The document's examples of keys; the law 'KeysParts'. -/
import Derived.Test.YthnpgepniiicaaaKeys4
namespace Go.Proofs.Ythnpgepniiicaaa
open Go.RowKit

theorem In4.since {w W : World} {A : Option Addr} {n : Nat} {l : List Span} (h : In4 w A n l) (hf : Fr No w W) : In4 W A n l := ⟨h.sl.since hf, h.len, h.le⟩
theorem Sl.since2 {w W : World} {B : Nat} {A : Option Addr} {xs : List Value} (h : Sl w B A xs) (hf : Fr No w W) (hB : B ≤ w.heap.size) : Sl W B A xs := h.fr hf hB (fun _ _ _ e => e)
theorem plainOf_le (s : Nat → Bool) : (plainOf s).length ≤ 1000 := plainTo_len s 1000
theorem In4.new {w : World} {A : Option Addr} {s : Nat → Bool} (h : Sl w w.heap.size A (sps (plainOf s))) : In4 w A (plainOf s).length (plainOf s) := ⟨h, rfl, by have := plainOf_le s; omega⟩
theorem ex4_one : plainOf (keysOf [(5, 7), (1, 2), (3, 4)]) = [(1, 7)] := by decide +kernel
theorem ex4_two : (plainOf fun k => keysOf [(1, 9)] k && !keysOf [(3, 4)] k) = [(1, 2), (5, 9)] := by decide +kernel

set_option maxRecDepth 100000 in
set_option maxHeartbeats 2000000 in
theorem alive4_any (w : World) : Calls Try.prog 7 #[] w fun e w' => e = .returned (.bool true) ∧ Fr No w w' := by
  go_enter Try.func7, Try.ntmps7
  go_wp2_with fail
  refine (kPlain_any [(5, 7), (1, 2), (3, 4)] _ 3 _ _ ⟨?s1, rfl, by omega⟩).mono ?_
  case s1 => exact (Sl.made w 30 #[.int .i64 5, .int .i64 7, .int .i64 1, .int .i64 2, .int .i64 3, .int .i64 4]).more (by simp)
  rw [ex4_one]
  rintro e w1 ⟨A1, c1, rfl, hs1, hf1⟩
  have g1 := ((Fr.refl No w).alloc _).trans' hf1 (fun _ _ e => e)
  clear hf1
  have m1 := Sl.made w1 30 #[.int .i64 1, .int .i64 9]
  have m2 := Sl.made (w1.alloc (.cells #[.int .i64 1, .int .i64 9] 30)) 30 #[.int .i64 3, .int .i64 4]
  have m1' := m1.since2 ((Fr.refl No _).alloc (.cells #[.int .i64 3, .int .i64 4] 30)) (by simp)
  simp only [World.size_alloc] at m2
  go_wp2_with fail
  refine (kLess_any [(1, 9)] [(3, 4)] _ _ 1 _ 1 _ _ ⟨m1'.more (by simp), rfl, by omega⟩ ⟨m2.more (by simp), rfl, by omega⟩).mono ?_
  rw [ex4_two]
  rintro e w2 ⟨A2, c2, rfl, hs2, hf2⟩
  have g2 := ((g1.alloc _).alloc _).trans' hf2 (fun _ _ e => e)
  have hs1' := hs1.since (((Fr.refl No w1).alloc (.cells #[.int .i64 1, .int .i64 9] 30)).alloc (.cells #[.int .i64 3, .int .i64 4] 30) |>.trans' hf2 (fun _ _ e => e))
  clear hf2 g1 hs1 m1 m2 m1'
  have m3 := Sl.made w2 30 #[.int .i64 1, .int .i64 7]
  go_wp2_with fail
  refine (refSame4_any [(1, 7)] [(1, 7)] A1 _ 1 1 c1 _ _ (hs1'.since ((Fr.refl No w2).alloc _)) (m3.more (by simp)) rfl rfl (by omega) (by omega)).mono ?_
  rintro e w3 ⟨rfl, hf3⟩
  have g3 := (g2.alloc _).trans' hf3 (fun _ _ e => e)
  have hs2' := hs2.since ((Fr.refl No w2).alloc (.cells #[.int .i64 1, .int .i64 7] 30) |>.trans' hf3 (fun _ _ e => e))
  clear hf3 g2 hs2 hs1' m3
  have m4 := Sl.made w3 30 #[.int .i64 1, .int .i64 2, .int .i64 5, .int .i64 9]
  go_wp2_with fail
  refine (refSame4_any [(1, 2), (5, 9)] [(1, 2), (5, 9)] A2 _ 2 2 c2 _ _ (hs2'.since ((Fr.refl No w3).alloc _)) (m4.more (by simp)) rfl rfl (by omega) (by omega)).mono ?_
  rintro e w4 ⟨rfl, hf4⟩
  go_wp2
  go_ret
  exact ⟨rfl, (g3.alloc _).trans' hf4 (fun _ _ e => e)⟩

end Go.Proofs.Ythnpgepniiicaaa
