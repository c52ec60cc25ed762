/- Package anchor: an anchor's sector. -/
import Derived.Test.YtcjbdoppphjpjaaAnp7
namespace Go.Proofs.Ytcjbdoppphjpjaa
open Go.RowKit

def sectP (x : Anc) : List Nat := if ancOk x = true then ancS x else zSec
theorem ancS_sec {x : Anc} (h : ancOk x = true) : Sec (ancS x) := by
  obtain ⟨h1, h2, h3, h4, h5, h6, h7⟩ := (ancOk_iff _).1 h
  refine ⟨rfl, fun u hu => ?_⟩
  have := ancM_lt x
  simp only [ancS, List.mem_cons, List.not_mem_nil, or_false] at hu
  omega
theorem sectP_sec (x : Anc) : Sec (sectP x) := by
  unfold sectP
  split
  · next h => exact ancS_sec h
  · exact zSec_sec
def zArr : Array Value := #[.int .u64 0, .int .u64 0, .int .u64 0, .int .u64 0, .int .u64 0, .int .u64 0, .int .u64 0, .int .u64 0]
theorem zSec_val : secV zSec = .agg zArr := rfl
set_option maxRecDepth 100000 in
set_option maxHeartbeats 2000000 in
theorem anSector_no (x : Anc) (hi : x.I) (h : ancOk x = false) (w : World) : Calls Try.prog 8 #[x.val] w fun e w' => e = .returned (.tuple #[.agg zArr, .bool false]) ∧ Fr No w w' := by
  have HM : Hid (∀ W, Calls Try.prog 21 #[x.val] W fun e w' => e = .returned (.bool false) ∧ Fr No W w') := Lib.hid (fun W => by
    have := anMay_any x hi W
    rwa [h] at this)
  clear hi h
  obtain ⟨n, e, a, ws⟩ := x
  unfold Anc.val zArr at *
  dsimp only at *
  have b1 := (Bk.made (w.alloc (.cells #[.int .i64 n, .int .i64 e, .int .i64 a, .int .i64 ws] 23)) 25 #[.int .u64 0, .int .u64 0, .int .u64 0, .int .u64 0, .int .u64 0, .int .u64 0, .int .u64 0, .int .u64 0])
  have f1 : Fr No w ((w.alloc (.cells #[.int .i64 n, .int .i64 e, .int .i64 a, .int .i64 ws] 23)).alloc (.cells #[.int .u64 0, .int .u64 0, .int .u64 0, .int .u64 0, .int .u64 0, .int .u64 0, .int .u64 0, .int .u64 0] 25)) := ((Fr.refl _ _).alloc _).alloc _
  rw [World.size_alloc] at b1
  go_enter Try.func8, Try.ntmps8
  go_wp2_with fail
  refine (HM.out _).mono ?_
  rintro e' w1 ⟨rfl, hf⟩
  have b2 := b1.fr hf (fun e => e)
  have f2 := f1.trans' hf (fun _ _ e => e)
  have z0 : w1.cell? ⟨w.heap.size + 1, 0, none⟩ = some (.int .u64 0) := b2.cell 0
  have z1 : w1.cell? ⟨w.heap.size + 1, 1, none⟩ = some (.int .u64 0) := b2.cell 1
  have z2 : w1.cell? ⟨w.heap.size + 1, 2, none⟩ = some (.int .u64 0) := b2.cell 2
  have z3 : w1.cell? ⟨w.heap.size + 1, 3, none⟩ = some (.int .u64 0) := b2.cell 3
  have z4 : w1.cell? ⟨w.heap.size + 1, 4, none⟩ = some (.int .u64 0) := b2.cell 4
  have z5 : w1.cell? ⟨w.heap.size + 1, 5, none⟩ = some (.int .u64 0) := b2.cell 5
  have z6 : w1.cell? ⟨w.heap.size + 1, 6, none⟩ = some (.int .u64 0) := b2.cell 6
  have z7 : w1.cell? ⟨w.heap.size + 1, 7, none⟩ = some (.int .u64 0) := b2.cell 7
  have y0 := b2.frozen 0
  have y1 := b2.frozen 1
  have y2 := b2.frozen 2
  have y3 := b2.frozen 3
  have y4 := b2.frozen 4
  have y5 := b2.frozen 5
  have y6 := b2.frozen 6
  have y7 := b2.frozen 7
  have F2 := Lib.hid f2
  clear HM b1 b2 f1 f2 hf
  go_wp2
  refine bodyPost_ret (v := .tuple #[.agg #[.int .u64 0, .int .u64 0, .int .u64 0, .int .u64 0, .int .u64 0, .int .u64 0, .int .u64 0, .int .u64 0], .bool false]) (by simp [results, Try.results8, go_sem, z0, z1, z2, z3, z4, z5, z6, z7]) rfl ?_
  refine ⟨rfl, ?_⟩
  repeat (first | with_reducible exact F2.out | refine Fr.setCell ?_ (.inr (Nat.le_succ _)) _)
theorem mkOk_9 (n : Int) : mkOk 9 (n % 16777216) = true := by unfold mkOk; simp; omega
set_option maxRecDepth 100000 in
set_option maxHeartbeats 2000000 in
theorem anSector_yes (x : Anc) (h : ancOk x = true) (w : World) : Calls Try.prog 8 #[x.val] w fun e w' => e = .returned (.tuple #[secV (ancS x), .bool true]) ∧ Fr No w w' := by
  have HM : Hid (∀ W, Calls Try.prog 21 #[x.val] W fun e w' => e = .returned (.bool true) ∧ Fr No W w') := Lib.hid (fun W => by
    have := anMay_any x (ancOk_I h) W
    rwa [h] at this)
  obtain ⟨n, e, a, ws⟩ := x
  obtain ⟨h1, h2, h3, h4, h5, h6, h7⟩ := (ancOk_iff _).1 h
  simp only at h1 h2 h3 h4 h5 h6 h7
  obtain ⟨N, rfl⟩ := Int.eq_ofNat_of_zero_le (show 0 ≤ n by omega)
  obtain ⟨E, rfl⟩ := Int.eq_ofNat_of_zero_le h3
  obtain ⟨A, rfl⟩ := Int.eq_ofNat_of_zero_le (show 0 ≤ a by omega)
  obtain ⟨M, rfl⟩ := Int.eq_ofNat_of_zero_le h6
  have hN : N < 4294967296 := by omega
  have hE : E < 4294967296 := by omega
  have hA : A < 2 := by omega
  have hM : M ≤ 1048576 := by omega
  clear h h1 h2 h3 h4 h5 h6 h7
  have Hs : Hid (secV (ancS ⟨N, E, A, M⟩) = .agg #[.int .u64 (mkW 9 ((N : Int) % 16777216) [N, E, A, M] : Nat), .int .u64 N, .int .u64 E, .int .u64 A, .int .u64 M, .int .u64 0, .int .u64 0, .int .u64 0]) := Lib.hid (by
    simp [secV, secA, u64s, ancS, ancM, ancL])
  have hok := mkOk_9 (N : Int)
  have Hk : Hid (∀ W A' c', Sl W W.heap.size A' (u64s [N, E, A, M]) → Calls Try.prog 22 #[.int .i64 9, .int .i64 ((N : Int) % 16777216), .slice A' 4 c'] W fun e w' => e = .returned (.tuple #[.int .u64 (mkW 9 ((N : Int) % 16777216) [N, E, A, M] : Nat), .bool true]) ∧ Fr No W w') :=
    Lib.hid (fun W A' c' hs => by
      have := sumsMark_any 9 ((N : Int) % 16777216) (by omega) (by omega) (by omega) (by omega) [N, E, A, M] (by intro u hu; simp at hu; omega) 4 A' c' W hs rfl (by omega)
      unfold Marked at this
      rwa [hok] at this)
  have Hmod : Hid (Int.tmod (N : Int) 16777216 = (N : Int) % 16777216) := Lib.hid (by rw [Int.tmod_eq_emod_of_nonneg (by omega)])
  rw [Hs.out]
  generalize mkW 9 ((N : Int) % 16777216) [N, E, A, M] = mk at *
  clear hok Hs
  unfold Anc.val at *
  dsimp only at *
  have b0 := (Bk.made w 23 #[.int .i64 (N : Int), .int .i64 (E : Int), .int .i64 (A : Int), .int .i64 (M : Int)]).fr ((Fr.refl No _).alloc (.cells #[.int .u64 0, .int .u64 0, .int .u64 0, .int .u64 0, .int .u64 0, .int .u64 0, .int .u64 0, .int .u64 0] 25)) (fun e => e)
  have b1 := (Bk.made (w.alloc (.cells #[.int .i64 (N : Int), .int .i64 (E : Int), .int .i64 (A : Int), .int .i64 (M : Int)] 23)) 25 #[.int .u64 0, .int .u64 0, .int .u64 0, .int .u64 0, .int .u64 0, .int .u64 0, .int .u64 0, .int .u64 0])
  have f1 : Fr No w ((w.alloc (.cells #[.int .i64 (N : Int), .int .i64 (E : Int), .int .i64 (A : Int), .int .i64 (M : Int)] 23)).alloc (.cells #[.int .u64 0, .int .u64 0, .int .u64 0, .int .u64 0, .int .u64 0, .int .u64 0, .int .u64 0, .int .u64 0] 25)) := ((Fr.refl _ _).alloc _).alloc _
  rw [World.size_alloc] at b1
  go_enter Try.func8, Try.ntmps8
  go_wp2_with fail
  refine (HM.out _).mono ?_
  rintro e' w1 ⟨rfl, hf⟩
  have b2 := b1.fr hf (fun e => e)
  have b3 := b0.fr hf (fun e => e)
  have f2 := f1.trans' hf (fun _ _ e => e)
  have k0 : w1.cell? ⟨w.heap.size, 0, none⟩ = some (.int .i64 (N : Int)) := b3.cell 0
  have k1 : w1.cell? ⟨w.heap.size, 1, none⟩ = some (.int .i64 (E : Int)) := b3.cell 1
  have k2 : w1.cell? ⟨w.heap.size, 2, none⟩ = some (.int .i64 (A : Int)) := b3.cell 2
  have k3 : w1.cell? ⟨w.heap.size, 3, none⟩ = some (.int .i64 (M : Int)) := b3.cell 3
  clear HM b0 b1 f1 hf
  have c1 : (N : Int) % 18446744073709551616 = (N : Int) := by omega
  have c2 : (E : Int) % 18446744073709551616 = (E : Int) := by omega
  have c3 : (A : Int) % 18446744073709551616 = (A : Int) := by omega
  have c4 : (M : Int) % 18446744073709551616 = (M : Int) := by omega
  go_wp2_with fail
  go_quiet (fail)
  have b4 : Bk (w1.drewN nq) (w.heap.size + 1) 25 #[.int .u64 0, .int .u64 0, .int .u64 0, .int .u64 0, .int .u64 0, .int .u64 0, .int .u64 0, .int .u64 0] := b2
  have b5 : Bk (w1.drewN nq) w.heap.size 23 #[.int .i64 (N : Int), .int .i64 (E : Int), .int .i64 (A : Int), .int .i64 (M : Int)] := b3
  have f3 : Fr No w (w1.drewN nq) := f2.drewN nq
  clear k0 k1 k2 k3 b2 b3 f2 c1 c2 c3 c4
  generalize w1.drewN nq = w2 at *
  have k0 : w2.cell? ⟨w.heap.size, 0, none⟩ = some (.int .i64 (N : Int)) := b5.cell 0
  clear b5
  have f4 : Fr No w2 (w2.alloc (.cells #[.int .u64 N, .int .u64 E, .int .u64 A, .int .u64 M] 24)) := (Fr.refl _ _).alloc _
  have hsl : Sl (w2.alloc (.cells #[.int .u64 N, .int .u64 E, .int .u64 A, .int .u64 M] 24)) (w2.alloc (.cells #[.int .u64 N, .int .u64 E, .int .u64 A, .int .u64 M] 24)).heap.size (some ⟨w2.heap.size, 0, none⟩) (u64s [N, E, A, M]) := by
    have := Sl.made w2 24 #[.int .u64 N, .int .u64 E, .int .u64 A, .int .u64 M]
    rw [World.size_alloc]
    exact this
  have hN0 : (0 : Int) ≤ (N : Int) := Int.natCast_nonneg N
  go_wp2_with fail
  refine (Hk.out _ _ _ hsl).mono ?_
  rintro e' w3 ⟨rfl, hf⟩
  have b5 := (b4.fr f4 (fun e => e)).fr hf (fun e => e)
  have f5 := (f3.trans' f4 (fun _ _ e => e)).trans' hf (fun _ _ e => e)
  have z0 : w3.cell? ⟨w.heap.size + 1, 0, none⟩ = some (.int .u64 0) := b5.cell 0
  have z1 : w3.cell? ⟨w.heap.size + 1, 1, none⟩ = some (.int .u64 0) := b5.cell 1
  have z2 : w3.cell? ⟨w.heap.size + 1, 2, none⟩ = some (.int .u64 0) := b5.cell 2
  have z3 : w3.cell? ⟨w.heap.size + 1, 3, none⟩ = some (.int .u64 0) := b5.cell 3
  have z4 : w3.cell? ⟨w.heap.size + 1, 4, none⟩ = some (.int .u64 0) := b5.cell 4
  have z5 : w3.cell? ⟨w.heap.size + 1, 5, none⟩ = some (.int .u64 0) := b5.cell 5
  have z6 : w3.cell? ⟨w.heap.size + 1, 6, none⟩ = some (.int .u64 0) := b5.cell 6
  have z7 : w3.cell? ⟨w.heap.size + 1, 7, none⟩ = some (.int .u64 0) := b5.cell 7
  have y0 := b5.frozen 0
  have y1 := b5.frozen 1
  have y2 := b5.frozen 2
  have y3 := b5.frozen 3
  have y4 := b5.frozen 4
  have y5 := b5.frozen 5
  have y6 := b5.frozen 6
  have y7 := b5.frozen 7
  have F5 := Lib.hid f5
  clear Hk hsl hf f4 f5 f3 b4 b5 k0
  go_wp2
  refine bodyPost_ret (v := .tuple #[.agg #[.int .u64 mk, .int .u64 N, .int .u64 E, .int .u64 A, .int .u64 M, .int .u64 0, .int .u64 0, .int .u64 0], .bool true]) (by simp [results, Try.results8, go_sem, z0, z1, z2, z3, z4, z5, z6, z7]) rfl ?_
  refine ⟨rfl, ?_⟩
  repeat (first | with_reducible exact F5.out | refine Fr.setCell ?_ (.inr (Nat.le_succ _)) _)
end Go.Proofs.Ytcjbdoppphjpjaa
