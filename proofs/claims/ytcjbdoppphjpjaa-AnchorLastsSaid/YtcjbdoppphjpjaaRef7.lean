/- The document's own anchors: May, Sector. -/
import Derived.Test.YtcjbdoppphjpjaaAnc7
import Derived.BigQuiet
import Derived.Deep.RegionHeld3
namespace Go.Proofs.Ytcjbdoppphjpjaa
open Go.RowKit

theorem val_bool {a b : Bool} (h : a = true ↔ b = true) : Ending.returned (Value.bool a) = Ending.returned (Value.bool b) := by rw [Bool.eq_iff_iff.2 h]
set_option maxHeartbeats 2000000 in
theorem refMay7_any (x : Anc) (w : World) : Calls Try.prog 11 #[x.val] w fun e w' => e = .returned (.bool (ancOk x)) ∧ Fr No w w' := by
  obtain ⟨n, e, a, ws⟩ := x
  obtain ⟨bk, Hbk⟩ : ∃ bk, Hid (bk = ancOk ⟨n, e, a, ws⟩) := ⟨_, Lib.hid rfl⟩
  have Hiff : Hid (bk = true ↔ 1 ≤ n ∧ n < 4294967296 ∧ 0 ≤ e ∧ e < 4294967296 ∧ (a = 0 ∨ a = 1) ∧ 0 ≤ ws ∧ ws ≤ 1048576) := Lib.hid (by rw [Hbk.out]; exact ancOk_iff _)
  rw [← Hbk.out]
  unfold Anc.val
  dsimp only
  clear Hbk
  go_enter Try.func11, Try.ntmps11
  go_wp2
  all_goals
    go_ret
    refine ⟨val_bool ?_, (Fr.refl _ _).alloc _⟩
    rw [Hiff.out]
    simp
    try omega

set_option maxRecDepth 100000 in
set_option maxHeartbeats 2000000 in
theorem refSector7_any (x : Anc) (h : ancOk x = true) (w : World) : Calls Try.prog 12 #[x.val] w fun e w' => e = .returned (secV (ancS x)) ∧ Fr No w w' := by
  obtain ⟨n, e, a, ws⟩ := x
  obtain ⟨h1, h2, h3, h4, h5, h6, h7⟩ := (ancOk_iff _).1 h
  simp only at h1 h2 h3 h4 h5 h6 h7
  obtain ⟨N, rfl⟩ := Int.eq_ofNat_of_zero_le (show 0 ≤ n by omega)
  obtain ⟨E, rfl⟩ := Int.eq_ofNat_of_zero_le h3
  obtain ⟨A, rfl⟩ := Int.eq_ofNat_of_zero_le (show 0 ≤ a by omega)
  obtain ⟨M, rfl⟩ := Int.eq_ofNat_of_zero_le h6
  have hN : N < 4294967296 := by omega
  have hE : E < 4294967296 := by omega
  have hA : A < 2 := by omega
  have hM : M ≤ 1048576 := by omega
  clear h h1 h2 h3 h4 h5 h6 h7
  have c1 : (N : Int) % 18446744073709551616 = (N : Int) := by omega
  have c2 : (E : Int) % 18446744073709551616 = (E : Int) := by omega
  have c3 : (A : Int) % 18446744073709551616 = (A : Int) := by omega
  have c4 : (M : Int) % 18446744073709551616 = (M : Int) := by omega
  have Hs : Hid (secV (ancS ⟨N, E, A, M⟩) = .agg #[.int .u64 (mkW 9 ((N : Int) % 16777216) [N, E, A, M] : Nat), .int .u64 N, .int .u64 E, .int .u64 A, .int .u64 M, .int .u64 0, .int .u64 0, .int .u64 0]) := Lib.hid (by
    simp [secV, secA, u64s, ancS, ancM, ancL])
  have Hk : Hid (∀ W A' c', Sl W W.heap.size A' (u64s [N, E, A, M]) → Calls Try.prog 23 #[.int .i64 9, .int .i64 ((N : Int) % 16777216), .slice A' 4 c'] W fun e w' => e = .returned (.tuple #[.int .u64 (mkW 9 ((N : Int) % 16777216) [N, E, A, M] : Nat), .bool (mkOk 9 ((N : Int) % 16777216))]) ∧ Fr No W w') :=
    Lib.hid (fun W A' c' hs => refMark_any 9 ((N : Int) % 16777216) (by omega) (by omega) (by omega) (by omega) [N, E, A, M] (by intro u hu; simp at hu; omega) 4 A' c' W hs rfl (by omega))
  rw [Hs.out]
  generalize mkW 9 ((N : Int) % 16777216) [N, E, A, M] = mk at *
  generalize mkOk 9 ((N : Int) % 16777216) = ok at *
  unfold Anc.val
  dsimp only
  clear Hs
  go_enter Try.func12, Try.ntmps12
  have f1 : Fr No w (((w.alloc (.cells #[.int .i64 N, .int .i64 E, .int .i64 A, .int .i64 M] 23)).alloc (.cells #[.int .u64 0, .int .u64 0, .int .u64 0, .int .u64 0, .int .u64 0, .int .u64 0, .int .u64 0, .int .u64 0] 25)).alloc (.cells #[.int .u64 N, .int .u64 E, .int .u64 A, .int .u64 M] 24)) := (((Fr.refl _ _).alloc _).alloc _).alloc _
  have hsl : Sl (((w.alloc (.cells #[.int .i64 N, .int .i64 E, .int .i64 A, .int .i64 M] 23)).alloc (.cells #[.int .u64 0, .int .u64 0, .int .u64 0, .int .u64 0, .int .u64 0, .int .u64 0, .int .u64 0, .int .u64 0] 25)).alloc (.cells #[.int .u64 N, .int .u64 E, .int .u64 A, .int .u64 M] 24)) (((w.alloc (.cells #[.int .i64 N, .int .i64 E, .int .i64 A, .int .i64 M] 23)).alloc (.cells #[.int .u64 0, .int .u64 0, .int .u64 0, .int .u64 0, .int .u64 0, .int .u64 0, .int .u64 0, .int .u64 0] 25)).alloc (.cells #[.int .u64 N, .int .u64 E, .int .u64 A, .int .u64 M] 24)).heap.size (some ⟨w.heap.size + 1 + 1, 0, none⟩) (u64s [N, E, A, M]) := by
    have := Sl.made ((w.alloc (.cells #[.int .i64 N, .int .i64 E, .int .i64 A, .int .i64 M] 23)).alloc (.cells #[.int .u64 0, .int .u64 0, .int .u64 0, .int .u64 0, .int .u64 0, .int .u64 0, .int .u64 0, .int .u64 0] 25)) 24 #[.int .u64 N, .int .u64 E, .int .u64 A, .int .u64 M]
    rw [World.size_alloc, World.size_alloc] at this
    rw [World.size_alloc, World.size_alloc, World.size_alloc]
    exact this
  have HR := Lib.hid (fun W (hW : Fr No ((w.alloc (.cells #[.int .i64 N, .int .i64 E, .int .i64 A, .int .i64 M] 23)).alloc (.cells #[.int .u64 0, .int .u64 0, .int .u64 0, .int .u64 0, .int .u64 0, .int .u64 0, .int .u64 0, .int .u64 0] 25)) W) => (show Bk W (w.heap.size + 1) 25 #[.int .u64 0, .int .u64 0, .int .u64 0, .int .u64 0, .int .u64 0, .int .u64 0, .int .u64 0, .int .u64 0] from by
    have := (Bk.made (w.alloc (.cells #[.int .i64 N, .int .i64 E, .int .i64 A, .int .i64 M] 23)) 25 #[.int .u64 0, .int .u64 0, .int .u64 0, .int .u64 0, .int .u64 0, .int .u64 0, .int .u64 0, .int .u64 0]).fr hW (fun e => e)
    rwa [World.size_alloc] at this))
  have HL := Lib.hid (fun W (hW : Fr No (((w.alloc (.cells #[.int .i64 N, .int .i64 E, .int .i64 A, .int .i64 M] 23)).alloc (.cells #[.int .u64 0, .int .u64 0, .int .u64 0, .int .u64 0, .int .u64 0, .int .u64 0, .int .u64 0, .int .u64 0] 25)).alloc (.cells #[.int .u64 N, .int .u64 E, .int .u64 A, .int .u64 M] 24)) W) => (show Bk W (w.heap.size + 1 + 1) 24 #[.int .u64 N, .int .u64 E, .int .u64 A, .int .u64 M] from by
    have := (Bk.made ((w.alloc (.cells #[.int .i64 N, .int .i64 E, .int .i64 A, .int .i64 M] 23)).alloc (.cells #[.int .u64 0, .int .u64 0, .int .u64 0, .int .u64 0, .int .u64 0, .int .u64 0, .int .u64 0, .int .u64 0] 25)) 24 #[.int .u64 N, .int .u64 E, .int .u64 A, .int .u64 M]).fr hW (fun e => e)
    rwa [World.size_alloc, World.size_alloc] at this))
  have F1 := Lib.hid f1
  go_wp2_with fail
  refine (Hk.out _ _ _ hsl).mono ?_
  rintro e w2 ⟨rfl, f2⟩
  have bL := HL.out w2 f2
  have bR := HR.out w2 (((Fr.refl No _).alloc (.cells #[.int .u64 N, .int .u64 E, .int .u64 A, .int .u64 M] 24)).trans' f2 (fun _ _ e => e))
  have F2 := Lib.hid (F1.out.trans' f2 (fun _ _ e => e))
  have BR := Lib.hid bR
  have l0 : w2.cell? ⟨w.heap.size + 1 + 1, 0, none⟩ = some (.int .u64 N) := bL.cell 0
  have l1 : w2.cell? ⟨w.heap.size + 1 + 1, 1, none⟩ = some (.int .u64 E) := bL.cell 1
  have l2 : w2.cell? ⟨w.heap.size + 1 + 1, 2, none⟩ = some (.int .u64 A) := bL.cell 2
  have l3 : w2.cell? ⟨w.heap.size + 1 + 1, 3, none⟩ = some (.int .u64 M) := bL.cell 3
  have z0 : w2.cell? ⟨w.heap.size + 1, 0, none⟩ = some (.int .u64 0) := bR.cell 0
  have z1 : w2.cell? ⟨w.heap.size + 1, 1, none⟩ = some (.int .u64 0) := bR.cell 1
  have z2 : w2.cell? ⟨w.heap.size + 1, 2, none⟩ = some (.int .u64 0) := bR.cell 2
  have z3 : w2.cell? ⟨w.heap.size + 1, 3, none⟩ = some (.int .u64 0) := bR.cell 3
  have z4 : w2.cell? ⟨w.heap.size + 1, 4, none⟩ = some (.int .u64 0) := bR.cell 4
  have z5 : w2.cell? ⟨w.heap.size + 1, 5, none⟩ = some (.int .u64 0) := bR.cell 5
  have z6 : w2.cell? ⟨w.heap.size + 1, 6, none⟩ = some (.int .u64 0) := bR.cell 6
  have z7 : w2.cell? ⟨w.heap.size + 1, 7, none⟩ = some (.int .u64 0) := bR.cell 7
  have y0 := bR.frozen 0
  have y1 := bR.frozen 1
  have y2 := bR.frozen 2
  have y3 := bR.frozen 3
  have y4 := bR.frozen 4
  have y5 := bR.frozen 5
  have y6 := bR.frozen 6
  have y7 := bR.frozen 7
  clear f1 hsl HR HL F1 f2 bL bR Hk c1 c2 c3 c4
  go_wp2_with fail
  go_still_tail 14, (by kernel_rfl)
  have Fd : Fr No w w2.drew := F2.out.drew
  have Bd : Bk w2.drew (w.heap.size + 1) 25 #[.int .u64 0, .int .u64 0, .int .u64 0, .int .u64 0, .int .u64 0, .int .u64 0, .int .u64 0, .int .u64 0] := BR.out
  change wpList _ _ _ _ _ w2.drew
  clear l0 l1 l2 l3 z0 z1 z2 z3 z4 z5 z6 z7 y0 y1 y2 y3 y4 y5 y6 y7 F2 BR
  generalize w2.drew = w3 at *
  have z0 : w3.cell? ⟨w.heap.size + 1, 0, none⟩ = some (.int .u64 0) := Bd.cell 0
  have y0 := Bd.frozen 0
  have z1 : w3.cell? ⟨w.heap.size + 1, 1, none⟩ = some (.int .u64 0) := Bd.cell 1
  have y1 := Bd.frozen 1
  have z2 : w3.cell? ⟨w.heap.size + 1, 2, none⟩ = some (.int .u64 0) := Bd.cell 2
  have y2 := Bd.frozen 2
  have z3 : w3.cell? ⟨w.heap.size + 1, 3, none⟩ = some (.int .u64 0) := Bd.cell 3
  have y3 := Bd.frozen 3
  have z4 : w3.cell? ⟨w.heap.size + 1, 4, none⟩ = some (.int .u64 0) := Bd.cell 4
  have y4 := Bd.frozen 4
  have z5 : w3.cell? ⟨w.heap.size + 1, 5, none⟩ = some (.int .u64 0) := Bd.cell 5
  have y5 := Bd.frozen 5
  have z6 : w3.cell? ⟨w.heap.size + 1, 6, none⟩ = some (.int .u64 0) := Bd.cell 6
  have y6 := Bd.frozen 6
  have z7 : w3.cell? ⟨w.heap.size + 1, 7, none⟩ = some (.int .u64 0) := Bd.cell 7
  have y7 := Bd.frozen 7
  have FD := Lib.hid Fd
  clear Fd Bd
  go_wp2
  refine bodyPost_ret (v := .agg #[.int .u64 mk, .int .u64 N, .int .u64 E, .int .u64 A, .int .u64 M, .int .u64 0, .int .u64 0, .int .u64 0]) (by simp [results, Try.results12, go_sem, z0, z1, z2, z3, z4, z5, z6, z7]) rfl ?_
  refine ⟨rfl, ?_⟩
  repeat (first | with_reducible exact FD.out | refine Fr.setCell ?_ (.inr (Nat.le_succ _)) _)
end Go.Proofs.Ytcjbdoppphjpjaa
