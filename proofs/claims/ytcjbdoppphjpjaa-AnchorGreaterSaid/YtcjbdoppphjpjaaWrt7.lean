/- Package anchor: an anchor written to a device. -/
import Derived.Test.YtcjbdoppphjpjaaRea7
import Derived.Test.YtcjbdoppphjpjaaHand
import Derived.Test.YtcjbdoppphjpjaaEnv3
namespace Go.Proofs.Ytcjbdoppphjpjaa
open Go.RowKit

/-- A step behind a quiet beginning. -/
theorem Step.after {S S' : Nat → Prop} {w w1 w2 : World} (hf : Fr No w w1) (h : Step S S' w1 w2) : Step S S' w w2 :=
  ⟨(hf.weak (S' := S) (fun _ _ e => e.elim)).trans' h.fr (fun _ _ e => e), fun k hk => (h.grow k hk).imp id (fun h1 => Nat.le_trans hf.size h1)⟩
theorem DD.quiet {w w' : World} {S : Nat → Prop} {d a b : Nat} {D : Dv} (h : DD w S d D a b) (hf : Fr No w w') : DD w' S d D a b := h.fr hf (fun _ _ e => e)
set_option maxHeartbeats 1000000 in
theorem anWrite_no (x : Anc) (hi : x.I) (h : ancOk x = false) (p : Option Addr) (w : World) : Calls Try.prog 17 #[.pointer p, x.val] w fun e w' => e = .returned (.int .i64 1) ∧ Fr No w w' := by
  have HS := Lib.hid (fun W => anSector_no x hi h W)
  obtain ⟨n, e, a, ws⟩ := x
  unfold Anc.val zArr at *
  dsimp only at *
  have f1 : Fr No w (w.alloc (.cells #[.int .i64 n, .int .i64 e, .int .i64 a, .int .i64 ws] 23)) := (Fr.refl _ _).alloc _
  clear hi h
  go_enter Try.func17, Try.ntmps17
  go_wp2_with fail
  refine (HS.out _).mono ?_
  rintro e' w1 ⟨rfl, hf⟩
  have f2 := f1.trans' hf (fun _ _ e => e)
  go_wp2
  go_ret
  exact ⟨rfl, f2.alloc _⟩
/-- The sector that an anchor is written to. -/
def parN (n : Int) : Nat := (n % 2).toNat
theorem parN_lt (n : Int) : parN n < 2 := by unfold parN; omega
set_option maxRecDepth 100000 in
set_option maxHeartbeats 4000000 in
theorem anWrite_yes {S : Nat → Prop} {d a b : Nat} {D : Dv} (x : Anc) (h : ancOk x = true) (h2 : 2 ≤ D.n) (w : World) (hd : DD w S d D a b) : Calls Try.prog 17 #[.pointer (some ⟨d, 0, none⟩), x.val] w fun e w' =>
    e = .returned (.int .i64 0) ∧ ∃ S', DD w' S' d (D.write (parN x.n) (ancS x)) (a + 1) b ∧ Step S S' w w' := by
  have hs := ancS_sec h
  have HS0 := fun W => anSector_yes x h W
  have HP0 := fun W => anPlace_any x W
  have hp := parN_lt x.n
  obtain ⟨n, e, ar, ws⟩ := x
  obtain ⟨h1, -, h3, -, h5, h6, -⟩ := (ancOk_iff _).1 h
  simp only at h1 h3 h5 h6 hp
  obtain ⟨N, rfl⟩ := Int.eq_ofNat_of_zero_le (show 0 ≤ n by omega)
  obtain ⟨E, rfl⟩ := Int.eq_ofNat_of_zero_le h3
  obtain ⟨A, rfl⟩ := Int.eq_ofNat_of_zero_le (show 0 ≤ ar by omega)
  obtain ⟨M, rfl⟩ := Int.eq_ofNat_of_zero_le h6
  obtain ⟨mk, Hmk⟩ : ∃ mk, Hid (ancM ⟨N, E, A, M⟩ = mk) := ⟨_, Lib.hid rfl⟩
  have Hs : Hid (ancS ⟨N, E, A, M⟩ = [mk, N, E, A, M, 0, 0, 0]) := Lib.hid (by
    unfold ancS
    rw [Hmk.out]
    rfl)
  rw [Hs.out] at hs ⊢
  have HS : Hid (∀ W, Calls Try.prog 8 #[.agg #[.int .i64 (N : Int), .int .i64 (E : Int), .int .i64 (A : Int), .int .i64 (M : Int)]] W fun e w' => e = .returned (.tuple #[.agg #[.int .u64 mk, .int .u64 N, .int .u64 E, .int .u64 A, .int .u64 M, .int .u64 0, .int .u64 0, .int .u64 0], .bool true]) ∧ Fr No W w') := Lib.hid (fun W => by
    have := HS0 W
    rw [Hs.out] at this
    exact this)
  have HP : Hid (∀ W, Calls Try.prog 26 #[.agg #[.int .i64 (N : Int), .int .i64 (E : Int), .int .i64 (A : Int), .int .i64 (M : Int)]] W fun e w' => e = .returned (.int .i64 (parN (N : Int) : Nat)) ∧ Fr No W w') := Lib.hid (fun W => by
    have := HP0 W
    have e2 : Int.tmod (N : Int) 2 = ((parN (N : Int) : Nat) : Int) := by unfold parN; rw [Int.tmod_eq_emod_of_nonneg (by omega)]; omega
    simp only [e2] at this
    exact this)
  simp only
  generalize parN (N : Int) = p at *
  have Hd := Lib.hid hd
  have Hlt : Hid (∀ k, S k → k < w.heap.size) := Lib.hid (fun k hk => hd.lt k hk)
  have HW : Hid (∀ W, Fr No w W → Calls Try.prog 14 #[.pointer (some ⟨d, 0, none⟩), .int .i64 (p : Int), .agg #[.int .u64 mk, .int .u64 N, .int .u64 E, .int .u64 A, .int .u64 M, .int .u64 0, .int .u64 0, .int .u64 0]] W fun e w' =>
      e = .returned (.int .i64 0) ∧ ∃ S', DD w' S' d (D.write p [mk, N, E, A, M, 0, 0, 0]) (a + 1) b ∧ Step S S' W w') := Lib.hid (fun W hW =>
    dWrite_yes (a := a) (b := b) p (by omega) mk N E A M 0 0 0 hs W (Hd.out.quiet hW))
  unfold Anc.val
  dsimp only
  have b0 := Bk.made w 23 #[.int .i64 (N : Int), .int .i64 (E : Int), .int .i64 (A : Int), .int .i64 (M : Int)]
  have f0 : Fr No w (w.alloc (.cells #[.int .i64 (N : Int), .int .i64 (E : Int), .int .i64 (A : Int), .int .i64 (M : Int)] 23)) := (Fr.refl _ _).alloc _
  clear h h1 h3 h5 h6 hs HS0 HP0 hd h2 Hmk Hs Hd
  go_enter Try.func17, Try.ntmps17
  go_wp2_with fail
  refine (HS.out _).mono ?_
  rintro e' w1 ⟨rfl, hf⟩
  have b1 := (b0.fr hf (fun e => e)).fr ((Fr.refl No _).alloc (.cells #[.int .u64 mk, .int .u64 N, .int .u64 E, .int .u64 A, .int .u64 M, .int .u64 0, .int .u64 0, .int .u64 0] 25)) (fun e => e)
  have b2 := Bk.made w1 25 #[.int .u64 mk, .int .u64 N, .int .u64 E, .int .u64 A, .int .u64 M, .int .u64 0, .int .u64 0, .int .u64 0]
  have f2 : Fr No w (w1.alloc (.cells #[.int .u64 mk, .int .u64 N, .int .u64 E, .int .u64 A, .int .u64 M, .int .u64 0, .int .u64 0, .int .u64 0] 25)) := (f0.trans' hf (fun _ _ e => e)).alloc _
  have Hsz : Hid (w.heap.size ≤ w1.heap.size) := Lib.hid (by have := hf.size; simp at this; omega)
  clear b0 f0 hf HS
  go_wp2_with fail
  obtain ⟨wb, Hwb⟩ : ∃ wb, Hid (wb = w1.alloc (.cells #[.int .u64 mk, .int .u64 N, .int .u64 E, .int .u64 A, .int .u64 M, .int .u64 0, .int .u64 0, .int .u64 0] 25)) := ⟨_, Lib.hid rfl⟩
  obtain ⟨c, Hc⟩ : ∃ c, Hid (c = w1.heap.size) := ⟨_, Lib.hid rfl⟩
  rw [← Hwb.out] at b1 b2 f2 ⊢
  rw [← Hc.out] at b2 ⊢
  have hcc : w.heap.size ≤ c := by rw [Hc.out]; exact Hsz.out
  have Hcell : Hid (∀ w', Fr S wb w' → w'.cell? ⟨w.heap.size, 0, none⟩ = some (.int .i64 (N : Int)) ∧ w'.cell? ⟨w.heap.size, 1, none⟩ = some (.int .i64 (E : Int)) ∧ w'.cell? ⟨w.heap.size, 2, none⟩ = some (.int .i64 (A : Int)) ∧ w'.cell? ⟨w.heap.size, 3, none⟩ = some (.int .i64 (M : Int)) ∧ w'.cell? ⟨c, 0, none⟩ = some (.int .u64 mk) ∧ w'.cell? ⟨c, 1, none⟩ = some (.int .u64 N) ∧ w'.cell? ⟨c, 2, none⟩ = some (.int .u64 E) ∧ w'.cell? ⟨c, 3, none⟩ = some (.int .u64 A) ∧ w'.cell? ⟨c, 4, none⟩ = some (.int .u64 M) ∧ w'.cell? ⟨c, 5, none⟩ = some (.int .u64 0) ∧ w'.cell? ⟨c, 6, none⟩ = some (.int .u64 0) ∧ w'.cell? ⟨c, 7, none⟩ = some (.int .u64 0)) := Lib.hid (fun w' hw => by
    obtain ⟨a0, a1, a2, a3⟩ := bk4 (b1.fr hw (fun e => by have := Hlt.out _ e; omega))
    obtain ⟨x0, x1, x2, x3, x4, x5, x6, x7⟩ := bk8 (b2.fr hw (fun e => by have := Hlt.out _ e; omega))
    exact ⟨a0, a1, a2, a3, x0, x1, x2, x3, x4, x5, x6, x7⟩)
  have F2 := Lib.hid f2
  clear Hwb Hc b1 b2 f2 Hsz hcc Hlt
  have h0 := Hcell.out wb (Fr.refl _ _)
  refine wp_region_held_drew (S := fun w' => w'.cell? ⟨w.heap.size, 0, none⟩ = some (.int .i64 (N : Int)) ∧ w'.cell? ⟨w.heap.size, 1, none⟩ = some (.int .i64 (E : Int)) ∧ w'.cell? ⟨w.heap.size, 2, none⟩ = some (.int .i64 (A : Int)) ∧ w'.cell? ⟨w.heap.size, 3, none⟩ = some (.int .i64 (M : Int)) ∧ w'.cell? ⟨c, 0, none⟩ = some (.int .u64 mk) ∧ w'.cell? ⟨c, 1, none⟩ = some (.int .u64 N) ∧ w'.cell? ⟨c, 2, none⟩ = some (.int .u64 E) ∧ w'.cell? ⟨c, 3, none⟩ = some (.int .u64 A) ∧ w'.cell? ⟨c, 4, none⟩ = some (.int .u64 M) ∧ w'.cell? ⟨c, 5, none⟩ = some (.int .u64 0) ∧ w'.cell? ⟨c, 6, none⟩ = some (.int .u64 0) ∧ w'.cell? ⟨c, 7, none⟩ = some (.int .u64 0)) (by kernel_rfl) h0 (fun hHeld => ?_)
  refine any_take 14 (.pointer (some ⟨d, 0, none⟩)) (i := 0) rfl rfl (by kernel_rfl) (by kernel_rfl) (by kernel_rfl) (fun _ _ _ h => h) (by rfl) (by intro w hSw; (try dsimp only at hSw); go_simp; try with_reducible rfl) (by assumption) ?_
  simp only [Act.put, List.setIfInBounds_toArray, List.set_cons_zero, List.set_cons_succ]
  refine any_take 15 (.agg #[.int .i64 (N : Int), .int .i64 (E : Int), .int .i64 (A : Int), .int .i64 (M : Int)]) (i := 1) rfl rfl (by kernel_rfl) (by kernel_rfl) (by kernel_rfl) (fun _ _ _ h => h) (by rfl) (by intro w hSw; (try dsimp only at hSw); go_simp; try with_reducible rfl) (by assumption) ?_
  simp only [Act.put, List.setIfInBounds_toArray, List.set_cons_zero, List.set_cons_succ]
  refine any_take 17 (.agg #[.int .u64 mk, .int .u64 N, .int .u64 E, .int .u64 A, .int .u64 M, .int .u64 0, .int .u64 0, .int .u64 0]) (i := 3) rfl rfl (by kernel_rfl) (by kernel_rfl) (by kernel_rfl) (fun _ _ _ h => h) (by rfl) (by intro w hSw; (try dsimp only at hSw); go_simp; try with_reducible rfl) (by assumption) ?_
  simp only [Act.put, List.setIfInBounds_toArray, List.set_cons_zero, List.set_cons_succ]
  refine wpAnyH_ready (rs := [2]) (by kernel_rfl) (by simp) ?_
  refine AllReadyH.cons rfl (fun K' hK => ?_) AllReadyH.nil
  go_simp
  go_at_call 26
  refine (HP.out _).mono ?_
  rintro e w5 ⟨rfl, f5⟩
  have F5 : Fr No wb w5 := Fr.trans' ((Fr.refl _ _).drew) f5 (fun _ _ e => e)
  dsimp only
  refine hK.out _ _ (Hcell.out w5 (F5.weak (fun _ _ e => e.elim))) (fun hHeld => ?_)
  clear hK
  have F6 := F2.out.trans' F5 (fun _ _ e => e)
  refine wpAnyH_ready (rs := [4]) (by kernel_rfl) (by simp) ?_
  refine AllReadyH.cons rfl (fun K' hK => ?_) AllReadyH.nil
  go_simp
  go_at_call 14
  refine (HW.out _ F6).mono ?_
  rintro e w6 ⟨rfl, S', hD, hS⟩
  dsimp only
  refine hK.out _ _ (Hcell.out w6 ((F5.weak (S' := S) (fun _ _ e => e.elim)).trans' hS.fr (fun _ _ e => e))) (fun hHeld => ?_)
  clear hK
  refine any_take 4 (.int .i64 0) (i := 5) rfl rfl (by kernel_rfl) (by kernel_rfl) (by kernel_rfl) (fun _ _ _ h => h) (by rfl) (by intro w hSw; (try dsimp only at hSw); go_simp; try with_reducible rfl) (by assumption) ?_
  simp only [Act.put, List.setIfInBounds_toArray, List.set_cons_zero, List.set_cons_succ]
  refine wpAnyH_done (by kernel_rfl) ?_ _
  have hE := hS.after F6
  clear hHeld h0 Hcell HW HP F2 F5 F6 f5 hS
  go_wp2
  go_ret
  exact ⟨rfl, S', hD, hE⟩
end Go.Proofs.Ytcjbdoppphjpjaa
