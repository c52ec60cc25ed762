/- Package log: the words of all sectors of a part. -/
import Derived.Test.YtdmllfjeofiddaaPls8
import Derived.Deep.CutRange
namespace Go.Proofs.Ytdmllfjeofiddaa
open Go.RowKit Go.Shelf

/-- A sector that was read, in a new box. -/
def GotS (wr : World) (s0 s1 s2 s3 s4 s5 s6 s7 : Nat) (v x : Value) (wx : World) : Prop :=
  ∃ G, v = .pointer (some ⟨G, 0, none⟩) ∧ x = .int .i64 0 ∧ Fr No wr wx ∧ Bk wx G 41 #[.int .u64 s0, .int .u64 s1, .int .u64 s2, .int .u64 s3, .int .u64 s4, .int .u64 s5, .int .u64 s6, .int .u64 s7] ∧ wr.heap.size ≤ G
theorem GotS.fr {wr wx : World} {s0 s1 s2 s3 s4 s5 s6 s7 : Nat} {v x : Value} (h : GotS wr s0 s1 s2 s3 s4 s5 s6 s7 v x wx) : Fr No wr wx := by
  obtain ⟨G, -, -, h, -⟩ := h
  exact h
theorem set8 (c0 c1 c2 c3 c4 c5 c6 c7 v0 v1 v2 v3 v4 v5 v6 v7 : Value) : ((((((((#[c0, c1, c2, c3, c4, c5, c6, c7].setIfInBounds 0 v0).setIfInBounds 1 v1).setIfInBounds 2 v2).setIfInBounds 3 v3).setIfInBounds 4 v4).setIfInBounds 5 v5).setIfInBounds 6 v6).setIfInBounds 7 v7) = #[v0, v1, v2, v3, v4, v5, v6, v7] := by
  simp
theorem GotS.put {wr W : World} {G s0 s1 s2 s3 s4 s5 s6 s7 : Nat} {c0 c1 c2 c3 c4 c5 c6 c7 : Value} (f1 : Fr No wr W) (bz : Bk W G 41 #[c0, c1, c2, c3, c4, c5, c6, c7]) (hG : wr.heap.size ≤ G) :
    GotS wr s0 s1 s2 s3 s4 s5 s6 s7 (.pointer (some ⟨G, 0, none⟩)) (.int .i64 0) ((((((((W.setCell ⟨G, 0, none⟩ (.int .u64 s0)).setCell ⟨G, 1, none⟩ (.int .u64 s1)).setCell ⟨G, 2, none⟩ (.int .u64 s2)).setCell ⟨G, 3, none⟩ (.int .u64 s3)).setCell ⟨G, 4, none⟩ (.int .u64 s4)).setCell ⟨G, 5, none⟩ (.int .u64 s5)).setCell ⟨G, 6, none⟩ (.int .u64 s6)).setCell ⟨G, 7, none⟩ (.int .u64 s7)) := by
  have h8 := ((((((((bz.put 0 (.int .u64 s0)).put 1 (.int .u64 s1)).put 2 (.int .u64 s2)).put 3 (.int .u64 s3)).put 4 (.int .u64 s4)).put 5 (.int .u64 s5)).put 6 (.int .u64 s6)).put 7 (.int .u64 s7))
  rw [set8] at h8
  refine ⟨G, rfl, rfl, ?_, h8, hG⟩
  exact ((((((((f1.setCell (.inr hG) _).setCell (.inr hG) _).setCell (.inr hG) _).setCell (.inr hG) _).setCell (.inr hG) _).setCell (.inr hG) _).setCell (.inr hG) _).setCell (.inr hG) _)
theorem wdsTo_sec (f : Nat → List Nat) (q i : Nat) (h : Sec (f (q + i))) : wdsTo f q (8 * (i + 1)) = wdsTo f q (8 * i) ++ f (q + i) := by
  conv => rhs; rw [sec_of_words h]
  unfold wdsTo
  rw [show 8 * (i + 1) = 8 * i + 8 by omega, List.range_add, List.map_append, List.map_map]
  congr 1
  refine List.map_congr_left fun k hk => ?_
  simp only [List.mem_range] at hk
  simp only [Function.comp, wdS]
  rw [show (8 * i + k) / 8 = i by omega, show (8 * i + k) % 8 = k by omega]
theorem Sl.ofBk {w : World} {g : Nat} {t : TypeId} {cs : Array Value} (h : Bk w g t cs) : Sl w w.heap.size (some ⟨g, 0, none⟩) cs.toList := by
  intro _
  refine ⟨_, rfl, h.lt, fun j u hu => ?_⟩
  have e : (⟨g, 0, none⟩ : Addr).add j = ⟨g, j, none⟩ := by cases j <;> simp [Addr.add]
  rw [e, h.cell]
  simpa using hu
set_option maxRecDepth 100000 in
set_option maxHeartbeats 4000000 in
theorem lRead_any {S : Nat → Prop} {l d q n m c k a b : Nat} {ep : Int} {A : Option Addr} {ws : List Nat} {D : Dv} (hq : q + n ≤ D.n) (w : World) (hd : DD w S d D a b) (h : LB w l d q n ep A m c ws k) :
    Calls Try.prog 36 #[.pointer (some ⟨l, 0, none⟩)] w (NewL w (partW D.rd q n)) := by
  have hD : D.n ≤ 4096 := by obtain ⟨_, _, _, L, m, c, -, hk⟩ := hd; exact hk.n
  have hok := hd.ok
  have HD := Lib.hid (fun W (hW : Fr No w W) => hd.fr hW (fun _ _ e => e))
  have HL := Lib.hid (fun W (hW : Fr No w W) => (h.fr hW (fun _ _ e => e)).cells)
  have Hp : Hid (partW D.rd q n = wdsTo D.rd q (8 * n)) := Lib.hid rfl
  obtain ⟨-, -, c2, -, -, -⟩ := h.cells
  have Hok := Lib.hid hok
  clear h hd hok
  go_enter Try.func36, Try.ntmps36
  go_wp2
  go_loopw [3, 11] (fun ov iv wr => ∃ (i z : Nat) (B : Option Addr) (e : Nat), i ≤ n ∧ Hid (z = 8 * i) ∧ iv = .int .i64 i ∧ ov = .slice B z e ∧ Hid (wr.ownsRow w.heap.size 40 1 (.slice B z e) z (u64s (wdsTo D.rd q z))) ∧ Hid (Fr No w wr)) (fun _ iv _ => n - (intOf iv).toNat)
  case atStart => exact ⟨0, 0, none, 0, by omega, Lib.hid rfl, rfl, rfl, Lib.hid (World.ownsRow_nil _ _ _ _), Lib.hid (Fr.refl _ _)⟩
  case round =>
    obtain ⟨i, z, B, e, hi, Hz, rfl, rfl, HO, HF⟩ := hrel
    by_cases hlt : i < n
    · obtain ⟨c0, c1, -⟩ := HL.out wr HF.out
      obtain ⟨s0, s1, s2, s3, s4, s5, s6, s7, hs⟩ := sec_lit (Hok.out.rd (q + i) (by omega))
      have HR : Hid (∀ W, Fr No wr W → Calls Try.prog 27 #[.pointer (some ⟨d, 0, none⟩), .int .i64 ((q : Int) + (i : Int))] W fun e w' => e = .returned (.tuple #[.agg #[.int .u64 s0, .int .u64 s1, .int .u64 s2, .int .u64 s3, .int .u64 s4, .int .u64 s5, .int .u64 s6, .int .u64 s7], .int .i64 0]) ∧ Fr No W w') := Lib.hid (fun W hW =>
        dRead_yes (q + i) (by omega) s0 s1 s2 s3 s4 s5 s6 s7 hs W (HD.out W (HF.out.trans' hW (fun _ _ e => e))))
      have Hn : Hid (wdsTo D.rd q (z + 8) = wdsTo D.rd q z ++ [s0, s1, s2, s3, s4, s5, s6, s7]) := Lib.hid (by
        rw [← hs, Hz.out]
        exact wdsTo_sec D.rd q i (Hok.out.rd (q + i) (by omega)))
      have HLr := Lib.hid (fun W (hW : Fr No wr W) => show W.cell? ⟨l, 0, none⟩ = some (.pointer (some ⟨d, 0, none⟩)) ∧ W.cell? ⟨l, 1, none⟩ = some (.int .i64 (q : Int)) from ⟨(HL.out W (HF.out.trans' hW (fun _ _ e => e))).1, (HL.out W (HF.out.trans' hW (fun _ _ e => e))).2.1⟩)
      have hz4 : z ≤ 32768 := by have := Hz.out; omega
      clear hs
      go_wp2_with fail
      go_cut [5, 6] from 14 to 31 (fun v x wx => GotS wr s0 s1 s2 s3 s4 s5 s6 s7 v x wx)
      case first =>
        have hwr : IntKind.i64.wrap ((q : Int) + (i : Int)) = (q : Int) + (i : Int) := IntWalk.i64_in _ (by omega)
        clear c0 c1
        refine wp_region_held_drew (S := fun w' => w'.cell? ⟨l, 0, none⟩ = some (.pointer (some ⟨d, 0, none⟩)) ∧ w'.cell? ⟨l, 1, none⟩ = some (.int .i64 (q : Int))) (by kernel_rfl) (HLr.out wr (Fr.refl _ _)) (fun hHeld => ?_)
        refine any_take 15 (.pointer (some ⟨l, 0, none⟩)) (i := 0) rfl rfl (by kernel_rfl) (by kernel_rfl) (by kernel_rfl) (fun _ _ _ h => h) (by rfl) (by intro w hSw; (try dsimp only at hSw); go_simp; try with_reducible rfl) (by assumption) ?_
        simp only [Act.put, List.setIfInBounds_toArray, List.set_cons_zero, List.set_cons_succ]
        refine any_take 16 (.pointer (some ⟨l, 0, none⟩)) (i := 1) rfl rfl (by kernel_rfl) (by kernel_rfl) (by kernel_rfl) (fun _ _ _ h => h) (by rfl) (by intro w hSw; (try dsimp only at hSw); go_simp; try with_reducible rfl) (by assumption) ?_
        simp only [Act.put, List.setIfInBounds_toArray, List.set_cons_zero, List.set_cons_succ]
        refine any_take 17 (.pointer (some ⟨l, 0, none⟩)) (i := 2) rfl rfl (by kernel_rfl) (by kernel_rfl) (by kernel_rfl) (fun _ _ _ h => h) (by rfl) (by intro w hSw; (try dsimp only at hSw); go_simp; try with_reducible rfl) (by assumption) ?_
        simp only [Act.put, List.setIfInBounds_toArray, List.set_cons_zero, List.set_cons_succ]
        refine any_take 18 (.pointer (some ⟨d, 0, none⟩)) (i := 3) rfl rfl (by kernel_rfl) (by kernel_rfl) (by kernel_rfl) (fun _ _ _ h => h) (by rfl) (by intro w hSw; (try dsimp only at hSw); go_simp; try with_reducible rfl) (by assumption) ?_
        simp only [Act.put, List.setIfInBounds_toArray, List.set_cons_zero, List.set_cons_succ]
        refine any_take 19 (.pointer (some ⟨l, 0, none⟩)) (i := 4) rfl rfl (by kernel_rfl) (by kernel_rfl) (by kernel_rfl) (fun _ _ _ h => h) (by rfl) (by intro w hSw; (try dsimp only at hSw); go_simp; try with_reducible rfl) (by assumption) ?_
        simp only [Act.put, List.setIfInBounds_toArray, List.set_cons_zero, List.set_cons_succ]
        refine any_take 20 (.pointer (some ⟨l, 0, none⟩)) (i := 5) rfl rfl (by kernel_rfl) (by kernel_rfl) (by kernel_rfl) (fun _ _ _ h => h) (by rfl) (by intro w hSw; (try dsimp only at hSw); go_simp; try with_reducible rfl) (by assumption) ?_
        simp only [Act.put, List.setIfInBounds_toArray, List.set_cons_zero, List.set_cons_succ]
        refine any_take 21 (.pointer (some ⟨l, 1, none⟩)) (i := 6) rfl rfl (by kernel_rfl) (by kernel_rfl) (by kernel_rfl) (fun _ _ _ h => h) (by rfl) (by intro w hSw; (try dsimp only at hSw); go_simp; try with_reducible rfl) (by assumption) ?_
        simp only [Act.put, List.setIfInBounds_toArray, List.set_cons_zero, List.set_cons_succ]
        refine any_take 22 (.int .i64 (q : Int)) (i := 7) rfl rfl (by kernel_rfl) (by kernel_rfl) (by kernel_rfl) (fun _ _ _ h => h) (by rfl) (by intro w hSw; (try dsimp only at hSw); go_simp; try with_reducible rfl) (by assumption) ?_
        simp only [Act.put, List.setIfInBounds_toArray, List.set_cons_zero, List.set_cons_succ]
        refine any_take 23 (.int .i64 (i : Int)) (i := 8) rfl rfl (by kernel_rfl) (by kernel_rfl) (by kernel_rfl) (fun _ _ _ h => h) (by rfl) (by intro w hSw; (try dsimp only at hSw); go_simp; try with_reducible rfl) (by assumption) ?_
        simp only [Act.put, List.setIfInBounds_toArray, List.set_cons_zero, List.set_cons_succ]
        refine any_take 24 (.int .i64 ((q : Int) + (i : Int))) (i := 9) rfl rfl (by kernel_rfl) (by kernel_rfl) (by kernel_rfl) (fun _ _ _ h => h) (by rfl) (by intro w hSw; (try dsimp only at hSw); go_simp; try with_reducible rfl) (by assumption) ?_
        simp only [Act.put, List.setIfInBounds_toArray, List.set_cons_zero, List.set_cons_succ]
        refine wpAnyH_ready (rs := [10, 14]) (by kernel_rfl) (by simp) ?_
        refine AllReadyH.cons rfl (fun K' hK => ?_) (AllReadyH.cons rfl (fun K' hK => ?_) AllReadyH.nil)
        · go_simp
          go_at_call 27
          refine (HR.out _ ((Fr.refl _ _).drew)).mono ?_
          rintro e' w1 ⟨rfl, f1⟩
          have F1 : Fr No wr w1 := Fr.trans' ((Fr.refl _ _).drew) f1 (fun _ _ e => e)
          dsimp only
          refine hK.out _ _ (HLr.out w1 F1) (fun hHeld => ?_)
          clear hK
          try simp only [Act.put, List.setIfInBounds_toArray, List.set_cons_zero, List.set_cons_succ]
          refine any_take 14 (.tuple #[.agg #[.int .u64 s0, .int .u64 s1, .int .u64 s2, .int .u64 s3, .int .u64 s4, .int .u64 s5, .int .u64 s6, .int .u64 s7], .int .i64 0]) (i := 11) rfl rfl (by kernel_rfl) (by kernel_rfl) (by kernel_rfl) (fun _ _ _ h => h) (by rfl) (by intro w hSw; (try dsimp only at hSw); go_simp; try with_reducible rfl) (by assumption) ?_
          simp only [Act.put, List.setIfInBounds_toArray, List.set_cons_zero, List.set_cons_succ]
          refine any_take 26 (.agg #[.int .u64 s0, .int .u64 s1, .int .u64 s2, .int .u64 s3, .int .u64 s4, .int .u64 s5, .int .u64 s6, .int .u64 s7]) (i := 12) rfl rfl (by kernel_rfl) (by kernel_rfl) (by kernel_rfl) (fun _ _ _ h => h) (by rfl) (by intro w hSw; (try dsimp only at hSw); go_simp; try with_reducible rfl) (by assumption) ?_
          simp only [Act.put, List.setIfInBounds_toArray, List.set_cons_zero, List.set_cons_succ]
          refine any_take 27 (.int .i64 0) (i := 13) rfl rfl (by kernel_rfl) (by kernel_rfl) (by kernel_rfl) (fun _ _ _ h => h) (by rfl) (by intro w hSw; (try dsimp only at hSw); go_simp; try with_reducible rfl) (by assumption) ?_
          simp only [Act.put, List.setIfInBounds_toArray, List.set_cons_zero, List.set_cons_succ]
          refine wpAnyH_ready (rs := [14]) (by kernel_rfl) (by simp) ?_
          refine AllReadyH.cons rfl (fun K' hK => ?_) AllReadyH.nil
          go_simp
          have bA : Bk ((w1.alloc (.cells #[.int .u64 0, .int .u64 0, .int .u64 0, .int .u64 0, .int .u64 0, .int .u64 0, .int .u64 0, .int .u64 0] 41))) w1.heap.size 41 #[.int .u64 0, .int .u64 0, .int .u64 0, .int .u64 0, .int .u64 0, .int .u64 0, .int .u64 0, .int .u64 0] := Bk.made w1 41 #[.int .u64 0, .int .u64 0, .int .u64 0, .int .u64 0, .int .u64 0, .int .u64 0, .int .u64 0, .int .u64 0]
          have FA : Fr No wr (w1.alloc (.cells #[.int .u64 0, .int .u64 0, .int .u64 0, .int .u64 0, .int .u64 0, .int .u64 0, .int .u64 0, .int .u64 0] 41)) := F1.alloc _
          have hG0 : wr.heap.size ≤ w1.heap.size := F1.size
          refine hK.out _ _ (HLr.out _ FA) (fun hHeld => ?_)
          clear hK
          try simp only [Act.put, List.setIfInBounds_toArray, List.set_cons_zero, List.set_cons_succ]
          obtain ⟨wA, HwA⟩ : ∃ wA, Hid ((w1.alloc (.cells #[.int .u64 0, .int .u64 0, .int .u64 0, .int .u64 0, .int .u64 0, .int .u64 0, .int .u64 0, .int .u64 0] 41)) = wA) := ⟨_, Lib.hid rfl⟩
          obtain ⟨G, HG⟩ : ∃ G, Hid (w1.heap.size = G) := ⟨_, Lib.hid rfl⟩
          rw [HwA.out] at bA FA hHeld ⊢
          rw [HG.out] at bA ⊢
          have hG : wr.heap.size ≤ G := by rw [← HG.out]; exact hG0
          clear HwA HG hG0
          refine wpAnyH_ready (rs := [15]) (by kernel_rfl) (by simp) ?_
          refine AllReadyH.cons rfl (fun K' hK => ?_) AllReadyH.nil
          obtain ⟨z0, z1, z2, z3, z4, z5, z6, z7⟩ := bk8 bA
          obtain ⟨y0, y1, y2, y3, y4, y5, y6, y7⟩ := fz8 bA
          go_simp
          have hG4 := GotS.put (wr := wr) (s0 := s0) (s1 := s1) (s2 := s2) (s3 := s3) (s4 := s4) (s5 := s5) (s6 := s6) (s7 := s7) FA bA hG
          refine hK.out _ _ (HLr.out _ (GotS.fr hG4)) (fun hHeld => ?_)
          clear hK z0 z1 z2 z3 z4 z5 z6 z7 y0 y1 y2 y3 y4 y5 y6 y7
          try simp only [Act.put, List.setIfInBounds_toArray, List.set_cons_zero, List.set_cons_succ]
          refine any_take 6 (.int .i64 0) (i := 16) rfl rfl (by kernel_rfl) (by kernel_rfl) (by kernel_rfl) (fun _ _ _ h => h) (by rfl) (by intro w hSw; (try dsimp only at hSw); go_simp; try with_reducible rfl) (by assumption) ?_
          simp only [Act.put, List.setIfInBounds_toArray, List.set_cons_zero, List.set_cons_succ]
          refine wpAnyH_done (by kernel_rfl) ?_ _
          clear hHeld
          go_wp2
          go_meet
          exact hG4
        · go_simp
          have bA : Bk ((wr.alloc (.cells #[.int .u64 0, .int .u64 0, .int .u64 0, .int .u64 0, .int .u64 0, .int .u64 0, .int .u64 0, .int .u64 0] 41)).drew) wr.heap.size 41 #[.int .u64 0, .int .u64 0, .int .u64 0, .int .u64 0, .int .u64 0, .int .u64 0, .int .u64 0, .int .u64 0] := Bk.made wr 41 #[.int .u64 0, .int .u64 0, .int .u64 0, .int .u64 0, .int .u64 0, .int .u64 0, .int .u64 0, .int .u64 0]
          have FA : Fr No wr (wr.alloc (.cells #[.int .u64 0, .int .u64 0, .int .u64 0, .int .u64 0, .int .u64 0, .int .u64 0, .int .u64 0, .int .u64 0] 41)).drew := ((Fr.refl _ _).alloc _).drew
          have hG0 : wr.heap.size ≤ wr.heap.size := Nat.le_refl _
          refine hK.out _ _ (HLr.out _ FA) (fun hHeld => ?_)
          clear hK
          try simp only [Act.put, List.setIfInBounds_toArray, List.set_cons_zero, List.set_cons_succ]
          obtain ⟨wA, HwA⟩ : ∃ wA, Hid ((wr.alloc (.cells #[.int .u64 0, .int .u64 0, .int .u64 0, .int .u64 0, .int .u64 0, .int .u64 0, .int .u64 0, .int .u64 0] 41)).drew = wA) := ⟨_, Lib.hid rfl⟩
          obtain ⟨G, HG⟩ : ∃ G, Hid (wr.heap.size = G) := ⟨_, Lib.hid rfl⟩
          rw [HwA.out] at bA FA hHeld ⊢
          rw [HG.out] at bA ⊢
          have hG : wr.heap.size ≤ G := by rw [← HG.out]; exact hG0
          clear HwA HG hG0
          refine wpAnyH_ready (rs := [10]) (by kernel_rfl) (by simp) ?_
          refine AllReadyH.cons rfl (fun K' hK => ?_) AllReadyH.nil
          go_simp
          go_at_call 27
          refine (HR.out _ FA).mono ?_
          rintro e' w1 ⟨rfl, f1⟩
          have F1 : Fr No wr w1 := Fr.trans' FA f1 (fun _ _ e => e)
          dsimp only
          refine hK.out _ _ (HLr.out w1 F1) (fun hHeld => ?_)
          clear hK
          try simp only [Act.put, List.setIfInBounds_toArray, List.set_cons_zero, List.set_cons_succ]
          have bA1 := bA.fr f1 (fun e => e)
          refine any_take 14 (.tuple #[.agg #[.int .u64 s0, .int .u64 s1, .int .u64 s2, .int .u64 s3, .int .u64 s4, .int .u64 s5, .int .u64 s6, .int .u64 s7], .int .i64 0]) (i := 11) rfl rfl (by kernel_rfl) (by kernel_rfl) (by kernel_rfl) (fun _ _ _ h => h) (by rfl) (by intro w hSw; (try dsimp only at hSw); go_simp; try with_reducible rfl) (by assumption) ?_
          simp only [Act.put, List.setIfInBounds_toArray, List.set_cons_zero, List.set_cons_succ]
          refine any_take 26 (.agg #[.int .u64 s0, .int .u64 s1, .int .u64 s2, .int .u64 s3, .int .u64 s4, .int .u64 s5, .int .u64 s6, .int .u64 s7]) (i := 12) rfl rfl (by kernel_rfl) (by kernel_rfl) (by kernel_rfl) (fun _ _ _ h => h) (by rfl) (by intro w hSw; (try dsimp only at hSw); go_simp; try with_reducible rfl) (by assumption) ?_
          simp only [Act.put, List.setIfInBounds_toArray, List.set_cons_zero, List.set_cons_succ]
          refine any_take 27 (.int .i64 0) (i := 13) rfl rfl (by kernel_rfl) (by kernel_rfl) (by kernel_rfl) (fun _ _ _ h => h) (by rfl) (by intro w hSw; (try dsimp only at hSw); go_simp; try with_reducible rfl) (by assumption) ?_
          simp only [Act.put, List.setIfInBounds_toArray, List.set_cons_zero, List.set_cons_succ]
          refine wpAnyH_ready (rs := [15]) (by kernel_rfl) (by simp) ?_
          refine AllReadyH.cons rfl (fun K' hK => ?_) AllReadyH.nil
          obtain ⟨z0, z1, z2, z3, z4, z5, z6, z7⟩ := bk8 bA1
          obtain ⟨y0, y1, y2, y3, y4, y5, y6, y7⟩ := fz8 bA1
          go_simp
          have hG4 := GotS.put (wr := wr) (s0 := s0) (s1 := s1) (s2 := s2) (s3 := s3) (s4 := s4) (s5 := s5) (s6 := s6) (s7 := s7) F1 bA1 hG
          refine hK.out _ _ (HLr.out _ (GotS.fr hG4)) (fun hHeld => ?_)
          clear hK z0 z1 z2 z3 z4 z5 z6 z7 y0 y1 y2 y3 y4 y5 y6 y7
          try simp only [Act.put, List.setIfInBounds_toArray, List.set_cons_zero, List.set_cons_succ]
          refine any_take 6 (.int .i64 0) (i := 16) rfl rfl (by kernel_rfl) (by kernel_rfl) (by kernel_rfl) (fun _ _ _ h => h) (by rfl) (by intro w hSw; (try dsimp only at hSw); go_simp; try with_reducible rfl) (by assumption) ?_
          simp only [Act.put, List.setIfInBounds_toArray, List.set_cons_zero, List.set_cons_succ]
          refine wpAnyH_done (by kernel_rfl) ?_ _
          clear hHeld
          go_wp2
          go_meet
          exact hG4
      case rest =>
        obtain ⟨G, rfl, rfl, hF1, hB1, -⟩ := hcut
        have ownS := Lib.hid (own_fr HO.out hF1 (fun _ _ e => e))
        have HsG := Lib.hid (Sl.ofBk hB1)
        have hsz : w.heap.size ≤ wc.heap.size := Nat.le_trans HF.out.size hF1.size
        have HF1 := Lib.hid hF1
        clear hF1 hB1 c0 c1
        go_wp2_with (
          at_builtin
          refine append_words rfl _ _ rfl w.heap.size B z e (wdsTo D.rd q z) rfl wc.heap.size (some ⟨G, 0, none⟩) 8 8 [s0, s1, s2, s3, s4, s5, s6, s7] rfl rfl HsG.out ownS.out (by omega) hsz ?_
          intro A' c' w' q1 q2 q3)
        go_roundw
        case rel =>
          refine ⟨i + 1, z + 8, A', c', by omega, Lib.hid (by have := Hz.out; omega), by go_num, rfl, Lib.hid (by rw [Hn.out]; exact q1), Lib.hid ((HF.out.trans' HF1.out (fun _ _ e => e)).trans' q2 (fun x hx e => ?_))⟩
          have := (ownS.out.lt x e).1
          omega
        case measure => simp [intOf]; omega
    · obtain rfl : i = n := by omega
      clear hlt
      go_wp2
      go_ret
      refine ⟨B, e, ?_, ?_, HF.out⟩
      · rw [Hp.out, wdsTo_len, ← Hz.out]
        rfl
      · rw [Hp.out, wdsTo_len, ← Hz.out]
        exact HO.out
end Go.Proofs.Ytdmllfjeofiddaa
