/- Package log: what stands behind the frames is cleared. -/
import Derived.Test.YtdmllfjeofiddaaPlr8
import Derived.Test.YtdmllfjeofiddaaArr8
namespace Go.Proofs.Ytdmllfjeofiddaa
open Go.RowKit Go.Shelf

theorem eq8 (a0 a1 a2 a3 a4 a5 a6 a7 b0 b1 b2 b3 b4 b5 b6 b7 : Int) (w : World) :
    (Op.equalIn 10000 41 (.agg #[.int .u64 a0, .int .u64 a1, .int .u64 a2, .int .u64 a3, .int .u64 a4, .int .u64 a5, .int .u64 a6, .int .u64 a7]) (.agg #[.int .u64 b0, .int .u64 b1, .int .u64 b2, .int .u64 b3, .int .u64 b4, .int .u64 b5, .int .u64 b6, .int .u64 b7])).run Try.prog w =
      .ok (a0 == b0 && (a1 == b1 && (a2 == b2 && (a3 == b3 && (a4 == b4 && (a5 == b5 && (a6 == b6 && a7 == b7))))))) w := by
  obtain ⟨i, hi, -⟩ := Option.map_eq_some_iff.1 (show (Try.prog.info? 40).map (·.size) = some 1 by kernel_rfl)
  exact run_equalIn_8 Try.underlying41 Try.underlying40 hi (by kernel_rfl) a0 a1 a2 a3 a4 a5 a6 a7 b0 b1 b2 b3 b4 b5 b6 b7 w
theorem eq8_list (a0 a1 a2 a3 a4 a5 a6 a7 b0 b1 b2 b3 b4 b5 b6 b7 : Nat) : (((a0 : Int) == b0) && (((a1 : Int) == b1) && (((a2 : Int) == b2) && (((a3 : Int) == b3) && (((a4 : Int) == b4) && (((a5 : Int) == b5) && (((a6 : Int) == b6) && ((a7 : Int) == b7)))))))) = decide ([b0, b1, b2, b3, b4, b5, b6, b7] = [a0, a1, a2, a3, a4, a5, a6, a7]) := by
  rw [Bool.eq_iff_iff]
  simp
  omega
/-- What frames have of a sector is what opening leaves of it. -/
theorem secW_clr (D : Dv) (q n m i : Nat) (hi : i < n) : secW ((partW D.rd q n).take m) i = clrS i m (D.rd (q + i)) := by
  unfold secW clrS
  refine List.map_congr_left fun k hk => ?_
  simp only [List.mem_range] at hk
  by_cases h : m ≤ 8 * i + k
  · rw [if_pos h, List.getD, List.getElem?_eq_none (by rw [List.length_take]; omega)]
    rfl
  · rw [if_neg h, List.getD, List.getElem?_take, if_pos (by omega), partW_at _ _ _ _ (by omega)]
    unfold wdS
    rw [show (8 * i + k) / 8 = i by omega, show (8 * i + k) % 8 = k by omega]
    rfl
theorem clrD_rd_new (D : Dv) (q i m : Nat) : (clrD D q i m).rd (q + i) = D.rd (q + i) := by
  unfold clrD
  simp only
  rw [if_neg (by omega)]
theorem Step.trans' {S S1 S2 : Nat → Prop} {w w1 w2 : World} (h : Step S S1 w w1) (k : Step S1 S2 w1 w2) : Step S S2 w w2 :=
  ⟨h.fr.trans' k.fr (fun j hj e => by rcases h.grow j e with h1 | h1; (exact h1); (omega)), fun j hj => by
    rcases k.grow j hj with h1 | h1
    · exact h.grow j h1
    · exact .inr (Nat.le_trans h.fr.size h1)⟩
theorem Step.afterN {S S' : Nat → Prop} {w w1 w2 : World} (hf : Fr No w w1) (h : Step S S' w1 w2) : Step S S' w w2 :=
  ⟨(hf.weak (S' := S) (fun _ _ e => e.elim)).trans' h.fr (fun _ _ e => e), fun k hk => (h.grow k hk).imp id (fun h1 => Nat.le_trans hf.size h1)⟩
set_option maxRecDepth 100000 in
set_option maxHeartbeats 4000000 in
theorem lClear_any {S : Nat → Prop} {l d q n m c k a b : Nat} {ep : Int} {A : Option Addr} {D : Dv} (hq : q + n ≤ D.n) (hmn : m ≤ 8 * n) (w : World) (hd : DD w S d D a b) (h : LB w l d q n ep A m c ((partW D.rd q n).take m) k) (hap : ∀ j, LT l A m c j → ¬ S j) :
    Calls Try.prog 39 #[.pointer (some ⟨l, 0, none⟩)] w fun e w' => e = .returned (.tuple #[]) ∧ ∃ (S' : Nat → Prop) (a b : Nat), DD w' S' d (openD D q n m) a b ∧ Step S S' w w' := by
  have hD : D.n ≤ 4096 := by obtain ⟨_, _, _, L, m, c, -, hk⟩ := hd; exact hk.n
  have hok := hd.ok
  have h64 : ∀ u ∈ (partW D.rd q n).take m, u < 18446744073709551616 := fun u hu => partW_lt (f := D.rd) (fun i hi => hok.rd _ (by omega)) u (List.mem_of_mem_take hu)
  have HB := Lib.hid (fun W (hW : Fr S w W) => h.fr hW hap)
  have HL := Lib.hid (fun W (hW : Fr S w W) => (h.fr hW hap).cells)
  have HS := Lib.hid (fun i (hi : i < n) W (hW : Fr S w W) => lSector_any i (by omega) h64 W (HB.out W hW) (by omega))
  obtain ⟨-, -, c2, -, -, -⟩ := h.cells
  have Hok := Lib.hid hok
  have Hlt := Lib.hid h.lt
  have Hap := Lib.hid hap
  have Hd := Lib.hid hd
  clear h hd hok h64 hap
  go_enter Try.func39, Try.ntmps39
  go_wp2
  go_loopw [2, 11] (fun cv iv wr => ∃ (i : Nat) (cl : Bool), i ≤ n ∧ Hid (cl = clrAny D q i m) ∧ iv = .int .i64 i ∧ cv = .bool cl ∧ ∃ (S' : Nat → Prop) (a b : Nat), Hid (DD wr S' d (clrD D q i m) a b) ∧ Hid (Step S S' w wr)) (fun _ iv _ => n - (intOf iv).toNat)
  case atStart => exact ⟨0, false, by omega, Lib.hid rfl, rfl, rfl, S, a, b, Lib.hid (by rw [clrD_zero]; exact Hd.out), Lib.hid ⟨Fr.refl _ _, fun _ h => .inl h⟩⟩
  case round =>
    obtain ⟨i, cl, hi, Hcl, rfl, rfl, S1, a1, b1, HD1, HS1⟩ := hrel
    by_cases hlt : i < n
    · obtain ⟨s0, s1, s2, s3, s4, s5, s6, s7, hs⟩ := sec_lit (Hok.out.rd (q + i) (by omega))
      have hos : Sec (clrS i m (D.rd (q + i))) := clrS_sec (Hok.out.rd (q + i) (by omega)) i m
      obtain ⟨o0, o1, o2, o3, o4, o5, o6, o7, ho⟩ := sec_lit hos
      have HO : Hid (∀ W, Fr No wr W → Calls Try.prog 55 #[.pointer (some ⟨l, 0, none⟩), .int .i64 (i : Int)] W fun e w' => e = .returned (.agg #[.int .u64 o0, .int .u64 o1, .int .u64 o2, .int .u64 o3, .int .u64 o4, .int .u64 o5, .int .u64 o6, .int .u64 o7]) ∧ Fr No W w') := Lib.hid (fun W hW => by
        have := HS.out i hlt W (HS1.out.fr.trans' hW (fun _ _ e => e.elim))
        rw [secW_clr D q n m i hlt, ho] at this
        exact this)
      have HR0 : Hid (∀ W, Fr No wr W → Calls Try.prog 27 #[.pointer (some ⟨d, 0, none⟩), .int .i64 ((q : Int) + (i : Int))] W fun e w' => e = .returned (.tuple #[.agg #[.int .u64 s0, .int .u64 s1, .int .u64 s2, .int .u64 s3, .int .u64 s4, .int .u64 s5, .int .u64 s6, .int .u64 s7], .int .i64 0]) ∧ Fr No W w') := Lib.hid (fun W hW =>
        dRead_yes (D := clrD D q i m) (q + i) (by show q + i < D.n; omega) s0 s1 s2 s3 s4 s5 s6 s7 (by rw [clrD_rd_new]; exact hs) W (HD1.out.fr hW (fun _ _ e => e)))
      rw [ho] at hos
      have HW0 : Hid (∀ W, Fr No wr W → Calls Try.prog 19 #[.pointer (some ⟨d, 0, none⟩), .int .i64 ((q : Int) + (i : Int)), .agg #[.int .u64 o0, .int .u64 o1, .int .u64 o2, .int .u64 o3, .int .u64 o4, .int .u64 o5, .int .u64 o6, .int .u64 o7]] W fun e w' =>
          e = .returned (.int .i64 0) ∧ ∃ S', DD w' S' d ((clrD D q i m).write (q + i) [o0, o1, o2, o3, o4, o5, o6, o7]) (a1 + 1) b1 ∧ Step S1 S' W w') := Lib.hid (fun W hW =>
        dWrite_yes (a := a1) (b := b1) (D := clrD D q i m) (q + i) (by show q + i < D.n; omega) o0 o1 o2 o3 o4 o5 o6 o7 hos W (HD1.out.fr hW (fun _ _ e => e)))
      have Hsucc := Lib.hid (clrD_succ D q i m)
      have Hany := Lib.hid (clrAny_succ D q i m)
      rw [ho, hs] at Hsucc Hany
      have heq := eq8_list s0 s1 s2 s3 s4 s5 s6 s7 o0 o1 o2 o3 o4 o5 o6 o7
      have Heq := Lib.hid heq
      have hwr : IntKind.i64.wrap ((q : Int) + (i : Int)) = (q : Int) + (i : Int) := IntWalk.i64_in _ (by omega)
      have HLr := Lib.hid (fun W (hW : Fr S1 wr W) => show W.cell? ⟨l, 0, none⟩ = some (.pointer (some ⟨d, 0, none⟩)) ∧ W.cell? ⟨l, 1, none⟩ = some (.int .i64 (q : Int)) from by
        have hF : Fr S w W := HS1.out.fr.trans' hW (fun k hk e => by rcases HS1.out.grow k e with h | h; (exact h); (omega))
        exact ⟨(HL.out W hF).1, (HL.out W hF).2.1⟩)
      clear heq hs ho hos
      go_wp2_with fail
      refine (HO.out _ (Fr.refl _ _)).mono ?_
      rintro e1 w1 ⟨rfl, f1⟩
      go_wp2_with fail
      obtain ⟨wB, HwB⟩ : ∃ wB, Hid (w1.alloc (.cells #[.int .u64 o0, .int .u64 o1, .int .u64 o2, .int .u64 o3, .int .u64 o4, .int .u64 o5, .int .u64 o6, .int .u64 o7] 41) = wB) := ⟨_, Lib.hid rfl⟩
      obtain ⟨G0, HG0⟩ : ∃ G0, Hid (w1.heap.size = G0) := ⟨_, Lib.hid rfl⟩
      have bO : Bk wB G0 41 #[.int .u64 o0, .int .u64 o1, .int .u64 o2, .int .u64 o3, .int .u64 o4, .int .u64 o5, .int .u64 o6, .int .u64 o7] := by
        rw [← HwB.out, ← HG0.out]
        exact Bk.made w1 _ _
      have FB : Fr No wr wB := by
        rw [← HwB.out]
        exact f1.alloc _
      have hG0 : wr.heap.size ≤ G0 := by
        rw [← HG0.out]
        exact f1.size
      rw [HwB.out, HG0.out]
      clear HwB HG0 f1 HO
      have HLr0 := HLr
      have HR := Lib.hid (fun W (hW : Fr No wB W) => HR0.out W (FB.trans' hW (fun _ _ e => e)))
      have HLr := Lib.hid (fun W (hW : Fr No wB W) => HLr0.out W ((FB.trans' hW (fun _ _ e => e)).weak (fun _ _ e => e.elim)))
      clear HR0
      go_cut [5, 6] from 17 to 46 (fun v x wx => GotS wB s0 s1 s2 s3 s4 s5 s6 s7 v x wx)
      case first =>
        refine wp_region_held_drew (S := fun w' => w'.cell? ⟨l, 0, none⟩ = some (.pointer (some ⟨d, 0, none⟩)) ∧ w'.cell? ⟨l, 1, none⟩ = some (.int .i64 (q : Int))) (by kernel_rfl) (HLr.out wB (Fr.refl _ _)) (fun hHeld => ?_)
        refine any_take 18 (.pointer (some ⟨l, 0, none⟩)) (i := 0) rfl rfl (by kernel_rfl) (by kernel_rfl) (by kernel_rfl) (fun _ _ _ h => h) (by rfl) (by intro w hSw; (try dsimp only at hSw); go_simp; try with_reducible rfl) (by assumption) ?_
        simp only [Act.put, List.setIfInBounds_toArray, List.set_cons_zero, List.set_cons_succ]
        refine any_take 19 (.pointer (some ⟨l, 0, none⟩)) (i := 1) rfl rfl (by kernel_rfl) (by kernel_rfl) (by kernel_rfl) (fun _ _ _ h => h) (by rfl) (by intro w hSw; (try dsimp only at hSw); go_simp; try with_reducible rfl) (by assumption) ?_
        simp only [Act.put, List.setIfInBounds_toArray, List.set_cons_zero, List.set_cons_succ]
        refine any_take 20 (.pointer (some ⟨l, 0, none⟩)) (i := 2) rfl rfl (by kernel_rfl) (by kernel_rfl) (by kernel_rfl) (fun _ _ _ h => h) (by rfl) (by intro w hSw; (try dsimp only at hSw); go_simp; try with_reducible rfl) (by assumption) ?_
        simp only [Act.put, List.setIfInBounds_toArray, List.set_cons_zero, List.set_cons_succ]
        refine any_take 21 (.pointer (some ⟨d, 0, none⟩)) (i := 3) rfl rfl (by kernel_rfl) (by kernel_rfl) (by kernel_rfl) (fun _ _ _ h => h) (by rfl) (by intro w hSw; (try dsimp only at hSw); go_simp; try with_reducible rfl) (by assumption) ?_
        simp only [Act.put, List.setIfInBounds_toArray, List.set_cons_zero, List.set_cons_succ]
        refine any_take 22 (.pointer (some ⟨l, 0, none⟩)) (i := 4) rfl rfl (by kernel_rfl) (by kernel_rfl) (by kernel_rfl) (fun _ _ _ h => h) (by rfl) (by intro w hSw; (try dsimp only at hSw); go_simp; try with_reducible rfl) (by assumption) ?_
        simp only [Act.put, List.setIfInBounds_toArray, List.set_cons_zero, List.set_cons_succ]
        refine any_take 23 (.pointer (some ⟨l, 0, none⟩)) (i := 5) rfl rfl (by kernel_rfl) (by kernel_rfl) (by kernel_rfl) (fun _ _ _ h => h) (by rfl) (by intro w hSw; (try dsimp only at hSw); go_simp; try with_reducible rfl) (by assumption) ?_
        simp only [Act.put, List.setIfInBounds_toArray, List.set_cons_zero, List.set_cons_succ]
        refine any_take 24 (.pointer (some ⟨l, 1, none⟩)) (i := 6) rfl rfl (by kernel_rfl) (by kernel_rfl) (by kernel_rfl) (fun _ _ _ h => h) (by rfl) (by intro w hSw; (try dsimp only at hSw); go_simp; try with_reducible rfl) (by assumption) ?_
        simp only [Act.put, List.setIfInBounds_toArray, List.set_cons_zero, List.set_cons_succ]
        refine any_take 25 (.int .i64 (q : Int)) (i := 7) rfl rfl (by kernel_rfl) (by kernel_rfl) (by kernel_rfl) (fun _ _ _ h => h) (by rfl) (by intro w hSw; (try dsimp only at hSw); go_simp; try with_reducible rfl) (by assumption) ?_
        simp only [Act.put, List.setIfInBounds_toArray, List.set_cons_zero, List.set_cons_succ]
        refine any_take 26 (.int .i64 (i : Int)) (i := 8) rfl rfl (by kernel_rfl) (by kernel_rfl) (by kernel_rfl) (fun _ _ _ h => h) (by rfl) (by intro w hSw; (try dsimp only at hSw); go_simp; try with_reducible rfl) (by assumption) ?_
        simp only [Act.put, List.setIfInBounds_toArray, List.set_cons_zero, List.set_cons_succ]
        refine any_take 27 (.int .i64 ((q : Int) + (i : Int))) (i := 9) rfl rfl (by kernel_rfl) (by kernel_rfl) (by kernel_rfl) (fun _ _ _ h => h) (by rfl) (by intro w hSw; (try dsimp only at hSw); go_simp; try with_reducible rfl) (by assumption) ?_
        simp only [Act.put, List.setIfInBounds_toArray, List.set_cons_zero, List.set_cons_succ]
        refine wpAnyH_ready (rs := [10, 14]) (by kernel_rfl) (by simp) ?_
        refine AllReadyH.cons rfl (fun K' hK => ?_) (AllReadyH.cons rfl (fun K' hK => ?_) AllReadyH.nil)
        · go_simp
          go_at_call 27
          refine (HR.out _ ((Fr.refl _ _).drew)).mono ?_
          rintro e' w1 ⟨rfl, f1⟩
          have F1 : Fr No wB w1 := Fr.trans' ((Fr.refl _ _).drew) f1 (fun _ _ e => e)
          dsimp only
          refine hK.out _ _ (HLr.out w1 F1) (fun hHeld => ?_)
          clear hK
          try simp only [Act.put, List.setIfInBounds_toArray, List.set_cons_zero, List.set_cons_succ]
          refine any_take 17 (.tuple #[.agg #[.int .u64 s0, .int .u64 s1, .int .u64 s2, .int .u64 s3, .int .u64 s4, .int .u64 s5, .int .u64 s6, .int .u64 s7], .int .i64 0]) (i := 11) rfl rfl (by kernel_rfl) (by kernel_rfl) (by kernel_rfl) (fun _ _ _ h => h) (by rfl) (by intro w hSw; (try dsimp only at hSw); go_simp; try with_reducible rfl) (by assumption) ?_
          simp only [Act.put, List.setIfInBounds_toArray, List.set_cons_zero, List.set_cons_succ]
          refine any_take 29 (.agg #[.int .u64 s0, .int .u64 s1, .int .u64 s2, .int .u64 s3, .int .u64 s4, .int .u64 s5, .int .u64 s6, .int .u64 s7]) (i := 12) rfl rfl (by kernel_rfl) (by kernel_rfl) (by kernel_rfl) (fun _ _ _ h => h) (by rfl) (by intro w hSw; (try dsimp only at hSw); go_simp; try with_reducible rfl) (by assumption) ?_
          simp only [Act.put, List.setIfInBounds_toArray, List.set_cons_zero, List.set_cons_succ]
          refine any_take 30 (.int .i64 0) (i := 13) rfl rfl (by kernel_rfl) (by kernel_rfl) (by kernel_rfl) (fun _ _ _ h => h) (by rfl) (by intro w hSw; (try dsimp only at hSw); go_simp; try with_reducible rfl) (by assumption) ?_
          simp only [Act.put, List.setIfInBounds_toArray, List.set_cons_zero, List.set_cons_succ]
          refine wpAnyH_ready (rs := [14]) (by kernel_rfl) (by simp) ?_
          refine AllReadyH.cons rfl (fun K' hK => ?_) AllReadyH.nil
          go_simp
          have bA : Bk ((w1.alloc (.cells #[.int .u64 0, .int .u64 0, .int .u64 0, .int .u64 0, .int .u64 0, .int .u64 0, .int .u64 0, .int .u64 0] 41))) w1.heap.size 41 #[.int .u64 0, .int .u64 0, .int .u64 0, .int .u64 0, .int .u64 0, .int .u64 0, .int .u64 0, .int .u64 0] := Bk.made w1 41 #[.int .u64 0, .int .u64 0, .int .u64 0, .int .u64 0, .int .u64 0, .int .u64 0, .int .u64 0, .int .u64 0]
          have FA : Fr No wB (w1.alloc (.cells #[.int .u64 0, .int .u64 0, .int .u64 0, .int .u64 0, .int .u64 0, .int .u64 0, .int .u64 0, .int .u64 0] 41)) := F1.alloc _
          have hG0 : wB.heap.size ≤ w1.heap.size := F1.size
          refine hK.out _ _ (HLr.out _ FA) (fun hHeld => ?_)
          clear hK
          try simp only [Act.put, List.setIfInBounds_toArray, List.set_cons_zero, List.set_cons_succ]
          obtain ⟨wA, HwA⟩ : ∃ wA, Hid ((w1.alloc (.cells #[.int .u64 0, .int .u64 0, .int .u64 0, .int .u64 0, .int .u64 0, .int .u64 0, .int .u64 0, .int .u64 0] 41)) = wA) := ⟨_, Lib.hid rfl⟩
          obtain ⟨G, HG⟩ : ∃ G, Hid (w1.heap.size = G) := ⟨_, Lib.hid rfl⟩
          rw [HwA.out] at bA FA hHeld ⊢
          rw [HG.out] at bA ⊢
          have hG : wB.heap.size ≤ G := by rw [← HG.out]; exact hG0
          clear HwA HG hG0
          refine wpAnyH_ready (rs := [15]) (by kernel_rfl) (by simp) ?_
          refine AllReadyH.cons rfl (fun K' hK => ?_) AllReadyH.nil
          obtain ⟨z0, z1, z2, z3, z4, z5, z6, z7⟩ := bk8 bA
          obtain ⟨y0, y1, y2, y3, y4, y5, y6, y7⟩ := fz8 bA
          go_simp
          have hG4 := GotS.put (wr := wB) (s0 := s0) (s1 := s1) (s2 := s2) (s3 := s3) (s4 := s4) (s5 := s5) (s6 := s6) (s7 := s7) FA bA hG
          refine hK.out _ _ (HLr.out _ (GotS.fr hG4)) (fun hHeld => ?_)
          clear hK z0 z1 z2 z3 z4 z5 z6 z7 y0 y1 y2 y3 y4 y5 y6 y7
          try simp only [Act.put, List.setIfInBounds_toArray, List.set_cons_zero, List.set_cons_succ]
          refine any_take 6 (.int .i64 0) (i := 16) rfl rfl (by kernel_rfl) (by kernel_rfl) (by kernel_rfl) (fun _ _ _ h => h) (by rfl) (by intro w hSw; (try dsimp only at hSw); go_simp; try with_reducible rfl) (by assumption) ?_
          simp only [Act.put, List.setIfInBounds_toArray, List.set_cons_zero, List.set_cons_succ]
          refine wpAnyH_done (by kernel_rfl) ?_ _
          clear hHeld
          go_wp2
          go_meet
          exact hG4
        · go_simp
          have bA : Bk ((wB.alloc (.cells #[.int .u64 0, .int .u64 0, .int .u64 0, .int .u64 0, .int .u64 0, .int .u64 0, .int .u64 0, .int .u64 0] 41)).drew) wB.heap.size 41 #[.int .u64 0, .int .u64 0, .int .u64 0, .int .u64 0, .int .u64 0, .int .u64 0, .int .u64 0, .int .u64 0] := Bk.made wB 41 #[.int .u64 0, .int .u64 0, .int .u64 0, .int .u64 0, .int .u64 0, .int .u64 0, .int .u64 0, .int .u64 0]
          have FA : Fr No wB (wB.alloc (.cells #[.int .u64 0, .int .u64 0, .int .u64 0, .int .u64 0, .int .u64 0, .int .u64 0, .int .u64 0, .int .u64 0] 41)).drew := ((Fr.refl _ _).alloc _).drew
          have hG0 : wB.heap.size ≤ wB.heap.size := Nat.le_refl _
          refine hK.out _ _ (HLr.out _ FA) (fun hHeld => ?_)
          clear hK
          try simp only [Act.put, List.setIfInBounds_toArray, List.set_cons_zero, List.set_cons_succ]
          obtain ⟨wA, HwA⟩ : ∃ wA, Hid ((wB.alloc (.cells #[.int .u64 0, .int .u64 0, .int .u64 0, .int .u64 0, .int .u64 0, .int .u64 0, .int .u64 0, .int .u64 0] 41)).drew = wA) := ⟨_, Lib.hid rfl⟩
          obtain ⟨G, HG⟩ : ∃ G, Hid (wB.heap.size = G) := ⟨_, Lib.hid rfl⟩
          rw [HwA.out] at bA FA hHeld ⊢
          rw [HG.out] at bA ⊢
          have hG : wB.heap.size ≤ G := by rw [← HG.out]; exact hG0
          clear HwA HG hG0
          refine wpAnyH_ready (rs := [10]) (by kernel_rfl) (by simp) ?_
          refine AllReadyH.cons rfl (fun K' hK => ?_) AllReadyH.nil
          go_simp
          go_at_call 27
          refine (HR.out _ FA).mono ?_
          rintro e' w1 ⟨rfl, f1⟩
          have F1 : Fr No wB w1 := Fr.trans' FA f1 (fun _ _ e => e)
          dsimp only
          refine hK.out _ _ (HLr.out w1 F1) (fun hHeld => ?_)
          clear hK
          try simp only [Act.put, List.setIfInBounds_toArray, List.set_cons_zero, List.set_cons_succ]
          have bA1 := bA.fr f1 (fun e => e)
          refine any_take 17 (.tuple #[.agg #[.int .u64 s0, .int .u64 s1, .int .u64 s2, .int .u64 s3, .int .u64 s4, .int .u64 s5, .int .u64 s6, .int .u64 s7], .int .i64 0]) (i := 11) rfl rfl (by kernel_rfl) (by kernel_rfl) (by kernel_rfl) (fun _ _ _ h => h) (by rfl) (by intro w hSw; (try dsimp only at hSw); go_simp; try with_reducible rfl) (by assumption) ?_
          simp only [Act.put, List.setIfInBounds_toArray, List.set_cons_zero, List.set_cons_succ]
          refine any_take 29 (.agg #[.int .u64 s0, .int .u64 s1, .int .u64 s2, .int .u64 s3, .int .u64 s4, .int .u64 s5, .int .u64 s6, .int .u64 s7]) (i := 12) rfl rfl (by kernel_rfl) (by kernel_rfl) (by kernel_rfl) (fun _ _ _ h => h) (by rfl) (by intro w hSw; (try dsimp only at hSw); go_simp; try with_reducible rfl) (by assumption) ?_
          simp only [Act.put, List.setIfInBounds_toArray, List.set_cons_zero, List.set_cons_succ]
          refine any_take 30 (.int .i64 0) (i := 13) rfl rfl (by kernel_rfl) (by kernel_rfl) (by kernel_rfl) (fun _ _ _ h => h) (by rfl) (by intro w hSw; (try dsimp only at hSw); go_simp; try with_reducible rfl) (by assumption) ?_
          simp only [Act.put, List.setIfInBounds_toArray, List.set_cons_zero, List.set_cons_succ]
          refine wpAnyH_ready (rs := [15]) (by kernel_rfl) (by simp) ?_
          refine AllReadyH.cons rfl (fun K' hK => ?_) AllReadyH.nil
          obtain ⟨z0, z1, z2, z3, z4, z5, z6, z7⟩ := bk8 bA1
          obtain ⟨y0, y1, y2, y3, y4, y5, y6, y7⟩ := fz8 bA1
          go_simp
          have hG4 := GotS.put (wr := wB) (s0 := s0) (s1 := s1) (s2 := s2) (s3 := s3) (s4 := s4) (s5 := s5) (s6 := s6) (s7 := s7) F1 bA1 hG
          refine hK.out _ _ (HLr.out _ (GotS.fr hG4)) (fun hHeld => ?_)
          clear hK z0 z1 z2 z3 z4 z5 z6 z7 y0 y1 y2 y3 y4 y5 y6 y7
          try simp only [Act.put, List.setIfInBounds_toArray, List.set_cons_zero, List.set_cons_succ]
          refine any_take 6 (.int .i64 0) (i := 16) rfl rfl (by kernel_rfl) (by kernel_rfl) (by kernel_rfl) (fun _ _ _ h => h) (by rfl) (by intro w hSw; (try dsimp only at hSw); go_simp; try with_reducible rfl) (by assumption) ?_
          simp only [Act.put, List.setIfInBounds_toArray, List.set_cons_zero, List.set_cons_succ]
          refine wpAnyH_done (by kernel_rfl) ?_ _
          clear hHeld
          go_wp2
          go_meet
          exact hG4
      case rest =>
        obtain ⟨G, rfl, rfl, hF1, hB1, -⟩ := hcut
        have bO1 := bO.fr hF1 (fun e => e)
        obtain ⟨x0, x1, x2, x3, x4, x5, x6, x7⟩ := bk8 bO1
        obtain ⟨y0, y1, y2, y3, y4, y5, y6, y7⟩ := bk8 hB1
        have FC : Fr No wr wc := FB.trans' hF1 (fun _ _ e => e)
        clear bO hB1 hF1 HR HLr
        have hq8 := fun W => eq8 (s0 : Int) s1 s2 s3 s4 s5 s6 s7 o0 o1 o2 o3 o4 o5 o6 o7 W
        rw [Heq.out] at hq8
        by_cases hne : [o0, o1, o2, o3, o4, o5, o6, o7] = [s0, s1, s2, s3, s4, s5, s6, s7]
        · rw [decide_eq_true hne] at hq8
          rw [if_neg (fun h => h hne)] at Hsucc
          have Hany2 : Hid (cl = clrAny D q (i + 1) m) := Lib.hid (by rw [Hany.out, ← Hcl.out]; simp [hne])
          clear hne Hany Heq
          go_wp2
          go_roundw
          case rel => exact ⟨i + 1, cl, by omega, Hany2, by go_num, rfl, S1, a1, b1, Lib.hid (by rw [Hsucc.out]; exact HD1.out.fr FC (fun _ _ e => e)), Lib.hid (HS1.out.trans' ⟨FC.weak (fun _ _ e => e.elim), fun _ h => .inl h⟩)⟩
          case measure => simp [intOf]; omega
        · rw [decide_eq_false hne] at hq8
          rw [if_pos hne] at Hsucc
          have Hany2 : Hid (true = clrAny D q (i + 1) m) := Lib.hid (by rw [Hany.out]; simp [hne])
          have HX : Hid (∀ W, Fr S1 wc W → (W.cell? ⟨l, 0, none⟩ = some (.pointer (some ⟨d, 0, none⟩)) ∧ W.cell? ⟨l, 1, none⟩ = some (.int .i64 (q : Int))) ∧ W.cell? ⟨G0, 0, none⟩ = some (.int .u64 o0) ∧ W.cell? ⟨G0, 1, none⟩ = some (.int .u64 o1) ∧ W.cell? ⟨G0, 2, none⟩ = some (.int .u64 o2) ∧ W.cell? ⟨G0, 3, none⟩ = some (.int .u64 o3) ∧ W.cell? ⟨G0, 4, none⟩ = some (.int .u64 o4) ∧ W.cell? ⟨G0, 5, none⟩ = some (.int .u64 o5) ∧ W.cell? ⟨G0, 6, none⟩ = some (.int .u64 o6) ∧ W.cell? ⟨G0, 7, none⟩ = some (.int .u64 o7)) := Lib.hid (fun W hW =>
            ⟨HLr0.out W ((FC.weak (S' := S1) (fun _ _ e => e.elim)).trans' hW (fun _ _ e => e)), bk8 (bO1.fr hW (fun e => by have := HD1.out.lt _ e; omega))⟩)
          have HW := Lib.hid (HW0.out wc.drew ((FC.drew)))
          clear hne Hany Heq HLr0 HW0 bO1
          go_wp2_with fail
          clear x0 x1 x2 x3 x4 x5 x6 x7 y0 y1 y2 y3 y4 y5 y6 y7 hq8
          refine wp_region_held_drew (S := fun w' => (w'.cell? ⟨l, 0, none⟩ = some (.pointer (some ⟨d, 0, none⟩)) ∧ w'.cell? ⟨l, 1, none⟩ = some (.int .i64 (q : Int))) ∧ w'.cell? ⟨G0, 0, none⟩ = some (.int .u64 o0) ∧ w'.cell? ⟨G0, 1, none⟩ = some (.int .u64 o1) ∧ w'.cell? ⟨G0, 2, none⟩ = some (.int .u64 o2) ∧ w'.cell? ⟨G0, 3, none⟩ = some (.int .u64 o3) ∧ w'.cell? ⟨G0, 4, none⟩ = some (.int .u64 o4) ∧ w'.cell? ⟨G0, 5, none⟩ = some (.int .u64 o5) ∧ w'.cell? ⟨G0, 6, none⟩ = some (.int .u64 o6) ∧ w'.cell? ⟨G0, 7, none⟩ = some (.int .u64 o7)) (by kernel_rfl) (HX.out wc (Fr.refl _ _)) (fun hHeld => ?_)
          refine any_take 34 (.pointer (some ⟨l, 0, none⟩)) (i := 0) rfl rfl (by kernel_rfl) (by kernel_rfl) (by kernel_rfl) (fun _ _ _ h => h) (by rfl) (by intro w hSw; (try dsimp only at hSw); go_simp; try with_reducible rfl) (by assumption) ?_
          simp only [Act.put, List.setIfInBounds_toArray, List.set_cons_zero, List.set_cons_succ]
          refine any_take 35 (.pointer (some ⟨l, 0, none⟩)) (i := 1) rfl rfl (by kernel_rfl) (by kernel_rfl) (by kernel_rfl) (fun _ _ _ h => h) (by rfl) (by intro w hSw; (try dsimp only at hSw); go_simp; try with_reducible rfl) (by assumption) ?_
          simp only [Act.put, List.setIfInBounds_toArray, List.set_cons_zero, List.set_cons_succ]
          refine any_take 36 (.pointer (some ⟨l, 0, none⟩)) (i := 2) rfl rfl (by kernel_rfl) (by kernel_rfl) (by kernel_rfl) (fun _ _ _ h => h) (by rfl) (by intro w hSw; (try dsimp only at hSw); go_simp; try with_reducible rfl) (by assumption) ?_
          simp only [Act.put, List.setIfInBounds_toArray, List.set_cons_zero, List.set_cons_succ]
          refine any_take 37 (.pointer (some ⟨d, 0, none⟩)) (i := 3) rfl rfl (by kernel_rfl) (by kernel_rfl) (by kernel_rfl) (fun _ _ _ h => h) (by rfl) (by intro w hSw; (try dsimp only at hSw); go_simp; try with_reducible rfl) (by assumption) ?_
          simp only [Act.put, List.setIfInBounds_toArray, List.set_cons_zero, List.set_cons_succ]
          refine any_take 38 (.pointer (some ⟨l, 0, none⟩)) (i := 4) rfl rfl (by kernel_rfl) (by kernel_rfl) (by kernel_rfl) (fun _ _ _ h => h) (by rfl) (by intro w hSw; (try dsimp only at hSw); go_simp; try with_reducible rfl) (by assumption) ?_
          simp only [Act.put, List.setIfInBounds_toArray, List.set_cons_zero, List.set_cons_succ]
          refine any_take 39 (.pointer (some ⟨l, 0, none⟩)) (i := 5) rfl rfl (by kernel_rfl) (by kernel_rfl) (by kernel_rfl) (fun _ _ _ h => h) (by rfl) (by intro w hSw; (try dsimp only at hSw); go_simp; try with_reducible rfl) (by assumption) ?_
          simp only [Act.put, List.setIfInBounds_toArray, List.set_cons_zero, List.set_cons_succ]
          refine any_take 40 (.pointer (some ⟨l, 1, none⟩)) (i := 6) rfl rfl (by kernel_rfl) (by kernel_rfl) (by kernel_rfl) (fun _ _ _ h => h) (by rfl) (by intro w hSw; (try dsimp only at hSw); go_simp; try with_reducible rfl) (by assumption) ?_
          simp only [Act.put, List.setIfInBounds_toArray, List.set_cons_zero, List.set_cons_succ]
          refine any_take 41 (.int .i64 (q : Int)) (i := 7) rfl rfl (by kernel_rfl) (by kernel_rfl) (by kernel_rfl) (fun _ _ _ h => h) (by rfl) (by intro w hSw; (try dsimp only at hSw); go_simp; try with_reducible rfl) (by assumption) ?_
          simp only [Act.put, List.setIfInBounds_toArray, List.set_cons_zero, List.set_cons_succ]
          refine any_take 42 (.int .i64 (i : Int)) (i := 8) rfl rfl (by kernel_rfl) (by kernel_rfl) (by kernel_rfl) (fun _ _ _ h => h) (by rfl) (by intro w hSw; (try dsimp only at hSw); go_simp; try with_reducible rfl) (by assumption) ?_
          simp only [Act.put, List.setIfInBounds_toArray, List.set_cons_zero, List.set_cons_succ]
          refine any_take 43 (.int .i64 ((q : Int) + (i : Int))) (i := 9) rfl rfl (by kernel_rfl) (by kernel_rfl) (by kernel_rfl) (fun _ _ _ h => h) (by rfl) (by intro w hSw; (try dsimp only at hSw); go_simp; try with_reducible rfl) (by assumption) ?_
          simp only [Act.put, List.setIfInBounds_toArray, List.set_cons_zero, List.set_cons_succ]
          refine any_take 44 (.agg #[.int .u64 o0, .int .u64 o1, .int .u64 o2, .int .u64 o3, .int .u64 o4, .int .u64 o5, .int .u64 o6, .int .u64 o7]) (i := 10) rfl rfl (by kernel_rfl) (by kernel_rfl) (by kernel_rfl) (fun _ _ _ h => h) (by rfl) (by intro w hSw; (try dsimp only at hSw); go_simp; try with_reducible rfl) (by assumption) ?_
          simp only [Act.put, List.setIfInBounds_toArray, List.set_cons_zero, List.set_cons_succ]
          refine wpAnyH_ready (rs := [11]) (by kernel_rfl) (by simp) ?_
          refine AllReadyH.cons rfl (fun K' hK => ?_) AllReadyH.nil
          go_simp
          go_at_call 19
          refine HW.out.mono ?_
          rintro e2 w2 ⟨rfl, S2, hD2, hS2⟩
          dsimp only
          refine hK.out _ _ (HX.out w2 (((Fr.refl S1 wc).drew).trans' hS2.fr (fun _ _ e => e))) (fun hHeld => ?_)
          clear hK HW
          refine wpAnyH_done (by kernel_rfl) ?_ _
          clear hHeld HX
          go_wp2
          go_roundw
          case rel => exact ⟨i + 1, true, by omega, Hany2, by go_num, rfl, S2, a1 + 1, b1, Lib.hid (by rw [Hsucc.out]; exact hD2), Lib.hid (HS1.out.trans' (Step.afterN FC.drew hS2))⟩
          case measure => simp [intOf]; omega
    · obtain rfl : i = n := by omega
      clear hlt
      have Hop : Hid (openD D q i m = if clrAny D q i m = true then (clrD D q i m).sync else clrD D q i m) := Lib.hid rfl
      cases cl with
      | true =>
        have HY := Lib.hid (dSync_any wr HD1.out)
        have c0 := (HL.out wr HS1.out.fr).1
        go_wp2_with fail
        refine HY.out.mono ?_
        rintro e w2 ⟨rfl, S2, hD2, hS2⟩
        go_wp2
        first | go_end0 | refine bodyPost_ret (results_none rfl _ _ _) rfl ?_
        refine ⟨rfl, S2, a1, b1 + 1, ?_, HS1.out.trans' hS2⟩
        rw [Hop.out, ← Hcl.out]
        exact hD2
      | false =>
        go_wp2
        first | go_end0 | refine bodyPost_ret (results_none rfl _ _ _) rfl ?_
        refine ⟨rfl, S1, a1, b1, ?_, HS1.out⟩
        rw [Hop.out, ← Hcl.out]
        exact HD1.out
end Go.Proofs.Ytdmllfjeofiddaa
/- Package log: the sectors that words of frames are in are written. -/
namespace Go.Proofs.Ytdmllfjeofiddaa
open Go.RowKit Go.Shelf

/-- What frames have of a sector, where words were put behind. -/
theorem secW_app {D : Dv} {q n z : Nat} {ws new : List Nat} (h : partW D.rd q n = ws ++ List.replicate z 0) (i : Nat) (hi : i < n) : secW (ws ++ new) i = appS D q ws.length new i := by
  unfold secW appS
  refine List.map_congr_left fun k hk => ?_
  simp only [List.mem_range] at hk
  by_cases hl : 8 * i + k < ws.length
  · rw [if_pos hl]
    have h0 := partW_get h (8 * i + k) (by omega)
    unfold wdS at h0
    rw [show (8 * i + k) / 8 = i by omega, show (8 * i + k) % 8 = k by omega] at h0
    rw [h0]
    simp [List.getD, List.getElem?_append_left hl]
  · rw [if_neg hl]
    simp [List.getD, List.getElem?_append_right (show ws.length ≤ 8 * i + k by omega)]
set_option maxRecDepth 100000 in
set_option maxHeartbeats 4000000 in
theorem lWrite_any {S : Nat → Prop} {l d q n m c k a b z : Nat} {ep : Int} {A : Option Addr} {D : Dv} {ws new : List Nat} (hq : q + n ≤ D.n) (hmn : m ≤ 8 * n) (hz : partW D.rd q n = ws ++ List.replicate z 0) (h64 : ∀ u ∈ ws ++ new, u < 18446744073709551616) (h64n : ∀ u ∈ new, u < 18446744073709551616) (w : World) (hd : DD w S d D a b) (h : LB w l d q n ep A m c (ws ++ new) k) (hap : ∀ j, LT l A m c j → ¬ S j) :
    Calls Try.prog 48 #[.pointer (some ⟨l, 0, none⟩), .int .i64 (ws.length / 8 : Nat)] w fun e w' => e = .returned (.tuple #[]) ∧ ∃ (S' : Nat → Prop) (a b : Nat), DD w' S' d (appD D q ws.length new) a b ∧ Step S S' w w' := by
  have hD : D.n ≤ 4096 := by obtain ⟨_, _, _, L, m, c, -, hk⟩ := hd; exact hk.n
  have hok := hd.ok
  have hlen := h.len
  rw [List.length_append] at hlen
  have HL := Lib.hid (fun W (hW : Fr S w W) => (h.fr hW hap).cells)
  have HS := Lib.hid (fun i (hi : i < n) W (hW : Fr S w W) => lSector_any i (by omega) h64 W (h.fr hW hap) (by omega))
  obtain ⟨-, -, -, -, c4, -⟩ := h.cells
  have Hok := Lib.hid hok
  have Hd := Lib.hid hd
  have H64 := Lib.hid h64n
  have Hsec := Lib.hid (fun i (hi : i < n) => secW_app (new := new) hz i hi)
  have Hto := Lib.hid (fun j (hj : ws.length / 8 ≤ j) => appTo_succ D q ws.length new j hj)
  have Hto0 := Lib.hid (appTo_zero D q ws.length new)
  have Hrd := Lib.hid (fun j => appTo_rd_new D q ws.length new j)
  obtain ⟨f, Hf⟩ : ∃ f, Hid (ws.length / 8 = f) := ⟨_, Lib.hid rfl⟩
  obtain ⟨J, HJ⟩ : ∃ J, Hid ((ws.length + new.length + 7) / 8 = J) := ⟨_, Lib.hid rfl⟩
  have hfJ : f ≤ J := by rw [← Hf.out, ← HJ.out]; omega
  have hJn : J ≤ n := by rw [← HJ.out]; omega
  have hJq : ((m : Int) + 8 - 1).tdiv 8 = (J : Int) := by rw [Int.tdiv_eq_ediv_of_nonneg (by omega), ← HJ.out]; omega
  obtain ⟨T, HT⟩ : ∃ T, Hid (J - f = T) := ⟨_, Lib.hid rfl⟩
  have hT : (J : Int) - (f : Int) = (T : Int) := by rw [← HT.out]; omega
  have hTn : f + T ≤ n := by rw [← HT.out]; omega
  have HfT : Hid (f + T = J) := Lib.hid (by rw [← HT.out]; omega)
  rw [Hf.out] at Hto Hto0 ⊢
  have Happ : Hid (appD D q ws.length new = appTo D q ws.length new (f + T)) := Lib.hid (by rw [HfT.out, ← HJ.out]; rfl)
  rw [Happ.out]
  clear h hd hok h64 h64n hap hz hlen
  go_enter Try.func48, Try.ntmps48
  go_wp2
  go_loopw [17] (fun iv wr => ∃ (i : Nat), i ≤ T ∧ iv = .int .i64 i ∧ ∃ (S' : Nat → Prop) (a b : Nat), Hid (DD wr S' d (appTo D q ws.length new (f + i)) a b) ∧ Hid (Step S S' w wr)) (fun iv _ => T - (intOf iv).toNat)
  case atStart => exact ⟨0, by omega, rfl, S, a, b, Lib.hid (by rw [Nat.add_zero, Hto0.out]; exact Hd.out), Lib.hid ⟨Fr.refl _ _, fun _ h => .inl h⟩⟩
  case round =>
    obtain ⟨i, hi, rfl, S1, a1, b1, HD1, HS1⟩ := hrel
    by_cases hlt : i < T
    · have hos : Sec (appS D q ws.length new (f + i)) := appS_sec (Hok.out.rd _ (by omega)) H64.out
      obtain ⟨o0, o1, o2, o3, o4, o5, o6, o7, ho⟩ := sec_lit hos
      have HO : Hid (∀ W, Fr No wr W → Calls Try.prog 55 #[.pointer (some ⟨l, 0, none⟩), .int .i64 ((f : Int) + (i : Int))] W fun e w' => e = .returned (.agg #[.int .u64 o0, .int .u64 o1, .int .u64 o2, .int .u64 o3, .int .u64 o4, .int .u64 o5, .int .u64 o6, .int .u64 o7]) ∧ Fr No W w') := Lib.hid (fun W hW => by
        have := HS.out (f + i) (by omega) W (HS1.out.fr.trans' hW (fun _ _ e => e.elim))
        rw [Hsec.out (f + i) (by omega), ho] at this
        exact this)
      have Hsucc := Lib.hid (Hto.out (f + i) (by omega))
      rw [ho] at hos Hsucc
      have HW0 : Hid (∀ W, Fr No wr W → Calls Try.prog 19 #[.pointer (some ⟨d, 0, none⟩), .int .i64 ((q : Int) + (f : Int) + (i : Int)), .agg #[.int .u64 o0, .int .u64 o1, .int .u64 o2, .int .u64 o3, .int .u64 o4, .int .u64 o5, .int .u64 o6, .int .u64 o7]] W fun e w' =>
          e = .returned (.int .i64 0) ∧ ∃ S', DD w' S' d ((appTo D q ws.length new (f + i)).write (q + (f + i)) [o0, o1, o2, o3, o4, o5, o6, o7]) (a1 + 1) b1 ∧ Step S1 S' W w') := Lib.hid (fun W hW => by
        have e1 : ((q : Int) + (f : Int) + (i : Int)) = ((q + (f + i) : Nat) : Int) := by omega
        rw [e1]
        exact dWrite_yes (a := a1) (b := b1) (D := appTo D q ws.length new (f + i)) (q + (f + i)) (by show q + (f + i) < D.n; omega) o0 o1 o2 o3 o4 o5 o6 o7 hos W (HD1.out.fr hW (fun _ _ e => e)))
      have hw1 : IntKind.i64.wrap ((q : Int) + (f : Int)) = (q : Int) + (f : Int) := IntWalk.i64_in _ (by omega)
      have hw2 : IntKind.i64.wrap ((q : Int) + (f : Int) + (i : Int)) = (q : Int) + (f : Int) + (i : Int) := IntWalk.i64_in _ (by omega)
      have hw3 : IntKind.i64.wrap ((f : Int) + (i : Int)) = (f : Int) + (i : Int) := IntWalk.i64_in _ (by omega)
      have HLr := Lib.hid (fun W (hW : Fr S1 wr W) => show W.cell? ⟨l, 0, none⟩ = some (.pointer (some ⟨d, 0, none⟩)) ∧ W.cell? ⟨l, 1, none⟩ = some (.int .i64 (q : Int)) from by
        have hF : Fr S w W := HS1.out.fr.trans' hW (fun k hk e => by rcases HS1.out.grow k e with h | h; (exact h); (omega))
        exact ⟨(HL.out W hF).1, (HL.out W hF).2.1⟩)
      clear ho hos
      go_wp2_with fail
      refine wp_region_held_drew (S := fun w' => w'.cell? ⟨l, 0, none⟩ = some (.pointer (some ⟨d, 0, none⟩)) ∧ w'.cell? ⟨l, 1, none⟩ = some (.int .i64 (q : Int))) (by kernel_rfl) (HLr.out wr (Fr.refl _ _)) (fun hHeld => ?_)
      refine any_take 20 (.pointer (some ⟨l, 0, none⟩)) (i := 0) rfl rfl (by kernel_rfl) (by kernel_rfl) (by kernel_rfl) (fun _ _ _ h => h) (by rfl) (by intro w hSw; (try dsimp only at hSw); go_simp; try with_reducible rfl) (by assumption) ?_
      simp only [Act.put, List.setIfInBounds_toArray, List.set_cons_zero, List.set_cons_succ]
      refine any_take 21 (.pointer (some ⟨l, 0, none⟩)) (i := 1) rfl rfl (by kernel_rfl) (by kernel_rfl) (by kernel_rfl) (fun _ _ _ h => h) (by rfl) (by intro w hSw; (try dsimp only at hSw); go_simp; try with_reducible rfl) (by assumption) ?_
      simp only [Act.put, List.setIfInBounds_toArray, List.set_cons_zero, List.set_cons_succ]
      refine any_take 22 (.pointer (some ⟨l, 0, none⟩)) (i := 2) rfl rfl (by kernel_rfl) (by kernel_rfl) (by kernel_rfl) (fun _ _ _ h => h) (by rfl) (by intro w hSw; (try dsimp only at hSw); go_simp; try with_reducible rfl) (by assumption) ?_
      simp only [Act.put, List.setIfInBounds_toArray, List.set_cons_zero, List.set_cons_succ]
      refine any_take 23 (.pointer (some ⟨d, 0, none⟩)) (i := 3) rfl rfl (by kernel_rfl) (by kernel_rfl) (by kernel_rfl) (fun _ _ _ h => h) (by rfl) (by intro w hSw; (try dsimp only at hSw); go_simp; try with_reducible rfl) (by assumption) ?_
      simp only [Act.put, List.setIfInBounds_toArray, List.set_cons_zero, List.set_cons_succ]
      refine any_take 24 (.pointer (some ⟨l, 0, none⟩)) (i := 4) rfl rfl (by kernel_rfl) (by kernel_rfl) (by kernel_rfl) (fun _ _ _ h => h) (by rfl) (by intro w hSw; (try dsimp only at hSw); go_simp; try with_reducible rfl) (by assumption) ?_
      simp only [Act.put, List.setIfInBounds_toArray, List.set_cons_zero, List.set_cons_succ]
      refine any_take 25 (.pointer (some ⟨l, 0, none⟩)) (i := 5) rfl rfl (by kernel_rfl) (by kernel_rfl) (by kernel_rfl) (fun _ _ _ h => h) (by rfl) (by intro w hSw; (try dsimp only at hSw); go_simp; try with_reducible rfl) (by assumption) ?_
      simp only [Act.put, List.setIfInBounds_toArray, List.set_cons_zero, List.set_cons_succ]
      refine any_take 26 (.pointer (some ⟨l, 1, none⟩)) (i := 6) rfl rfl (by kernel_rfl) (by kernel_rfl) (by kernel_rfl) (fun _ _ _ h => h) (by rfl) (by intro w hSw; (try dsimp only at hSw); go_simp; try with_reducible rfl) (by assumption) ?_
      simp only [Act.put, List.setIfInBounds_toArray, List.set_cons_zero, List.set_cons_succ]
      refine any_take 27 (.int .i64 (q : Int)) (i := 7) rfl rfl (by kernel_rfl) (by kernel_rfl) (by kernel_rfl) (fun _ _ _ h => h) (by rfl) (by intro w hSw; (try dsimp only at hSw); go_simp; try with_reducible rfl) (by assumption) ?_
      simp only [Act.put, List.setIfInBounds_toArray, List.set_cons_zero, List.set_cons_succ]
      refine any_take 28 (.int .i64 (f : Int)) (i := 8) rfl rfl (by kernel_rfl) (by kernel_rfl) (by kernel_rfl) (fun _ _ _ h => h) (by rfl) (by intro w hSw; (try dsimp only at hSw); go_simp; try with_reducible rfl) (by assumption) ?_
      simp only [Act.put, List.setIfInBounds_toArray, List.set_cons_zero, List.set_cons_succ]
      refine any_take 29 (.int .i64 ((q : Int) + (f : Int))) (i := 9) rfl rfl (by kernel_rfl) (by kernel_rfl) (by kernel_rfl) (fun _ _ _ h => h) (by rfl) (by intro w hSw; (try dsimp only at hSw); go_simp; try with_reducible rfl) (by assumption) ?_
      simp only [Act.put, List.setIfInBounds_toArray, List.set_cons_zero, List.set_cons_succ]
      refine any_take 30 (.int .i64 (i : Int)) (i := 10) rfl rfl (by kernel_rfl) (by kernel_rfl) (by kernel_rfl) (fun _ _ _ h => h) (by rfl) (by intro w hSw; (try dsimp only at hSw); go_simp; try with_reducible rfl) (by assumption) ?_
      simp only [Act.put, List.setIfInBounds_toArray, List.set_cons_zero, List.set_cons_succ]
      refine any_take 31 (.int .i64 ((q : Int) + (f : Int) + (i : Int))) (i := 11) rfl rfl (by kernel_rfl) (by kernel_rfl) (by kernel_rfl) (fun _ _ _ h => h) (by rfl) (by intro w hSw; (try dsimp only at hSw); go_simp; try with_reducible rfl) (by assumption) ?_
      simp only [Act.put, List.setIfInBounds_toArray, List.set_cons_zero, List.set_cons_succ]
      refine any_take 32 (.pointer (some ⟨l, 0, none⟩)) (i := 12) rfl rfl (by kernel_rfl) (by kernel_rfl) (by kernel_rfl) (fun _ _ _ h => h) (by rfl) (by intro w hSw; (try dsimp only at hSw); go_simp; try with_reducible rfl) (by assumption) ?_
      simp only [Act.put, List.setIfInBounds_toArray, List.set_cons_zero, List.set_cons_succ]
      refine any_take 33 (.int .i64 (f : Int)) (i := 13) rfl rfl (by kernel_rfl) (by kernel_rfl) (by kernel_rfl) (fun _ _ _ h => h) (by rfl) (by intro w hSw; (try dsimp only at hSw); go_simp; try with_reducible rfl) (by assumption) ?_
      simp only [Act.put, List.setIfInBounds_toArray, List.set_cons_zero, List.set_cons_succ]
      refine any_take 34 (.int .i64 (i : Int)) (i := 14) rfl rfl (by kernel_rfl) (by kernel_rfl) (by kernel_rfl) (fun _ _ _ h => h) (by rfl) (by intro w hSw; (try dsimp only at hSw); go_simp; try with_reducible rfl) (by assumption) ?_
      simp only [Act.put, List.setIfInBounds_toArray, List.set_cons_zero, List.set_cons_succ]
      refine any_take 35 (.int .i64 ((f : Int) + (i : Int))) (i := 15) rfl rfl (by kernel_rfl) (by kernel_rfl) (by kernel_rfl) (fun _ _ _ h => h) (by rfl) (by intro w hSw; (try dsimp only at hSw); go_simp; try with_reducible rfl) (by assumption) ?_
      simp only [Act.put, List.setIfInBounds_toArray, List.set_cons_zero, List.set_cons_succ]
      refine wpAnyH_ready (rs := [16]) (by kernel_rfl) (by simp) ?_
      refine AllReadyH.cons rfl (fun K' hK => ?_) AllReadyH.nil
      go_simp
      go_at_call 55
      refine (HO.out _ ((Fr.refl _ _).drew)).mono ?_
      rintro e1 w1 ⟨rfl, f1⟩
      have F1 : Fr No wr w1 := Fr.trans' ((Fr.refl _ _).drew) f1 (fun _ _ e => e)
      dsimp only
      refine hK.out _ _ (HLr.out w1 (F1.weak (fun _ _ e => e.elim))) (fun hHeld => ?_)
      clear hK HO
      try simp only [Act.put, List.setIfInBounds_toArray, List.set_cons_zero, List.set_cons_succ]
      refine wpAnyH_ready (rs := [17]) (by kernel_rfl) (by simp) ?_
      refine AllReadyH.cons rfl (fun K' hK => ?_) AllReadyH.nil
      go_simp
      go_at_call 19
      refine (HW0.out _ F1).mono ?_
      rintro e2 w2 ⟨rfl, S2, hD2, hS2⟩
      dsimp only
      refine hK.out _ _ (HLr.out w2 ((F1.weak (S' := S1) (fun _ _ e => e.elim)).trans' hS2.fr (fun _ _ e => e))) (fun hHeld => ?_)
      clear hK HW0
      refine wpAnyH_done (by kernel_rfl) ?_ _
      clear hHeld HLr
      go_wp2
      go_roundw
      case rel => exact ⟨i + 1, by omega, by go_num, S2, a1 + 1, b1, Lib.hid (by rw [← Nat.add_assoc, Hsucc.out]; exact hD2), Lib.hid (HS1.out.trans' (Step.afterN F1 hS2))⟩
      case measure => simp [intOf]; omega
    · obtain rfl : i = T := by omega
      clear hlt
      go_wp2
      first | go_end0 | refine bodyPost_ret (results_none rfl _ _ _) rfl ?_
      exact ⟨rfl, S1, a1, b1, HD1.out, HS1.out⟩
end Go.Proofs.Ytdmllfjeofiddaa
