/- Package step: what each instruction does. -/
import Derived.Test.YthenadijiepmnaaGreatCnt13
namespace Go.Proofs.YthenadijiepmnaaGreat
open Go.RowKit

/-- Where a step stands, as it lies. -/
structure DG (x : Dx) (s : Sst) (w : World) : Prop where
  dl : DL x s.r s.rd s.wt (fun k => if s.wt k = true then some (chgAt s.m k).agg else none) w
  un : ∀ j, s.wt j = false → s.m j = valP x.P.flatten j
  vals : ∀ j v, s.m j = some v → I64 v
def Dx.mr (x : Dx) : Nat → Bool := keysOf (chosen false x.gs x.foot)
def Dx.mw (x : Dx) : Nat → Bool := keysOf (chosen true x.gs x.foot)
/-- What an instruction comes to. -/
def OpC (x : Dx) (i : Ins) (s : Sst) (w : World) (e : Ending) (w' : World) : Prop :=
  match stepI x.ask x.mr x.mw x.gs i s with
  | .ok s' => e = .returned (.tuple #[]) ∧ DG x s' w' ∧ Fr (DM x) w w'
  | .error c => e = .panicked (pan13 c) ∧ Fr (DM x) w w'
theorem DG.fr0 {x : Dx} {s : Sst} {w w' : World} (h : DG x s w) (hf : Fr No w w') : DG x s w' := ⟨h.dl.fr0 hf, h.un, h.vals⟩
theorem DG.put {x : Dx} {s : Sst} {w : World} (h : DG x s w) {a : Nat} (ha : a < 4) {v : Int} (hv : I64 v) : DG x { s with r := upd s.r a v } (w.setCell ⟨x.d, 5 + a, none⟩ (.int .i64 v)) := ⟨h.dl.put ha hv, h.un, h.vals⟩
theorem i64_le {v : Int} (h0 : 0 ≤ v) (h1 : v ≤ 1000) : I64 v := by unfold I64; omega
theorem DG.val {x : Dx} {s : Sst} {w : World} (h : DG x s w) (k : Nat) : I64 (valM s.m k) := by
  unfold valM
  cases e : s.m k with
  | none => exact i64_le (Int.le_refl _) (by simp)
  | some v => exact h.vals k v e
theorem chg_fun (wt : Nat → Bool) (m : Mp) (k : Nat) (o : Option Int) : upd (fun j => if wt j = true then some (chgAt m j).agg else none) k (some (chgAt (upd m k o) k).agg) = fun j => if upd wt k true j = true then some (chgAt (upd m k o) j).agg else none := by
  funext j
  unfold upd
  by_cases e : j = k
  · rw [if_pos e, if_pos e, if_pos rfl, e]
  · rw [if_neg e, if_neg e]
    unfold chgAt isM valM
    simp only
    rw [if_neg e]

section
variable {x : Dx} {w w' : World} {s : Sst}
set_option maxRecDepth 100000 in
set_option maxHeartbeats 4000000 in
theorem dSet_any (_hs : Dst x w) (hg : DG x s w) {i : Ins} (ho : i.op = 5) (ha : 0 ≤ i.a ∧ i.a ≤ 3) (hx : I64 i.x) : Calls Tryz.prog 78 #[.pointer (some ⟨x.d, 0, none⟩), i.agg] w (OpC x i s w) := by
  have e0 : stepI x.ask x.mr x.mw x.gs i s = .ok { s with r := upd s.r i.a.toNat i.x } := by unfold stepI; rw [ho]; rfl
  unfold OpC
  rw [e0]
  obtain ⟨op, a, b, c, ka, kb, la, lb, y⟩ := i
  obtain ⟨a, rfl⟩ : ∃ n : Nat, a = n := ⟨a.toNat, (Int.toNat_of_nonneg ha.1).symm⟩
  simp only [Ins.agg, Int.toNat_natCast] at ha hx ⊢
  have ha4 : a < 4 := by omega
  have f0 : Fr No w (w.alloc (.cells #[.int .i64 op, .int .i64 (a : Int), .int .i64 b, .int .i64 c, .int .i64 ka, .int .i64 kb, .int .i64 la, .int .i64 lb, .int .i64 y] 66)).drew := ((Fr.refl _ _).alloc _).drew
  have hg1 := hg.fr0 f0
  have g0 := hg1.dl.rg ha4
  have gz := hg1.dl.frozen (5 + a)
  have HP := Lib.hid ((hg.put ha4 hx).fr0 (((Fr.refl No _).alloc (.cells #[.int .i64 op, .int .i64 (a : Int), .int .i64 b, .int .i64 c, .int .i64 ka, .int .i64 kb, .int .i64 la, .int .i64 lb, .int .i64 y] 66)).drew))
  have HF := Lib.hid ((((Fr.refl (fun k => k = x.d) w).setCell (p := ⟨x.d, 5 + a, none⟩) (.inl rfl) (.int .i64 y)).alloc (.cells #[.int .i64 op, .int .i64 (a : Int), .int .i64 b, .int .i64 c, .int .i64 ka, .int .i64 kb, .int .i64 la, .int .i64 lb, .int .i64 y] 66)).drew.dm)
  have hdl := hg.dl.lt
  have q1 : (0 : Int) ≤ (a : Int) := by omega
  have q2 : (a : Int) < 4 := by omega
  clear _hs hg ho e0 hg1 f0 ha
  generalize s.r a = ra at *
  generalize x.d = d at *
  go_enter Tryz.func78, Tryz.ntmps78
  go_wp2_with fail
  go_region
  all_goals
    go_wp2
    go_end0
    exact ⟨rfl, HP.out, HF.out⟩
set_option maxRecDepth 100000 in
set_option maxHeartbeats 4000000 in
theorem dAdd_any (_hs : Dst x w) (hg : DG x s w) {i : Ins} (ho : i.op = 6) (ha : 0 ≤ i.a ∧ i.a ≤ 3) (hb : 0 ≤ i.b ∧ i.b ≤ 3) (hc : 0 ≤ i.c ∧ i.c ≤ 3) : Calls Tryz.prog 79 #[.pointer (some ⟨x.d, 0, none⟩), i.agg] w (OpC x i s w) := by
  have e0 : stepI x.ask x.mr x.mw x.gs i s = if fitI (s.r i.b.toNat + s.r i.c.toNat) = true then .ok { s with r := upd s.r i.a.toNat (s.r i.b.toNat + s.r i.c.toNat) } else .error 8 := by unfold stepI; rw [ho]; rfl
  unfold OpC
  rw [e0]
  obtain ⟨op, a, b, c, ka, kb, la, lb, y⟩ := i
  obtain ⟨a, rfl⟩ : ∃ n : Nat, a = n := ⟨a.toNat, (Int.toNat_of_nonneg ha.1).symm⟩
  obtain ⟨b, rfl⟩ : ∃ n : Nat, b = n := ⟨b.toNat, (Int.toNat_of_nonneg hb.1).symm⟩
  obtain ⟨c, rfl⟩ : ∃ n : Nat, c = n := ⟨c.toNat, (Int.toNat_of_nonneg hc.1).symm⟩
  simp only [Ins.agg, Int.toNat_natCast] at ha hb hc ⊢
  have ha4 : a < 4 := by omega
  have hb4 : b < 4 := by omega
  have hc4 : c < 4 := by omega
  have f0 : Fr No w (w.alloc (.cells #[.int .i64 op, .int .i64 (a : Int), .int .i64 b, .int .i64 c, .int .i64 ka, .int .i64 kb, .int .i64 la, .int .i64 lb, .int .i64 y] 66)).drew := ((Fr.refl _ _).alloc _).drew
  have hg1 := hg.fr0 f0
  have gb := hg1.dl.rg hb4
  have gc := hg1.dl.rg hc4
  have hg2 := hg1.fr0 ((Fr.refl No _).drew)
  have ga := hg2.dl.rg ha4
  have gz := hg2.dl.frozen (5 + a)
  have hov := over_add (hg.dl.reg b hb4) (hg.dl.reg c hc4)
  have hdl := hg.dl.lt
  have HDG := Lib.hid (fun (h : fitI (s.r b + s.r c) = true) => (hg.put ha4 (v := s.r b + s.r c) (by have := of_decide_eq_true h; unfold I64; omega)).fr0 ((((Fr.refl No _).alloc (.cells #[.int .i64 op, .int .i64 (a : Int), .int .i64 b, .int .i64 c, .int .i64 ka, .int .i64 kb, .int .i64 la, .int .i64 lb, .int .i64 y] 66)).drew).drew))
  have HF := Lib.hid (((((Fr.refl (fun k => k = x.d) w).setCell (p := ⟨x.d, 5 + a, none⟩) (.inl rfl) (.int .i64 (s.r b + s.r c))).alloc (.cells #[.int .i64 op, .int .i64 (a : Int), .int .i64 b, .int .i64 c, .int .i64 ka, .int .i64 kb, .int .i64 la, .int .i64 lb, .int .i64 y] 66)).drew).drew.dm)
  have HF0 := Lib.hid (f0.nm (x := x))
  have Hw := Lib.hid (fun (h : fitI (s.r b + s.r c) = true) => fit_wrap h)
  have q1 : (0 : Int) ≤ (a : Int) := by omega
  have q2 : (a : Int) < 4 := by omega
  have q3 : (0 : Int) ≤ (b : Int) := by omega
  have q4 : (b : Int) < 4 := by omega
  have q5 : (0 : Int) ≤ (c : Int) := by omega
  have q6 : (c : Int) < 4 := by omega
  clear _hs hg ho e0 hg1 hg2 f0 ha hb hc
  generalize s.r a = ra at *
  generalize hrb : s.r b = rb at *
  generalize hrc : s.r c = rc at *
  clear hrb hrc
  generalize x.d = d at *
  generalize fitI (rb + rc) = fb at *
  cases fb
  · simp only [Bool.false_eq_true, if_false]
    go_enter Tryz.func79, Tryz.ntmps79
    go_wp2_with fail
    go_region
    all_goals
      go_wp2_with fail
      refine (must_any _ _ _).mono ?_
      rintro e w1 ⟨rfl, rfl⟩
      exact ⟨rfl, rfl, HF0.out⟩
  · simp only [if_true]
    have hwr := Hw.out (by first | rfl | trivial)
    rw [hwr] at hov
    go_enter Tryz.func79, Tryz.ntmps79
    go_wp2_with fail
    go_region
    all_goals
      go_wp2_with fail
      refine (must_any _ _ _).mono ?_
      rintro e w1 ⟨rfl, rfl⟩
      go_wp2_with fail
      go_region
      all_goals
        go_wp2
        go_end0
        exact ⟨rfl, HDG.out (by first | rfl | trivial), HF.out⟩
set_option maxRecDepth 100000 in
set_option maxHeartbeats 4000000 in
theorem dSub_any (_hs : Dst x w) (hg : DG x s w) {i : Ins} (ho : i.op = 7) (ha : 0 ≤ i.a ∧ i.a ≤ 3) (hb : 0 ≤ i.b ∧ i.b ≤ 3) (hc : 0 ≤ i.c ∧ i.c ≤ 3) : Calls Tryz.prog 80 #[.pointer (some ⟨x.d, 0, none⟩), i.agg] w (OpC x i s w) := by
  have e0 : stepI x.ask x.mr x.mw x.gs i s = if fitI (s.r i.b.toNat - s.r i.c.toNat) = true then .ok { s with r := upd s.r i.a.toNat (s.r i.b.toNat - s.r i.c.toNat) } else .error 8 := by unfold stepI; rw [ho]; rfl
  unfold OpC
  rw [e0]
  obtain ⟨op, a, b, c, ka, kb, la, lb, y⟩ := i
  obtain ⟨a, rfl⟩ : ∃ n : Nat, a = n := ⟨a.toNat, (Int.toNat_of_nonneg ha.1).symm⟩
  obtain ⟨b, rfl⟩ : ∃ n : Nat, b = n := ⟨b.toNat, (Int.toNat_of_nonneg hb.1).symm⟩
  obtain ⟨c, rfl⟩ : ∃ n : Nat, c = n := ⟨c.toNat, (Int.toNat_of_nonneg hc.1).symm⟩
  simp only [Ins.agg, Int.toNat_natCast] at ha hb hc ⊢
  have ha4 : a < 4 := by omega
  have hb4 : b < 4 := by omega
  have hc4 : c < 4 := by omega
  have f0 : Fr No w (w.alloc (.cells #[.int .i64 op, .int .i64 (a : Int), .int .i64 b, .int .i64 c, .int .i64 ka, .int .i64 kb, .int .i64 la, .int .i64 lb, .int .i64 y] 66)).drew := ((Fr.refl _ _).alloc _).drew
  have hg1 := hg.fr0 f0
  have gb := hg1.dl.rg hb4
  have gc := hg1.dl.rg hc4
  have hg2 := hg1.fr0 ((Fr.refl No _).drew)
  have ga := hg2.dl.rg ha4
  have gz := hg2.dl.frozen (5 + a)
  have hov := over_sub (hg.dl.reg b hb4) (hg.dl.reg c hc4)
  have hdl := hg.dl.lt
  have HDG := Lib.hid (fun (h : fitI (s.r b - s.r c) = true) => (hg.put ha4 (v := s.r b - s.r c) (by have := of_decide_eq_true h; unfold I64; omega)).fr0 ((((Fr.refl No _).alloc (.cells #[.int .i64 op, .int .i64 (a : Int), .int .i64 b, .int .i64 c, .int .i64 ka, .int .i64 kb, .int .i64 la, .int .i64 lb, .int .i64 y] 66)).drew).drew))
  have HF := Lib.hid (((((Fr.refl (fun k => k = x.d) w).setCell (p := ⟨x.d, 5 + a, none⟩) (.inl rfl) (.int .i64 (s.r b - s.r c))).alloc (.cells #[.int .i64 op, .int .i64 (a : Int), .int .i64 b, .int .i64 c, .int .i64 ka, .int .i64 kb, .int .i64 la, .int .i64 lb, .int .i64 y] 66)).drew).drew.dm)
  have HF0 := Lib.hid (f0.nm (x := x))
  have Hw := Lib.hid (fun (h : fitI (s.r b - s.r c) = true) => fit_wrap h)
  have q1 : (0 : Int) ≤ (a : Int) := by omega
  have q2 : (a : Int) < 4 := by omega
  have q3 : (0 : Int) ≤ (b : Int) := by omega
  have q4 : (b : Int) < 4 := by omega
  have q5 : (0 : Int) ≤ (c : Int) := by omega
  have q6 : (c : Int) < 4 := by omega
  clear _hs hg ho e0 hg1 hg2 f0 ha hb hc
  generalize s.r a = ra at *
  generalize hrb : s.r b = rb at *
  generalize hrc : s.r c = rc at *
  clear hrb hrc
  generalize x.d = d at *
  generalize fitI (rb - rc) = fb at *
  cases fb
  · simp only [Bool.false_eq_true, if_false]
    go_enter Tryz.func80, Tryz.ntmps80
    go_wp2_with fail
    go_region
    all_goals
      go_wp2_with fail
      refine (must_any _ _ _).mono ?_
      rintro e w1 ⟨rfl, rfl⟩
      exact ⟨rfl, rfl, HF0.out⟩
  · simp only [if_true]
    have hwr := Hw.out (by first | rfl | trivial)
    rw [hwr] at hov
    go_enter Tryz.func80, Tryz.ntmps80
    go_wp2_with fail
    go_region
    all_goals
      go_wp2_with fail
      refine (must_any _ _ _).mono ?_
      rintro e w1 ⟨rfl, rfl⟩
      go_wp2_with fail
      go_region
      all_goals
        go_wp2
        go_end0
        exact ⟨rfl, HDG.out (by first | rfl | trivial), HF.out⟩
set_option maxRecDepth 100000 in
set_option maxHeartbeats 4000000 in
theorem dGuard_any (_hs : Dst x w) (hg : DG x s w) {i : Ins} (ho : i.op = 8) (ha : 0 ≤ i.a ∧ i.a ≤ 3) : Calls Tryz.prog 81 #[.pointer (some ⟨x.d, 0, none⟩), i.agg] w (OpC x i s w) := by
  have e0 : stepI x.ask x.mr x.mw x.gs i s = if s.r i.a.toNat < i.x then .error 7 else .ok s := by unfold stepI; rw [ho]; rfl
  unfold OpC
  rw [e0]
  obtain ⟨op, a, b, c, ka, kb, la, lb, y⟩ := i
  obtain ⟨a, rfl⟩ : ∃ n : Nat, a = n := ⟨a.toNat, (Int.toNat_of_nonneg ha.1).symm⟩
  simp only [Ins.agg, Int.toNat_natCast] at ha ⊢
  have ha4 : a < 4 := by omega
  have f0 : Fr No w (w.alloc (.cells #[.int .i64 op, .int .i64 (a : Int), .int .i64 b, .int .i64 c, .int .i64 ka, .int .i64 kb, .int .i64 la, .int .i64 lb, .int .i64 y] 66)).drew := ((Fr.refl _ _).alloc _).drew
  have hg1 := hg.fr0 f0
  have g0 := hg1.dl.rg ha4
  have bx : Bk (w.alloc (.cells #[.int .i64 op, .int .i64 (a : Int), .int .i64 b, .int .i64 c, .int .i64 ka, .int .i64 kb, .int .i64 la, .int .i64 lb, .int .i64 y] 66)).drew w.heap.size 66 #[.int .i64 op, .int .i64 (a : Int), .int .i64 b, .int .i64 c, .int .i64 ka, .int .i64 kb, .int .i64 la, .int .i64 lb, .int .i64 y] := (Bk.made w _ _).fr ((Fr.refl No _).drew) (fun e => e)
  have b1 := bx.cell 1
  have b8 := bx.cell 8
  simp only [List.getElem?_toArray, List.getElem?_cons_succ, List.getElem?_cons_zero] at b1 b8
  have hdl := hg.dl.lt
  have HDG := Lib.hid hg1
  have HF0 := Lib.hid (f0.nm (x := x))
  have q1 : (0 : Int) ≤ (a : Int) := by omega
  have q2 : (a : Int) < 4 := by omega
  clear _hs hg ho e0 hg1 f0 ha bx
  by_cases hc : s.r a < y
  · rw [if_pos hc]
    have hge : decide (y ≤ s.r a) = false := decide_eq_false (by omega)
    clear hc
    simp only
    generalize s.r a = ra at *
    generalize x.d = d at *
    go_enter Tryz.func81, Tryz.ntmps81
    go_wp2_with fail
    refine wp_region_held_drew (S := fun w' => w'.cell? ⟨w.heap.size, 1, none⟩ = some (.int .i64 (a : Int)) ∧ w'.cell? ⟨w.heap.size, 8, none⟩ = some (.int .i64 y) ∧ w'.cell? ⟨d, 5 + a, none⟩ = some (.int .i64 ra)) (by kernel_rfl) (⟨b1, b8, g0⟩) (fun hHeld => ?_)
    refine any_take 4 (.pointer (some ⟨d, 0, none⟩)) (i := 0) rfl rfl (by kernel_rfl) (by kernel_rfl) (by kernel_rfl) (fun _ _ _ h => h) (by rfl) (by intro w hSw; (try dsimp only at hSw); go_simp; try with_reducible rfl) (by assumption) ?_
    simp only [Act.put, List.setIfInBounds_toArray, List.set_cons_zero, List.set_cons_succ]
    refine any_take 5 (.pointer (some ⟨w.heap.size, 1, none⟩)) (i := 1) rfl rfl (by kernel_rfl) (by kernel_rfl) (by kernel_rfl) (fun _ _ _ h => h) (by rfl) (by intro w hSw; (try dsimp only at hSw); go_simp; try with_reducible rfl) (by assumption) ?_
    simp only [Act.put, List.setIfInBounds_toArray, List.set_cons_zero, List.set_cons_succ]
    refine any_take 6 (.int .i64 (a : Int)) (i := 2) rfl rfl (by kernel_rfl) (by kernel_rfl) (by kernel_rfl) (fun _ _ _ h => h) (by rfl) (by intro w hSw; (try dsimp only at hSw); go_simp; try with_reducible rfl) (by assumption) ?_
    simp only [Act.put, List.setIfInBounds_toArray, List.set_cons_zero, List.set_cons_succ]
    refine any_take 7 (.pointer (some ⟨d, 0, none⟩)) (i := 3) rfl rfl (by kernel_rfl) (by kernel_rfl) (by kernel_rfl) (fun _ _ _ h => h) (by rfl) (by intro w hSw; (try dsimp only at hSw); go_simp; try with_reducible rfl) (by assumption) ?_
    simp only [Act.put, List.setIfInBounds_toArray, List.set_cons_zero, List.set_cons_succ]
    refine any_take 8 (.pointer (some ⟨d, 5, none⟩)) (i := 4) rfl rfl (by kernel_rfl) (by kernel_rfl) (by kernel_rfl) (fun _ _ _ h => h) (by rfl) (by intro w hSw; (try dsimp only at hSw); go_simp; try with_reducible rfl) (by assumption) ?_
    simp only [Act.put, List.setIfInBounds_toArray, List.set_cons_zero, List.set_cons_succ]
    refine any_take 9 (.pointer (some ⟨d, 5 + a, none⟩)) (i := 5) rfl rfl (by kernel_rfl) (by kernel_rfl) (by kernel_rfl) (fun _ _ _ h => h) (by rfl) (by intro w hSw; (try dsimp only at hSw); go_simp; try with_reducible rfl) (by assumption) ?_
    simp only [Act.put, List.setIfInBounds_toArray, List.set_cons_zero, List.set_cons_succ]
    refine any_take 10 (.int .i64 ra) (i := 6) rfl rfl (by kernel_rfl) (by kernel_rfl) (by kernel_rfl) (fun _ _ _ h => h) (by rfl) (by intro w hSw; (try dsimp only at hSw); go_simp; try with_reducible rfl) (by assumption) ?_
    simp only [Act.put, List.setIfInBounds_toArray, List.set_cons_zero, List.set_cons_succ]
    refine any_take 11 (.pointer (some ⟨w.heap.size, 8, none⟩)) (i := 7) rfl rfl (by kernel_rfl) (by kernel_rfl) (by kernel_rfl) (fun _ _ _ h => h) (by rfl) (by intro w hSw; (try dsimp only at hSw); go_simp; try with_reducible rfl) (by assumption) ?_
    simp only [Act.put, List.setIfInBounds_toArray, List.set_cons_zero, List.set_cons_succ]
    refine any_take 12 (.int .i64 y) (i := 8) rfl rfl (by kernel_rfl) (by kernel_rfl) (by kernel_rfl) (fun _ _ _ h => h) (by rfl) (by intro w hSw; (try dsimp only at hSw); go_simp; try with_reducible rfl) (by assumption) ?_
    simp only [Act.put, List.setIfInBounds_toArray, List.set_cons_zero, List.set_cons_succ]
    refine any_take 13 (.bool false) (i := 9) rfl rfl (by kernel_rfl) (by kernel_rfl) (by kernel_rfl) (fun _ _ _ h => h) (by rfl) (by intro w hSw; (try dsimp only at hSw); go_simp; try with_reducible rfl) (by assumption) ?_
    simp only [Act.put, List.setIfInBounds_toArray, List.set_cons_zero, List.set_cons_succ]
    refine wpAnyH_ready (rs := [10]) (by kernel_rfl) (by simp) ?_
    refine AllReadyH.cons rfl (fun K' hK => ?_) AllReadyH.nil
    go_simp
    go_at_call 119
    refine (must_any _ _ _).mono ?_
    rintro e' w1 ⟨rfl, rfl⟩
    exact ⟨rfl, rfl, HF0.out⟩
  · rw [if_neg hc]
    have hge : decide (y ≤ s.r a) = true := decide_eq_true (by omega)
    clear hc
    simp only
    generalize s.r a = ra at *
    generalize x.d = d at *
    go_enter Tryz.func81, Tryz.ntmps81
    go_wp2_with fail
    refine wp_region_held_drew (S := fun w' => w'.cell? ⟨w.heap.size, 1, none⟩ = some (.int .i64 (a : Int)) ∧ w'.cell? ⟨w.heap.size, 8, none⟩ = some (.int .i64 y) ∧ w'.cell? ⟨d, 5 + a, none⟩ = some (.int .i64 ra)) (by kernel_rfl) (⟨b1, b8, g0⟩) (fun hHeld => ?_)
    refine any_take 4 (.pointer (some ⟨d, 0, none⟩)) (i := 0) rfl rfl (by kernel_rfl) (by kernel_rfl) (by kernel_rfl) (fun _ _ _ h => h) (by rfl) (by intro w hSw; (try dsimp only at hSw); go_simp; try with_reducible rfl) (by assumption) ?_
    simp only [Act.put, List.setIfInBounds_toArray, List.set_cons_zero, List.set_cons_succ]
    refine any_take 5 (.pointer (some ⟨w.heap.size, 1, none⟩)) (i := 1) rfl rfl (by kernel_rfl) (by kernel_rfl) (by kernel_rfl) (fun _ _ _ h => h) (by rfl) (by intro w hSw; (try dsimp only at hSw); go_simp; try with_reducible rfl) (by assumption) ?_
    simp only [Act.put, List.setIfInBounds_toArray, List.set_cons_zero, List.set_cons_succ]
    refine any_take 6 (.int .i64 (a : Int)) (i := 2) rfl rfl (by kernel_rfl) (by kernel_rfl) (by kernel_rfl) (fun _ _ _ h => h) (by rfl) (by intro w hSw; (try dsimp only at hSw); go_simp; try with_reducible rfl) (by assumption) ?_
    simp only [Act.put, List.setIfInBounds_toArray, List.set_cons_zero, List.set_cons_succ]
    refine any_take 7 (.pointer (some ⟨d, 0, none⟩)) (i := 3) rfl rfl (by kernel_rfl) (by kernel_rfl) (by kernel_rfl) (fun _ _ _ h => h) (by rfl) (by intro w hSw; (try dsimp only at hSw); go_simp; try with_reducible rfl) (by assumption) ?_
    simp only [Act.put, List.setIfInBounds_toArray, List.set_cons_zero, List.set_cons_succ]
    refine any_take 8 (.pointer (some ⟨d, 5, none⟩)) (i := 4) rfl rfl (by kernel_rfl) (by kernel_rfl) (by kernel_rfl) (fun _ _ _ h => h) (by rfl) (by intro w hSw; (try dsimp only at hSw); go_simp; try with_reducible rfl) (by assumption) ?_
    simp only [Act.put, List.setIfInBounds_toArray, List.set_cons_zero, List.set_cons_succ]
    refine any_take 9 (.pointer (some ⟨d, 5 + a, none⟩)) (i := 5) rfl rfl (by kernel_rfl) (by kernel_rfl) (by kernel_rfl) (fun _ _ _ h => h) (by rfl) (by intro w hSw; (try dsimp only at hSw); go_simp; try with_reducible rfl) (by assumption) ?_
    simp only [Act.put, List.setIfInBounds_toArray, List.set_cons_zero, List.set_cons_succ]
    refine any_take 10 (.int .i64 ra) (i := 6) rfl rfl (by kernel_rfl) (by kernel_rfl) (by kernel_rfl) (fun _ _ _ h => h) (by rfl) (by intro w hSw; (try dsimp only at hSw); go_simp; try with_reducible rfl) (by assumption) ?_
    simp only [Act.put, List.setIfInBounds_toArray, List.set_cons_zero, List.set_cons_succ]
    refine any_take 11 (.pointer (some ⟨w.heap.size, 8, none⟩)) (i := 7) rfl rfl (by kernel_rfl) (by kernel_rfl) (by kernel_rfl) (fun _ _ _ h => h) (by rfl) (by intro w hSw; (try dsimp only at hSw); go_simp; try with_reducible rfl) (by assumption) ?_
    simp only [Act.put, List.setIfInBounds_toArray, List.set_cons_zero, List.set_cons_succ]
    refine any_take 12 (.int .i64 y) (i := 8) rfl rfl (by kernel_rfl) (by kernel_rfl) (by kernel_rfl) (fun _ _ _ h => h) (by rfl) (by intro w hSw; (try dsimp only at hSw); go_simp; try with_reducible rfl) (by assumption) ?_
    simp only [Act.put, List.setIfInBounds_toArray, List.set_cons_zero, List.set_cons_succ]
    refine any_take 13 (.bool true) (i := 9) rfl rfl (by kernel_rfl) (by kernel_rfl) (by kernel_rfl) (fun _ _ _ h => h) (by rfl) (by intro w hSw; (try dsimp only at hSw); go_simp; try with_reducible rfl) (by assumption) ?_
    simp only [Act.put, List.setIfInBounds_toArray, List.set_cons_zero, List.set_cons_succ]
    refine wpAnyH_ready (rs := [10]) (by kernel_rfl) (by simp) ?_
    refine AllReadyH.cons rfl (fun K' hK => ?_) AllReadyH.nil
    go_simp
    go_at_call 119
    refine (must_any _ _ _).mono ?_
    rintro e' w1 ⟨rfl, rfl⟩
    try dsimp only
    refine hK.out _ _ (by assumption) (fun hHeld => ?_)
    clear hK
    try simp only [Act.put, List.setIfInBounds_toArray, List.set_cons_zero, List.set_cons_succ]
    refine wpAnyH_done (by kernel_rfl) ?_ _
    clear hHeld
    go_wp2
    go_end0
    exact ⟨rfl, HDG.out, HF0.out⟩
end
end Go.Proofs.YthenadijiepmnaaGreat
/- Package step: what an instruction that reads or writes does. -/
namespace Go.Proofs.YthenadijiepmnaaGreat
open Go.RowKit

/-- Its cells lie in a box of the call's own. -/
theorem box13 {x : Dx} {w : World} (hd : x.d < w.heap.size) (cs : Array Value) : ∀ W, Fr (fun k => k = x.d) (w.alloc (.cells cs 66)) W → ∀ i, W.cell? ⟨w.heap.size, i, none⟩ = cs[i]? := fun W hW i =>
  ((Bk.made w 66 cs).fr hW (fun e => by have e : w.heap.size = x.d := e; omega)).cell i
theorem box13m {x : Dx} {w : World} (hd : x.d < w.heap.size) (hm : x.m < w.heap.size) (cs : Array Value) : ∀ W, Fr (DM x) (w.alloc (.cells cs 66)) W → ∀ i, W.cell? ⟨w.heap.size, i, none⟩ = cs[i]? := fun W hW i =>
  ((Bk.made w 66 cs).fr hW (fun e => by rcases e with e | e <;> omega)).cell i
section
variable {x : Dx} {w w' : World} {s : Sst}
theorem DG.key (hs : Dst x w) (hg : DG x s w) {a b : Int} (hk : keyOk a b x.gs.length = true) : ∃ k : Nat, k < 1000 ∧ keyOf a b x.gs = (k : Int) ∧
    ∀ W, Fr No w W → Calls Tryz.prog 113 #[.pointer (some ⟨x.d, 0, none⟩), .agg #[.int .i64 a, .int .i64 b]] W fun e w' => e = .returned (.int .i64 (k : Int)) ∧ Fr No W w' := by
  obtain ⟨h0, h1⟩ := keyOf_range hk hs.ga
  refine ⟨(keyOf a b x.gs).toNat, by omega, (Int.toNat_of_nonneg h0).symm, fun W hW => ?_⟩
  have h := dKey_any (hs.fr0 hW) (hg.dl.fr0 hW) a b hk
  rw [← Int.toNat_of_nonneg h0] at h
  exact h
set_option maxRecDepth 100000 in
set_option maxHeartbeats 4000000 in
theorem dGet_any (hs : Dst x w) (hg : DG x s w) {i : Ins} (ho : i.op = 1) (ha : 0 ≤ i.a ∧ i.a ≤ 3) (hk : keyOk i.ka i.kb x.gs.length = true) : Calls Tryz.prog 74 #[.pointer (some ⟨x.d, 0, none⟩), i.agg] w (OpC x i s w) := by
  have e0 : stepI x.ask x.mr x.mw x.gs i s = if (x.ask && !x.mr (keyN i x.gs)) = true then .error 9 else .ok { s with rd := upd s.rd (keyN i x.gs) true, r := upd s.r i.a.toNat (valM s.m (keyN i x.gs)) } := by unfold stepI; rw [ho]; rfl
  unfold OpC
  rw [e0]
  obtain ⟨op, a, b, c, ka, kb, la, lb, y⟩ := i
  obtain ⟨a, rfl⟩ : ∃ n : Nat, a = n := ⟨a.toNat, (Int.toNat_of_nonneg ha.1).symm⟩
  simp only [Ins.agg, Int.toNat_natCast] at ha hk ⊢
  have ha4 : a < 4 := by omega
  obtain ⟨k, hk1, hk2, hkey⟩ := DG.key hs hg hk
  have ek : keyN ⟨op, (a : Int), b, c, ka, kb, la, lb, y⟩ x.gs = k := by unfold keyN; simp only; rw [hk2]; rfl
  rw [ek]
  have hdl := hg.dl.lt
  have f0 : Fr No w (w.alloc (.cells #[.int .i64 op, .int .i64 (a : Int), .int .i64 b, .int .i64 c, .int .i64 ka, .int .i64 kb, .int .i64 la, .int .i64 lb, .int .i64 y] 66)) := (Fr.refl _ _).alloc _
  have HK := Lib.hid hkey
  have HBx := Lib.hid (box13 hdl #[.int .i64 op, .int .i64 (a : Int), .int .i64 b, .int .i64 c, .int .i64 ka, .int .i64 kb, .int .i64 la, .int .i64 lb, .int .i64 y])
  have HF0 := Lib.hid f0
  have q1 : (0 : Int) ≤ (a : Int) := by omega
  have q2 : (a : Int) < 4 := by omega
  have HOne := Lib.hid (fun W => kOne_own (k : Int) W)
  obtain ⟨t, ht⟩ : ∃ t, (x.ask && !x.mr k) = t := ⟨_, rfl⟩
  have HT := Lib.hid (fun W (hW : Fr No w W) (A : Option Addr) (c : Nat) (ho : W.ownsRow 0 72 2 (.slice A (oneL (k : Int)).length c) (oneL (k : Int)).length (sps (oneL (k : Int)))) =>
    dTouch_any (hs.fr0 hW) (hg.dl.fr0 hW) (A1 := A) (c1 := c) ⟨ho, rfl, by unfold oneL; split <;> simp⟩ (Own4.nil W) (rd' := upd s.rd k true) (wt' := s.wt) (plain_one s.rd hk1) (plain_none s.wt) (t := t) (by rw [cov_read hs.right hk1]; exact ht))
  have HS := Lib.hid (fun W (hW : Fr (DM x) w W) => hs.fr hW)
  have HV := Lib.hid (fun (W : World) (h1 : Dst x W) (h2 : DL x s.r (upd s.rd k true) s.wt (fun k => if s.wt k = true then some (chgAt s.m k).agg else none) W) => dValue_any h1 h2 hk1 (fun j _ => rfl) hg.un)
  have HFin := Lib.hid (fun (W : World) (h : DL x s.r (upd s.rd k true) s.wt (fun k => if s.wt k = true then some (chgAt s.m k).agg else none) W) => (⟨h.put ha4 (hg.val k), hg.un, hg.vals⟩ : DG x { s with rd := upd s.rd k true, r := upd s.r a (valM s.m k) } _))
  unfold Tch at HT
  rw [ht]
  clear hs hg ho e0 hk hk1 hk2 hkey ht f0 ha ek
  generalize valM s.m k = vm at *
  obtain ⟨d, hdd⟩ : ∃ d, x.d = d := ⟨_, rfl⟩
  obtain ⟨q, hqq⟩ : ∃ q, w.heap.size = q := ⟨_, rfl⟩
  have Hdd := Lib.hid hdd
  have Hqq := Lib.hid hqq
  rw [hdd] at HK HT HV hdl ⊢
  clear hdd
  go_enter Tryz.func74, Tryz.ntmps74
  go_wp2_with fail
  refine (HK.out _ HF0.out).mono ?_
  rintro e w1 ⟨rfl, f1⟩
  have F1 := Lib.hid (HF0.out.trans' f1 (fun _ _ e => e))
  have HB1 : Hid (Fr No (w.alloc (.cells #[.int .i64 op, .int .i64 (a : Int), .int .i64 b, .int .i64 c, .int .i64 ka, .int .i64 kb, .int .i64 la, .int .i64 lb, .int .i64 y] 66)) w1) := Lib.hid f1
  clear f1
  go_wp2_with fail
  refine (HOne.out _).mono ?_
  rintro e w2 ⟨A1, c1, rfl, ho, f2⟩
  have F2 := Lib.hid (F1.out.trans' f2 (fun _ _ e => e))
  have HB2 := Lib.hid (HB1.out.trans' f2 (fun _ _ e => e))
  have D2 := Lib.hid (HT.out _ F2.out A1 c1 (own_base ho (Nat.zero_le _)))
  clear ho f2 HT HOne F1 HB1
  cases t
  · simp only [Bool.false_eq_true, if_false] at D2 ⊢
    go_wp2_with fail
    refine (D2.out).mono ?_
    rintro e w3 ⟨rfl, h3, f3⟩
    rw [← Hdd.out] at f3
    have HF3 := Lib.hid (F2.out.nm.trans' f3.dm (fun _ _ e => e))
    have HBf := Lib.hid ((HB2.out.weak (fun _ _ e => e.elim)).trans' f3 (fun _ _ e => e))
    have D3 := Lib.hid h3
    have Hvc := Lib.hid (HV.out _ ((HS.out _ HF3.out).fr0 ((Fr.refl No w3).drew)) (h3.fr0 ((Fr.refl No w3).drew)))
    have b1 := (HBx.out _ (HBf.out.trans' ((Fr.refl No w3).drew) (fun _ _ e => e.elim)) 1)
    simp only [List.getElem?_toArray, List.getElem?_cons_succ, List.getElem?_cons_zero] at b1
    rw [hqq] at b1
    clear h3 f3 D2 HV HS HB2 F2
    go_wp2_with fail
    refine wp_region_held_drew (S := fun w' => w'.cell? ⟨q, 1, none⟩ = some (.int .i64 (a : Int))) (by kernel_rfl) (b1) (fun hHeld => ?_)
    refine any_take 13 (.pointer (some ⟨d, 0, none⟩)) (i := 0) rfl rfl (by kernel_rfl) (by kernel_rfl) (by kernel_rfl) (fun _ _ _ h => h) (by rfl) (by intro w hSw; (try dsimp only at hSw); go_simp; try with_reducible rfl) (by assumption) ?_
    simp only [Act.put, List.setIfInBounds_toArray, List.set_cons_zero, List.set_cons_succ]
    refine any_take 14 (.pointer (some ⟨q, 1, none⟩)) (i := 1) rfl rfl (by kernel_rfl) (by kernel_rfl) (by kernel_rfl) (fun _ _ _ h => h) (by rfl) (by intro w hSw; (try dsimp only at hSw); go_simp; try with_reducible rfl) (by assumption) ?_
    simp only [Act.put, List.setIfInBounds_toArray, List.set_cons_zero, List.set_cons_succ]
    refine any_take 15 (.int .i64 (a : Int)) (i := 2) rfl rfl (by kernel_rfl) (by kernel_rfl) (by kernel_rfl) (fun _ _ _ h => h) (by rfl) (by intro w hSw; (try dsimp only at hSw); go_simp; try with_reducible rfl) (by assumption) ?_
    simp only [Act.put, List.setIfInBounds_toArray, List.set_cons_zero, List.set_cons_succ]
    refine any_take 16 (.pointer (some ⟨d, 0, none⟩)) (i := 3) rfl rfl (by kernel_rfl) (by kernel_rfl) (by kernel_rfl) (fun _ _ _ h => h) (by rfl) (by intro w hSw; (try dsimp only at hSw); go_simp; try with_reducible rfl) (by assumption) ?_
    simp only [Act.put, List.setIfInBounds_toArray, List.set_cons_zero, List.set_cons_succ]
    refine any_take 17 (.int .i64 (k : Int)) (i := 4) rfl rfl (by kernel_rfl) (by kernel_rfl) (by kernel_rfl) (fun _ _ _ h => h) (by rfl) (by intro w hSw; (try dsimp only at hSw); go_simp; try with_reducible rfl) (by assumption) ?_
    simp only [Act.put, List.setIfInBounds_toArray, List.set_cons_zero, List.set_cons_succ]
    refine any_take 19 (.pointer (some ⟨d, 0, none⟩)) (i := 6) rfl rfl (by kernel_rfl) (by kernel_rfl) (by kernel_rfl) (fun _ _ _ h => h) (by rfl) (by intro w hSw; (try dsimp only at hSw); go_simp; try with_reducible rfl) (by assumption) ?_
    simp only [Act.put, List.setIfInBounds_toArray, List.set_cons_zero, List.set_cons_succ]
    refine any_take 20 (.pointer (some ⟨d, 5, none⟩)) (i := 7) rfl rfl (by kernel_rfl) (by kernel_rfl) (by kernel_rfl) (fun _ _ _ h => h) (by rfl) (by intro w hSw; (try dsimp only at hSw); go_simp; try with_reducible rfl) (by assumption) ?_
    simp only [Act.put, List.setIfInBounds_toArray, List.set_cons_zero, List.set_cons_succ]
    refine wpAnyH_ready (rs := [5]) (by kernel_rfl) (by simp) ?_
    refine AllReadyH.cons rfl (fun K' hK => ?_) AllReadyH.nil
    go_simp
    go_at_call 116
    refine (Hvc.out).mono ?_
    rintro e' w4 ⟨rfl, f4⟩
    have F4 : Fr No w3 w4 := ((Fr.refl No w3).drew).trans' f4 (fun _ _ e => e)
    have D4 := D3.out.fr0 F4
    have g0 := D4.rg ha4
    have gz := D4.frozen (5 + a)
    have HFn := Lib.hid (HFin.out _ D4)
    have HFm := Lib.hid ((HF3.out.trans' F4 (fun _ _ e => e.elim)).trans' ((Fr.refl (fun k => k = x.d) w4).setCell (p := ⟨x.d, 5 + a, none⟩) (.inl rfl) (.int .i64 vm)).dm (fun _ _ e => e))
    have b1' := (HBx.out _ (HBf.out.trans' F4 (fun _ _ e => e.elim)) 1)
    simp only [List.getElem?_toArray, List.getElem?_cons_succ, List.getElem?_cons_zero] at b1'
    rw [Hdd.out] at g0 gz HFn HFm
    rw [Hqq.out] at b1'
    clear D4 f4 F4
    try dsimp only
    refine hK.out _ _ b1' (fun hHeld => ?_)
    clear hK
    try simp only [Act.put, List.setIfInBounds_toArray, List.set_cons_zero, List.set_cons_succ]
    refine any_take 21 (.pointer (some ⟨d, 5 + a, none⟩)) (i := 8) rfl rfl (by kernel_rfl) (by kernel_rfl) (by kernel_rfl) (fun _ _ _ h => h) (by rfl) (by intro w hSw; (try dsimp only at hSw); go_simp; try with_reducible rfl) (by assumption) ?_
    simp only [Act.put, List.setIfInBounds_toArray, List.set_cons_zero, List.set_cons_succ]
    refine any_store12 (i := 9) (w' := w4.setCell ⟨d, 5 + a, none⟩ (.int .i64 vm)) (by kernel_rfl) rfl rfl (by rfl) (by go_simp) (by go_simp) ?_
    refine wpAnyH_done (by kernel_rfl) ?_ _
    clear hHeld
    go_wp2
    go_end0
    exact ⟨rfl, HFn.out, HFm.out⟩
  · simp only [if_true] at D2 ⊢
    go_wp2_with fail
    refine (D2.out).mono ?_
    rintro e w3 ⟨rfl, f3⟩
    exact ⟨rfl, rfl, F2.out.nm.trans' f3 (fun _ _ e => e)⟩
set_option maxRecDepth 100000 in
set_option maxHeartbeats 4000000 in
theorem dDelete_any (hs : Dst x w) (hg : DG x s w) {i : Ins} (ho : i.op = 3) (ha : 0 ≤ i.a ∧ i.a ≤ 3) (hk : keyOk i.ka i.kb x.gs.length = true) : Calls Tryz.prog 76 #[.pointer (some ⟨x.d, 0, none⟩), i.agg] w (OpC x i s w) := by
  have e0 : stepI x.ask x.mr x.mw x.gs i s = if (x.ask && !x.mw (keyN i x.gs)) = true then .error 9 else .ok { s with wt := upd s.wt (keyN i x.gs) true, m := upd s.m (keyN i x.gs) none } := by unfold stepI; rw [ho]; rfl
  unfold OpC
  rw [e0]
  obtain ⟨op, a, b, c, ka, kb, la, lb, y⟩ := i
  obtain ⟨a, rfl⟩ : ∃ n : Nat, a = n := ⟨a.toNat, (Int.toNat_of_nonneg ha.1).symm⟩
  simp only [Ins.agg] at ha hk ⊢
  have ha4 : a < 4 := by omega
  obtain ⟨k, hk1, hk2, hkey⟩ := DG.key hs hg hk
  have ek : keyN ⟨op, (a : Int), b, c, ka, kb, la, lb, y⟩ x.gs = k := by unfold keyN; simp only; rw [hk2]; rfl
  rw [ek]
  have hdl := hg.dl.lt
  have f0 : Fr No w (w.alloc (.cells #[.int .i64 op, .int .i64 (a : Int), .int .i64 b, .int .i64 c, .int .i64 ka, .int .i64 kb, .int .i64 la, .int .i64 lb, .int .i64 y] 66)) := (Fr.refl _ _).alloc _
  have HK := Lib.hid hkey
  have HBx := Lib.hid (box13 hdl #[.int .i64 op, .int .i64 (a : Int), .int .i64 b, .int .i64 c, .int .i64 ka, .int .i64 kb, .int .i64 la, .int .i64 lb, .int .i64 y])
  have HF0 := Lib.hid f0
  have q1 : (0 : Int) ≤ (a : Int) := by omega
  have q2 : (a : Int) < 4 := by omega
  obtain ⟨t, ht⟩ : ∃ t, (x.ask && !x.mw k) = t := ⟨_, rfl⟩
  have HT := Lib.hid (fun W (hW : Fr No w W) => dChange_any (hs.fr0 hW) (hg.dl.fr0 hW) hk1 true (0) ht)
  have HFin := Lib.hid (fun (W : World) (h : DL x s.r s.rd (upd s.wt k true) (upd (fun j => if s.wt j = true then some (chgAt s.m j).agg else none) k (some (.agg #[.int .i64 (k : Int), .bool true, .int .i64 (0)]))) W) => (⟨by
    have h2 := h
    rw [show (Value.agg #[.int .i64 (k : Int), .bool true, .int .i64 (0)]) = (chgAt (upd s.m k (none)) k).agg by unfold chgAt Chg.agg isM valM; rw [upd_same]; rfl, chg_fun] at h2
    exact h2, fun j hj => by
      have hne : j ≠ k := fun e => by rw [e] at hj; have hj : upd s.wt k true k = false := hj; rw [upd_same] at hj; cases hj
      have hj : upd s.wt k true j = false := hj
      rw [upd_other _ _ _ _ hne] at hj
      exact (upd_other _ _ _ _ hne).trans (hg.un j hj), fun j v hv => by
      have hv : upd s.m k (none) j = some v := hv
      unfold upd at hv
      split at hv
      · cases hv
      · exact hg.vals j v hv⟩ : DG x { s with wt := upd s.wt k true, m := upd s.m k (none) } W))
  rw [ht]
  clear hs hg ho e0 hk hk1 hk2 hkey ht f0 ha ek ha4 q1 q2
  go_enter Tryz.func76, Tryz.ntmps76
  go_wp2_with fail
  refine (HK.out _ HF0.out).mono ?_
  rintro e w1 ⟨rfl, f1⟩
  have F1 := Lib.hid (HF0.out.trans' f1 (fun _ _ e => e))
  have D1 := Lib.hid (HT.out _ F1.out)
  clear f1 HT
  go_wp2_with fail
  refine (D1.out).mono ?_
  cases t
  · simp only [Bool.false_eq_true, if_false]
    rintro e w2 ⟨rfl, h2, f2⟩
    have HF2 := Lib.hid (F1.out.nm.trans' f2 (fun _ _ e => e))
    have HG := Lib.hid (HFin.out _ h2)
    clear h2 f2
    go_wp2
    go_end0
    exact ⟨rfl, HG.out, HF2.out⟩
  · simp only [if_true]
    rintro e w2 ⟨rfl, f2⟩
    exact ⟨rfl, rfl, F1.out.nm.trans' f2 (fun _ _ e => e)⟩
set_option maxRecDepth 100000 in
set_option maxHeartbeats 4000000 in
theorem dPut_any (hs : Dst x w) (hg : DG x s w) {i : Ins} (ho : i.op = 2) (ha : 0 ≤ i.a ∧ i.a ≤ 3) (hk : keyOk i.ka i.kb x.gs.length = true) : Calls Tryz.prog 75 #[.pointer (some ⟨x.d, 0, none⟩), i.agg] w (OpC x i s w) := by
  have e0 : stepI x.ask x.mr x.mw x.gs i s = if (x.ask && !x.mw (keyN i x.gs)) = true then .error 9 else .ok { s with wt := upd s.wt (keyN i x.gs) true, m := upd s.m (keyN i x.gs) (some (s.r i.a.toNat)) } := by unfold stepI; rw [ho]; rfl
  unfold OpC
  rw [e0]
  obtain ⟨op, a, b, c, ka, kb, la, lb, y⟩ := i
  obtain ⟨a, rfl⟩ : ∃ n : Nat, a = n := ⟨a.toNat, (Int.toNat_of_nonneg ha.1).symm⟩
  simp only [Ins.agg, Int.toNat_natCast] at ha hk ⊢
  have ha4 : a < 4 := by omega
  obtain ⟨k, hk1, hk2, hkey⟩ := DG.key hs hg hk
  have ek : keyN ⟨op, (a : Int), b, c, ka, kb, la, lb, y⟩ x.gs = k := by unfold keyN; simp only; rw [hk2]; rfl
  rw [ek]
  have hdl := hg.dl.lt
  have f0 : Fr No w (w.alloc (.cells #[.int .i64 op, .int .i64 (a : Int), .int .i64 b, .int .i64 c, .int .i64 ka, .int .i64 kb, .int .i64 la, .int .i64 lb, .int .i64 y] 66)) := (Fr.refl _ _).alloc _
  have HK := Lib.hid hkey
  have HBx := Lib.hid (box13 hdl #[.int .i64 op, .int .i64 (a : Int), .int .i64 b, .int .i64 c, .int .i64 ka, .int .i64 kb, .int .i64 la, .int .i64 lb, .int .i64 y])
  have HF0 := Lib.hid f0
  have q1 : (0 : Int) ≤ (a : Int) := by omega
  have q2 : (a : Int) < 4 := by omega
  obtain ⟨t, ht⟩ : ∃ t, (x.ask && !x.mw k) = t := ⟨_, rfl⟩
  have hra := hg.dl.reg a ha4
  have HT := Lib.hid (fun W (hW : Fr No w W) => dChange_any (hs.fr0 hW) (hg.dl.fr0 hW) hk1 false (s.r a) ht)
  have HFin := Lib.hid (fun (W : World) (h : DL x s.r s.rd (upd s.wt k true) (upd (fun j => if s.wt j = true then some (chgAt s.m j).agg else none) k (some (.agg #[.int .i64 (k : Int), .bool false, .int .i64 (s.r a)]))) W) => (⟨by
    have h2 := h
    rw [show (Value.agg #[.int .i64 (k : Int), .bool false, .int .i64 (s.r a)]) = (chgAt (upd s.m k (some (s.r a))) k).agg by unfold chgAt Chg.agg isM valM; rw [upd_same]; rfl, chg_fun] at h2
    exact h2, fun j hj => by
      have hne : j ≠ k := fun e => by rw [e] at hj; have hj : upd s.wt k true k = false := hj; rw [upd_same] at hj; cases hj
      have hj : upd s.wt k true j = false := hj
      rw [upd_other _ _ _ _ hne] at hj
      exact (upd_other _ _ _ _ hne).trans (hg.un j hj), fun j v hv => by
      have hv : upd s.m k (some (s.r a)) j = some v := hv
      unfold upd at hv
      split at hv
      · injection hv with hv; rw [← hv]; exact hra
      · exact hg.vals j v hv⟩ : DG x { s with wt := upd s.wt k true, m := upd s.m k (some (s.r a)) } W))
  have HRg := Lib.hid (fun (W : World) (hW : Fr No w W) => (hg.dl.fr0 hW).rg ha4)
  have HRg2 := Lib.hid (fun (rd wt : Nat → Bool) (f : Nat → Option Value) (W : World) (h : DL x s.r rd wt f W) => h.rg ha4)
  have HBm := Lib.hid (box13m hdl hg.dl.mp.lt #[.int .i64 op, .int .i64 (a : Int), .int .i64 b, .int .i64 c, .int .i64 ka, .int .i64 kb, .int .i64 la, .int .i64 lb, .int .i64 y])
  rw [ht]
  clear hs hg ho e0 hk hk1 hk2 hkey ht f0 ha ek hra
  generalize s.r a = ra at *
  obtain ⟨d, hdd⟩ : ∃ d, x.d = d := ⟨_, rfl⟩
  obtain ⟨q, hqq⟩ : ∃ q, w.heap.size = q := ⟨_, rfl⟩
  have Hqq := Lib.hid hqq
  rw [hdd] at HK HT HRg HRg2 hdl ⊢
  clear hdd
  go_enter Tryz.func75, Tryz.ntmps75
  have F0 : Fr No w (w.alloc (.cells #[.int .i64 op, .int .i64 (a : Int), .int .i64 b, .int .i64 c, .int .i64 ka, .int .i64 kb, .int .i64 la, .int .i64 lb, .int .i64 y] 66)).drew := HF0.out.drew
  have g0 := HRg.out _ F0
  have b1 := HBx.out _ ((Fr.refl _ _).drew) 1
  have b4 := HBx.out _ ((Fr.refl _ _).drew) 4
  have b5 := HBx.out _ ((Fr.refl _ _).drew) 5
  simp only [List.getElem?_toArray, List.getElem?_cons_succ, List.getElem?_cons_zero] at b1 b4 b5
  rw [hqq] at b1 b4 b5
  go_wp2_with fail
  refine wp_region_held_drew (S := fun w' => w'.cell? ⟨q, 1, none⟩ = some (.int .i64 (a : Int)) ∧ w'.cell? ⟨q, 4, none⟩ = some (.int .i64 ka) ∧ w'.cell? ⟨q, 5, none⟩ = some (.int .i64 kb) ∧ w'.cell? ⟨d, 5 + a, none⟩ = some (.int .i64 ra)) (by kernel_rfl) (⟨b1, b4, b5, g0⟩) (fun hHeld => ?_)
  refine any_take 4 (.pointer (some ⟨d, 0, none⟩)) (i := 0) rfl rfl (by kernel_rfl) (by kernel_rfl) (by kernel_rfl) (fun _ _ _ h => h) (by rfl) (by intro w hSw; (try dsimp only at hSw); go_simp; try with_reducible rfl) (by assumption) ?_
  simp only [Act.put, List.setIfInBounds_toArray, List.set_cons_zero, List.set_cons_succ]
  refine any_take 5 (.pointer (some ⟨d, 0, none⟩)) (i := 1) rfl rfl (by kernel_rfl) (by kernel_rfl) (by kernel_rfl) (fun _ _ _ h => h) (by rfl) (by intro w hSw; (try dsimp only at hSw); go_simp; try with_reducible rfl) (by assumption) ?_
  simp only [Act.put, List.setIfInBounds_toArray, List.set_cons_zero, List.set_cons_succ]
  refine any_take 6 (.pointer (some ⟨q, 4, none⟩)) (i := 2) rfl rfl (by kernel_rfl) (by kernel_rfl) (by kernel_rfl) (fun _ _ _ h => h) (by rfl) (by intro w hSw; (try dsimp only at hSw); go_simp; try with_reducible rfl) (by assumption) ?_
  simp only [Act.put, List.setIfInBounds_toArray, List.set_cons_zero, List.set_cons_succ]
  refine any_take 7 (.agg #[.int .i64 ka, .int .i64 kb]) (i := 3) rfl rfl (by kernel_rfl) (by kernel_rfl) (by kernel_rfl) (fun _ _ _ h => h) (by rfl) (by intro w hSw; (try dsimp only at hSw); go_simp; try with_reducible rfl) (by assumption) ?_
  simp only [Act.put, List.setIfInBounds_toArray, List.set_cons_zero, List.set_cons_succ]
  refine any_take 9 (.pointer (some ⟨d, 0, none⟩)) (i := 5) rfl rfl (by kernel_rfl) (by kernel_rfl) (by kernel_rfl) (fun _ _ _ h => h) (by rfl) (by intro w hSw; (try dsimp only at hSw); go_simp; try with_reducible rfl) (by assumption) ?_
  simp only [Act.put, List.setIfInBounds_toArray, List.set_cons_zero, List.set_cons_succ]
  refine any_take 10 (.pointer (some ⟨q, 1, none⟩)) (i := 6) rfl rfl (by kernel_rfl) (by kernel_rfl) (by kernel_rfl) (fun _ _ _ h => h) (by rfl) (by intro w hSw; (try dsimp only at hSw); go_simp; try with_reducible rfl) (by assumption) ?_
  simp only [Act.put, List.setIfInBounds_toArray, List.set_cons_zero, List.set_cons_succ]
  refine any_take 11 (.int .i64 (a : Int)) (i := 7) rfl rfl (by kernel_rfl) (by kernel_rfl) (by kernel_rfl) (fun _ _ _ h => h) (by rfl) (by intro w hSw; (try dsimp only at hSw); go_simp; try with_reducible rfl) (by assumption) ?_
  simp only [Act.put, List.setIfInBounds_toArray, List.set_cons_zero, List.set_cons_succ]
  refine any_take 12 (.pointer (some ⟨d, 0, none⟩)) (i := 8) rfl rfl (by kernel_rfl) (by kernel_rfl) (by kernel_rfl) (fun _ _ _ h => h) (by rfl) (by intro w hSw; (try dsimp only at hSw); go_simp; try with_reducible rfl) (by assumption) ?_
  simp only [Act.put, List.setIfInBounds_toArray, List.set_cons_zero, List.set_cons_succ]
  refine any_take 13 (.pointer (some ⟨d, 5, none⟩)) (i := 9) rfl rfl (by kernel_rfl) (by kernel_rfl) (by kernel_rfl) (fun _ _ _ h => h) (by rfl) (by intro w hSw; (try dsimp only at hSw); go_simp; try with_reducible rfl) (by assumption) ?_
  simp only [Act.put, List.setIfInBounds_toArray, List.set_cons_zero, List.set_cons_succ]
  refine any_take 14 (.pointer (some ⟨d, 5 + a, none⟩)) (i := 10) rfl rfl (by kernel_rfl) (by kernel_rfl) (by kernel_rfl) (fun _ _ _ h => h) (by rfl) (by intro w hSw; (try dsimp only at hSw); go_simp; try with_reducible rfl) (by assumption) ?_
  simp only [Act.put, List.setIfInBounds_toArray, List.set_cons_zero, List.set_cons_succ]
  refine any_take 15 (.int .i64 ra) (i := 11) rfl rfl (by kernel_rfl) (by kernel_rfl) (by kernel_rfl) (fun _ _ _ h => h) (by rfl) (by intro w hSw; (try dsimp only at hSw); go_simp; try with_reducible rfl) (by assumption) ?_
  simp only [Act.put, List.setIfInBounds_toArray, List.set_cons_zero, List.set_cons_succ]
  refine wpAnyH_ready (rs := [4]) (by kernel_rfl) (by simp) ?_
  refine AllReadyH.cons rfl (fun K' hK => ?_) AllReadyH.nil
  go_simp
  go_at_call 113
  refine (HK.out _ F0).mono ?_
  rintro e' w1 ⟨rfl, f1⟩
  have F1 : Fr No w w1 := F0.trans' f1 (fun _ _ e => e)
  have FB : Fr No (w.alloc (.cells #[.int .i64 op, .int .i64 (a : Int), .int .i64 b, .int .i64 c, .int .i64 ka, .int .i64 kb, .int .i64 la, .int .i64 lb, .int .i64 y] 66)) w1 := ((Fr.refl No _).drew).trans' f1 (fun _ _ e => e)
  have g0' := HRg.out _ F1
  have b1' := HBx.out _ (FB.weak (fun _ _ e => e.elim)) 1
  have b4' := HBx.out _ (FB.weak (fun _ _ e => e.elim)) 4
  have b5' := HBx.out _ (FB.weak (fun _ _ e => e.elim)) 5
  simp only [List.getElem?_toArray, List.getElem?_cons_succ, List.getElem?_cons_zero] at b1' b4' b5'
  rw [Hqq.out] at b1' b4' b5'
  have D1 := Lib.hid (HT.out _ F1)
  have HF1 := Lib.hid F1
  try dsimp only
  refine hK.out _ _ ⟨b1', b4', b5', g0'⟩ (fun hHeld => ?_)
  clear hK
  try simp only [Act.put, List.setIfInBounds_toArray, List.set_cons_zero, List.set_cons_succ]
  refine any_take 16 (.agg #[.int .i64 (k : Int), .bool false, .int .i64 ra]) (i := 12) rfl rfl (by kernel_rfl) (by kernel_rfl) (by kernel_rfl) (fun _ _ _ h => h) (by rfl) (by intro w hSw; (try dsimp only at hSw); go_simp; try with_reducible rfl) (by assumption) ?_
  simp only [Act.put, List.setIfInBounds_toArray, List.set_cons_zero, List.set_cons_succ]
  refine wpAnyH_ready (rs := [13]) (by kernel_rfl) (by simp) ?_
  refine AllReadyH.cons rfl (fun K' hK => ?_) AllReadyH.nil
  go_simp
  go_at_call 117
  refine (D1.out).mono ?_
  cases t
  · simp only [Bool.false_eq_true, if_false]
    rintro e' w2 ⟨rfl, h2, f2⟩
    have HF2 := Lib.hid (HF1.out.nm.trans' f2 (fun _ _ e => e))
    have HG := Lib.hid (HFin.out _ h2)
    have g0'' := HRg2.out _ _ _ _ h2
    have b1'' := HBm.out _ (FB.nm.trans' f2 (fun _ _ e => e)) 1
    have b4'' := HBm.out _ (FB.nm.trans' f2 (fun _ _ e => e)) 4
    have b5'' := HBm.out _ (FB.nm.trans' f2 (fun _ _ e => e)) 5
    simp only [List.getElem?_toArray, List.getElem?_cons_succ, List.getElem?_cons_zero] at b1'' b4'' b5''
    rw [Hqq.out] at b1'' b4'' b5''
    clear h2 f2
    try dsimp only
    refine hK.out _ _ ⟨b1'', b4'', b5'', g0''⟩ (fun hHeld => ?_)
    clear hK
    try simp only [Act.put, List.setIfInBounds_toArray, List.set_cons_zero, List.set_cons_succ]
    refine wpAnyH_done (by kernel_rfl) ?_ _
    clear hHeld
    go_wp2
    go_end0
    exact ⟨rfl, HG.out, HF2.out⟩
  · simp only [if_true]
    rintro e' w2 ⟨rfl, f2⟩
    exact ⟨rfl, rfl, HF1.out.nm.trans' f2 (fun _ _ e => e)⟩
theorem ownLit {w : World} {g k h : Nat} (hb : Bk w g 72 #[.int .i64 (k : Int), .int .i64 (h : Int)]) : w.ownsRow 0 72 2 (.slice (some ⟨g, 0, none⟩) 1 1) 1 (sps [((k : Int), (h : Int))]) :=
  ⟨rfl, .inr ⟨g, 1, _, rfl, Nat.zero_le _, hb, Nat.le_refl _, by decide, rfl, rfl⟩⟩
set_option maxRecDepth 100000 in
set_option maxHeartbeats 4000000 in
theorem dScan_any (hs : Dst x w) (hg : DG x s w) {i : Ins} (ho : i.op = 4) (ha : 0 ≤ i.a ∧ i.a ≤ 3) (hk : keyOk i.ka i.kb x.gs.length = true) (hl : keyOk i.la i.lb x.gs.length = true) : Calls Tryz.prog 77 #[.pointer (some ⟨x.d, 0, none⟩), i.agg] w (OpC x i s w) := by
  have e0 : stepI x.ask x.mr x.mw x.gs i s = if (x.ask && !allIn x.mr (keyN i x.gs) (span i x.gs)) = true then .error 9 else .ok { s with rd := fun k => s.rd k || between (keyN i x.gs) (span i x.gs) k, r := upd s.r i.a.toNat (cntM s.m (keyN i x.gs) (span i x.gs) : Nat) } := by unfold stepI; rw [ho]; rfl
  unfold OpC
  rw [e0]
  obtain ⟨op, a, b, c, ka, kb, la, lb, y⟩ := i
  obtain ⟨a, rfl⟩ : ∃ n : Nat, a = n := ⟨a.toNat, (Int.toNat_of_nonneg ha.1).symm⟩
  simp only [Ins.agg, Int.toNat_natCast] at ha hk hl ⊢
  have ha4 : a < 4 := by omega
  obtain ⟨k, hk1, hk2, hkey⟩ := DG.key hs hg hk
  have ek : keyN ⟨op, (a : Int), b, c, ka, kb, la, lb, y⟩ x.gs = k := by unfold keyN; simp only; rw [hk2]; rfl
  rw [ek]
  have hdl := hg.dl.lt
  have f0 : Fr No w (w.alloc (.cells #[.int .i64 op, .int .i64 (a : Int), .int .i64 b, .int .i64 c, .int .i64 ka, .int .i64 kb, .int .i64 la, .int .i64 lb, .int .i64 y] 66)) := (Fr.refl _ _).alloc _
  have HK := Lib.hid hkey
  have HBx := Lib.hid (box13 hdl #[.int .i64 op, .int .i64 (a : Int), .int .i64 b, .int .i64 c, .int .i64 ka, .int .i64 kb, .int .i64 la, .int .i64 lb, .int .i64 y])
  have HF0 := Lib.hid f0
  have q1 : (0 : Int) ≤ (a : Int) := by omega
  have q2 : (a : Int) < 4 := by omega
  obtain ⟨h, hl1, hl2, hkey2⟩ := DG.key hs hg hl
  obtain ⟨n, hn⟩ : ∃ n, n = h + 1 - k := ⟨_, rfl⟩
  have en : span ⟨op, (a : Int), b, c, ka, kb, la, lb, y⟩ x.gs = n := by unfold span; simp only; rw [hk2, hl2]; omega
  have hn2 : n = ((h : Int) + 1 - (k : Int)).toNat := by omega
  rw [en]
  have HL := Lib.hid hkey2
  obtain ⟨t, ht⟩ : ∃ t, (x.ask && !allIn x.mr k n) = t := ⟨_, rfl⟩
  have HT := Lib.hid (fun W (hW : Fr No w W) (g : Nat) (hb : Bk W g 72 #[.int .i64 (k : Int), .int .i64 (h : Int)]) =>
    dTouch_any (hs.fr0 hW) (hg.dl.fr0 hW) (A1 := some ⟨g, 0, none⟩) (n1 := 1) (c1 := 1) (l1 := [((k : Int), (h : Int))]) ⟨ownLit hb, rfl, by omega⟩ (Own4.nil W) (rd' := fun j => s.rd j || between k n j) (wt' := s.wt) (plain_span s.rd (by omega) hn2) (plain_none s.wt) (t := t) (by rw [cov_span hs.right (by omega) hn2]; exact ht))
  have HS := Lib.hid (fun W (hW : Fr (DM x) w W) => hs.fr hW)
  have HV := Lib.hid (fun (W : World) (h1 : Dst x W) (h2 : DL x s.r (fun j => s.rd j || between k n j) s.wt (fun k => if s.wt k = true then some (chgAt s.m k).agg else none) W) => dCount_any h1 h2 hk1 hl1 hn (fun j _ => rfl) hg.un)
  have HFin := Lib.hid (fun (W : World) (h2 : DL x s.r (fun j => s.rd j || between k n j) s.wt (fun k => if s.wt k = true then some (chgAt s.m k).agg else none) W) => (⟨h2.put ha4 (v := (cntM s.m k n : Nat)) (i64_le (by omega) (by have := cntM_le s.m k n; omega)), hg.un, hg.vals⟩ : DG x { s with rd := fun j => s.rd j || between k n j, r := upd s.r a (cntM s.m k n : Nat) } _))
  unfold Tch at HT
  rw [ht]
  clear hs hg ho e0 hk hk1 hk2 hkey ht f0 ha ek hl hl1 hl2 hkey2 hn hn2 en
  generalize cntM s.m k n = vm at *
  obtain ⟨d, hdd⟩ : ∃ d, x.d = d := ⟨_, rfl⟩
  obtain ⟨q, hqq⟩ : ∃ q, w.heap.size = q := ⟨_, rfl⟩
  have Hdd := Lib.hid hdd
  have Hqq := Lib.hid hqq
  rw [hdd] at HK HL HT HV hdl ⊢
  clear hdd
  have F0 : Fr No w (w.alloc (.cells #[.int .i64 op, .int .i64 (a : Int), .int .i64 b, .int .i64 c, .int .i64 ka, .int .i64 kb, .int .i64 la, .int .i64 lb, .int .i64 y] 66)).drew := HF0.out.drew
  have hb0 := HBx.out _ (((Fr.refl No _).drew).weak (fun _ _ e => e.elim))
  have b1 := hb0 1
  have b4 := hb0 4
  have b5 := hb0 5
  have b6 := hb0 6
  have b7 := hb0 7
  simp only [List.getElem?_toArray, List.getElem?_cons_succ, List.getElem?_cons_zero] at b1 b4 b5 b6 b7
  rw [hqq] at b1 b4 b5 b6 b7
  go_enter Tryz.func77, Tryz.ntmps77
  go_wp2_with fail
  refine wp_region_held_drew (S := fun w' => w'.cell? ⟨q, 4, none⟩ = some (.int .i64 ka) ∧ w'.cell? ⟨q, 5, none⟩ = some (.int .i64 kb) ∧ w'.cell? ⟨q, 6, none⟩ = some (.int .i64 la) ∧ w'.cell? ⟨q, 7, none⟩ = some (.int .i64 lb)) (by kernel_rfl) (⟨b4, b5, b6, b7⟩) (fun hHeld => ?_)
  refine any_take 6 (.pointer (some ⟨d, 0, none⟩)) (i := 0) rfl rfl (by kernel_rfl) (by kernel_rfl) (by kernel_rfl) (fun _ _ _ h => h) (by rfl) (by intro w hSw; (try dsimp only at hSw); go_simp; try with_reducible rfl) (by assumption) ?_
  simp only [Act.put, List.setIfInBounds_toArray, List.set_cons_zero, List.set_cons_succ]
  refine any_take 7 (.pointer (some ⟨q, 4, none⟩)) (i := 1) rfl rfl (by kernel_rfl) (by kernel_rfl) (by kernel_rfl) (fun _ _ _ h => h) (by rfl) (by intro w hSw; (try dsimp only at hSw); go_simp; try with_reducible rfl) (by assumption) ?_
  simp only [Act.put, List.setIfInBounds_toArray, List.set_cons_zero, List.set_cons_succ]
  refine any_take 8 (.agg #[.int .i64 ka, .int .i64 kb]) (i := 2) rfl rfl (by kernel_rfl) (by kernel_rfl) (by kernel_rfl) (fun _ _ _ h => h) (by rfl) (by intro w hSw; (try dsimp only at hSw); go_simp; try with_reducible rfl) (by assumption) ?_
  simp only [Act.put, List.setIfInBounds_toArray, List.set_cons_zero, List.set_cons_succ]
  refine any_take 10 (.pointer (some ⟨d, 0, none⟩)) (i := 4) rfl rfl (by kernel_rfl) (by kernel_rfl) (by kernel_rfl) (fun _ _ _ h => h) (by rfl) (by intro w hSw; (try dsimp only at hSw); go_simp; try with_reducible rfl) (by assumption) ?_
  simp only [Act.put, List.setIfInBounds_toArray, List.set_cons_zero, List.set_cons_succ]
  refine any_take 11 (.pointer (some ⟨q, 6, none⟩)) (i := 5) rfl rfl (by kernel_rfl) (by kernel_rfl) (by kernel_rfl) (fun _ _ _ h => h) (by rfl) (by intro w hSw; (try dsimp only at hSw); go_simp; try with_reducible rfl) (by assumption) ?_
  simp only [Act.put, List.setIfInBounds_toArray, List.set_cons_zero, List.set_cons_succ]
  refine any_take 12 (.agg #[.int .i64 la, .int .i64 lb]) (i := 6) rfl rfl (by kernel_rfl) (by kernel_rfl) (by kernel_rfl) (fun _ _ _ h => h) (by rfl) (by intro w hSw; (try dsimp only at hSw); go_simp; try with_reducible rfl) (by assumption) ?_
  simp only [Act.put, List.setIfInBounds_toArray, List.set_cons_zero, List.set_cons_succ]
  refine wpAnyH_ready (rs := [3]) (by kernel_rfl) (by simp) ?_
  refine AllReadyH.cons rfl (fun K' hK => ?_) AllReadyH.nil
  go_simp
  go_at_call 113
  refine (HK.out _ F0).mono ?_
  rintro e' w1 ⟨rfl, f1⟩
  have F1 : Fr No w w1 := F0.trans' f1 (fun _ _ e => e)
  have FB1 : Fr No (w.alloc (.cells #[.int .i64 op, .int .i64 (a : Int), .int .i64 b, .int .i64 c, .int .i64 ka, .int .i64 kb, .int .i64 la, .int .i64 lb, .int .i64 y] 66)) w1 := ((Fr.refl No _).drew).trans' f1 (fun _ _ e => e)
  have hb1 := HBx.out _ (FB1.weak (fun _ _ e => e.elim))
  have c41 := hb1 4
  have c51 := hb1 5
  have c61 := hb1 6
  have c71 := hb1 7
  simp only [List.getElem?_toArray, List.getElem?_cons_succ, List.getElem?_cons_zero] at c41 c51 c61 c71
  rw [Hqq.out] at c41 c51 c61 c71
  try dsimp only
  refine hK.out _ _ ⟨c41, c51, c61, c71⟩ (fun hHeld => ?_)
  clear hK
  try simp only [Act.put, List.setIfInBounds_toArray, List.set_cons_zero, List.set_cons_succ]
  refine wpAnyH_ready (rs := [7]) (by kernel_rfl) (by simp) ?_
  refine AllReadyH.cons rfl (fun K' hK => ?_) AllReadyH.nil
  go_simp
  go_at_call 113
  refine (HL.out _ F1).mono ?_
  rintro e' w2 ⟨rfl, f2⟩
  have F2 : Fr No w w2 := F1.trans' f2 (fun _ _ e => e)
  have FB2 : Fr No (w.alloc (.cells #[.int .i64 op, .int .i64 (a : Int), .int .i64 b, .int .i64 c, .int .i64 ka, .int .i64 kb, .int .i64 la, .int .i64 lb, .int .i64 y] 66)) w2 := FB1.trans' f2 (fun _ _ e => e)
  have hb2 := HBx.out _ (FB2.weak (fun _ _ e => e.elim))
  have c42 := hb2 4
  have c52 := hb2 5
  have c62 := hb2 6
  have c72 := hb2 7
  simp only [List.getElem?_toArray, List.getElem?_cons_succ, List.getElem?_cons_zero] at c42 c52 c62 c72
  rw [Hqq.out] at c42 c52 c62 c72
  try dsimp only
  refine hK.out _ _ ⟨c42, c52, c62, c72⟩ (fun hHeld => ?_)
  clear hK
  try simp only [Act.put, List.setIfInBounds_toArray, List.set_cons_zero, List.set_cons_succ]
  refine any_take 4 (.int .i64 (k : Int)) (i := 8) rfl rfl (by kernel_rfl) (by kernel_rfl) (by kernel_rfl) (fun _ _ _ h => h) (by rfl) (by intro w hSw; (try dsimp only at hSw); go_simp; try with_reducible rfl) (by assumption) ?_
  simp only [Act.put, List.setIfInBounds_toArray, List.set_cons_zero, List.set_cons_succ]
  refine any_take 5 (.int .i64 (h : Int)) (i := 9) rfl rfl (by kernel_rfl) (by kernel_rfl) (by kernel_rfl) (fun _ _ _ h => h) (by rfl) (by intro w hSw; (try dsimp only at hSw); go_simp; try with_reducible rfl) (by assumption) ?_
  simp only [Act.put, List.setIfInBounds_toArray, List.set_cons_zero, List.set_cons_succ]
  refine wpAnyH_done (by kernel_rfl) ?_ _
  clear hHeld
  have HF2 := Lib.hid F2
  have HB2 := Lib.hid FB2
  clear hb0 b1 b4 b5 b6 b7 hb1 hb2 c41 c51 c61 c71 c42 c52 c62 c72 F0 F1 F2 FB1 FB2 f1 f2 HK HL
  have hsp := HT.out _ (HF2.out.alloc (.cells #[.int .i64 (k : Int), .int .i64 (h : Int)] 72)) _ (Bk.made w2 _ _)
  have D2 := Lib.hid hsp
  clear hsp HT
  cases t
  · simp only [Bool.false_eq_true, if_false] at D2 ⊢
    go_wp2_with fail
    refine (D2.out).mono ?_
    rintro e w3 ⟨rfl, h3, f3⟩
    rw [← Hdd.out] at f3
    have HF3 := Lib.hid ((HF2.out.alloc (.cells #[.int .i64 (k : Int), .int .i64 (h : Int)] 72)).nm.trans' f3.dm (fun _ _ e => e))
    have HBf := Lib.hid ((HB2.out.alloc (.cells #[.int .i64 (k : Int), .int .i64 (h : Int)] 72)).weak (fun _ _ e => e.elim) |>.trans' f3 (fun _ _ e => e))
    have D3 := Lib.hid h3
    have Hvc := Lib.hid (HV.out _ ((HS.out _ HF3.out).fr0 ((Fr.refl No w3).drew)) (h3.fr0 ((Fr.refl No w3).drew)))
    have b1 := (HBx.out _ (HBf.out.trans' ((Fr.refl No w3).drew) (fun _ _ e => e.elim)) 1)
    simp only [List.getElem?_toArray, List.getElem?_cons_succ, List.getElem?_cons_zero] at b1
    rw [hqq] at b1
    clear h3 f3 D2 HV HS HB2 HF2
    go_wp2_with fail
    refine wp_region_held_drew (S := fun w' => w'.cell? ⟨q, 1, none⟩ = some (.int .i64 (a : Int))) (by kernel_rfl) (b1) (fun hHeld => ?_)
    refine any_take 20 (.pointer (some ⟨d, 0, none⟩)) (i := 0) rfl rfl (by kernel_rfl) (by kernel_rfl) (by kernel_rfl) (fun _ _ _ h => h) (by rfl) (by intro w hSw; (try dsimp only at hSw); go_simp; try with_reducible rfl) (by assumption) ?_
    simp only [Act.put, List.setIfInBounds_toArray, List.set_cons_zero, List.set_cons_succ]
    refine any_take 21 (.pointer (some ⟨q, 1, none⟩)) (i := 1) rfl rfl (by kernel_rfl) (by kernel_rfl) (by kernel_rfl) (fun _ _ _ h => h) (by rfl) (by intro w hSw; (try dsimp only at hSw); go_simp; try with_reducible rfl) (by assumption) ?_
    simp only [Act.put, List.setIfInBounds_toArray, List.set_cons_zero, List.set_cons_succ]
    refine any_take 22 (.int .i64 (a : Int)) (i := 2) rfl rfl (by kernel_rfl) (by kernel_rfl) (by kernel_rfl) (fun _ _ _ h => h) (by rfl) (by intro w hSw; (try dsimp only at hSw); go_simp; try with_reducible rfl) (by assumption) ?_
    simp only [Act.put, List.setIfInBounds_toArray, List.set_cons_zero, List.set_cons_succ]
    refine any_take 23 (.pointer (some ⟨d, 0, none⟩)) (i := 3) rfl rfl (by kernel_rfl) (by kernel_rfl) (by kernel_rfl) (fun _ _ _ h => h) (by rfl) (by intro w hSw; (try dsimp only at hSw); go_simp; try with_reducible rfl) (by assumption) ?_
    simp only [Act.put, List.setIfInBounds_toArray, List.set_cons_zero, List.set_cons_succ]
    refine any_take 24 (.int .i64 (k : Int)) (i := 4) rfl rfl (by kernel_rfl) (by kernel_rfl) (by kernel_rfl) (fun _ _ _ h => h) (by rfl) (by intro w hSw; (try dsimp only at hSw); go_simp; try with_reducible rfl) (by assumption) ?_
    simp only [Act.put, List.setIfInBounds_toArray, List.set_cons_zero, List.set_cons_succ]
    refine any_take 25 (.int .i64 (h : Int)) (i := 5) rfl rfl (by kernel_rfl) (by kernel_rfl) (by kernel_rfl) (fun _ _ _ h => h) (by rfl) (by intro w hSw; (try dsimp only at hSw); go_simp; try with_reducible rfl) (by assumption) ?_
    simp only [Act.put, List.setIfInBounds_toArray, List.set_cons_zero, List.set_cons_succ]
    refine any_take 27 (.pointer (some ⟨d, 0, none⟩)) (i := 7) rfl rfl (by kernel_rfl) (by kernel_rfl) (by kernel_rfl) (fun _ _ _ h => h) (by rfl) (by intro w hSw; (try dsimp only at hSw); go_simp; try with_reducible rfl) (by assumption) ?_
    simp only [Act.put, List.setIfInBounds_toArray, List.set_cons_zero, List.set_cons_succ]
    refine any_take 28 (.pointer (some ⟨d, 5, none⟩)) (i := 8) rfl rfl (by kernel_rfl) (by kernel_rfl) (by kernel_rfl) (fun _ _ _ h => h) (by rfl) (by intro w hSw; (try dsimp only at hSw); go_simp; try with_reducible rfl) (by assumption) ?_
    simp only [Act.put, List.setIfInBounds_toArray, List.set_cons_zero, List.set_cons_succ]
    refine wpAnyH_ready (rs := [6]) (by kernel_rfl) (by simp) ?_
    refine AllReadyH.cons rfl (fun K' hK => ?_) AllReadyH.nil
    go_simp
    go_at_call 118
    refine (Hvc.out).mono ?_
    rintro e' w4 ⟨rfl, f4⟩
    have F4 : Fr No w3 w4 := ((Fr.refl No w3).drew).trans' f4 (fun _ _ e => e)
    have D4 := D3.out.fr0 F4
    have g0 := D4.rg ha4
    have gz := D4.frozen (5 + a)
    have HFn := Lib.hid (HFin.out _ D4)
    have HFm := Lib.hid ((HF3.out.trans' F4 (fun _ _ e => e.elim)).trans' ((Fr.refl (fun k => k = x.d) w4).setCell (p := ⟨x.d, 5 + a, none⟩) (.inl rfl) (.int .i64 (vm : Int))).dm (fun _ _ e => e))
    have b1' := (HBx.out _ (HBf.out.trans' F4 (fun _ _ e => e.elim)) 1)
    simp only [List.getElem?_toArray, List.getElem?_cons_succ, List.getElem?_cons_zero] at b1'
    rw [Hdd.out] at g0 gz HFn HFm
    rw [Hqq.out] at b1'
    clear D4 f4 F4
    try dsimp only
    refine hK.out _ _ b1' (fun hHeld => ?_)
    clear hK
    try simp only [Act.put, List.setIfInBounds_toArray, List.set_cons_zero, List.set_cons_succ]
    refine any_take 29 (.pointer (some ⟨d, 5 + a, none⟩)) (i := 9) rfl rfl (by kernel_rfl) (by kernel_rfl) (by kernel_rfl) (fun _ _ _ h => h) (by rfl) (by intro w hSw; (try dsimp only at hSw); go_simp; try with_reducible rfl) (by assumption) ?_
    simp only [Act.put, List.setIfInBounds_toArray, List.set_cons_zero, List.set_cons_succ]
    refine any_store12 (i := 10) (w' := w4.setCell ⟨d, 5 + a, none⟩ (.int .i64 (vm : Int))) (by kernel_rfl) rfl rfl (by rfl) (by go_simp) (by go_simp) ?_
    refine wpAnyH_done (by kernel_rfl) ?_ _
    clear hHeld
    go_wp2
    go_end0
    exact ⟨rfl, HFn.out, HFm.out⟩
  · simp only [if_true] at D2 ⊢
    go_wp2_with fail
    refine (D2.out).mono ?_
    rintro e w3 ⟨rfl, f3⟩
    exact ⟨rfl, rfl, (HF2.out.alloc _).nm.trans' f3 (fun _ _ e => e)⟩
end
end Go.Proofs.YthenadijiepmnaaGreat
