/- The document's own: which nodes depend on which. -/
import Derived.Test.YtmeimhpllemjfaaGreatDep15
import Derived.Test.YtmeimhpllemjfaaGreatHand
import Derived.Deep.CutRange
import Derived.Deep.QuietTactic
import Derived.BigQuiet
namespace Go.Proofs.YtmeimhpllemjfaaGreat
open Go.RowKit

theorem info_rows15 : (Tryz.prog.info? 73).map (fun i => (i.zero, i.size, i.bytes)) = some (some (.slice none 0 0), 1, 24) := by kernel_rfl
theorem run_make_rows (n : Nat) (hn : n ≤ 1048576) (w : World) : (Instr.makeSlice 70 (.int .i64 n) (.int .i64 n)).run Tryz.prog w = .ok (.slice (some ⟨w.heap.size, 0, none⟩) n n) (w.alloc (.cells (rowsA n 0 fun _ => 0) 73)) := by
 rw [← rowsA_made]
 exact run_make_row' (P := Tryz.prog) _ _ _ _ Tryz.underlying70 info_rows15 rfl .i64 .i64 n (by omega) (by omega) w
theorem run_make_flags15 (n : Nat) (hn : n ≤ 1048576) (w : World) : (Instr.makeSlice 73 (.int .i64 n) (.int .i64 n)).run Tryz.prog w = .ok (.slice (some ⟨w.heap.size, 0, none⟩) n n) (w.alloc (.cells (flags n fun _ => false) 4)) :=
 run_make_flags (P := Tryz.prog) _ _ Tryz.underlying73 (by kernel_rfl) n (by omega) w
def dirK (h : List Nd) (i k j k' : Nat) : Bool := dirB h j k' && (decide (j < i) || decide (k' < k))
theorem dirK_row (h : List Nd) (i j k' : Nat) (hj : j < i + 1) : dirK h i i j k' = dirB h j k' := by
 unfold dirK
 cases e : dirB h j k'
 ·rfl
 ·have := (dirB_lt e).1
  by_cases h1 : j < i
  ·rw [decide_eq_true h1]; rfl
  ·rw [decide_eq_true (show k' < i by omega), Bool.or_true]; rfl
theorem dirK_step (h : List Nd) {i k : Nat} (j k' : Nat) (hj : j < i + 1) : dirK h i (k + 1) j k' = if j = i then upd (dirK h i k i) k (dirB h i k) k' else dirK h i k j k' := by
 unfold dirK
 by_cases e : j = i
 ·subst e
  rw [if_pos rfl]
  unfold upd
  by_cases e2 : k' = k
  ·subst e2
   simp
  ·rw [if_neg e2]
   rw [decide_eq_decide.2 (show k' < k + 1 ↔ k' < k by omega)]
 ·rw [if_neg e, decide_eq_true (show j < i by omega)]
  rfl
set_option maxRecDepth 100000 in
set_option maxHeartbeats 8000000 in
theorem refOf15_any (h : List Ndl) (A : Option Addr) (n c : Nat) (w : World) (hh : Nds w A h) (hn : h.length = n) (hnm : n ≤ 1048576)
  (hc : ∀ i k (hi : i < h.length) (hk : k < h.length) W, Fr No w W → Calls Tryz.prog 28 #[h[i].agg, h[k].agg] W (Has W (confN h[i].n h[k].n))) :
  Calls Tryz.prog 31 #[.slice A n c] w fun e w' => ∃ G g, e = .returned (.slice (some ⟨G, 0, none⟩) n n) ∧ MatB w' w.heap.size 73 4 G n n g (depB (ndsOf h)) ∧ Fr No w w' := by
 have hmr := run_make_rows n hnm
 have hmf := run_make_flags15 n hnm
 have hne : (73 : Nat) ≠ 4 := by decide
 have hlen : (ndsOf h).length = n := by simp [ndsOf, hn]
 have HN := Lib.hid hn
 have HC := Lib.hid hc
 have Hnd := Lib.hid (fun (k : Nat) (hk : k < h.length) W (hW : Fr No w W) => (hh.since hW).sl.nd hk)
 have Hdir := Lib.hid (fun (i k : Nat) (hi : i < h.length) (hk : k < h.length) (hki : k < i) => show dirB (ndsOf h) i k = (decide (h[i].n.saga = h[k].n.saga) || confN h[i].n h[k].n) by
  unfold dirB
  rw [hlen, decide_eq_true (show k < i ∧ i < n by omega), Bool.true_and, ndsOf_at hi, ndsOf_at hk])
 have hdep : depB (ndsOf h) = wsh (dirB (ndsOf h)) n := by funext i k; unfold depB; rw [hlen]
 rw [hdep]
 have Hd := Lib.hid (fun i k => dirB_down (ndsOf h) i k)
 have Hrow := Lib.hid (fun i j k' => dirK_row (ndsOf h) i j k')
 have Hstp := Lib.hid (fun i k j k' => dirK_step (ndsOf h) (i := i) (k := k) j k')
 have Hz := Lib.hid (fun i j k' => show dirK (ndsOf h) i 0 j k' = (dirB (ndsOf h) j k' && decide (j < i)) by unfold dirK; simp)
 generalize dirK (ndsOf h) = DK at *
 generalize dirB (ndsOf h) = d at *
 clear hh hn hc hlen hdep
 go_enter Tryz.func31, Tryz.ntmps31
 go_wp2
 obtain ⟨W1, hW1⟩ : ∃ W1, W1 = w.alloc (.cells (rowsA n 0 fun _ => 0) 73) := ⟨_, rfl⟩
 have hM1 : Hid (MatB W1 w.heap.size 73 4 w.heap.size n 0 (fun _ => 0) d) := Lib.hid (by
  rw [hW1]
  exact (MatB.start w w.heap.size _ _ n (Nat.le_refl _)).congr (fun j k hj => by omega))
 have HF1 : Hid (Fr No w W1) := Lib.hid (by rw [hW1]; exact (Fr.refl _ _).alloc _)
 rw [← hW1]
 clear hW1 hmr
 go_loopw [5] (fun iv wr => ∃ (i : Nat) (g : Nat → Nat), i ≤ n ∧ iv = .int .i64 (i : Int) ∧ Hid (MatB wr w.heap.size 73 4 w.heap.size n i g d) ∧ Hid (Fr No w wr)) (fun iv _ => n - (intOf iv).toNat)
 case atStart => exact ⟨0, _, Nat.zero_le _, rfl, hM1, HF1⟩
 case round =>
  obtain ⟨i, g, hi, rfl, hM, hfr⟩ := hrel
  by_cases hlt : i < n
  ·have hin : ((i : Nat) : Int) < (n : Int) := by omega
   obtain ⟨q, hq⟩ : ∃ q, wr.heap.size = q := ⟨_, rfl⟩
   obtain ⟨W2, hW2⟩ : ∃ W2, W2 = wr.alloc (.cells (flags n fun _ => false) 4) := ⟨_, rfl⟩
   have f2 : Fr No wr W2 := by rw [hW2]; exact (Fr.refl _ _).alloc _
   have hM2 := hM.out.since f2
   have bq : Bk W2 q 4 (flags n (DK i 0 i)) := by
    rw [hW2, ← hq, ← flags_congr n (fun _ => false) (DK i 0 i) (fun k _ => by rw [Hz.out]; simp)]
    exact Bk.made _ _ _
   have x0 : W2.cell? ⟨w.heap.size, i, none⟩ = some (.slice none 0 0) := by rw [hM2.rows.cell i, rowsA_at g hlt, if_neg (by omega)]
   have x1 := hM2.rows.frozen i
   obtain ⟨W3, hW3⟩ : ∃ W3, W3 = W2.setCell ⟨w.heap.size, i, none⟩ (.slice (some ⟨q, 0, none⟩) n n) := ⟨_, rfl⟩
   have hBw : w.heap.size ≤ wr.heap.size := hfr.out.size
   have hM3 : Hid (MatB W3 w.heap.size 73 4 w.heap.size n (i + 1) (updN g i q) (DK i 0)) := Lib.hid (by
    rw [hW3]
    exact hM.out.more hne q f2 bq (by omega) hBw (fun j hj k _ => by rw [Hz.out, decide_eq_true hj, Bool.and_true]))
   have HF3 : Hid (Fr No w W3) := Lib.hid (by rw [hW3]; exact (hfr.out.trans' f2 (fun _ _ e => e)).setCell (.inr (Nat.le_refl _)) _)
   have hwe2 := hW2.symm
   have hwe3 := hW3.symm
   generalize updN g i q = g' at *
   clear hM hM2 bq f2 hW2 hW3 hBw
   go_wp2
   clear x0 x1 hwe2 hwe3 hq
   go_loopw [6] (fun kv wx => ∃ k : Nat, k ≤ i ∧ kv = .int .i64 (k : Int) ∧ Hid (MatB wx w.heap.size 73 4 w.heap.size n (i + 1) g' (DK i k)) ∧ Hid (Fr No w wx)) (fun kv _ => i - (intOf kv).toNat)
   case atStart => exact ⟨0, Nat.zero_le _, rfl, hM3, HF3⟩
   case round =>
    obtain ⟨k, hk, rfl, hMk, hfk⟩ := hrel
    by_cases hki : k < i
    ·have hil : i < h.length := by rw [HN.out]; exact hlt
     have hkl : k < h.length := by rw [HN.out]; omega
     have hkn : k < n := by omega
     have hkin : ((k : Nat) : Int) < (n : Int) := by omega
     have hkii : ((k : Nat) : Int) < (i : Int) := by omega
     obtain ⟨ad, hA, hab, a0, a1, a2, a3, a4, a5⟩ := Hnd.out i hil w (Fr.refl _ _)
     obtain ⟨ae, hA2, -, b0, b1, b2, b3, b4, b5⟩ := Hnd.out k hkl w (Fr.refl _ _)
     rw [hA] at hA2
     injection hA2 with hA2
     subst hA2
     subst hA
     have hcf := Lib.hid (fun W hW => HC.out i k hil hkl W hW)
     have hdir := Lib.hid (Hdir.out i k hil hkl hki)
     have hst := Lib.hid (fun j k' hj => Hstp.out i k j k' hj)
     unfold Ndl.agg Ndl.arr at hcf
     generalize confN h[i].n h[k].n = cf at *
     generalize h[i] = a at *
     generalize h[k] = b at *
     clear HC Hdir Hnd Hz Hrow hM3 HF3 Hd
     generalize a.n.saga = sa at *
     generalize a.n.cls = ca at *
     generalize a.n.step = ta at *
     generalize a.n.back = ka at *
     generalize a.n.rd.length = na at *
     generalize a.n.wt.length = ma at *
     generalize a.rA = Ra at *
     generalize a.rc = rca at *
     generalize a.wA = Va at *
     generalize a.wc = wca at *
     generalize b.n.saga = sb at *
     generalize b.n.cls = cb at *
     generalize b.n.step = tb at *
     generalize b.n.back = kb at *
     generalize b.n.rd.length = nb at *
     generalize b.n.wt.length = mb at *
     generalize b.rA = Rb at *
     generalize b.rc = rcb at *
     generalize b.wA = Vb at *
     generalize b.wc = wcb at *
     have r0 := hMk.out.cellR (show i < i + 1 by omega) (by omega)
     have hgn := hMk.out.new.2 i (by omega)
     have hap := hMk.out.apart hne (show i < i + 1 by omega)
     have z0 := hMk.out.cellB (show i < i + 1 by omega) hkn
     have hput : Hid (∀ V, Fr No wr V → MatB (V.setCell ⟨g' i, k, none⟩ (.bool (d i k))) w.heap.size 73 4 w.heap.size n (i + 1) g' (DK i (k + 1))) := Lib.hid (fun V hV => ((hMk.out.since hV).put hne (show i < i + 1 by omega) (d i k)).congr (fun j k' hj _ => by rw [hst.out j k' hj]; split <;> rfl))
     have hz0 : Hid (∀ V, Fr No wr V → V.cell? ⟨g' i, k, none⟩ = some (.bool (DK i k i k)) ∧ V.frozen? ⟨g' i, k, none⟩ = false) := Lib.hid (fun V hV => ⟨(hMk.out.since hV).cellB (show i < i + 1 by omega) hkn, ((hMk.out.since hV).row i (by omega)).frozen k⟩)
     have hGlt : w.heap.size < wr.heap.size := hMk.out.rows.lt
     generalize g' i = gi at *
     generalize d i k = dv at *
     have HSS : Hid (∀ V, Fr (fun j => j = gi) wr V → (fun V => V.cell? ⟨w.heap.size, i, none⟩ = some (.slice (some ⟨gi, 0, none⟩) n n) ∧ V.cell? (ad.add (i * 6)) = some (.int .i64 sa) ∧ V.cell? ⟨(ad.add (i * 6)).block, (ad.add (i * 6)).off + 1, none⟩ = some (.int .i64 ca) ∧ V.cell? ⟨(ad.add (i * 6)).block, (ad.add (i * 6)).off + 2, none⟩ = some (.int .i64 ta) ∧ V.cell? ⟨(ad.add (i * 6)).block, (ad.add (i * 6)).off + 3, none⟩ = some (.bool ka) ∧ V.cell? ⟨(ad.add (i * 6)).block, (ad.add (i * 6)).off + 4, none⟩ = some (.slice Ra na rca) ∧ V.cell? ⟨(ad.add (i * 6)).block, (ad.add (i * 6)).off + 5, none⟩ = some (.slice Va ma wca) ∧ V.cell? (ad.add (k * 6)) = some (.int .i64 sb) ∧ V.cell? ⟨(ad.add (k * 6)).block, (ad.add (k * 6)).off + 1, none⟩ = some (.int .i64 cb) ∧ V.cell? ⟨(ad.add (k * 6)).block, (ad.add (k * 6)).off + 2, none⟩ = some (.int .i64 tb) ∧ V.cell? ⟨(ad.add (k * 6)).block, (ad.add (k * 6)).off + 3, none⟩ = some (.bool kb) ∧ V.cell? ⟨(ad.add (k * 6)).block, (ad.add (k * 6)).off + 4, none⟩ = some (.slice Rb nb rcb) ∧ V.cell? ⟨(ad.add (k * 6)).block, (ad.add (k * 6)).off + 5, none⟩ = some (.slice Vb mb wcb)) V) := Lib.hid (fun V hV => by
      have hVw : Fr (fun j => j = gi) w V := (hfk.out.weak (fun _ _ e => e.elim)).trans' hV (fun _ _ e => e)
      have hx : ∀ p : Addr, p.block = ad.block → V.cell? p = w.cell? p := fun p hp => hVw.cell (by rw [hp]; exact hab) (fun e => by have e : p.block = gi := e; omega)
      refine ⟨(hV.cell (p := ⟨w.heap.size, i, none⟩) hGlt (fun e => hap (show gi = w.heap.size from (show w.heap.size = gi from e).symm))).trans r0, (hx (ad.add (i * 6)) (block_add _ _)).trans a0, (hx ⟨(ad.add (i * 6)).block, (ad.add (i * 6)).off + 1, none⟩ (block_add _ _)).trans a1, (hx ⟨(ad.add (i * 6)).block, (ad.add (i * 6)).off + 2, none⟩ (block_add _ _)).trans a2, (hx ⟨(ad.add (i * 6)).block, (ad.add (i * 6)).off + 3, none⟩ (block_add _ _)).trans a3, (hx ⟨(ad.add (i * 6)).block, (ad.add (i * 6)).off + 4, none⟩ (block_add _ _)).trans a4, (hx ⟨(ad.add (i * 6)).block, (ad.add (i * 6)).off + 5, none⟩ (block_add _ _)).trans a5, (hx (ad.add (k * 6)) (block_add _ _)).trans b0, (hx ⟨(ad.add (k * 6)).block, (ad.add (k * 6)).off + 1, none⟩ (block_add _ _)).trans b1, (hx ⟨(ad.add (k * 6)).block, (ad.add (k * 6)).off + 2, none⟩ (block_add _ _)).trans b2, (hx ⟨(ad.add (k * 6)).block, (ad.add (k * 6)).off + 3, none⟩ (block_add _ _)).trans b3, (hx ⟨(ad.add (k * 6)).block, (ad.add (k * 6)).off + 4, none⟩ (block_add _ _)).trans b4, (hx ⟨(ad.add (k * 6)).block, (ad.add (k * 6)).off + 5, none⟩ (block_add _ _)).trans b5⟩)
     have D0 : Hid (Fr No wr wr.drew) := Lib.hid ((Fr.refl No wr).drew)
     clear a0 a1 a2 a3 a4 a5 b0 b1 b2 b3 b4 b5 r0 z0 hst hMk hap
     generalize DK i k i k = zz at *
     go_wp2_with fail
     by_cases hs : sa = sb
     ·have hdv : dv = true := by rw [hdir.out]; simp [hs]
      have d1 : (sa == sb) = true := by simp [hs]
      subst hs
      refine wp_region_held_drew (S := fun V => V.cell? ⟨w.heap.size, i, none⟩ = some (.slice (some ⟨gi, 0, none⟩) n n) ∧ V.cell? (ad.add (i * 6)) = some (.int .i64 sa) ∧ V.cell? ⟨(ad.add (i * 6)).block, (ad.add (i * 6)).off + 1, none⟩ = some (.int .i64 ca) ∧ V.cell? ⟨(ad.add (i * 6)).block, (ad.add (i * 6)).off + 2, none⟩ = some (.int .i64 ta) ∧ V.cell? ⟨(ad.add (i * 6)).block, (ad.add (i * 6)).off + 3, none⟩ = some (.bool ka) ∧ V.cell? ⟨(ad.add (i * 6)).block, (ad.add (i * 6)).off + 4, none⟩ = some (.slice Ra na rca) ∧ V.cell? ⟨(ad.add (i * 6)).block, (ad.add (i * 6)).off + 5, none⟩ = some (.slice Va ma wca) ∧ V.cell? (ad.add (k * 6)) = some (.int .i64 sa) ∧ V.cell? ⟨(ad.add (k * 6)).block, (ad.add (k * 6)).off + 1, none⟩ = some (.int .i64 cb) ∧ V.cell? ⟨(ad.add (k * 6)).block, (ad.add (k * 6)).off + 2, none⟩ = some (.int .i64 tb) ∧ V.cell? ⟨(ad.add (k * 6)).block, (ad.add (k * 6)).off + 3, none⟩ = some (.bool kb) ∧ V.cell? ⟨(ad.add (k * 6)).block, (ad.add (k * 6)).off + 4, none⟩ = some (.slice Rb nb rcb) ∧ V.cell? ⟨(ad.add (k * 6)).block, (ad.add (k * 6)).off + 5, none⟩ = some (.slice Vb mb wcb)) (by kernel_rfl) (HSS.out _ (D0.out.weak (fun _ _ e => e.elim))) (fun hHeld => ?_)
      refine any_u 29 (.slice (some ⟨w.heap.size, 0, none⟩) n n) (i := 0) rfl rfl ?_
      simp only [Act.put, szA, szB, szC]
      refine any_u 30 (.int .i64 (i : Int)) (i := 1) rfl rfl ?_
      simp only [Act.put, szA, szB, szC]
      refine any_u 31 (.pointer (some ⟨w.heap.size, i, none⟩)) (i := 2) rfl rfl ?_
      simp only [Act.put, szA, szB, szC]
      refine any_u 32 (.slice (some ⟨gi, 0, none⟩) n n) (i := 3) rfl rfl ?_
      simp only [Act.put, szA, szB, szC]
      refine any_u 33 (.int .i64 (k : Int)) (i := 4) rfl rfl ?_
      simp only [Act.put, szA, szB, szC]
      refine any_u 34 (.slice (some ad) n c) (i := 5) rfl rfl ?_
      simp only [Act.put, szA, szB, szC]
      refine any_u 35 (.int .i64 (i : Int)) (i := 6) rfl rfl ?_
      simp only [Act.put, szA, szB, szC]
      refine any_u 36 (.pointer (some (ad.add (i * 6)))) (i := 7) rfl rfl ?_
      simp only [Act.put, szA, szB, szC]
      refine any_u 37 (.pointer (some (ad.add (i * 6)))) (i := 8) rfl rfl ?_
      simp only [Act.put, szA, szB, szC]
      refine any_u 38 (.int .i64 sa) (i := 9) rfl rfl ?_
      simp only [Act.put, szA, szB, szC]
      refine any_u 39 (.slice (some ad) n c) (i := 10) rfl rfl ?_
      simp only [Act.put, szA, szB, szC]
      refine any_u 40 (.int .i64 (k : Int)) (i := 11) rfl rfl ?_
      simp only [Act.put, szA, szB, szC]
      refine any_u 41 (.pointer (some (ad.add (k * 6)))) (i := 12) rfl rfl ?_
      simp only [Act.put, szA, szB, szC]
      refine any_u 42 (.pointer (some (ad.add (k * 6)))) (i := 13) rfl rfl ?_
      simp only [Act.put, szA, szB, szC]
      refine any_u 43 (.int .i64 sa) (i := 14) rfl rfl ?_
      simp only [Act.put, szA, szB, szC]
      refine any_u 44 (.bool true) (i := 15) rfl rfl ?_
      simp only [Act.put, szA, szB, szC]
      refine any_u 45 (.bool true) (i := 16) rfl rfl ?_
      simp only [Act.put, szA, szB, szC]
      refine any_v 46 (i := 17) rfl rfl ?_
      simp only [Act.put, szA, szB, szC]
      refine any_v 47 (i := 18) rfl rfl ?_
      simp only [Act.put, szA, szB, szC]
      refine any_v 48 (i := 19) rfl rfl ?_
      simp only [Act.put, szA, szB, szC]
      refine any_v 49 (i := 20) rfl rfl ?_
      simp only [Act.put, szA, szB, szC]
      refine any_v 50 (i := 21) rfl rfl ?_
      simp only [Act.put, szA, szB, szC]
      refine any_v 51 (i := 22) rfl rfl ?_
      simp only [Act.put, szA, szB, szC]
      refine any_v 52 (i := 23) rfl rfl ?_
      simp only [Act.put, szA, szB, szC]
      refine any_v 53 (i := 24) rfl rfl ?_
      simp only [Act.put, szA, szB, szC]
      refine any_v 54 (i := 25) rfl rfl ?_
      simp only [Act.put, szA, szB, szC]
      refine any_u 55 (.bool true) (i := 26) rfl rfl ?_
      simp only [Act.put, szA, szB, szC]
      refine any_u 56 (.pointer (some ⟨gi, k, none⟩)) (i := 27) rfl rfl ?_
      simp only [Act.put, szA, szB, szC]
      obtain ⟨y0, y1⟩ := hz0.out wr.drew D0.out
      refine any_store12 (i := 28) (w' := wr.drew.setCell ⟨gi, k, none⟩ (.bool true)) (by kernel_rfl) rfl rfl (by rfl) (by go_simp; try with_reducible rfl) (HSS.out _ ((D0.out.weak (fun _ _ e => e.elim)).trans' ((Fr.refl (fun j => j = gi) wr.drew).setCell (p := ⟨gi, k, none⟩) (.inl rfl) _) (fun _ _ e => e))) ?_
      refine wpAnyH_done (by kernel_rfl) ?_ _
      have hM5 : Hid (MatB (wr.drew.setCell ⟨gi, k, none⟩ (.bool true)) w.heap.size 73 4 w.heap.size n (i + 1) g' (DK i (k + 1))) := Lib.hid (by
       have h5 := hput.out wr.drew D0.out
       rw [hdv] at h5
       exact h5)
      have hF5 : Hid (Fr No w (wr.drew.setCell ⟨gi, k, none⟩ (.bool true))) := Lib.hid ((hfk.out.trans' D0.out (fun _ _ e => e)).setCell (.inr hgn) _)
      clear hHeld y0 y1 hput hz0 HSS hdir
      go_wp2
      go_roundw
      case rel => exact ⟨k + 1, by omega, by go_num, hM5, hF5⟩
      case measure => simp [intOf]; omega
     ·have hdv : dv = cf := by rw [hdir.out]; simp [hs]
      have d1 : (sa == sb) = false := by simpa using hs
      have d2 : decide (sa = sb) = false := decide_eq_false hs
      clear hs
      refine wp_region_held_drew (S := fun V => V.cell? ⟨w.heap.size, i, none⟩ = some (.slice (some ⟨gi, 0, none⟩) n n) ∧ V.cell? (ad.add (i * 6)) = some (.int .i64 sa) ∧ V.cell? ⟨(ad.add (i * 6)).block, (ad.add (i * 6)).off + 1, none⟩ = some (.int .i64 ca) ∧ V.cell? ⟨(ad.add (i * 6)).block, (ad.add (i * 6)).off + 2, none⟩ = some (.int .i64 ta) ∧ V.cell? ⟨(ad.add (i * 6)).block, (ad.add (i * 6)).off + 3, none⟩ = some (.bool ka) ∧ V.cell? ⟨(ad.add (i * 6)).block, (ad.add (i * 6)).off + 4, none⟩ = some (.slice Ra na rca) ∧ V.cell? ⟨(ad.add (i * 6)).block, (ad.add (i * 6)).off + 5, none⟩ = some (.slice Va ma wca) ∧ V.cell? (ad.add (k * 6)) = some (.int .i64 sb) ∧ V.cell? ⟨(ad.add (k * 6)).block, (ad.add (k * 6)).off + 1, none⟩ = some (.int .i64 cb) ∧ V.cell? ⟨(ad.add (k * 6)).block, (ad.add (k * 6)).off + 2, none⟩ = some (.int .i64 tb) ∧ V.cell? ⟨(ad.add (k * 6)).block, (ad.add (k * 6)).off + 3, none⟩ = some (.bool kb) ∧ V.cell? ⟨(ad.add (k * 6)).block, (ad.add (k * 6)).off + 4, none⟩ = some (.slice Rb nb rcb) ∧ V.cell? ⟨(ad.add (k * 6)).block, (ad.add (k * 6)).off + 5, none⟩ = some (.slice Vb mb wcb)) (by kernel_rfl) (HSS.out _ (D0.out.weak (fun _ _ e => e.elim))) (fun hHeld => ?_)
      refine any_u 29 (.slice (some ⟨w.heap.size, 0, none⟩) n n) (i := 0) rfl rfl ?_
      simp only [Act.put, szA, szB, szC]
      refine any_u 30 (.int .i64 (i : Int)) (i := 1) rfl rfl ?_
      simp only [Act.put, szA, szB, szC]
      refine any_u 31 (.pointer (some ⟨w.heap.size, i, none⟩)) (i := 2) rfl rfl ?_
      simp only [Act.put, szA, szB, szC]
      refine any_u 32 (.slice (some ⟨gi, 0, none⟩) n n) (i := 3) rfl rfl ?_
      simp only [Act.put, szA, szB, szC]
      refine any_u 33 (.int .i64 (k : Int)) (i := 4) rfl rfl ?_
      simp only [Act.put, szA, szB, szC]
      refine any_u 34 (.slice (some ad) n c) (i := 5) rfl rfl ?_
      simp only [Act.put, szA, szB, szC]
      refine any_u 35 (.int .i64 (i : Int)) (i := 6) rfl rfl ?_
      simp only [Act.put, szA, szB, szC]
      refine any_u 36 (.pointer (some (ad.add (i * 6)))) (i := 7) rfl rfl ?_
      simp only [Act.put, szA, szB, szC]
      refine any_u 37 (.pointer (some (ad.add (i * 6)))) (i := 8) rfl rfl ?_
      simp only [Act.put, szA, szB, szC]
      refine any_u 38 (.int .i64 sa) (i := 9) rfl rfl ?_
      simp only [Act.put, szA, szB, szC]
      refine any_u 39 (.slice (some ad) n c) (i := 10) rfl rfl ?_
      simp only [Act.put, szA, szB, szC]
      refine any_u 40 (.int .i64 (k : Int)) (i := 11) rfl rfl ?_
      simp only [Act.put, szA, szB, szC]
      refine any_u 41 (.pointer (some (ad.add (k * 6)))) (i := 12) rfl rfl ?_
      simp only [Act.put, szA, szB, szC]
      refine any_u 42 (.pointer (some (ad.add (k * 6)))) (i := 13) rfl rfl ?_
      simp only [Act.put, szA, szB, szC]
      refine any_u 43 (.int .i64 sb) (i := 14) rfl rfl ?_
      simp only [Act.put, szA, szB, szC]
      refine any_u 44 (.bool false) (i := 15) rfl rfl ?_
      simp only [Act.put, szA, szB, szC]
      refine any_u 45 (.bool false) (i := 16) rfl rfl ?_
      simp only [Act.put, szA, szB, szC]
      refine any_u 46 (.slice (some ad) n c) (i := 17) rfl rfl ?_
      simp only [Act.put, szA, szB, szC]
      refine any_u 47 (.int .i64 (i : Int)) (i := 18) rfl rfl ?_
      simp only [Act.put, szA, szB, szC]
      refine any_u 48 (.pointer (some (ad.add (i * 6)))) (i := 19) rfl rfl ?_
      simp only [Act.put, szA, szB, szC]
      refine any_u 49 (.agg #[.int .i64 sa, .int .i64 ca, .int .i64 ta, .bool ka, .slice Ra na rca, .slice Va ma wca]) (i := 20) rfl rfl ?_
      simp only [Act.put, szA, szB, szC]
      refine any_u 50 (.slice (some ad) n c) (i := 21) rfl rfl ?_
      simp only [Act.put, szA, szB, szC]
      refine any_u 51 (.int .i64 (k : Int)) (i := 22) rfl rfl ?_
      simp only [Act.put, szA, szB, szC]
      refine any_u 52 (.pointer (some (ad.add (k * 6)))) (i := 23) rfl rfl ?_
      simp only [Act.put, szA, szB, szC]
      refine any_u 53 (.agg #[.int .i64 sb, .int .i64 cb, .int .i64 tb, .bool kb, .slice Rb nb rcb, .slice Vb mb wcb]) (i := 24) rfl rfl ?_
      simp only [Act.put, szA, szB, szC]
      refine wpAnyH_ready (rs := [25]) (by kernel_rfl) (by simp) ?_
      refine AllReadyH.cons rfl (fun K' hK => ?_) AllReadyH.nil
      go_simp
      go_at_call 28
      refine (hcf.out _ (hfk.out.trans' D0.out (fun _ _ e => e))).mono ?_
      rintro e' v2 ⟨rfl, f2⟩
      have D2 := Lib.hid (D0.out.trans' f2 (fun _ _ e => e))
      clear f2
      dsimp only
      refine hK.out _ _ (HSS.out _ (D2.out.weak (fun _ _ e => e.elim))) (fun hHeld => ?_)
      clear hK
      try simp only [Act.put, szA, szB, szC]
      refine any_u 55 (.bool cf) (i := 26) rfl rfl ?_
      simp only [Act.put, szA, szB, szC]
      refine any_u 56 (.pointer (some ⟨gi, k, none⟩)) (i := 27) rfl rfl ?_
      simp only [Act.put, szA, szB, szC]
      obtain ⟨y0, y1⟩ := hz0.out v2 D2.out
      refine any_store12 (i := 28) (w' := v2.setCell ⟨gi, k, none⟩ (.bool cf)) (by kernel_rfl) rfl rfl (by rfl) (by go_simp; try with_reducible rfl) (HSS.out _ ((D2.out.weak (fun _ _ e => e.elim)).trans' ((Fr.refl (fun j => j = gi) v2).setCell (p := ⟨gi, k, none⟩) (.inl rfl) _) (fun _ _ e => e))) ?_
      refine wpAnyH_done (by kernel_rfl) ?_ _
      have hM5 : Hid (MatB (v2.setCell ⟨gi, k, none⟩ (.bool cf)) w.heap.size 73 4 w.heap.size n (i + 1) g' (DK i (k + 1))) := Lib.hid (by
       have h5 := hput.out v2 D2.out
       rw [hdv] at h5
       exact h5)
      have hF5 : Hid (Fr No w (v2.setCell ⟨gi, k, none⟩ (.bool cf))) := Lib.hid ((hfk.out.trans' D2.out (fun _ _ e => e)).setCell (.inr hgn) _)
      clear hHeld y0 y1 hput hz0 HSS hdir
      go_wp2
      go_roundw
      case rel => exact ⟨k + 1, by omega, by go_num, hM5, hF5⟩
      case measure => simp [intOf]; omega
    ·obtain rfl : k = i := by omega
     have hM4 : Hid (MatB wr w.heap.size 73 4 w.heap.size n (k + 1) g' d) := Lib.hid (hMk.out.congr (fun j k' hj _ => Hrow.out k j k' hj))
     clear hMk hM3
     go_wp2
     go_roundw
     case rel => exact ⟨k + 1, g', by omega, by go_num, hM4, hfk⟩
     case measure => simp [intOf]; omega
  ·obtain rfl : i = n := by omega
   clear hmf Hz Hstp Hrow Hdir Hnd HC HN
   obtain ⟨G, hGe⟩ : ∃ G, w.heap.size = G := ⟨_, rfl⟩
   have HG := Lib.hid hGe
   have hM0 : Hid (MatB wr G 73 4 G i i g (wsh d 0)) := Lib.hid (by rw [← hGe]; exact hM.out)
   rw [hGe]
   clear hM hGe
   go_wp2
   go_loopw [7] (fun mv wx => ∃ m : Nat, m ≤ i ∧ mv = .int .i64 (m : Int) ∧ Hid (MatB wx G 73 4 G i i g (wsh d m)) ∧ Hid (Fr No w wx)) (fun mv _ => i - (intOf mv).toNat)
   case atStart => exact ⟨0, Nat.zero_le _, rfl, hM0, hfr⟩
   case round =>
    obtain ⟨m, hm, rfl, hMm, hfm⟩ := hrel
    by_cases hmn : m < i
    ·have hmi : ((m : Nat) : Int) < (i : Int) := by omega
     have hM1 : Hid (MatB wr G 73 4 G i i g (curW d m 0 0)) := Lib.hid (hMm.out.congr (fun j k' _ _ => (curW_zero d m j k').symm))
     clear hMm
     go_wp2
     go_loopw [8] (fun av wx => ∃ a : Nat, a ≤ i ∧ av = .int .i64 (a : Int) ∧ Hid (MatB wx G 73 4 G i i g (curW d m a 0)) ∧ Hid (Fr No w wx)) (fun av _ => i - (intOf av).toNat)
     case atStart => exact ⟨0, Nat.zero_le _, rfl, hM1, hfm⟩
     case round =>
      obtain ⟨a, ha, rfl, hMa, hfa⟩ := hrel
      by_cases han : a < i
      ·have hai : ((a : Nat) : Int) < (i : Int) := by omega
       go_wp2
       go_loopw [9] (fun kv wx => ∃ k : Nat, k ≤ i ∧ kv = .int .i64 (k : Int) ∧ Hid (MatB wx G 73 4 G i i g (curW d m a k)) ∧ Hid (Fr No w wx)) (fun kv _ => i - (intOf kv).toNat)
       case atStart => exact ⟨0, Nat.zero_le _, rfl, hMa, hfa⟩
       case round =>
        obtain ⟨k, hk, rfl, hMk, hfk⟩ := hrel
        by_cases hkn : k < i
        ·have hki : ((k : Nat) : Int) < (i : Int) := by omega
         have r1 := hMk.out.cellR han (Nat.le_refl i)
         have r2 := hMk.out.cellR hmn (Nat.le_refl i)
         have b1 := hMk.out.cellB (k := m) han hmn
         have b2 := hMk.out.cellB (k := k) hmn hkn
         have b3 := hMk.out.cellB (k := k) han hkn
         have b4 := (hMk.out.row a han).frozen k
         rw [curW_left Hd.out] at b1
         rw [curW_right Hd.out] at b2
         have Hst := Lib.hid (fun j k' => curW_step d m a k j k')
         obtain ⟨u, hu⟩ : ∃ u, wsh d m a m = u := ⟨_, rfl⟩
         obtain ⟨v, hv⟩ : ∃ v, wsh d m m k = v := ⟨_, rfl⟩
         rw [hu] at b1 Hst
         rw [hv] at b2 Hst
         have hno : Hid ((u && v) = false → MatB wr G 73 4 G i i g (curW d m a (k + 1))) := Lib.hid (fun e => hMk.out.congr (fun j k' _ _ => by
          rw [Hst.out]
          split
          ·next q => obtain ⟨rfl, rfl⟩ := q; rw [e, Bool.or_false]
          ·rfl))
         have hyes : Hid ((u && v) = true → MatB (wr.setCell ⟨g a, k, none⟩ (.bool true)) G 73 4 G i i g (curW d m a (k + 1))) := Lib.hid (fun e => (hMk.out.put hne han true).congr (fun j k' _ _ => by
          rw [Hst.out]
          by_cases q1 : j = a
          ·rw [if_pos q1]
           unfold upd
           by_cases q2 : k' = k
           ·rw [if_pos q2, if_pos ⟨q1, q2⟩, e, Bool.or_true]
           ·rw [if_neg q2, if_neg (fun q => q2 q.2), q1]
          ·rw [if_neg q1, if_neg (fun q => q1 q.1)]))
         have hFy : Hid (Fr No w (wr.setCell ⟨g a, k, none⟩ (.bool true))) := Lib.hid (hfk.out.setCell (.inr (by have := hMk.out.new.2 a han; have := HG.out; show w.heap.size ≤ g a; omega)) _)
         clear hu hv Hst hMk
         generalize curW d m a k a k = z at *
         generalize g a = ga at *
         generalize g m = gm at *
         cases u
         ·go_wp2
          go_roundw
          case rel => exact ⟨k + 1, by omega, by go_num, Lib.hid (hno.out rfl), hfk⟩
          case measure => simp [intOf]; omega
         ·cases v
          ·go_wp2
           go_roundw
           case rel => exact ⟨k + 1, by omega, by go_num, Lib.hid (hno.out rfl), hfk⟩
           case measure => simp [intOf]; omega
          ·go_wp2
           go_roundw
           case rel => exact ⟨k + 1, by omega, by go_num, Lib.hid (hyes.out rfl), hFy⟩
           case measure => simp [intOf]; omega
        ·obtain rfl : k = i := by omega
         have hM2 : Hid (MatB wr G 73 4 G k k g (curW d m (a + 1) 0)) := Lib.hid (hMk.out.congr (fun j k' _ hk' => curW_row d hk'))
         clear hMk
         go_wp2
         go_roundw
         case rel => exact ⟨a + 1, by omega, by go_num, hM2, hfk⟩
         case measure => simp [intOf]; omega
      ·obtain rfl : a = i := by omega
       have hM2 : Hid (MatB wr G 73 4 G a a g (wsh d (m + 1))) := Lib.hid (hMa.out.congr (fun j k' hj _ => curW_end d hj))
       clear hMa
       go_wp2
       go_roundw
       case rel => exact ⟨m + 1, by omega, by go_num, hM2, hfa⟩
       case measure => simp [intOf]; omega
    ·obtain rfl : m = i := by omega
     go_wp2
     go_ret
     exact ⟨G, g, rfl, by rw [HG.out]; exact hMm.out, hfm.out⟩
end Go.Proofs.YtmeimhpllemjfaaGreat
