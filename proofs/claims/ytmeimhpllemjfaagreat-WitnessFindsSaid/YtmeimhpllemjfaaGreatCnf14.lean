/- Do two nodes conflict? As package units has it, and the document. -/
import Derived.Test.YtmeimhpllemjfaaGreatUnt14
import Derived.Test.YtmeimhpllemjfaaGreatKeys4
import Derived.Test.YtmeimhpllemjfaaGreatHand
namespace Go.Proofs.YtmeimhpllemjfaaGreat
open Go.RowKit

theorem bkm14 {w : World} {k : Nat} {t : TypeId} {cs : Array Value} (h : k = w.heap.size) : Bk (w.alloc (.cells cs t)) k t cs := by
 subst h
 exact Bk.made w t cs
theorem bka14 {w : World} {k : Nat} {t : TypeId} {cs : Array Value} (h : Bk w k t cs) (o : Obj) : Bk (w.alloc o) k t cs := h.fr ((Fr.refl No w).alloc o) (fun e => e)
theorem in4_of {W : World} {A : Option Addr} {l : List Span} (h : Sl W W.heap.size A (sps l)) (hl : l.length ≤ 1048576) : In4 W A l.length l := ⟨h, rfl, hl⟩
set_option maxHeartbeats 1000000 in
theorem touched_any (a : Ndl) (w : World) (ha : a.Ok w) (h1 : a.n.rd.length ≤ 1048576) (h2 : a.n.wt.length ≤ 1048576) : Calls Tryz.prog 106 #[a.agg] w (NewS w (plainOf (touchK a.n))) := by
 have f0 : Fr No w (w.alloc (.cells #[.int .i64 a.n.saga, .int .i64 a.n.cls, .int .i64 a.n.step, .bool a.n.back, .slice a.rA a.n.rd.length a.rc, .slice a.wA a.n.wt.length a.wc] 37)) := (Fr.refl _ _).alloc _
 have C := Lib.hid (kUnion_any a.n.rd a.n.wt a.rA a.wA a.n.rd.length a.rc a.n.wt.length a.wc _ (in4_of (ha.since f0).rd h1) (in4_of (ha.since f0).wt h2))
 change Hid (Calls _ _ _ _ (NewS _ (plainOf (touchK a.n)))) at C
 have HF0 := Lib.hid f0
 generalize plainOf (touchK a.n) = zs at *
 unfold Ndl.agg Ndl.arr
 clear ha h1 h2 f0
 generalize a.n.saga = sa at *
 generalize a.n.cls = ca at *
 generalize a.n.step = ta at *
 generalize a.n.back = ka at *
 generalize a.n.rd.length = na at *
 generalize a.n.wt.length = ma at *
 generalize a.rA = Ra at *
 generalize a.rc = rca at *
 generalize a.wA = Va at *
 generalize a.wc = wca at *
 go_enter Tryz.func106, Tryz.ntmps106
 go_wp2_with fail
 refine (C.out).mono ?_
 rintro e w1 ⟨A1, c1, rfl, hs, f1⟩
 have HS := Lib.hid hs
 clear hs
 go_wp2
 go_ret
 exact ⟨A1, c1, rfl, HS.out, HF0.out.trans' f1 (fun _ _ e => e)⟩
theorem meets_touch (s : Nat → Bool) (n : Nd) : meets s (keysOf (plainOf (touchK n))) = meets s (touchK n) := meets_congr (fun _ _ => rfl) (fun k hk => keysOf_plain _ k hk)
set_option maxRecDepth 100000 in
set_option maxHeartbeats 8000000 in
theorem conflictU_any (a b : Ndl) (w : World) (ha : a.Ok w) (hb : b.Ok w) (h1 : a.n.rd.length ≤ 1048576) (h2 : a.n.wt.length ≤ 1048576) (h3 : b.n.rd.length ≤ 1048576) (h4 : b.n.wt.length ≤ 1048576) : Calls Tryz.prog 83 #[a.agg, b.agg] w (Has w (confN a.n b.n)) := by
 rw [confN_eq]
 have HT1 := Lib.hid (fun W (h : Fr No w W) => touched_any b W (hb.since h) h3 h4)
 have HT2 := Lib.hid (fun W (h : Fr No w W) => touched_any a W (ha.since h) h1 h2)
 have HM1 := Lib.hid (fun W (h : Fr No w W) (A : Option Addr) (c : Nat) (hs : Sl W W.heap.size A (sps (plainOf (touchK b.n)))) => kMeet_any a.n.wt (plainOf (touchK b.n)) a.wA A a.n.wt.length a.wc (plainOf (touchK b.n)).length c W (in4_of (ha.since h).wt h2) (in4_of hs (by have := plainTo_len (touchK b.n) 1000; unfold plainOf; omega)))
 have HM2 := Lib.hid (fun W (h : Fr No w W) (A : Option Addr) (c : Nat) (hs : Sl W W.heap.size A (sps (plainOf (touchK a.n)))) => kMeet_any b.n.wt (plainOf (touchK a.n)) b.wA A b.n.wt.length b.wc (plainOf (touchK a.n)).length c W (in4_of (hb.since h).wt h4) (in4_of hs (by have := plainTo_len (touchK a.n) 1000; unfold plainOf; omega)))
 rw [meets_touch] at HM1 HM2
 generalize meets (keysOf a.n.wt) (touchK b.n) = m1 at *
 generalize meets (keysOf b.n.wt) (touchK a.n) = m2 at *
 generalize plainOf (touchK b.n) = zb at *
 generalize plainOf (touchK a.n) = za at *
 unfold Ndl.agg Ndl.arr at *
 obtain ⟨W0, hW0⟩ : ∃ W0, W0 = (w.alloc (.cells #[.int .i64 a.n.saga, .int .i64 a.n.cls, .int .i64 a.n.step, .bool a.n.back, .slice a.rA a.n.rd.length a.rc, .slice a.wA a.n.wt.length a.wc] 37)).alloc (.cells #[.int .i64 b.n.saga, .int .i64 b.n.cls, .int .i64 b.n.step, .bool b.n.back, .slice b.rA b.n.rd.length b.rc, .slice b.wA b.n.wt.length b.wc] 37) := ⟨_, rfl⟩
 have HF0 : Hid (Fr No w W0) := Lib.hid (by rw [hW0]; exact ((Fr.refl _ _).alloc _).alloc _)
 have bA : Bk W0 w.heap.size 37 #[.int .i64 a.n.saga, .int .i64 a.n.cls, .int .i64 a.n.step, .bool a.n.back, .slice a.rA a.n.rd.length a.rc, .slice a.wA a.n.wt.length a.wc] := by rw [hW0]; exact bka14 (Bk.made _ _ _) _
 have bB : Bk W0 (w.heap.size + 1) 37 #[.int .i64 b.n.saga, .int .i64 b.n.cls, .int .i64 b.n.step, .bool b.n.back, .slice b.rA b.n.rd.length b.rc, .slice b.wA b.n.wt.length b.wc] := by rw [hW0]; exact bkm14 (by simp)
 have HbA := Lib.hid (fun V (h : Fr No W0 V) => bA.fr h (fun e => e))
 have HbB := Lib.hid (fun V (h : Fr No W0 V) => bB.fr h (fun e => e))
 have hwe := hW0.symm
 clear bA bB hW0
 clear ha hb h1 h2 h3 h4
 generalize a.n.saga = sa at *
 generalize a.n.cls = ca at *
 generalize a.n.step = ta at *
 generalize a.n.back = ka at *
 generalize a.n.rd.length = na at *
 generalize a.n.wt.length = ma at *
 generalize a.rA = Ra at *
 generalize a.rc = rca at *
 generalize a.wA = Va at *
 generalize a.wc = wca at *
 generalize b.n.saga = sb at *
 generalize b.n.cls = cb at *
 generalize b.n.step = tb at *
 generalize b.n.back = kb at *
 generalize b.n.rd.length = nb at *
 generalize b.n.wt.length = mb at *
 generalize b.rA = Rb at *
 generalize b.rc = rcb at *
 generalize b.wA = Vb at *
 generalize b.wc = wcb at *
 have HSS : Hid (∀ V, Fr No W0 V → (fun V => V.cell? ⟨w.heap.size, 0, none⟩ = some (.int .i64 sa) ∧ V.cell? ⟨w.heap.size, 1, none⟩ = some (.int .i64 ca) ∧ V.cell? ⟨w.heap.size, 2, none⟩ = some (.int .i64 ta) ∧ V.cell? ⟨w.heap.size, 3, none⟩ = some (.bool ka) ∧ V.cell? ⟨w.heap.size, 4, none⟩ = some (.slice Ra na rca) ∧ V.cell? ⟨w.heap.size, 5, none⟩ = some (.slice Va ma wca) ∧ V.cell? ⟨w.heap.size + 1, 0, none⟩ = some (.int .i64 sb) ∧ V.cell? ⟨w.heap.size + 1, 1, none⟩ = some (.int .i64 cb) ∧ V.cell? ⟨w.heap.size + 1, 2, none⟩ = some (.int .i64 tb) ∧ V.cell? ⟨w.heap.size + 1, 3, none⟩ = some (.bool kb) ∧ V.cell? ⟨w.heap.size + 1, 4, none⟩ = some (.slice Rb nb rcb) ∧ V.cell? ⟨w.heap.size + 1, 5, none⟩ = some (.slice Vb mb wcb)) V) := Lib.hid (fun V hV => ⟨(HbA.out V hV).cell 0, (HbA.out V hV).cell 1, (HbA.out V hV).cell 2, (HbA.out V hV).cell 3, (HbA.out V hV).cell 4, (HbA.out V hV).cell 5, (HbB.out V hV).cell 0, (HbB.out V hV).cell 1, (HbB.out V hV).cell 2, (HbB.out V hV).cell 3, (HbB.out V hV).cell 4, (HbB.out V hV).cell 5⟩)
 have D0 : Hid (Fr No W0 W0.drew) := Lib.hid ((Fr.refl No W0).drew)
 by_cases hs : sa = sb
 ·have d1 : (sa != sb) = false := by simp [hs]
  have e1 : decide (sa ≠ sb) = false := by simp [hs]
  have e1' : (sb != sa) = false := by simp [hs]
  rw [e1, Bool.false_and]
  subst hs
  clear HT1 HT2 HM1 HM2
  go_enter Tryz.func83, Tryz.ntmps83
  go_wp2_with fail
  refine wp_region_held_drew (S := fun V => V.cell? ⟨w.heap.size, 0, none⟩ = some (.int .i64 sa) ∧ V.cell? ⟨w.heap.size, 1, none⟩ = some (.int .i64 ca) ∧ V.cell? ⟨w.heap.size, 2, none⟩ = some (.int .i64 ta) ∧ V.cell? ⟨w.heap.size, 3, none⟩ = some (.bool ka) ∧ V.cell? ⟨w.heap.size, 4, none⟩ = some (.slice Ra na rca) ∧ V.cell? ⟨w.heap.size, 5, none⟩ = some (.slice Va ma wca) ∧ V.cell? ⟨w.heap.size + 1, 0, none⟩ = some (.int .i64 sa) ∧ V.cell? ⟨w.heap.size + 1, 1, none⟩ = some (.int .i64 cb) ∧ V.cell? ⟨w.heap.size + 1, 2, none⟩ = some (.int .i64 tb) ∧ V.cell? ⟨w.heap.size + 1, 3, none⟩ = some (.bool kb) ∧ V.cell? ⟨w.heap.size + 1, 4, none⟩ = some (.slice Rb nb rcb) ∧ V.cell? ⟨w.heap.size + 1, 5, none⟩ = some (.slice Vb mb wcb)) (by kernel_rfl) (HSS.out _ D0.out) (fun hHeld => ?_)
  refine any_u 5 (.pointer (some ⟨w.heap.size, 0, none⟩)) (i := 0) rfl rfl ?_
  simp only [Act.put, szA, szB, szC]
  refine any_u 6 (.int .i64 sa) (i := 1) rfl rfl ?_
  simp only [Act.put, szA, szB, szC]
  refine any_u 7 (.pointer (some ⟨w.heap.size + 1, 0, none⟩)) (i := 2) rfl rfl ?_
  simp only [Act.put, szA, szB, szC]
  refine any_u 8 (.int .i64 sa) (i := 3) rfl rfl ?_
  simp only [Act.put, szA, szB, szC]
  refine any_u 9 (.bool false) (i := 4) rfl rfl ?_
  simp only [Act.put, szA, szB, szC]
  refine any_u 10 (.bool false) (i := 5) rfl rfl ?_
  simp only [Act.put, szA, szB, szC]
  refine any_v 11 (i := 6) rfl rfl ?_
  simp only [Act.put, szA, szB, szC]
  refine any_v 12 (i := 7) rfl rfl ?_
  simp only [Act.put, szA, szB, szC]
  refine any_v 13 (i := 8) rfl rfl ?_
  simp only [Act.put, szA, szB, szC]
  refine any_v 14 (i := 9) rfl rfl ?_
  simp only [Act.put, szA, szB, szC]
  refine any_v 15 (i := 10) rfl rfl ?_
  simp only [Act.put, szA, szB, szC]
  refine any_v 16 (i := 11) rfl rfl ?_
  simp only [Act.put, szA, szB, szC]
  refine any_v 17 (i := 12) rfl rfl ?_
  simp only [Act.put, szA, szB, szC]
  refine any_v 18 (i := 13) rfl rfl ?_
  simp only [Act.put, szA, szB, szC]
  refine any_v 19 (i := 14) rfl rfl ?_
  simp only [Act.put, szA, szB, szC]
  refine any_v 20 (i := 15) rfl rfl ?_
  simp only [Act.put, szA, szB, szC]
  refine any_v 21 (i := 16) rfl rfl ?_
  simp only [Act.put, szA, szB, szC]
  refine any_v 22 (i := 17) rfl rfl ?_
  simp only [Act.put, szA, szB, szC]
  refine any_u 23 (.bool false) (i := 18) rfl rfl ?_
  simp only [Act.put, szA, szB, szC]
  refine any_u 4 (.bool false) (i := 19) rfl rfl ?_
  simp only [Act.put, szA, szB, szC]
  refine wpAnyH_done (by kernel_rfl) ?_ _
  clear hHeld
  go_wp2
  go_ret
  exact ⟨rfl, HF0.out.trans' D0.out (fun _ _ e => e)⟩
 have d1 : (sa != sb) = true := by simpa using hs
 have e1 : decide (sa ≠ sb) = true := by simpa using hs
 rw [e1, Bool.true_and]
 clear hs
 go_enter Tryz.func83, Tryz.ntmps83
 go_wp2_with fail
 refine wp_region_held_drew (S := fun V => V.cell? ⟨w.heap.size, 0, none⟩ = some (.int .i64 sa) ∧ V.cell? ⟨w.heap.size, 1, none⟩ = some (.int .i64 ca) ∧ V.cell? ⟨w.heap.size, 2, none⟩ = some (.int .i64 ta) ∧ V.cell? ⟨w.heap.size, 3, none⟩ = some (.bool ka) ∧ V.cell? ⟨w.heap.size, 4, none⟩ = some (.slice Ra na rca) ∧ V.cell? ⟨w.heap.size, 5, none⟩ = some (.slice Va ma wca) ∧ V.cell? ⟨w.heap.size + 1, 0, none⟩ = some (.int .i64 sb) ∧ V.cell? ⟨w.heap.size + 1, 1, none⟩ = some (.int .i64 cb) ∧ V.cell? ⟨w.heap.size + 1, 2, none⟩ = some (.int .i64 tb) ∧ V.cell? ⟨w.heap.size + 1, 3, none⟩ = some (.bool kb) ∧ V.cell? ⟨w.heap.size + 1, 4, none⟩ = some (.slice Rb nb rcb) ∧ V.cell? ⟨w.heap.size + 1, 5, none⟩ = some (.slice Vb mb wcb)) (by kernel_rfl) (HSS.out _ D0.out) (fun hHeld => ?_)
 refine any_u 5 (.pointer (some ⟨w.heap.size, 0, none⟩)) (i := 0) rfl rfl ?_
 simp only [Act.put, szA, szB, szC]
 refine any_u 6 (.int .i64 sa) (i := 1) rfl rfl ?_
 simp only [Act.put, szA, szB, szC]
 refine any_u 7 (.pointer (some ⟨w.heap.size + 1, 0, none⟩)) (i := 2) rfl rfl ?_
 simp only [Act.put, szA, szB, szC]
 refine any_u 8 (.int .i64 sb) (i := 3) rfl rfl ?_
 simp only [Act.put, szA, szB, szC]
 refine any_u 9 (.bool true) (i := 4) rfl rfl ?_
 simp only [Act.put, szA, szB, szC]
 refine any_u 10 (.bool true) (i := 5) rfl rfl ?_
 simp only [Act.put, szA, szB, szC]
 refine any_u 11 (.pointer (some ⟨w.heap.size, 5, none⟩)) (i := 6) rfl rfl ?_
 simp only [Act.put, szA, szB, szC]
 refine any_u 12 (.slice Va ma wca) (i := 7) rfl rfl ?_
 simp only [Act.put, szA, szB, szC]
 refine any_u 13 (.agg #[.int .i64 sb, .int .i64 cb, .int .i64 tb, .bool kb, .slice Rb nb rcb, .slice Vb mb wcb]) (i := 8) rfl rfl ?_
 simp only [Act.put, szA, szB, szC]
 refine wpAnyH_ready (rs := [9]) (by kernel_rfl) (by simp) ?_
 refine AllReadyH.cons rfl (fun K' hK => ?_) AllReadyH.nil
 go_simp
 go_at_call 106
 refine (HT1.out _ (HF0.out.trans' D0.out (fun _ _ e => e))).mono ?_
 rintro e' w1 ⟨A1, k1, rfl, hs1, f1⟩
 have D1 := Lib.hid (D0.out.trans' f1 (fun _ _ e => e))
 have HZ1 := Lib.hid hs1
 clear f1 hs1
 dsimp only
 refine hK.out _ _ (HSS.out _ D1.out) (fun hHeld => ?_)
 clear hK
 try simp only [Act.put, szA, szB, szC]
 refine wpAnyH_ready (rs := [10]) (by kernel_rfl) (by simp) ?_
 refine AllReadyH.cons rfl (fun K' hK => ?_) AllReadyH.nil
 go_simp
 go_at_call 105
 refine (HM1.out _ (HF0.out.trans' D1.out (fun _ _ e => e)) A1 k1 HZ1.out).mono ?_
 rintro e' w2 ⟨rfl, f2⟩
 have D2 := Lib.hid (D1.out.trans' f2 (fun _ _ e => e))
 clear f2
 dsimp only
 refine hK.out _ _ (HSS.out _ D2.out) (fun hHeld => ?_)
 clear hK
 try simp only [Act.put, szA, szB, szC]
 cases m1
 ·refine any_u 16 (.bool false) (i := 11) rfl rfl ?_
  simp only [Act.put, szA, szB, szC]
  refine any_u 17 (.pointer (some ⟨w.heap.size + 1, 5, none⟩)) (i := 12) rfl rfl ?_
  simp only [Act.put, szA, szB, szC]
  refine any_u 18 (.slice Vb mb wcb) (i := 13) rfl rfl ?_
  simp only [Act.put, szA, szB, szC]
  refine any_u 19 (.agg #[.int .i64 sa, .int .i64 ca, .int .i64 ta, .bool ka, .slice Ra na rca, .slice Va ma wca]) (i := 14) rfl rfl ?_
  simp only [Act.put, szA, szB, szC]
  refine wpAnyH_ready (rs := [15]) (by kernel_rfl) (by simp) ?_
  refine AllReadyH.cons rfl (fun K' hK => ?_) AllReadyH.nil
  go_simp
  go_at_call 106
  refine (HT2.out _ (HF0.out.trans' D2.out (fun _ _ e => e))).mono ?_
  rintro e' w3 ⟨A3, k3, rfl, hs3, f3⟩
  have D3 := Lib.hid (D2.out.trans' f3 (fun _ _ e => e))
  have HZ3 := Lib.hid hs3
  clear f3 hs3
  dsimp only
  refine hK.out _ _ (HSS.out _ D3.out) (fun hHeld => ?_)
  clear hK
  try simp only [Act.put, szA, szB, szC]
  refine wpAnyH_ready (rs := [16]) (by kernel_rfl) (by simp) ?_
  refine AllReadyH.cons rfl (fun K' hK => ?_) AllReadyH.nil
  go_simp
  go_at_call 105
  refine (HM2.out _ (HF0.out.trans' D3.out (fun _ _ e => e)) A3 k3 HZ3.out).mono ?_
  rintro e' w4 ⟨rfl, f4⟩
  have D4 := Lib.hid (D3.out.trans' f4 (fun _ _ e => e))
  clear f4
  dsimp only
  refine hK.out _ _ (HSS.out _ D4.out) (fun hHeld => ?_)
  clear hK
  try simp only [Act.put, szA, szB, szC]
  refine any_u 22 (.bool m2) (i := 17) rfl rfl ?_
  simp only [Act.put, szA, szB, szC]
  refine any_u 23 (.bool m2) (i := 18) rfl rfl ?_
  simp only [Act.put, szA, szB, szC]
  refine any_u 4 (.bool m2) (i := 19) rfl rfl ?_
  simp only [Act.put, szA, szB, szC]
  refine wpAnyH_done (by kernel_rfl) ?_ _
  clear hHeld
  go_wp2
  go_ret
  exact ⟨by first | rfl | simp, HF0.out.trans' D4.out (fun _ _ e => e)⟩
 ·refine any_u 16 (.bool true) (i := 11) rfl rfl ?_
  simp only [Act.put, szA, szB, szC]
  refine any_v 17 (i := 12) rfl rfl ?_
  simp only [Act.put, szA, szB, szC]
  refine any_v 18 (i := 13) rfl rfl ?_
  simp only [Act.put, szA, szB, szC]
  refine any_v 19 (i := 14) rfl rfl ?_
  simp only [Act.put, szA, szB, szC]
  refine any_v 20 (i := 15) rfl rfl ?_
  simp only [Act.put, szA, szB, szC]
  refine any_v 21 (i := 16) rfl rfl ?_
  simp only [Act.put, szA, szB, szC]
  refine any_u 22 (.bool true) (i := 17) rfl rfl ?_
  simp only [Act.put, szA, szB, szC]
  refine any_u 23 (.bool true) (i := 18) rfl rfl ?_
  simp only [Act.put, szA, szB, szC]
  refine any_u 4 (.bool true) (i := 19) rfl rfl ?_
  simp only [Act.put, szA, szB, szC]
  refine wpAnyH_done (by kernel_rfl) ?_ _
  clear hHeld
  go_wp2
  go_ret
  exact ⟨rfl, HF0.out.trans' D2.out (fun _ _ e => e)⟩
set_option maxRecDepth 100000 in
set_option maxHeartbeats 8000000 in
theorem refConflict14_any (a b : Ndl) (w : World) (ha : a.Ok w) (hb : b.Ok w) (h1 : a.n.rd.length ≤ 1048576) (h2 : a.n.wt.length ≤ 1048576) (h3 : b.n.rd.length ≤ 1048576) (h4 : b.n.wt.length ≤ 1048576) : Calls Tryz.prog 28 #[a.agg, b.agg] w (Has w (confN a.n b.n)) := by
 have HX := Lib.hid (fun W (hW : Fr No w W) => refOf4_any a.n.rd a.n.rd.length a.rA a.rc W (ha.since hW).rd rfl (by omega))
 have HY := Lib.hid (fun W (hW : Fr No w W) => refOf4_any a.n.wt a.n.wt.length a.wA a.wc W (ha.since hW).wt rfl (by omega))
 have HZ := Lib.hid (fun W (hW : Fr No w W) => refOf4_any b.n.rd b.n.rd.length b.rA b.rc W (hb.since hW).rd rfl (by omega))
 have HW := Lib.hid (fun W (hW : Fr No w W) => refOf4_any b.n.wt b.n.wt.length b.wA b.wc W (hb.since hW).wt rfl (by omega))
 have Hr : Hid (confN a.n b.n = (decide (a.n.saga ≠ b.n.saga) && (meets (keysOf a.n.wt) (keysOf b.n.rd) || (meets (keysOf a.n.wt) (keysOf b.n.wt) || meets (keysOf a.n.rd) (keysOf b.n.wt))))) := Lib.hid rfl
 generalize confN a.n b.n = r at *
 obtain ⟨kx, hkx⟩ : ∃ kx, keysOf a.n.rd = kx := ⟨_, rfl⟩
 obtain ⟨ky, hky⟩ : ∃ ky, keysOf a.n.wt = ky := ⟨_, rfl⟩
 obtain ⟨kz, hkz⟩ : ∃ kz, keysOf b.n.rd = kz := ⟨_, rfl⟩
 obtain ⟨kw, hkw⟩ : ∃ kw, keysOf b.n.wt = kw := ⟨_, rfl⟩
 rw [hkx] at HX Hr
 rw [hky] at HY Hr
 rw [hkz] at HZ Hr
 rw [hkw] at HW Hr
 obtain ⟨m1, hm1⟩ : ∃ m, meets ky kz = m := ⟨_, rfl⟩
 obtain ⟨m2, hm2⟩ : ∃ m, meets ky kw = m := ⟨_, rfl⟩
 obtain ⟨m3, hm3⟩ : ∃ m, meets kx kw = m := ⟨_, rfl⟩
 rw [hm1, hm2, hm3] at Hr
 have Hm1 := Lib.hid hm1
 have Hm2 := Lib.hid hm2
 have Hm3 := Lib.hid hm3
 unfold Ndl.agg Ndl.arr at *
 obtain ⟨W0, hW0⟩ : ∃ W0, W0 = (w.alloc (.cells #[.int .i64 a.n.saga, .int .i64 a.n.cls, .int .i64 a.n.step, .bool a.n.back, .slice a.rA a.n.rd.length a.rc, .slice a.wA a.n.wt.length a.wc] 37)).alloc (.cells #[.int .i64 b.n.saga, .int .i64 b.n.cls, .int .i64 b.n.step, .bool b.n.back, .slice b.rA b.n.rd.length b.rc, .slice b.wA b.n.wt.length b.wc] 37) := ⟨_, rfl⟩
 have HF0 : Hid (Fr No w W0) := Lib.hid (by rw [hW0]; exact ((Fr.refl _ _).alloc _).alloc _)
 have bA : Bk W0 w.heap.size 37 #[.int .i64 a.n.saga, .int .i64 a.n.cls, .int .i64 a.n.step, .bool a.n.back, .slice a.rA a.n.rd.length a.rc, .slice a.wA a.n.wt.length a.wc] := by rw [hW0]; exact bka14 (Bk.made _ _ _) _
 have bB : Bk W0 (w.heap.size + 1) 37 #[.int .i64 b.n.saga, .int .i64 b.n.cls, .int .i64 b.n.step, .bool b.n.back, .slice b.rA b.n.rd.length b.rc, .slice b.wA b.n.wt.length b.wc] := by rw [hW0]; exact bkm14 (by simp)
 have HbA := Lib.hid (fun V (h : Fr No W0 V) => bA.fr h (fun e => e))
 have HbB := Lib.hid (fun V (h : Fr No W0 V) => bB.fr h (fun e => e))
 have hwe := hW0.symm
 clear bA bB hW0
 clear ha hb h1 h2 h3 h4 hkx hky hkz hkw hm1 hm2 hm3
 generalize a.n.saga = sa at *
 generalize a.n.cls = ca at *
 generalize a.n.step = ta at *
 generalize a.n.back = ka at *
 generalize a.n.rd.length = na at *
 generalize a.n.wt.length = ma at *
 generalize a.rA = Ra at *
 generalize a.rc = rca at *
 generalize a.wA = Va at *
 generalize a.wc = wca at *
 generalize b.n.saga = sb at *
 generalize b.n.cls = cb at *
 generalize b.n.step = tb at *
 generalize b.n.back = kb at *
 generalize b.n.rd.length = nb at *
 generalize b.n.wt.length = mb at *
 generalize b.rA = Rb at *
 generalize b.rc = rcb at *
 generalize b.wA = Vb at *
 generalize b.wc = wcb at *
 have HSS : Hid (∀ V, Fr No W0 V → (fun V => V.cell? ⟨w.heap.size, 4, none⟩ = some (.slice Ra na rca) ∧ V.cell? ⟨w.heap.size, 5, none⟩ = some (.slice Va ma wca) ∧ V.cell? ⟨w.heap.size + 1, 4, none⟩ = some (.slice Rb nb rcb) ∧ V.cell? ⟨w.heap.size + 1, 5, none⟩ = some (.slice Vb mb wcb)) V) := Lib.hid (fun V hV => ⟨(HbA.out V hV).cell 4, (HbA.out V hV).cell 5, (HbB.out V hV).cell 4, (HbB.out V hV).cell 5⟩)
 have D0 : Hid (Fr No W0 W0.drew) := Lib.hid ((Fr.refl No W0).drew)
 have bx0 := HbA.out _ (Fr.refl _ _)
 have q00 := bx0.cell 0
 simp only [List.getElem?_toArray, List.getElem?_cons_zero] at q00
 have bx1 := HbB.out _ (Fr.refl _ _)
 have q01 := bx1.cell 0
 simp only [List.getElem?_toArray, List.getElem?_cons_zero] at q01
 clear bx0 bx1
 by_cases hs : sa = sb
 ·have d1 : decide (sa = sb) = true := decide_eq_true hs
  have HT : Hid (r = false) := Lib.hid (by rw [Hr.out]; simp [hs])
  subst hs
  clear HX HY HZ HW Hr Hm1 Hm2 Hm3
  go_enter Tryz.func28, Tryz.ntmps28
  go_wp2
  go_ret
  exact ⟨by rw [HT.out]; rfl, HF0.out⟩
 have d1 : decide (sa = sb) = false := decide_eq_false hs
 have d1' : (sa == sb) = false := by simpa using hs
 have HT : Hid (r = (m1 || (m2 || m3))) := Lib.hid (by rw [Hr.out, decide_eq_true hs, Bool.true_and])
 clear hs Hr
 go_enter Tryz.func28, Tryz.ntmps28
 go_wp2_with fail
 refine wp_region_held_drew (S := fun V => V.cell? ⟨w.heap.size, 4, none⟩ = some (.slice Ra na rca) ∧ V.cell? ⟨w.heap.size, 5, none⟩ = some (.slice Va ma wca) ∧ V.cell? ⟨w.heap.size + 1, 4, none⟩ = some (.slice Rb nb rcb) ∧ V.cell? ⟨w.heap.size + 1, 5, none⟩ = some (.slice Vb mb wcb)) (by kernel_rfl) (HSS.out _ D0.out) (fun hHeld => ?_)
 refine any_u 14 (.pointer (some ⟨w.heap.size, 4, none⟩)) (i := 0) rfl rfl ?_
 simp only [Act.put, szA, szB, szC]
 refine any_u 15 (.slice Ra na rca) (i := 1) rfl rfl ?_
 simp only [Act.put, szA, szB, szC]
 refine any_u 17 (.pointer (some ⟨w.heap.size, 5, none⟩)) (i := 3) rfl rfl ?_
 simp only [Act.put, szA, szB, szC]
 refine any_u 18 (.slice Va ma wca) (i := 4) rfl rfl ?_
 simp only [Act.put, szA, szB, szC]
 refine any_u 20 (.pointer (some ⟨w.heap.size + 1, 4, none⟩)) (i := 6) rfl rfl ?_
 simp only [Act.put, szA, szB, szC]
 refine any_u 21 (.slice Rb nb rcb) (i := 7) rfl rfl ?_
 simp only [Act.put, szA, szB, szC]
 refine any_u 23 (.pointer (some ⟨w.heap.size + 1, 5, none⟩)) (i := 9) rfl rfl ?_
 simp only [Act.put, szA, szB, szC]
 refine any_u 24 (.slice Vb mb wcb) (i := 10) rfl rfl ?_
 simp only [Act.put, szA, szB, szC]
 refine wpAnyH_ready (rs := [2]) (by kernel_rfl) (by simp) ?_
 refine AllReadyH.cons rfl (fun K' hK => ?_) AllReadyH.nil
 go_simp
 go_at_call 43
 refine (HX.out _ (HF0.out.trans' D0.out (fun _ _ e => e))).mono ?_
 rintro e' v0 ⟨p0, rfl, hb0, -, e0⟩
 have E0 := Lib.hid (D0.out.trans' e0 (fun _ _ e => e))
 dsimp only
 refine hK.out _ _ (HSS.out _ E0.out) (fun hHeld => ?_)
 clear hK
 try simp only [Act.put, szA, szB, szC]
 refine wpAnyH_ready (rs := [5]) (by kernel_rfl) (by simp) ?_
 refine AllReadyH.cons rfl (fun K' hK => ?_) AllReadyH.nil
 go_simp
 go_at_call 43
 refine (HY.out _ (HF0.out.trans' E0.out (fun _ _ e => e))).mono ?_
 rintro e' v1 ⟨p1, rfl, hb1, -, e1⟩
 have E1 := Lib.hid (E0.out.trans' e1 (fun _ _ e => e))
 dsimp only
 refine hK.out _ _ (HSS.out _ E1.out) (fun hHeld => ?_)
 clear hK
 try simp only [Act.put, szA, szB, szC]
 refine wpAnyH_ready (rs := [8]) (by kernel_rfl) (by simp) ?_
 refine AllReadyH.cons rfl (fun K' hK => ?_) AllReadyH.nil
 go_simp
 go_at_call 43
 refine (HZ.out _ (HF0.out.trans' E1.out (fun _ _ e => e))).mono ?_
 rintro e' v2 ⟨p2, rfl, hb2, -, e2⟩
 have E2 := Lib.hid (E1.out.trans' e2 (fun _ _ e => e))
 dsimp only
 refine hK.out _ _ (HSS.out _ E2.out) (fun hHeld => ?_)
 clear hK
 try simp only [Act.put, szA, szB, szC]
 refine wpAnyH_ready (rs := [11]) (by kernel_rfl) (by simp) ?_
 refine AllReadyH.cons rfl (fun K' hK => ?_) AllReadyH.nil
 go_simp
 go_at_call 43
 refine (HW.out _ (HF0.out.trans' E2.out (fun _ _ e => e))).mono ?_
 rintro e' v3 ⟨p3, rfl, hb3, -, e3⟩
 have E3 := Lib.hid (E2.out.trans' e3 (fun _ _ e => e))
 dsimp only
 refine hK.out _ _ (HSS.out _ E3.out) (fun hHeld => ?_)
 clear hK
 try simp only [Act.put, szA, szB, szC]
 refine any_u 5 (.pointer (some ⟨p0, 0, none⟩)) (i := 12) rfl rfl ?_
 simp only [Act.put, szA, szB, szC]
 refine any_u 6 (.pointer (some ⟨p1, 0, none⟩)) (i := 13) rfl rfl ?_
 simp only [Act.put, szA, szB, szC]
 refine any_u 7 (.pointer (some ⟨p2, 0, none⟩)) (i := 14) rfl rfl ?_
 simp only [Act.put, szA, szB, szC]
 refine any_u 8 (.pointer (some ⟨p3, 0, none⟩)) (i := 15) rfl rfl ?_
 simp only [Act.put, szA, szB, szC]
 refine wpAnyH_done (by kernel_rfl) ?_ _
 clear hHeld
 have B0 := Lib.hid (((hb0.fr e1 (fun e => e)).fr e2 (fun e => e)).fr e3 (fun e => e))
 have B1 := Lib.hid ((hb1.fr e2 (fun e => e)).fr e3 (fun e => e))
 have B2 := Lib.hid (hb2.fr e3 (fun e => e))
 have B3 := Lib.hid hb3
 have M1 := Lib.hid (refMeet4_any p1 p2 _ _ v3 B1.out B2.out)
 have M2 := Lib.hid (refMeet4_any p1 p3 _ _ v3 B1.out B3.out)
 have M3 := Lib.hid (refMeet4_any p0 p3 _ _ v3 B0.out B3.out)
 rw [Hm1.out] at M1
 rw [Hm2.out] at M2
 rw [Hm3.out] at M3
 clear hb0 hb1 hb2 hb3 e0 e1 e2 e3 B0 B1 B2 B3 HX HY HZ HW Hm1 Hm2 Hm3 E0 E1 E2 q00 q01
 cases m1
 ·cases m2
  ·go_wp2_with fail
   refine (M1.out).mono ?_
   rintro e x1 ⟨rfl, rfl⟩
   go_wp2_with fail
   refine (M2.out).mono ?_
   rintro e x2 ⟨rfl, rfl⟩
   go_wp2_with fail
   refine (M3.out).mono ?_
   rintro e x3 ⟨rfl, rfl⟩
   go_wp2
   go_ret
   exact ⟨by rw [HT.out]; rfl, HF0.out.trans' E3.out (fun _ _ e => e)⟩
  ·go_wp2_with fail
   refine (M1.out).mono ?_
   rintro e x1 ⟨rfl, rfl⟩
   go_wp2_with fail
   refine (M2.out).mono ?_
   rintro e x2 ⟨rfl, rfl⟩
   go_wp2
   go_ret
   exact ⟨by rw [HT.out]; rfl, HF0.out.trans' E3.out (fun _ _ e => e)⟩
 ·go_wp2_with fail
  refine (M1.out).mono ?_
  rintro e x1 ⟨rfl, rfl⟩
  go_wp2
  go_ret
  exact ⟨by rw [HT.out]; rfl, HF0.out.trans' E3.out (fun _ _ e => e)⟩
end Go.Proofs.YtmeimhpllemjfaaGreat
