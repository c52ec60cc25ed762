/- The chapter's example of a step. -/
import Derived.Test.YthenadijiepmnaaGreatRun13
import Derived.Test.YthenadijiepmnaaGreatSam13
import Derived.Test.YthenadijiepmnaaGreatWlo12
namespace Go.Proofs.YthenadijiepmnaaGreat
open Go.RowKit

def exCode : List Ins := [⟨2, 0, 0, 0, -1, 5, 0, 0, 0⟩, ⟨1, 1, 0, 0, -1, 5, 0, 0, 0⟩]
def exR (i : Nat) : Int := if i = 0 then 7 else 0
def exPo : Po := ⟨0, 0, fun i => if i = 0 then 7 else if i = 1 then 7 else 0, [(5, 5)], [(5, 5)], [⟨5, false, 7⟩]⟩
theorem ex_same : samePo (runS (rightB exCode [] []) false (keysOf (chosen false [] [])) (keysOf (chosen true [] [])) [] exCode exR (valP ([] : List Pg).flatten)) exPo = true := by kernel_rfl
theorem ex_right : rightB exCode [] [] = true := by kernel_rfl
theorem ex_run (w : World) (g s : Nat) (hb : Bk w g 66 (exCode.flatMap Ins.cells).toArray) (hs : Bk w s 70 #[.slice none 0 0]) :
    Calls Tryz.prog 12 #[.agg #[.slice (some ⟨g, 0, none⟩) 2 2, .slice none 0 0], .slice none 0 0, .agg #[.int .i64 7, .int .i64 0, .int .i64 0, .int .i64 0], .pointer (some ⟨s, 0, none⟩), .bool false] w
      fun e w' => ∃ o : Otc, e = .returned o.agg ∧ samePo o.p exPo = true ∧ Otcs w' w'.heap.size o ∧ o.Small ∧ Fr No w w' := by
  have hgl := hb.lt
  have hps : PS w (fun k => k = s) s [] := ⟨_, hs, rfl, fun k e => e ▸ hs.lt, .inl ⟨rfl, none, 0, rfl⟩⟩
  have q := sRun_any w ⟨some ⟨g, 0, none⟩, exCode, 2, none, [], 0, none, [], 0, fun _ => ⟨_, rfl, hgl, fun j u hu => by
    have e : (⟨g, 0, none⟩ : Addr).add j = ⟨g, j, none⟩ := by cases j <;> simp [Addr.add]
    rw [e, hb.cell, List.getElem?_toArray, hu]⟩, Sl.nil _ _ _, Sl.nil _ _ _⟩ (show 2 ≤ 1099511627776 ∧ 0 ≤ 1099511627776 ∧ 0 ≤ 1099511627776 from ⟨by decide, by decide, by decide⟩) InvP.nil hps (fun k v h => by cases h) (fun i hi => by simp [exCode] at hi; rcases hi with rfl | rfl <;> exact i64_le (by decide) (by decide)) (r := exR) (fun i _ => by unfold exR; split <;> exact i64_le (by decide) (by decide)) false
  refine q.mono ?_
  rintro e w' ⟨o, he, hp, ho, -, hf⟩
  have h1 : samePo o.p exPo = true := by rw [hp]; exact ex_same
  have h2 := h1
  unfold samePo at h2
  simp only [Bool.and_eq_true, decide_eq_true_eq] at h2
  obtain ⟨-, -, -, h4, h5, h6⟩ := h2
  exact ⟨o, he, h1, ho, ⟨by rw [h4]; decide, by rw [h5]; decide, by rw [h6]; decide⟩, hf⟩
theorem slBk {w : World} {g : Nat} {t : TypeId} {cs : Array Value} {xs : List Value} (h : Bk w g t cs) (e : cs.toList = xs) : Sl w w.heap.size (some ⟨g, 0, none⟩) xs := fun _ => ⟨_, rfl, h.lt, fun j u hu => by
  have e2 : (⟨g, 0, none⟩ : Addr).add j = ⟨g, j, none⟩ := by cases j <;> simp [Addr.add]
  rw [e2, h.cell, ← Array.getElem?_toList, e, hu]⟩
set_option maxRecDepth 100000 in
set_option maxHeartbeats 4000000 in
theorem alive13 (w : World) : Calls Tryz.prog 8 #[] w (Has w true) := by
  obtain ⟨R, hR⟩ : ∃ R : Array Value, R = #[.int .i64 2, .int .i64 0, .int .i64 0, .int .i64 0, .int .i64 (-1), .int .i64 5, .int .i64 0, .int .i64 0, .int .i64 0, .int .i64 1, .int .i64 1, .int .i64 0, .int .i64 0, .int .i64 (-1), .int .i64 5, .int .i64 0, .int .i64 0, .int .i64 0] := ⟨_, rfl⟩
  have hRe : R = (exCode.flatMap Ins.cells).toArray := by rw [hR]; rfl
  obtain ⟨q, hq⟩ : ∃ q, w.heap.size = q := ⟨_, rfl⟩
  have f0 : Fr No w (((w.alloc (.cells #[.int .i64 (-1), .int .i64 5] 64)).alloc (.cells R 66)).alloc (.cells #[.slice none 0 0] 70)) := (((Fr.refl No w).alloc _).alloc _).alloc _
  have bR := (Bk.made (w.alloc (.cells #[.int .i64 (-1), .int .i64 5] 64)) 66 R).alloc (.cells #[.slice none 0 0] 70)
  have bS := Bk.made ((w.alloc (.cells #[.int .i64 (-1), .int .i64 5] 64)).alloc (.cells R 66)) 70 #[.slice none 0 0]
  simp only [World.size_alloc, hq] at bR bS
  obtain ⟨W1, hW1⟩ : ∃ W1, ((w.alloc (.cells #[.int .i64 (-1), .int .i64 5] 64)).alloc (.cells R 66)).alloc (.cells #[.slice none 0 0] 70) = W1 := ⟨_, rfl⟩
  rw [hW1] at f0 bR bS
  rw [hRe] at bR
  have HRun := Lib.hid (ex_run W1 (q + 1) (q + 1 + 1) bR bS)
  have HF0 := Lib.hid f0
  clear f0 bR bS hRe
  go_enter Tryz.func8, Tryz.ntmps8
  go_wp2_with fail
  rw [← hR, hW1]
  refine (HRun.out).mono ?_
  rintro e w1 ⟨o, rfl, hsm, hos, hfew, f1⟩
  obtain ⟨u, hu⟩ : ∃ u, w1.heap.size = u := ⟨_, rfl⟩
  have F1 := Lib.hid (HF0.out.trans' f1 (fun _ _ e => e))
  have g0 : Fr No w1 (((w1.alloc (.cells #[.int .i64 o.p.code, .int .i64 o.p.at_, .int .i64 (o.p.r 0), .int .i64 (o.p.r 1), .int .i64 (o.p.r 2), .int .i64 (o.p.r 3), .slice o.rA o.p.rd.length o.rc, .slice o.wA o.p.wt.length o.wc, .slice o.cA o.p.ch.length o.cc] 39)).alloc (.cells #[.int .i64 5, .int .i64 5] 72)).alloc (.cells #[.int .i64 5, .bool false, .int .i64 7] 57)) := (((Fr.refl No w1).alloc _).alloc _).alloc _
  have bP := (Bk.made (w1.alloc (.cells #[.int .i64 o.p.code, .int .i64 o.p.at_, .int .i64 (o.p.r 0), .int .i64 (o.p.r 1), .int .i64 (o.p.r 2), .int .i64 (o.p.r 3), .slice o.rA o.p.rd.length o.rc, .slice o.wA o.p.wt.length o.wc, .slice o.cA o.p.ch.length o.cc] 39)) 72 #[.int .i64 5, .int .i64 5]).alloc (.cells #[.int .i64 5, .bool false, .int .i64 7] 57)
  have bC := Bk.made ((w1.alloc (.cells #[.int .i64 o.p.code, .int .i64 o.p.at_, .int .i64 (o.p.r 0), .int .i64 (o.p.r 1), .int .i64 (o.p.r 2), .int .i64 (o.p.r 3), .slice o.rA o.p.rd.length o.rc, .slice o.wA o.p.wt.length o.wc, .slice o.cA o.p.ch.length o.cc] 39)).alloc (.cells #[.int .i64 5, .int .i64 5] 72)) 57 #[.int .i64 5, .bool false, .int .i64 7]
  simp only [World.size_alloc, hu] at bP bC
  obtain ⟨W3, hW3⟩ : ∃ W3, ((w1.alloc (.cells #[.int .i64 o.p.code, .int .i64 o.p.at_, .int .i64 (o.p.r 0), .int .i64 (o.p.r 1), .int .i64 (o.p.r 2), .int .i64 (o.p.r 3), .slice o.rA o.p.rd.length o.rc, .slice o.wA o.p.wt.length o.wc, .slice o.cA o.p.ch.length o.cc] 39)).alloc (.cells #[.int .i64 5, .int .i64 5] 72)).alloc (.cells #[.int .i64 5, .bool false, .int .i64 7] 57) = W3 := ⟨_, rfl⟩
  rw [hW3] at g0 bP bC
  have hS := refSame13_any o ⟨exPo, some ⟨u + 1, 0, none⟩, 1, some ⟨u + 1, 0, none⟩, 1, some ⟨u + 1 + 1, 0, none⟩, 1⟩ W3 (hos.since g0)
    ⟨slBk bP (by rfl), slBk bP (by rfl), slBk bC (by rfl)⟩ hfew ⟨(by show 1 ≤ 1048576; omega), (by show 1 ≤ 1048576; omega), (by show 1 ≤ 1048576; omega)⟩
  simp only at hS
  rw [hsm] at hS
  change Calls _ _ #[o.agg, .agg #[.int .i64 0, .int .i64 0, .int .i64 7, .int .i64 7, .int .i64 0, .int .i64 0, .slice (some ⟨u + 1, 0, none⟩) 1 1, .slice (some ⟨u + 1, 0, none⟩) 1 1, .slice (some ⟨u + 1 + 1, 0, none⟩) 1 1]] W3 _ at hS
  have HS := Lib.hid hS
  have HF3 := Lib.hid (F1.out.trans' g0 (fun _ _ e => e))
  unfold Otc.agg at HS ⊢
  clear hsm hos hfew f1 g0 bP bC hS HRun hW1 hR HF0 F1
  generalize o.p.rd.length = n1 at *
  generalize o.p.wt.length = n2 at *
  generalize o.p.ch.length = n3 at *
  go_wp2_with fail
  refine (HS.out).mono ?_
  rintro e w4 ⟨rfl, f4⟩
  have F4 := Lib.hid (HF3.out.trans' f4 (fun _ _ e => e))
  clear HS HF3 f4 hW3
  go_wp2
  go_ret
  exact ⟨rfl, F4.out⟩
end Go.Proofs.YthenadijiepmnaaGreat
