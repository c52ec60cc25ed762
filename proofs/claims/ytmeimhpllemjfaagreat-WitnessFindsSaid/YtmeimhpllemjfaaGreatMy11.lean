/- Whether two lists of steps are the same, as the document has it. -/
import Derived.Test.YtmeimhpllemjfaaGreatCls11
import Derived.Test.YtmeimhpllemjfaaGreatHand
import Derived.RangeFuncBox
import Derived.RangeFuncLeaves
import Derived.RangeFuncNested
import Derived.RangeFuncCalls
import Derived.Shelf.Abstract
import Derived.WalkKit
import Derived.OwnWalkIn
import Derived.TacticsInMore
import Derived.LoopNIn
import Derived.LoopIn
import Derived.Stop.RegionWithIn
import Derived.Sort.CutIn
import Derived.Test.YtmeimhpllemjfaaGreatHk10
namespace Go.Proofs.YtmeimhpllemjfaaGreat
open Go.RowKit

end Go.Proofs.YtmeimhpllemjfaaGreat
/- Whether two classes are the same, as the document has it. -/
namespace Go.Proofs.YtmeimhpllemjfaaGreat
open Go.RowKit

structure Cls.Few (c : Cls) : Prop where
 steps : c.steps.length ≤ 1099511627776
 comps : c.comps.length ≤ 1099511627776
 ins : ∀ s ∈ c.steps, s.code.length ≤ 1099511627776 ∧ s.foot.length ≤ 1099511627776
 inc : ∀ s ∈ c.comps, s.code.length ≤ 1099511627776 ∧ s.foot.length ≤ 1099511627776

end Go.Proofs.YtmeimhpllemjfaaGreat
/- Package class: the steps of a class, each with its Comp, one by one. -/
namespace Go.Proofs.YtmeimhpllemjfaaGreat
open Go.RowKit Go.Shelf

attribute [local go_sem] Oper.semAt_some

def KpC (B : Nat) (W W' : World) : Prop := Below B W W' ∧ ∀ g cs, Bk W g 49 cs → Bk W' g 49 cs
section
variable {B : Nat} {X Y Z : World}
theorem KpC.refl (B : Nat) (W : World) : KpC B W W := ⟨Below.refl _ _, fun _ _ h => h⟩
theorem KpC.trans (h : KpC B X Y) (k : KpC B Y Z) : KpC B X Z := ⟨h.1.trans k.1, fun g cs hb => k.2 g cs (h.2 g cs hb)⟩
theorem KpC.putObj {w : World} (hB : B ≤ w.heap.size) (W : World) (l : Nat) (o o' : Obj) (hl : w.heap.size ≤ l) (h : W.heap[l]? = some o) (hc : o.isCells = false) (_hw : o.isWalk = false) : KpC B W (W.putObj l o') :=
 ⟨belowK_b hB W l o o' hl h hc _hw, fun g cs hb => by
  refine (World.putObj_heap_other (fun e => ?_)).trans hb
  subst e
  have := (show W.heap[g]? = _ from hb).symm.trans h
  injection this with this
  rw [← this] at hc
  cases hc⟩
theorem KpC.fr0 (h : KpC B X Y) (hf : Fr No Y Z) (hB : B ≤ Y.heap.size) : KpC B X Z :=
 ⟨h.1.trans (hf.toBelow hB (fun _ e => e.elim)), fun g cs hb => (h.2 g cs hb).fr hf (fun e => e)⟩
end
theorem Fr.grownByC {W W' : World} (h : Fr No W W') : W.grownBy W' none := ⟨h.same.1, h.same.2.1, h.same.2.2, h.size, fun k hk _ => h.block k hk (fun e => e)⟩
abbrev ZP (ss us : List Stp) := {q : Stp × Stp // q ∈ ss.zip us}
def encZ {ss us : List Stp} (q : ZP ss us) : Array Value := #[q.1.1.agg, q.1.2.agg]

set_option maxHeartbeats 1000000 in
theorem pairs_in (F : Fence) (n : Nat) (hF : F.fn 93) (hro : F.round = none) (nm : ByteArray) (a : Int) (A U : Option Addr) (m m2 c c2 : Nat) (r : Bool) (w : World) :
  CallsIn F n Tryz.prog 93 #[.agg #[.string nm, .int .i64 a, .slice A m c, .slice U m2 c2, .bool r]] w fun e w' => e = .returned (.func (.func 111) #[] #[.pointer (some ⟨w.heap.size, 0, none⟩)]) ∧ w' = w.alloc (.cells #[.string nm, .int .i64 a, .slice A m c, .slice U m2 c2, .bool r] 49) := by
 refine callsIn_of_wp Tryz.func93 rfl hF ?_ hro
 simp only [Tryz.ntmps93, List.size_toArray, List.length_cons, List.length_nil, Nat.reduceAdd, Nat.reduceSub, Array.replicate_succ, Array.replicate_zero, List.push_toArray, List.append_toArray, List.nil_append, List.cons_append]
 gi_wp2
 go_ret
 exact ⟨rfl, rfl⟩

theorem two11 {e : Ending} {P Q : Prop} (h : (e = .returned (.bool true) ∧ P) ∨ (e = .returned (.bool false) ∧ Q)) : ∃ b : Bool, e = .returned (.bool b) ∧ ((b = true ∧ P) ∨ (b = false ∧ Q)) := by
 rcases h with ⟨h1, h2⟩ | ⟨h1, h2⟩
 ·exact ⟨true, h1, .inl ⟨rfl, h2⟩⟩
 ·exact ⟨false, h1, .inr ⟨rfl, h2⟩⟩
set_option maxRecDepth 100000 in
set_option maxHeartbeats 4000000 in
theorem pairs1_in (n lp B bx : Nat) (nm : ByteArray) (a : Int) (A U : Option Addr) (m m2 c c2 : Nat) (r : Bool) (ss us : List Stp) (W : World) (hn : 1 ≤ n)
  (hs : Sl W B A (ss.flatMap Stp.cells)) (hu : Sl W B U (us.flatMap Stp.cells)) (hm : ss.length = m) (hm2 : us.length = m2) (hBW : B ≤ W.heap.size) (b : Bk W bx 49 #[.string nm, .int .i64 a, .slice A m c, .slice U m2 c2, .bool r])
  (hl : m ≤ 1099511627776) (hl2 : m2 ≤ 1099511627776) (J Jx : List (ZP ss us) → World → Prop) (hJa : AbidesFrom W.heap.size J)
  (hY : ∀ pre x W1, J pre W1 → pre.length < (ss.zip us).length → YieldAt Fence.wide (n - 1) Tryz.prog lp (encZ x) W1 fun e W' =>
   (e = .returned (.bool true) ∧ J (pre ++ [x]) W' ∧ KpC B W1 W') ∨ (e = .returned (.bool false) ∧ Jx (pre ++ [x]) W')) (h0 : J [] W) :
  CallsIn Fence.wide n Tryz.prog 111 #[.func (.yield lp) #[] #[], .pointer (some ⟨bx, 0, none⟩)] W fun e V => (∃ v, e = .returned v) ∧
   ((∃ ys, ys.map (·.1) = ss.zip us ∧ J ys V) ∨ (∃ pre, pre.map (·.1) <+: ss.zip us ∧ Jx pre V)) := by
 have Hb := Lib.hid (fun V (hV : KpC B W V) => hV.2 bx _ b)
 have Hs := Lib.hid (fun V (hV : KpC B W V) => show Sl V B A (ss.flatMap Stp.cells) from hs.below hV.1)
 have Hu := Lib.hid (fun V (hV : KpC B W V) => show Sl V B U (us.flatMap Stp.cells) from hu.below hV.1)
 have Hz : Hid ((ss.zip us).length = min m m2) := Lib.hid (by rw [List.length_zip, hm, hm2])
 have x2 := b.cell 2
 have x3 := b.cell 3
 simp at x2 x3
 have Hm := Lib.hid hm
 have Hm2 := Lib.hid hm2
 have hmin : (if (m : Int) ≤ m2 then (m : Int) else m2) = ((min m m2 : Nat) : Int) := by split <;> omega
 have hmn1 : min m m2 ≤ m := Nat.min_le_left _ _
 have hmn2 : min m m2 ≤ m2 := Nat.min_le_right _ _
 clear hm hm2 b hs hu
 refine callsIn_of_wp Tryz.func111 rfl trivial ?_ rfl
 simp only [Tryz.ntmps111, List.size_toArray, List.length_cons, List.length_nil, Nat.reduceAdd, Nat.reduceSub, Array.replicate_succ, Array.replicate_zero, List.push_toArray, List.append_toArray, List.nil_append, List.cons_append]
 obtain ⟨k, hk⟩ : ∃ k, k = min m m2 := ⟨_, rfl⟩
 rw [← hk] at Hz hmn1 hmn2
 gi_wp2_with fail
 case' inl => rw [show ((m2 : Nat) : Int) = ((k : Nat) : Int) by omega]
 case' inr => rw [show ((m : Nat) : Int) = ((k : Nat) : Int) by omega]
 all_goals
  have Hk := Lib.hid hk
  clear hmin hk x2 x3
  gi_loopw [11] (fun iv wr => ∃ (j : Nat) (pre : List (ZP ss us)), j ≤ k ∧ iv = .int .i64 j ∧ Hid (pre.map (·.1) = (ss.zip us).take j) ∧ J pre wr ∧ KpC B W wr) (fun i _ => k - (intOf i).toNat)
  case atStart => exact ⟨0, [], by omega, rfl, Lib.hid rfl, h0, KpC.refl _ _⟩
  case round =>
   obtain ⟨j, pre, hj, rfl, hpre, hJ, hK⟩ := hrel
   by_cases hlt : j < k
   ·have hjz : j < (ss.zip us).length := by rw [Hz.out]; exact hlt
    have hjs : j < ss.length := by rw [Hm.out]; omega
    have hju : j < us.length := by rw [Hm2.out]; omega
    have hpl : pre.length = j := by
     have := congrArg List.length hpre.out
     rw [List.length_map, List.length_take] at this
     omega
    have hzj : (ss.zip us)[j] = (ss[j], us[j]) := List.getElem_zip
    have fD : Fr No wr wr.drew := (Fr.refl No wr).drew
    have hBr : B ≤ wr.heap.size := Nat.le_trans hBW hK.1.size
    have hK1 := hK.fr0 fD hBr
    obtain ⟨ad, e1, hb1, y0, y1⟩ := (Hs.out _ hK1).stp hjs
    obtain ⟨bd, e2, hb2, y2, y3⟩ := (Hu.out _ hK1).stp hju
    have x2 := (Hb.out _ hK1).cell 2
    have x3 := (Hb.out _ hK1).cell 3
    simp at x2 x3
    have hJ1 := hJa _ _ wr.drew none hJ fD.grownByC (fun r e => by cases e)
    obtain ⟨x, hx⟩ : ∃ x : ZP ss us, x.1 = (ss.zip us)[j] := ⟨⟨(ss.zip us)[j], List.getElem_mem hjz⟩, rfl⟩
    obtain ⟨fn, tmps, assign, body, hy, hR⟩ := hY pre x _ hJ1 (by omega)
    unfold encZ at hy
    rw [hzj] at hx
    simp only [hx, Stp.agg] at hy
    have Hnx : Hid ((pre ++ [x]).map (·.1) = (ss.zip us).take (j + 1)) := Lib.hid (by
     rw [List.map_append, hpre.out, List.take_succ_eq_append_getElem hjz, hzj]
     simp [hx])
    have i1 : ((j : Nat) : Int) < (m : Int) := by omega
    have i2 : ((j : Nat) : Int) < (m2 : Int) := by omega
    have HK := Lib.hid hK
    have HK1 := Lib.hid hK1
    generalize ss[j] = s at *
    generalize us[j] = u at *
    subst e1 e2
    clear hJ hK hJ1 hzj hx hK1
    gi_wp2
    gi_cut [26] from 27 (fun s26 wx => ∃ b : Bool, s26 = .bool (!b) ∧ ((b = true ∧ J (pre ++ [x]) wx ∧ KpC B wr.drew wx) ∨ (b = false ∧ Jx (pre ++ [x]) wx)))
    case first =>
     gi_region_with (refine hR.mono ?_; rintro e W3 h3; obtain ⟨b, rfl, hb⟩ := two11 h3)
     all_goals
      gi_wp2
      gi_meet
      exact ⟨b, rfl, hb⟩
    case rest =>
     obtain ⟨b, rfl, ⟨rfl, hJ3, hK3⟩ | ⟨rfl, hJx⟩⟩ := hcut
     ·have hK4 := HK1.out.trans hK3
      clear hK3
      gi_wp2
      go_roundw
      case rel => exact ⟨j + 1, _, by omega, by go_num, Hnx, hJ3, hK4⟩
      case measure => simp [intOf]; omega
     ·gi_wp2
      refine bodyPost_ret (results_none rfl _ _ _) rfl ?_
      exact ⟨⟨_, rfl⟩, .inr ⟨_, by rw [Hnx.out]; exact List.take_prefix _ _, hJx⟩⟩
   ·have hall : (ss.zip us).take j = ss.zip us := List.take_of_length_le (by rw [Hz.out]; omega)
    have hp2 := hpre.out
    rw [hall] at hp2
    clear hpre
    gi_wp2
    go_end0
    exact ⟨⟨_, rfl⟩, .inl ⟨_, hp2, hJ⟩⟩
end Go.Proofs.YtmeimhpllemjfaaGreat
/- Package class: May. -/
namespace Go.Proofs.YtmeimhpllemjfaaGreat
open Go.RowKit

attribute [local go_sem] Oper.semAt_some

theorem cwithin_any (lo hi x : Int) (w : World) : Calls Tryz.prog 92 #[.int .i64 lo, .int .i64 hi, .int .i64 x] w fun e w' => e = .returned (.bool (decide (lo ≤ x ∧ x ≤ hi))) ∧ w' = w := by
 by_cases h1 : lo ≤ x
 ·by_cases h2 : x ≤ hi
  ·rw [decide_eq_true (And.intro h1 h2)]
   go_enter Tryz.func92, Tryz.ntmps92
   go_wp2
   go_ret
   exact ⟨rfl, rfl⟩
  ·have e0 : decide (lo ≤ x ∧ x ≤ hi) = false := decide_eq_false (by omega)
   rw [e0]
   clear e0
   go_enter Tryz.func92, Tryz.ntmps92
   go_wp2
   go_ret
   exact ⟨rfl, rfl⟩
 ·have e0 : decide (lo ≤ x ∧ x ≤ hi) = false := decide_eq_false (by omega)
  rw [e0]
  clear e0
  go_enter Tryz.func92, Tryz.ntmps92
  go_wp2
  go_ret
  exact ⟨rfl, rfl⟩
def stepB (n : Int) (s : Stp) : Bool := progOk s.code n && footOk s.foot n
def compB (n : Int) (s : Stp) : Bool := (decide (s.code.length = 0) || (progOk s.code n && progSure s.code)) && footOk s.foot n
theorem comp_sure (l : List Ins) (n : Int) : (decide (l.length = 0) || (progOk l n && progSure l)) = compOk l n := by
 unfold compOk
 by_cases h0 : l.length = 0
 ·have : l = [] := List.eq_nil_of_length_eq_zero h0
  subst this
  simp
 ·cases hp : progOk l n
  ·simp [h0]
  ·have e : progSure l = l.all fun i => decide (i.op < 6) := by
    unfold progOk at hp
    simp only [Bool.and_eq_true, decide_eq_true_eq, List.all_eq_true] at hp
    unfold progSure
    rw [Bool.eq_iff_iff, List.all_eq_true, List.all_eq_true]
    constructor
    ·intro h i hi
     have h1 := h i hi
     have h2 := hp.2.2 i hi
     rw [insOk_iff] at h2
     have h3 := h2.1
     unfold insSure at h1
     rw [decide_eq_true_eq] at h1
     rw [decide_eq_true_eq]
     omega
    ·intro h i hi
     have h1 := h i hi
     unfold insSure
     rw [decide_eq_true_eq] at h1
     rw [decide_eq_true_eq]
     omega
   simp [h0, e]
theorem pair_parts (n : Int) (s u : Stp) : pairOk n (s.p, u.p) = (stepB n s && compB n u) := by
 unfold stepB compB pairOk
 rw [comp_sure]
 simp only [Stp.p]
 cases progOk s.code n <;> cases footOk s.foot n <;> cases footOk u.foot n <;> cases compOk u.code n <;> rfl

set_option maxHeartbeats 2000000 in
theorem mayStep_any (s : Stp) (n : Int) (w : World) (hs : s.Ok w w.heap.size) (hc : s.code.length ≤ 1099511627776) (hf : s.foot.length ≤ 1099511627776) :
  Calls Tryz.prog 94 #[s.agg, .int .i64 n] w (Has w (stepB n s)) := by
 have C1 := Lib.hid (fun (W : World) (h : Fr No w W) => may_any s.code n s.cA s.code.length s.cc W (hs.since h).code rfl hc)
 have C2 := Lib.hid (fun (W : World) (h : Fr No w W) => fMay_any s.foot n s.fA s.foot.length s.fc W (hs.since h).foot rfl hf)
 have Hr : Hid (stepB n s = (progOk s.code n && footOk s.foot n)) := Lib.hid rfl
 generalize stepB n s = r at *
 obtain ⟨cA, code, cc, fA, foot, fc⟩ := s
 unfold Stp.agg
 simp only at *
 have bS := Bk.made w 46 #[.slice cA code.length cc, .slice fA foot.length fc]
 have g1 := (Fr.refl No w).alloc (.cells #[.slice cA code.length cc, .slice fA foot.length fc] 46)
 generalize progOk code n = b1 at *
 generalize footOk foot n = b2 at *
 generalize code.length = m at *
 generalize foot.length = k at *
 clear hs hc hf
 have D1 := Lib.hid (C1.out _ g1)
 go_enter Tryz.func94, Tryz.ntmps94
 go_wp2_with fail
 refine (D1.out).mono ?_
 rintro e w1 ⟨rfl, f1⟩
 have g2 := g1.trans' f1 (fun _ _ e => e)
 have bS1 := bS.fr f1 (fun e => e)
 have x1 := bS1.cell 1
 simp at x1
 cases b1
 ·go_wp2
  go_ret
  exact ⟨by rw [Hr.out]; rfl, g2⟩
 ·go_wp2_with fail
  refine (C2.out _ g2).mono ?_
  rintro e w2 ⟨rfl, f2⟩
  go_wp2
  go_ret
  exact ⟨by rw [Hr.out]; rfl, g2.then0 f2 (fun _ h => h.elim)⟩

set_option maxHeartbeats 2000000 in
theorem mayComp_any (s : Stp) (n : Int) (w : World) (hs : s.Ok w w.heap.size) (hc : s.code.length ≤ 1099511627776) (hf : s.foot.length ≤ 1099511627776) :
  Calls Tryz.prog 95 #[s.agg, .int .i64 n] w (Has w (compB n s)) := by
 have C1 := Lib.hid (fun (W : World) (h : Fr No w W) => may_any s.code n s.cA s.code.length s.cc W (hs.since h).code rfl hc)
 have C2 := Lib.hid (fun (W : World) (h : Fr No w W) => fMay_any s.foot n s.fA s.foot.length s.fc W (hs.since h).foot rfl hf)
 have C3 := Lib.hid (fun (W : World) (h : Fr No w W) => sure_any s.code s.cA s.code.length s.cc W (hs.since h).code rfl hc)
 have Hr : Hid (compB n s = ((decide (s.code.length = 0) || (progOk s.code n && progSure s.code)) && footOk s.foot n)) := Lib.hid rfl
 generalize compB n s = r at *
 obtain ⟨cA, code, cc, fA, foot, fc⟩ := s
 unfold Stp.agg
 simp only at *
 have bS := Bk.made w 46 #[.slice cA code.length cc, .slice fA foot.length fc]
 have g1 := (Fr.refl No w).alloc (.cells #[.slice cA code.length cc, .slice fA foot.length fc] 46)
 generalize progOk code n = b1 at *
 generalize progSure code = b3 at *
 generalize footOk foot n = b2 at *
 generalize code.length = m at *
 generalize foot.length = k at *
 clear hs hf
 by_cases h0 : m = 0
 ·have e1 : r = b2 := by rw [Hr.out]; simp [h0]
  subst h0
  have D2 := Lib.hid (C2.out _ g1)
  have e0 : decide (((0 : Nat) : Int) = 0) = true := by simp
  go_enter Tryz.func95, Tryz.ntmps95
  go_wp2_with fail
  refine (D2.out).mono ?_
  rintro e w2 ⟨rfl, f2⟩
  go_wp2
  go_ret
  exact ⟨by rw [e1]; rfl, g1.then0 f2 (fun _ h => h.elim)⟩
 ·have D1 := Lib.hid (C1.out _ g1)
  have e0 : decide ((m : Int) = 0) = false := by simpa using h0
  have e1 : r = ((b1 && b3) && b2) := by rw [Hr.out]; simp [h0]
  go_enter Tryz.func95, Tryz.ntmps95
  go_wp2_with fail
  refine (D1.out).mono ?_
  rintro e w1 ⟨rfl, f1⟩
  have g2 := g1.trans' f1 (fun _ _ e => e)
  have bS1 := bS.fr f1 (fun e => e)
  have x0 := bS1.cell 0
  have x1 := bS1.cell 1
  simp at x0 x1
  cases b1
  ·go_wp2
   go_ret
   exact ⟨by rw [e1]; rfl, g2⟩
  ·have D3 := Lib.hid (C3.out _ g2)
   go_wp2_with fail
   refine (D3.out).mono ?_
   rintro e w3 ⟨rfl, f3⟩
   have g3 := g2.trans' f3 (fun _ _ e => e)
   have bS3 := bS1.fr f3 (fun e => e)
   have y1 := bS3.cell 1
   simp at y1
   cases b3
   ·go_wp2
    go_ret
    exact ⟨by rw [e1]; rfl, g3⟩
   ·have D4 := Lib.hid (C2.out _ g3)
    go_wp2_with fail
    refine (D4.out).mono ?_
    rintro e w4 ⟨rfl, f4⟩
    go_wp2
    go_ret
    exact ⟨by rw [e1]; rfl, g3.then0 f4 (fun _ h => h.elim)⟩

def MyI (w : World) (n : Int) (cs : Array Value) {ss us : List Stp} (pre : List (ZP ss us)) (W : World) : Prop :=
 (∀ q ∈ pre, (stepB n q.1.1 && compB n q.1.2) = true) ∧ Bk W w.heap.size 49 cs ∧ Bk W (w.heap.size + 1) 4 #[.bool false] ∧ Below w.heap.size w W
theorem bk_ownC {β : Type} (B g : Nat) (t : TypeId) (cs : Array Value) : OwnFrom B (fun (_ : β) W => Bk W g t cs) := fun _ X Y row hs hg hr =>
 hs.grown hg (fun e => by
  obtain ⟨-, o, ho, hc⟩ := hr g e
  rw [show X.heap[g]? = _ from hs] at ho
  cases ho
  cases hc)
theorem MyI.own (w : World) (n : Int) (cs : Array Value) (ss us : List Stp) (B : Nat) (hB : w.heap.size ≤ B) : OwnFrom B (MyI w n cs (ss := ss) (us := us)) := by
 intro pre X Y row ⟨h1, h2, h3, h4⟩ hg hr
 exact ⟨h1, bk_ownC B _ _ _ () X Y row h2 hg hr, bk_ownC B _ _ _ () X Y row h3 hg hr, ownFrom_below (β := Unit) (Nat.le_refl _) hB () X Y row h4 hg hr⟩
theorem Stp.Ok.low {w W : World} {B : Nat} {s : Stp} (h : s.Ok w B) (hb : Below B w W) (hB : B ≤ W.heap.size) : s.Ok W W.heap.size := ⟨(h.code.below hb).more hB, (h.foot.below hb).more hB⟩
theorem zip_pairs (n : Int) (ss us : List Stp) : ((ss.map Stp.p).zip (us.map Stp.p)).all (pairOk n) = (ss.zip us).all fun q => stepB n q.1 && compB n q.2 := by
 rw [List.zip_map, List.all_map]
 congr 1
 funext q
 exact pair_parts n q.1 q.2

set_option maxRecDepth 100000 in
set_option maxHeartbeats 4000000 in
theorem may11_any (c : Cls) (w : World) (hc : c.Ok w) (hf : c.Few) : Calls Tryz.prog 71 #[c.agg] w (Has w c.p.ok) := by
 have Hr : Hid (c.p.ok = (decide (1 ≤ (c.name.size : Int) ∧ (c.name.size : Int) ≤ 16) && (decide (0 ≤ c.args ∧ c.args ≤ 3) && (decide (1 ≤ (c.steps.length : Int) ∧ (c.steps.length : Int) ≤ 4) && (decide (c.comps.length = c.steps.length) && (c.steps.zip c.comps).all fun q => stepB c.args q.1 && compB c.args q.2))))) := Lib.hid (by
  unfold PC.ok Cls.p
  rw [zip_pairs]
  simp only [List.length_map]
  have e1 : decide (1 ≤ c.name.size ∧ c.name.size ≤ 16) = decide (1 ≤ (c.name.size : Int) ∧ (c.name.size : Int) ≤ 16) := decide_eq_decide.2 (by omega)
  have e2 : decide (1 ≤ c.steps.length ∧ c.steps.length ≤ 4) = decide (1 ≤ (c.steps.length : Int) ∧ (c.steps.length : Int) ≤ 4) := decide_eq_decide.2 (by omega)
  rw [e1, e2])
 generalize c.p.ok = r at *
 refine (callsIn_wide (n := 3)).1 ?_
 have h1 : 1 ≤ 3 := by omega
 obtain ⟨nm, a, A, ss, sc, U, us, uc, res⟩ := c
 obtain ⟨hS, hU⟩ := hc
 obtain ⟨f1, f2, f3, f4⟩ := hf
 unfold Cls.agg
 simp only at *
 refine callsIn_of_wp_marks Tryz.func71 rfl trivial ?_ rfl
 simp only [Tryz.ntmps71, List.size_toArray, List.length_cons, List.length_nil, Nat.reduceAdd, Nat.reduceSub, Array.replicate_succ, Array.replicate_zero, List.push_toArray, List.append_toArray, List.nil_append, List.cons_append]
 have hb4 : ∀ m n : Nat, decide (m = n) = false → ((m : Int) != (n : Int)) = true := fun m n h => by
  rw [decide_eq_false_iff_not] at h
  simp
  omega
 obtain ⟨b1, hb1⟩ : ∃ b, decide (1 ≤ (nm.size : Int) ∧ (nm.size : Int) ≤ 16) = b := ⟨_, rfl⟩
 obtain ⟨b2, hb2⟩ : ∃ b, decide (0 ≤ a ∧ a ≤ 3) = b := ⟨_, rfl⟩
 obtain ⟨b3, hb3⟩ : ∃ b, decide (1 ≤ (ss.length : Int) ∧ (ss.length : Int) ≤ 4) = b := ⟨_, rfl⟩
 obtain ⟨b4, hb5⟩ : ∃ b, decide (us.length = ss.length) = b := ⟨_, rfl⟩
 rw [hb1, hb2, hb3, hb5] at Hr
 cases b1
 ·gi_wp2_with (first
  | (refine ⟨trivial, ?_⟩; gi_at_call 92; refine (callsIn_wide.2 (cwithin_any _ _ _ _)).mono ?_; rintro e w' ⟨rfl, rfl⟩; try rw [hb1]; try rw [hb2]; try rw [hb3])
  | (refine ⟨trivial, ?_⟩; gi_at_call 93; refine (pairs_in Fence.wide _ trivial rfl _ _ _ _ _ _ _ _ _ _).mono ?_; rintro e w' ⟨rfl, rfl⟩)
  | (refine ⟨trivial, ?_⟩))
  exact ⟨.bool false, by simp [results, Tryz.results71, go_sem], by rw [Hr.out]; rfl, ((Fr.refl _ _).alloc _).alloc _⟩
 cases b2
 ·gi_wp2_with (first
  | (refine ⟨trivial, ?_⟩; gi_at_call 92; refine (callsIn_wide.2 (cwithin_any _ _ _ _)).mono ?_; rintro e w' ⟨rfl, rfl⟩; try rw [hb1]; try rw [hb2]; try rw [hb3])
  | (refine ⟨trivial, ?_⟩; gi_at_call 93; refine (pairs_in Fence.wide _ trivial rfl _ _ _ _ _ _ _ _ _ _).mono ?_; rintro e w' ⟨rfl, rfl⟩)
  | (refine ⟨trivial, ?_⟩))
  exact ⟨.bool false, by simp [results, Tryz.results71, go_sem], by rw [Hr.out]; rfl, ((Fr.refl _ _).alloc _).alloc _⟩
 cases b3
 ·gi_wp2_with (first
  | (refine ⟨trivial, ?_⟩; gi_at_call 92; refine (callsIn_wide.2 (cwithin_any _ _ _ _)).mono ?_; rintro e w' ⟨rfl, rfl⟩; try rw [hb1]; try rw [hb2]; try rw [hb3])
  | (refine ⟨trivial, ?_⟩; gi_at_call 93; refine (pairs_in Fence.wide _ trivial rfl _ _ _ _ _ _ _ _ _ _).mono ?_; rintro e w' ⟨rfl, rfl⟩)
  | (refine ⟨trivial, ?_⟩))
  exact ⟨.bool false, by simp [results, Tryz.results71, go_sem], by rw [Hr.out]; rfl, ((Fr.refl _ _).alloc _).alloc _⟩
 cases b4
 ·have hb6 := hb4 _ _ hb5
  gi_wp2_with (first
  | (refine ⟨trivial, ?_⟩; gi_at_call 92; refine (callsIn_wide.2 (cwithin_any _ _ _ _)).mono ?_; rintro e w' ⟨rfl, rfl⟩; try rw [hb1]; try rw [hb2]; try rw [hb3])
  | (refine ⟨trivial, ?_⟩; gi_at_call 93; refine (pairs_in Fence.wide _ trivial rfl _ _ _ _ _ _ _ _ _ _).mono ?_; rintro e w' ⟨rfl, rfl⟩)
  | (refine ⟨trivial, ?_⟩))
  exact ⟨.bool false, by simp [results, Tryz.results71, go_sem], by rw [Hr.out]; rfl, ((Fr.refl _ _).alloc _).alloc _⟩
 rw [decide_eq_true_eq] at hb5
 obtain ⟨m, hm⟩ : ∃ m, ss.length = m := ⟨_, rfl⟩
 rw [hb5]
 rw [hm] at hb3 hb5 f1 ⊢
 have hb6 : ((m : Int) != (m : Int)) = false := by simp
 gi_wp2_with (first
  | (refine ⟨trivial, ?_⟩; gi_at_call 92; refine (callsIn_wide.2 (cwithin_any _ _ _ _)).mono ?_; rintro e w' ⟨rfl, rfl⟩; try rw [hb1]; try rw [hb2]; try rw [hb3])
  | (refine ⟨trivial, ?_⟩; gi_at_call 93; refine (pairs_in Fence.wide _ trivial rfl _ _ _ _ _ _ _ _ _ _).mono ?_; rintro e w' ⟨rfl, rfl⟩))
 clear hb4
 obtain ⟨W0, hW0⟩ : ∃ W0, W0 = (((w.alloc (.cells #[.string nm, .int .i64 a, .slice A m sc, .slice U m uc, .bool res] 49)).alloc (.cells #[.bool false] 4)).alloc (.cells #[.string nm, .int .i64 a, .slice A m sc, .slice U m uc, .bool res] 49)) := ⟨_, rfl⟩
 have hsz : W0.heap.size = w.heap.size + 3 := by rw [hW0]; simp
 have hF0 : Fr No w W0 := by rw [hW0]; exact (((Fr.refl No w).alloc _).alloc _).alloc _
 have bC : Bk W0 w.heap.size 49 #[.string nm, .int .i64 a, .slice A m sc, .slice U m uc, .bool res] := by rw [hW0]; exact ((Bk.made w _ _).alloc _).alloc _
 have bR : Bk W0 (w.heap.size + 1) 4 #[.bool false] := by
  rw [hW0]
  have := (Bk.made (w.alloc (.cells #[.string nm, .int .i64 a, .slice A m sc, .slice U m uc, .bool res] 49)) 4 #[.bool false]).alloc (.cells #[.string nm, .int .i64 a, .slice A m sc, .slice U m uc, .bool res] 49)
  rwa [World.size_alloc] at this
 have bP : Bk W0 (w.heap.size + 1 + 1) 49 #[.string nm, .int .i64 a, .slice A m sc, .slice U m uc, .bool res] := by
  rw [hW0]
  have := Bk.made ((w.alloc (.cells #[.string nm, .int .i64 a, .slice A m sc, .slice U m uc, .bool res] 49)).alloc (.cells #[.bool false] 4)) 49 #[.string nm, .int .i64 a, .slice A m sc, .slice U m uc, .bool res]
  rwa [World.size_alloc, World.size_alloc] at this
 have hB0 : w.heap.size ≤ W0.heap.size := by omega
 have hbw : Below w.heap.size w W0 := hF0.below0
 have HS := Lib.hid hS
 have HU := Lib.hid hU
 have Hm := Lib.hid hm
 have Hm2 := Lib.hid hb5
 have Hf3 := Lib.hid f3
 have Hf4 := Lib.hid f4
 have HbN := Lib.hid (And.intro hb1 (And.intro hb2 hb3))
 rw [← hW0]
 clear hW0 hb1 hb2 hb3 hb5 hb6 hm hS hU f3 f4
 have hsq : SeqStopsK Fence.wide 2 Tryz.prog 111 #[.pointer (some ⟨w.heap.size + 1 + 1, 0, none⟩)] (encZ (ss := ss) (us := us)) (KpC w.heap.size) (fun ys => ys.map (·.1) = ss.zip us) (fun pre => pre.map (·.1) <+: ss.zip us) (ss.zip us).length W0 := fun lp J Jx W hW hJ _ hY h0 =>
  pairs1_in 2 lp w.heap.size (w.heap.size + 1 + 1) nm a A U m m sc uc res ss us W (by omega) (HS.out.sl.below (hbw.trans (hW.mono hB0))) (HU.out.sl.below (hbw.trans (hW.mono hB0))) Hm.out Hm2.out (Nat.le_trans hB0 hW.size) ((hW.block _ bP.lt).trans bP) f1 f1 J Jx hJ hY h0
 refine wpIn_rangeFunc_ownH rfl h1 (gf := 111) (lb := #[.pointer (some ⟨w.heap.size + 1 + 1, 0, none⟩)]) rfl trivial (enters_of Tryz.func111 (by kernel_rfl) rfl)
  hsq KpC.trans (KpC.putObj hB0) (Below.refl _ _) (fun _ => rfl)
  (MyI w a #[.string nm, .int .i64 a, .slice A m sc, .slice U m uc, .bool res])
  (fun cd pre W => cd = .ret ∧ (∃ q ∈ pre, (stepB a q.1.1 && compB a q.1.2) = false) ∧ Bk W (w.heap.size + 1) 4 #[.bool false] ∧ Below w.heap.size w W)
  (MyI.own w a _ ss us _ hB0)
  (fun cd pre X Y row hs hg hr => by
   obtain ⟨e, h2, h3, h4⟩ := hs
   exact ⟨e, h2, bk_ownC _ _ _ _ () X Y row h3 hg hr, ownFrom_below (β := Unit) (Nat.le_refl _) hB0 () X Y row h4 hg hr⟩)
  ⟨(fun q hq => by cases hq), bC, bR, hbw⟩
  (fun x a' W => ∃ Bx By, w.heap.size + 1 < Bx ∧ Bx < By ∧ Bk W Bx 46 #[.slice x.1.1.cA x.1.1.code.length x.1.1.cc, .slice x.1.1.fA x.1.1.foot.length x.1.1.fc] ∧ Bk W By 46 #[.slice x.1.2.cA x.1.2.code.length x.1.2.cc, .slice x.1.2.fA x.1.2.foot.length x.1.2.fc] ∧ a' = { tmps := #[.agg #[.string nm, .int .i64 a, .slice A m sc, .slice U m uc, .bool res], .pointer (some ⟨w.heap.size, 0, none⟩), .pointer (some ⟨w.heap.size + 1, 0, none⟩), .pointer (some ⟨Bx, 0, none⟩), .pointer (some ⟨By, 0, none⟩), .pointer (some ⟨w.heap.size, 0, none⟩), .string nm, .int .i64 nm.size, .bool true, .bool false, .bool false, .pointer (some ⟨w.heap.size, 1, none⟩), .int .i64 a, .bool true, .bool false, .bool false, .bool false, .pointer (some ⟨w.heap.size, 2, none⟩), .slice A m sc, .int .i64 m, .bool true, .bool false, .bool false, .bool false, .pointer (some ⟨w.heap.size, 3, none⟩), .slice U m uc, .int .i64 m, .pointer (some ⟨w.heap.size, 2, none⟩), .slice A m sc, .int .i64 m, .bool false, .bool false, .agg #[.string nm, .int .i64 a, .slice A m sc, .slice U m uc, .bool res], .func (.func 111) #[] #[.pointer (some ⟨w.heap.size + 1 + 1, 0, none⟩)], x.1.1.agg, x.1.2.agg, undef, undef, undef, undef, undef, undef, undef, undef, undef, undef, undef, undef], defers := [] })
  (fun x a' _ X Y row hs hg hr => by
   obtain ⟨Bx, By, a1, a2, a3, a4, a5⟩ := hs
   exact ⟨Bx, By, a1, a2, bk_ownC _ Bx _ _ () X Y row a3 hg hr, bk_ownC _ By _ _ () X Y row a4 hg hr, a5⟩)
  ?assign ?body ?done ?stop
 case assign =>
  rintro lp pre ⟨⟨x, y⟩, hq⟩ W K ⟨hp, hcb, hrb, hB⟩ hK
  have hlt := hrb.lt
  have k1 : Fr No W ((W.alloc (.cells #[.slice x.cA x.code.length x.cc, .slice x.fA x.foot.length x.fc] 46)).alloc (.cells #[.slice y.cA y.code.length y.cc, .slice y.fA y.foot.length y.fc] 46)) := ((Fr.refl No W).alloc _).alloc _
  have hx0 : Bk ((W.alloc (.cells #[.slice x.cA x.code.length x.cc, .slice x.fA x.foot.length x.fc] 46)).alloc (.cells #[.slice y.cA y.code.length y.cc, .slice y.fA y.foot.length y.fc] 46)) W.heap.size 46 #[.slice x.cA x.code.length x.cc, .slice x.fA x.foot.length x.fc] := (Bk.made W _ _).alloc _
  have hy0 : Bk ((W.alloc (.cells #[.slice x.cA x.code.length x.cc, .slice x.fA x.foot.length x.fc] 46)).alloc (.cells #[.slice y.cA y.code.length y.cc, .slice y.fA y.foot.length y.fc] 46)) (W.heap.size + 1) 46 #[.slice y.cA y.code.length y.cc, .slice y.fA y.foot.length y.fc] := by
   have := Bk.made (W.alloc (.cells #[.slice x.cA x.code.length x.cc, .slice x.fA x.foot.length x.fc] 46)) 46 #[.slice y.cA y.code.length y.cc, .slice y.fA y.foot.length y.fc]
   rwa [World.size_alloc] at this
  unfold encZ Stp.agg
  dsimp only
  gi_wp2
  exact hK _ _ (((KeepsOthers.alloc _ _).trans (KeepsOthers.alloc _ _)).from _) ((KpC.refl _ W).fr0 k1 hB.size) ⟨hp, hcb.fr k1 (fun e => e), hrb.fr k1 (fun e => e), (hB.alloc hB.size _).alloc (by simp; have := hB.size; omega) _⟩ ⟨W.heap.size, W.heap.size + 1, by omega, by omega, hx0, hy0, rfl⟩
 case body =>
  rintro lp pre ⟨⟨x, y⟩, hq⟩ a' W hl hr ⟨hp, hcb, hrb, hB⟩ ⟨Bx, By, a1, a2, hbx, hby, rfl⟩ hlt
  have hxs := (List.of_mem_zip hq).1
  have hyu := (List.of_mem_zip hq).2
  have D1 := Lib.hid (mayStep_any x a W ((HS.out.all x hxs).low hB hB.size) (Hf3.out x hxs).1 (Hf3.out x hxs).2)
  have D2 := Lib.hid (fun (V : World) (h : Fr No W V) => mayComp_any y a V (((HU.out.all y hyu).low hB hB.size).since h) (Hf4.out y hyu).1 (Hf4.out y hyu).2)
  have Hs1 := Lib.hid (fun (V : World) (h : Fr No W V) => And.intro (hcb.fr h (fun e => e)) (And.intro (hrb.fr h (fun e => e)) (hby.fr h (fun e => e))))
  have HI : Hid (∀ V, Fr No W V → (stepB a x && compB a y) = true → KeepsFrom W0.heap.size W V ∧ KpC w.heap.size W V ∧ MyI w a #[.string nm, .int .i64 a, .slice A m sc, .slice U m uc, .bool res] (pre ++ [⟨(x, y), hq⟩]) V) := Lib.hid (fun V h ht => ⟨⟨h.size, fun k o _ hk _ => (h.block k (Array.getElem?_eq_some_iff.1 hk).1 (fun e => e)).trans hk⟩, (KpC.refl _ W).fr0 h hB.size, fun q hq' => by
   rcases List.mem_append.1 hq' with h' | h'
   ·exact hp q h'
   ·rw [List.mem_singleton.1 h']
    exact ht, hcb.fr h (fun e => e), hrb.fr h (fun e => e), hB.trans (h.toBelow hB.size (fun _ e => e.elim))⟩)
  have HX : Hid (∀ V, Fr No W V → (stepB a x && compB a y) = false → KeepsFrom W0.heap.size W (V.setCell ⟨w.heap.size + 1, 0, none⟩ (.bool false)) ∧ (Code.ret = .ret ∧ (∃ q ∈ (pre ++ [⟨(x, y), hq⟩] : List (ZP ss us)), (stepB a q.1.1 && compB a q.1.2) = false) ∧ Bk (V.setCell ⟨w.heap.size + 1, 0, none⟩ (.bool false)) (w.heap.size + 1) 4 #[.bool false] ∧ Below w.heap.size w (V.setCell ⟨w.heap.size + 1, 0, none⟩ (.bool false)))) := Lib.hid (fun V h ht => ⟨⟨by simpa using h.size, fun k o _ hk hc => by
    have h5 := (h.block k (Array.getElem?_eq_some_iff.1 hk).1 (fun e => e)).trans hk
    exact (KeepsOthers.setCell V ⟨w.heap.size + 1, 0, none⟩ (.bool false)).same k o h5 hc⟩, rfl, ⟨⟨(x, y), hq⟩, by simp, ht⟩, by simpa using (hrb.fr h (fun e => e)).put 0 (.bool false), (hB.trans (h.toBelow hB.size (fun _ e => e.elim))).setCell (p := ⟨w.heap.size + 1, 0, none⟩) (Nat.le_succ _) _⟩)
  have c1 : W.cell? ⟨w.heap.size, 1, none⟩ = some (.int .i64 a) := hcb.cell 1
  have x0 : W.cell? ⟨Bx, 0, none⟩ = some (.slice x.cA x.code.length x.cc) := hbx.cell 0
  have x1 : W.cell? ⟨Bx, 1, none⟩ = some (.slice x.fA x.foot.length x.fc) := hbx.cell 1
  unfold Stp.agg at D1 D2 ⊢
  dsimp only
  generalize stepB a x = s1 at *
  generalize compB a y = s2 at *
  clear hp hcb hrb hbx hby hB hl hr
  gi_wp2_with fail
  refine ⟨trivial, ?_⟩
  gi_at_call 94
  refine (callsIn_wide.2 D1.out).mono ?_
  rintro e w1 ⟨rfl, f1⟩
  obtain ⟨g1, g2, g3⟩ := Hs1.out w1 f1
  have d1 : w1.cell? ⟨w.heap.size, 1, none⟩ = some (.int .i64 a) := g1.cell 1
  have d2 : w1.cell? ⟨w.heap.size + 1, 0, none⟩ = some (.bool false) := g2.cell 0
  have d3 := g2.frozen 0
  have y0 : w1.cell? ⟨By, 0, none⟩ = some (.slice y.cA y.code.length y.cc) := g3.cell 0
  have y1 : w1.cell? ⟨By, 1, none⟩ = some (.slice y.fA y.foot.length y.fc) := g3.cell 1
  clear c1 x0 x1 g1 g2 g3
  cases s1
  ·gi_wp2_with (refine ⟨trivial, ?_⟩)
   exact ⟨(HX.out w1 f1 rfl).1, rfl, (HX.out w1 f1 rfl).2.2⟩
  ·gi_wp2_with fail
   refine ⟨trivial, ?_⟩
   gi_at_call 95
   refine (callsIn_wide.2 (D2.out _ f1)).mono ?_
   rintro e w2 ⟨rfl, f2⟩
   have f3 := f1.trans' f2 (fun _ _ e => e)
   obtain ⟨g1, g2, g3⟩ := Hs1.out w2 f3
   have z2 : w2.cell? ⟨w.heap.size + 1, 0, none⟩ = some (.bool false) := g2.cell 0
   have z3 := g2.frozen 0
   clear d1 d2 d3 y0 y1 g1 g2 g3
   cases s2
   ·gi_wp2
    exact ⟨(HX.out w2 f3 rfl).1, rfl, (HX.out w2 f3 rfl).2.2⟩
   ·gi_wp2
    exact HI.out w2 f3 rfl
 case done =>
  rintro D ys W hD hys ⟨hp, hcb, hrb, hB⟩ hK
  have d2 : W.cell? ⟨w.heap.size + 1, 0, none⟩ = some (.bool false) := hrb.cell 0
  have d3 := hrb.frozen 0
  have ht : r = true := by
   rw [Hr.out]
   simp only [Bool.true_and, List.all_eq_true]
   intro q hq
   rw [← hys] at hq
   obtain ⟨x, hx, rfl⟩ := List.mem_map.1 hq
   exact hp x hx
  have hne : D ≠ w.heap.size + 1 := by omega
  have hK2 : (W.setCell ⟨w.heap.size + 1, 0, none⟩ (.bool true)).heap[D]? = some (.deferred (some [])) := (KeepsOthers.setCell W ⟨w.heap.size + 1, 0, none⟩ (.bool true)).same D _ hK rfl
  have hr2 : Bk (W.setCell ⟨w.heap.size + 1, 0, none⟩ (.bool true)) (w.heap.size + 1) 4 #[.bool true] := by simpa using hrb.put 0 (.bool true)
  have hB2 : Below w.heap.size w (W.setCell ⟨w.heap.size + 1, 0, none⟩ (.bool true)) := hB.setCell (p := ⟨w.heap.size + 1, 0, none⟩) (Nat.le_succ _) _
  rw [ht]
  clear hp hcb hrb hys
  gi_wp2
  refine ⟨by simp, .inl ⟨_, _, rfl, run_takeDeferred hK2, ?_⟩⟩
  have hr3 : Bk ((W.setCell ⟨w.heap.size + 1, 0, none⟩ (.bool true)).putObj D (.deferred none)) (w.heap.size + 1) 4 #[.bool true] := (World.putObj_heap_other (fun e => hne e.symm)).trans hr2
  have e0 := hr3.cell 0
  exact ⟨.bool true, by simp [results, Tryz.results71, go_sem, e0], rfl, Fr.ofBelow (hB2.trans (belowK_b (w := w) (Nat.le_refl _) _ D _ _ (by omega) hK2 rfl rfl)) _⟩
 case stop =>
  rintro D cd pre W hD hpre ⟨rfl, ⟨q, hq, hqf⟩, hrb, hB⟩ hK
  have hf : r = false := by
   rw [Hr.out]
   simp only [Bool.true_and]
   rw [List.all_eq_false]
   refine ⟨q.1, q.2, ?_⟩
   rw [hqf]
   decide
  have hne : D ≠ w.heap.size + 1 := by omega
  rw [hf]
  gi_wp2
  refine ⟨by simp, .inl ⟨_, _, rfl, run_takeDeferred hK, ?_⟩⟩
  have hr3 : Bk (W.putObj D (.deferred none)) (w.heap.size + 1) 4 #[.bool false] := (World.putObj_heap_other (fun e => hne e.symm)).trans hrb
  have e0 := hr3.cell 0
  exact ⟨.bool false, by simp [results, Tryz.results71, go_sem, e0], rfl, Fr.ofBelow (hB.trans (belowK_b (w := w) (Nat.le_refl _) _ D _ _ (by omega) hK rfl rfl)) _⟩
end Go.Proofs.YtmeimhpllemjfaaGreat
