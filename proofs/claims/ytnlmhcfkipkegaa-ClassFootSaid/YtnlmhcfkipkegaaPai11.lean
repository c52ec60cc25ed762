/- Package class: the steps of a class, each with its Comp, one by one. -/
import Derived.RangeFuncBox
import Derived.RangeFuncLeaves
import Derived.RangeFuncNested
import Derived.RangeFuncCalls
import Derived.Shelf.Abstract
import Derived.WalkKit
import Derived.OwnWalkIn
import Derived.TacticsInMore
import Derived.LoopNIn
import Derived.LoopIn
import Derived.Stop.RegionWithIn
import Derived.Sort.CutIn
import Derived.Test.YtnlmhcfkipkegaaCls11
namespace Go.Proofs.Ytnlmhcfkipkegaa
open Go.RowKit Go.Shelf

attribute [local go_sem] Oper.semAt_some

/-- What the loop's body keeps: what lies below B, and boxes of classes. -/
def KpC (B : Nat) (W W' : World) : Prop := Below B W W' ∧ ∀ g cs, Bk W g 31 cs → Bk W' g 31 cs
section
variable {B : Nat} {X Y Z : World}
theorem KpC.refl (B : Nat) (W : World) : KpC B W W := ⟨Below.refl _ _, fun _ _ h => h⟩
theorem KpC.trans (h : KpC B X Y) (k : KpC B Y Z) : KpC B X Z := ⟨h.1.trans k.1, fun g cs hb => k.2 g cs (h.2 g cs hb)⟩
theorem KpC.putObj {w : World} (hB : B ≤ w.heap.size) (W : World) (l : Nat) (o o' : Obj) (hl : w.heap.size ≤ l) (h : W.heap[l]? = some o) (hc : o.isCells = false) (_hw : o.isWalk = false) : KpC B W (W.putObj l o') :=
  ⟨belowK_b hB W l o o' hl h hc _hw, fun g cs hb => by
    refine (World.putObj_heap_other (fun e => ?_)).trans hb
    subst e
    have := (show W.heap[g]? = _ from hb).symm.trans h
    injection this with this
    rw [← this] at hc
    cases hc⟩
theorem KpC.fr0 (h : KpC B X Y) (hf : Fr No Y Z) (hB : B ≤ Y.heap.size) : KpC B X Z :=
  ⟨h.1.trans (hf.toBelow hB (fun _ e => e.elim)), fun g cs hb => (h.2 g cs hb).fr hf (fun e => e)⟩
theorem KpC.alloc (h : KpC B X Y) (hB : B ≤ Y.heap.size) (o : Obj) : KpC B X (Y.alloc o) := h.fr0 ((Fr.refl _ _).alloc o) hB
end
theorem Fr.grownByC {W W' : World} (h : Fr No W W') : W.grownBy W' none := ⟨h.same.1, h.same.2.1, h.same.2.2, h.size, fun k hk _ => h.block k hk (fun e => e)⟩
/-- A step with its Comp. -/
abbrev ZP (ss us : List Stp) := {q : Stp × Stp // q ∈ ss.zip us}
def encZ {ss us : List Stp} (q : ZP ss us) : Array Value := #[q.1.1.agg, q.1.2.agg]

set_option maxHeartbeats 1000000 in
theorem pairs_in (F : Fence) (n : Nat) (hF : F.fn 37) (hro : F.round = none) (nm : ByteArray) (a : Int) (A U : Option Addr) (m m2 c c2 : Nat) (r : Bool) (w : World) :
    CallsIn F n Try.prog 37 #[.agg #[.string nm, .int .i64 a, .slice A m c, .slice U m2 c2, .bool r]] w fun e w' => e = .returned (.func (.func 60) #[] #[.pointer (some ⟨w.heap.size, 0, none⟩)]) ∧ w' = w.alloc (.cells #[.string nm, .int .i64 a, .slice A m c, .slice U m2 c2, .bool r] 31) := by
  refine callsIn_of_wp Try.func37 rfl hF ?_ hro
  simp only [Try.ntmps37, List.size_toArray, List.length_cons, List.length_nil, Nat.reduceAdd, Nat.reduceSub, Array.replicate_succ, Array.replicate_zero, List.push_toArray, List.append_toArray, List.nil_append, List.cons_append]
  gi_wp2
  go_ret
  exact ⟨rfl, rfl⟩

theorem two11 {e : Ending} {P Q : Prop} (h : (e = .returned (.bool true) ∧ P) ∨ (e = .returned (.bool false) ∧ Q)) : ∃ b : Bool, e = .returned (.bool b) ∧ ((b = true ∧ P) ∨ (b = false ∧ Q)) := by
  rcases h with ⟨h1, h2⟩ | ⟨h1, h2⟩
  · exact ⟨true, h1, .inl ⟨rfl, h2⟩⟩
  · exact ⟨false, h1, .inr ⟨rfl, h2⟩⟩
set_option maxRecDepth 100000 in
set_option maxHeartbeats 4000000 in
theorem pairs1_in (n lp B bx : Nat) (nm : ByteArray) (a : Int) (A U : Option Addr) (m m2 c c2 : Nat) (r : Bool) (ss us : List Stp) (W : World) (hn : 1 ≤ n)
    (hs : Sl W B A (ss.flatMap Stp.cells)) (hu : Sl W B U (us.flatMap Stp.cells)) (hm : ss.length = m) (hm2 : us.length = m2) (hBW : B ≤ W.heap.size) (b : Bk W bx 31 #[.string nm, .int .i64 a, .slice A m c, .slice U m2 c2, .bool r])
    (hl : m ≤ 1099511627776) (hl2 : m2 ≤ 1099511627776) (J Jx : List (ZP ss us) → World → Prop) (hJa : AbidesFrom W.heap.size J)
    (hY : ∀ pre x W1, J pre W1 → pre.length < (ss.zip us).length → YieldAt Fence.wide (n - 1) Try.prog lp (encZ x) W1 fun e W' =>
      (e = .returned (.bool true) ∧ J (pre ++ [x]) W' ∧ KpC B W1 W') ∨ (e = .returned (.bool false) ∧ Jx (pre ++ [x]) W')) (h0 : J [] W) :
    CallsIn Fence.wide n Try.prog 60 #[.func (.yield lp) #[] #[], .pointer (some ⟨bx, 0, none⟩)] W fun e V => (∃ v, e = .returned v) ∧
      ((∃ ys, ys.map (·.1) = ss.zip us ∧ J ys V) ∨ (∃ pre, pre.map (·.1) <+: ss.zip us ∧ Jx pre V)) := by
  have Hb := Lib.hid (fun V (hV : KpC B W V) => hV.2 bx _ b)
  have Hs := Lib.hid (fun V (hV : KpC B W V) => show Sl V B A (ss.flatMap Stp.cells) from hs.below hV.1)
  have Hu := Lib.hid (fun V (hV : KpC B W V) => show Sl V B U (us.flatMap Stp.cells) from hu.below hV.1)
  have Hz : Hid ((ss.zip us).length = min m m2) := Lib.hid (by rw [List.length_zip, hm, hm2])
  have x2 := b.cell 2
  have x3 := b.cell 3
  simp at x2 x3
  have Hm := Lib.hid hm
  have Hm2 := Lib.hid hm2
  have hmin : (if (m : Int) ≤ m2 then (m : Int) else m2) = ((min m m2 : Nat) : Int) := by split <;> omega
  have hmn1 : min m m2 ≤ m := Nat.min_le_left _ _
  have hmn2 : min m m2 ≤ m2 := Nat.min_le_right _ _
  clear hm hm2 b hs hu
  refine callsIn_of_wp Try.func60 rfl trivial ?_ rfl
  simp only [Try.ntmps60, List.size_toArray, List.length_cons, List.length_nil, Nat.reduceAdd, Nat.reduceSub, Array.replicate_succ, Array.replicate_zero, List.push_toArray, List.append_toArray, List.nil_append, List.cons_append]
  obtain ⟨k, hk⟩ : ∃ k, k = min m m2 := ⟨_, rfl⟩
  rw [← hk] at Hz hmn1 hmn2
  gi_wp2_with fail
  case' inl => rw [show ((m2 : Nat) : Int) = ((k : Nat) : Int) by omega]
  case' inr => rw [show ((m : Nat) : Int) = ((k : Nat) : Int) by omega]
  all_goals
    have Hk := Lib.hid hk
    clear hmin hk x2 x3
    gi_loopw [11] (fun iv wr => ∃ (j : Nat) (pre : List (ZP ss us)), j ≤ k ∧ iv = .int .i64 j ∧ Hid (pre.map (·.1) = (ss.zip us).take j) ∧ J pre wr ∧ KpC B W wr) (fun i _ => k - (intOf i).toNat)
    case atStart => exact ⟨0, [], by omega, rfl, Lib.hid rfl, h0, KpC.refl _ _⟩
    case round =>
      obtain ⟨j, pre, hj, rfl, hpre, hJ, hK⟩ := hrel
      by_cases hlt : j < k
      · have hjz : j < (ss.zip us).length := by rw [Hz.out]; exact hlt
        have hjs : j < ss.length := by rw [Hm.out]; omega
        have hju : j < us.length := by rw [Hm2.out]; omega
        have hpl : pre.length = j := by
          have := congrArg List.length hpre.out
          rw [List.length_map, List.length_take] at this
          omega
        have hzj : (ss.zip us)[j] = (ss[j], us[j]) := List.getElem_zip
        have fD : Fr No wr wr.drew := (Fr.refl No wr).drew
        have hBr : B ≤ wr.heap.size := Nat.le_trans hBW hK.1.size
        have hK1 := hK.fr0 fD hBr
        obtain ⟨ad, e1, hb1, y0, y1⟩ := (Hs.out _ hK1).stp hjs
        obtain ⟨bd, e2, hb2, y2, y3⟩ := (Hu.out _ hK1).stp hju
        have x2 := (Hb.out _ hK1).cell 2
        have x3 := (Hb.out _ hK1).cell 3
        simp at x2 x3
        have hJ1 := hJa _ _ wr.drew none hJ fD.grownByC (fun r e => by cases e)
        obtain ⟨x, hx⟩ : ∃ x : ZP ss us, x.1 = (ss.zip us)[j] := ⟨⟨(ss.zip us)[j], List.getElem_mem hjz⟩, rfl⟩
        obtain ⟨fn, tmps, assign, body, hy, hR⟩ := hY pre x _ hJ1 (by omega)
        unfold encZ at hy
        rw [hzj] at hx
        simp only [hx, Stp.agg] at hy
        have Hnx : Hid ((pre ++ [x]).map (·.1) = (ss.zip us).take (j + 1)) := Lib.hid (by
          rw [List.map_append, hpre.out, List.take_succ_eq_append_getElem hjz, hzj]
          simp [hx])
        have i1 : ((j : Nat) : Int) < (m : Int) := by omega
        have i2 : ((j : Nat) : Int) < (m2 : Int) := by omega
        have HK := Lib.hid hK
        have HK1 := Lib.hid hK1
        generalize ss[j] = s at *
        generalize us[j] = u at *
        subst e1 e2
        clear hJ hK hJ1 hzj hx hK1
        gi_wp2
        gi_cut [26] from 27 (fun s26 wx => ∃ b : Bool, s26 = .bool (!b) ∧ ((b = true ∧ J (pre ++ [x]) wx ∧ KpC B wr.drew wx) ∨ (b = false ∧ Jx (pre ++ [x]) wx)))
        case first =>
          gi_region_with (refine hR.mono ?_; rintro e W3 h3; obtain ⟨b, rfl, hb⟩ := two11 h3)
          all_goals
            gi_wp2
            gi_meet
            exact ⟨b, rfl, hb⟩
        case rest =>
          obtain ⟨b, rfl, ⟨rfl, hJ3, hK3⟩ | ⟨rfl, hJx⟩⟩ := hcut
          · have hK4 := HK1.out.trans hK3
            clear hK3
            gi_wp2
            go_roundw
            case rel => exact ⟨j + 1, _, by omega, by go_num, Hnx, hJ3, hK4⟩
            case measure => simp [intOf]; omega
          · gi_wp2
            refine bodyPost_ret (results_none rfl _ _ _) rfl ?_
            exact ⟨⟨_, rfl⟩, .inr ⟨_, by rw [Hnx.out]; exact List.take_prefix _ _, hJx⟩⟩
      · have hall : (ss.zip us).take j = ss.zip us := List.take_of_length_le (by rw [Hz.out]; omega)
        have hp2 := hpre.out
        rw [hall] at hp2
        clear hpre
        gi_wp2
        go_end0
        exact ⟨⟨_, rfl⟩, .inl ⟨_, hp2, hJ⟩⟩
end Go.Proofs.Ytnlmhcfkipkegaa
