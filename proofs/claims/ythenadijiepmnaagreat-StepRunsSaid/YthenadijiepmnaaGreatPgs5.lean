/- Package pages: the pairs of a store, from a key on, one by one. -/
import Derived.RangeFuncBox
import Derived.RangeFuncLeaves
import Derived.RangeFuncNested
import Derived.Shelf.Abstract
import Derived.WalkKit
import Derived.OwnWalkIn
import Derived.TacticsInMore
import Derived.LoopNIn
import Derived.LoopIn
import Derived.Maps.AppendAt
import Derived.Stop.RegionWithIn
import Derived.Sort.CutIn
import Derived.Test.YthenadijiepmnaaGreatOfs5
import Derived.Test.YthenadijiepmnaaGreatRgt5
namespace Go.Proofs.YthenadijiepmnaaGreat
open Go.RowKit Go.Shelf

attribute [local go_sem] Oper.semAt_some

/-- What the loop's body keeps: what lay below B, and boxes of lists of pages and of keys. -/
def KpN (B : Nat) (W W' : World) : Prop := Below B W W' ∧ ∀ g t cs, (t = 68 ∨ t = 3) → Bk W g t cs → Bk W' g t cs
theorem KpN.refl (B : Nat) (W : World) : KpN B W W := ⟨Below.refl _ _, fun _ _ _ _ h => h⟩
theorem KpN.trans {B : Nat} {X Y Z : World} (h : KpN B X Y) (k : KpN B Y Z) : KpN B X Z := ⟨h.1.trans k.1, fun g t cs ht hb => k.2 g t cs ht (h.2 g t cs ht hb)⟩
theorem KpN.putObj {B : Nat} {w : World} (hB : B ≤ w.heap.size) (W : World) (l : Nat) (o o' : Obj) (hl : w.heap.size ≤ l) (h : W.heap[l]? = some o) (hc : o.isCells = false) (hw : o.isWalk = false) : KpN B W (W.putObj l o') :=
  ⟨belowK_b hB W l o o' hl h hc hw, fun g t cs _ hb => by
    refine (World.putObj_heap_other (fun e => ?_)).trans hb
    subst e
    have := (show W.heap[g]? = _ from hb).symm.trans h
    injection this with this
    rw [← this] at hc
    cases hc⟩
theorem KpN.alloc {B : Nat} {X Y : World} (h : KpN B X Y) (hB : B ≤ Y.heap.size) (o : Obj) : KpN B X (Y.alloc o) := ⟨h.1.alloc hB o, fun g t cs ht hb => (h.2 g t cs ht hb).alloc o⟩
theorem KpN.fr0 {B : Nat} {X Y Z : World} (h : KpN B X Y) (hf : Fr No Y Z) (hB : B ≤ Y.heap.size) : KpN B X Z :=
  ⟨h.1.trans (hf.toBelow hB (fun _ e => e.elim)), fun g t cs ht hb => (h.2 g t cs ht hb).fr hf (fun e => e)⟩
theorem LsN.kp {B : Nat} {W W' : World} {S : Nat → Prop} {q o c : Nat} {hs : List Pgh} {P : List Pg} (h : LsN W S q o c hs P) (hk : KpN B W W') (hS : ∀ k, S k → k < B) : LsN W' S q o c hs P :=
  h.fr (T := fun k => B ≤ k) ⟨⟨hk.1.os, hk.1.tape, hk.1.output⟩, hk.1.size, fun k _ hn => hk.1.block k (by omega)⟩ (fun k hk2 e => by have := hS k hk2; omega)

theorem Fr.grownBy {W W' : World} (h : Fr No W W') : W.grownBy W' none := ⟨h.same.1, h.same.2.1, h.same.2.2, h.size, fun k hk _ => h.block k hk (fun e => e)⟩

/-- The pairs whose keys aren't below lo. -/
def fromP (l : List (Nat × Int)) (lo : Int) : List (Nat × Int) := l.filter fun x => decide (lo ≤ (x.1 : Int))
theorem fromP_app (a b : List (Nat × Int)) (lo : Int) : fromP (a ++ b) lo = fromP a lo ++ fromP b lo := by simp [fromP]
theorem fromP_one (x : Nat × Int) (lo : Int) : fromP [x] lo = if lo ≤ (x.1 : Int) then [x] else [] := by
  unfold fromP
  by_cases h : lo ≤ (x.1 : Int)
  · rw [if_pos h, List.filter_cons_of_pos (by simpa using h)]; rfl
  · rw [if_neg h, List.filter_cons_of_neg (by simpa using h)]; rfl
/-- What is ahead of the page to which lo belongs has no key from lo on. -/
theorem from_home {P : List Pg} (hi : InvP P) (lo : Int) : fromP (P.drop (homeP P lo)).flatten lo = fromP P.flatten lo := by
  have h1 : P.flatten = (P.take (homeP P lo)).flatten ++ (P.drop (homeP P lo)).flatten := by
    rw [← List.flatten_append, List.take_append_drop]
  have h2 : fromP (P.take (homeP P lo)).flatten lo = [] := by
    unfold fromP
    rw [List.filter_eq_nil_iff]
    intro x hx
    obtain ⟨p, hp, hxp⟩ := List.mem_flatten.1 hx
    obtain ⟨j, hj, rfl⟩ := List.mem_iff_getElem.1 hp
    have hj' : j < homeP P lo ∧ j < P.length := by rw [List.length_take] at hj; omega
    have hle := hposP_le P lo
    have hj1 : j + 1 < P.length := by have := hj'.1; unfold homeP at this; omega
    have hhead := (hposP_iff hi lo (j + 1) hj1).2 (by have := hj'.1; unfold homeP at this; omega)
    have hone := (hi.one _ (List.getElem_mem hj1)).1
    rw [headK_at hone] at hhead
    rw [List.getElem_take] at hxp
    have hr := hi.rise
    have e1 : P = P.take (j + 1) ++ P.drop (j + 1) := (List.take_append_drop _ _).symm
    rw [e1, List.flatten_append] at hr
    have hlt := (Rise.app hr).2.2 x (List.mem_flatten.2 ⟨P[j], List.mem_iff_getElem.2 ⟨j, by rw [List.length_take]; omega, by rw [List.getElem_take]⟩, hxp⟩) P[j + 1][0] (List.mem_flatten.2 ⟨P[j + 1], List.mem_iff_getElem.2 ⟨0, by rw [List.length_drop]; omega, by simp⟩, List.getElem_mem _⟩)
    simp only [decide_eq_true_eq]
    omega
  rw [h1, fromP_app, h2, List.nil_append]
theorem fromP_pre (Q : List Pg) (j i : Nat) (lo : Int) (hj : j < Q.length) : fromP ((Q.take j).flatten ++ Q[j].take i) lo <+: fromP Q.flatten lo := by
  have h1 : Q.flatten = ((Q.take j).flatten ++ Q[j].take i) ++ (Q[j].drop i ++ (Q.drop (j + 1)).flatten) := by
    conv => lhs; rw [← List.take_append_drop j Q, List.flatten_append, List.drop_eq_getElem_cons hj, List.flatten_cons]
    rw [List.append_assoc, ← List.append_assoc (Q[j].take i), List.take_append_drop]
  have h2 := fromP_app ((Q.take j).flatten ++ Q[j].take i) (Q[j].drop i ++ (Q.drop (j + 1)).flatten) lo
  rw [h1, h2]
  exact List.prefix_append _ _

def encP (x : Nat × Int) : Array Value := #[.agg #[.int .i64 (x.1 : Int), .int .i64 x.2]]
set_option maxRecDepth 100000 in
set_option maxHeartbeats 4000000 in
theorem from1_in (n l B bl bk : Nat) (S : Nat → Prop) (q o c : Nat) (hs : List Pgh) (P : List Pg) (lo : Int) (hi : InvP P) (hne : P ≠ []) (J Jx : List (Nat × Int) → World → Prop) (W : World) (hn : 1 ≤ n) (hJa : AbidesFrom W.heap.size J) (hBW : B ≤ W.heap.size) (hSB : ∀ k, S k → k < B)
    (hY : ∀ pre x W1, J pre W1 → pre.length < (fromP P.flatten lo).length → YieldAt Fence.wide (n - 1) Tryz.prog l (encP x) W1 fun e W' =>
      (e = .returned (.bool true) ∧ J (pre ++ [x]) W' ∧ KpN B W1 W') ∨ (e = .returned (.bool false) ∧ Jx (pre ++ [x]) W'))
    (h : LsN W S q o c hs P) (b1 : Bk W bl 68 #[.slice (some ⟨q, o, none⟩) hs.length c]) (b2 : Bk W bk 3 #[.int .i64 lo]) (h0 : J [] W) :
    CallsIn Fence.wide n Tryz.prog 57 #[.func (.yield l) #[] #[], .pointer (some ⟨bl, 0, none⟩), .pointer (some ⟨bk, 0, none⟩)] W fun e W' => (∃ v, e = .returned v) ∧
      ((∃ ys, ys = fromP P.flatten lo ∧ J ys W') ∨ (∃ pre, pre <+: fromP P.flatten lo ∧ Jx pre W')) := by
  have hlen := hi.len
  have hll := h.len
  have hhl := homeP_lt hne lo
  have hhm := home_any S q o c hs P hi lo
  have Hfh := Lib.hid (from_home hi lo)
  have Hone := Lib.hid hi.one
  obtain ⟨h0', Hh0⟩ : ∃ h0', Hid (h0' = homeP P lo) := ⟨_, Lib.hid rfl⟩
  rw [← Hh0.out] at Hfh hhm hhl
  obtain ⟨Q, HQ⟩ : ∃ Q, Hid (Q = P.drop h0') := ⟨_, Lib.hid rfl⟩
  rw [← HQ.out] at Hfh
  have hQl : Q.length = P.length - h0' := by rw [HQ.out, List.length_drop]
  have Hhs := Lib.hid (show ∀ W', KpN B W W' → LsN W' S q o c hs P from fun W' hk => h.kp hk hSB)
  have Hb1 := Lib.hid (show ∀ W', KpN B W W' → W'.cell? ⟨bl, 0, none⟩ = some (.slice (some ⟨q, o, none⟩) hs.length c) from fun W' hk => (hk.2 _ _ _ (.inl rfl) b1).cell 0)
  have Hb2 := Lib.hid (show ∀ W', KpN B W W' → W'.cell? ⟨bk, 0, none⟩ = some (.int .i64 lo) from fun W' hk => (hk.2 _ _ _ (.inr rfl) b2).cell 0)
  have Hcal := Lib.hid (show ∀ W', KpN B W W' → Calls Tryz.prog 58 #[.slice (some ⟨q, o, none⟩) hs.length c, .int .i64 lo] W' fun e w' => e = .returned (.int .i64 h0') ∧ Fr No W' w' from fun W' hk => hhm W' (h.kp hk hSB))
  have hle := h.le
  have hmx := h.max
  obtain ⟨z, Hz⟩ : ∃ z, Hid (z = hs.length) := ⟨_, Lib.hid rfl⟩
  rw [← Hz.out] at Hb1 Hcal hle hll
  have hzl : z ≤ 1000 := by omega
  have hhz : h0' < z := by omega
  have x0 := Hb1.out W (KpN.refl _ _)
  have x1 := Hb2.out W (KpN.refl _ _)
  have hch : ¬ c = h0' := by omega
  have hch2 : h0' ≤ z := by omega
  have hch3 : (h0' : Int) ≤ (z : Int) := by omega
  have hcm : c ≤ 9223372036854775807 := by unfold maxLen at hmx; omega
  have Hll := Lib.hid hll
  clear h b1 b2 hhm hi hlen hmx hll
  refine callsIn_of_wp Tryz.func57 rfl trivial ?_ rfl
  simp only [Tryz.ntmps57, List.size_toArray, List.length_cons, List.length_nil, Nat.reduceAdd, Nat.reduceSub, Array.replicate_succ, Array.replicate_zero, List.push_toArray, List.append_toArray, List.nil_append, List.cons_append]
  gi_wp2_with fail
  gi_cut [12, 13, 14] from 8 (fun s12 s13 s14 wx => s12 = .slice (some ⟨q, o + h0', none⟩) (z - h0') (c - h0') ∧ s13 = .int .i64 ((z - h0' : Nat) : Int) ∧ s14 = .int .i64 0 ∧ J [] wx ∧ KpN B W wx)
  case first =>
    first | gi_region_with (first
      | (refine ⟨trivial, ?_⟩
         gi_at_call 58
         refine (callsIn_wide.2 (Hcal.out _ (by first | exact KpN.refl _ _ | exact (KpN.refl _ _).fr0 ((Fr.refl No W).drew) hBW))).mono ?_
         rintro e w1 ⟨rfl, f1⟩
         have F1 := ((Fr.refl No W).drew).trans' f1 (fun _ _ e => e)
         have K1 := (KpN.refl B W).fr0 F1 hBW
         have y0 := Hb1.out w1 K1
         have y1 := Hb2.out w1 K1)) | fail
    all_goals
      have hJ1 := hJa _ _ w1 none h0 F1.grownBy (fun r e => by cases e)
      gi_wp2
      gi_meet
      exact ⟨rfl, rfl, rfl, hJ1, K1⟩
  case rest =>
    obtain ⟨rfl, rfl, rfl, hJ0, hK0⟩ := hcut
    clear x0 x1 Hcal Hb1 h0
    obtain ⟨m, Hm⟩ : ∃ m, Hid (m = z - h0') := ⟨_, Lib.hid rfl⟩
    have hm : m ≤ 1000 := by rw [Hm.out]; omega
    have hmQ : Hid (m = Q.length) := Lib.hid (by rw [Hm.out, hQl, Hll.out])
    rw [← Hm.out]
    clear hQl
    gi_wp2
    gi_loopw [14] (fun iv wr => ∃ j : Nat, j ≤ m ∧ iv = .int .i64 j ∧ J (fromP (Q.take j).flatten lo) wr ∧ KpN B W wr) (fun i _ => m - (intOf i).toNat)
    case atStart => exact ⟨0, by omega, rfl, hJ0, hK0⟩
    case round =>
      clear hJ0 hK0
      obtain ⟨j, hj, rfl, hJ, hK⟩ := hrel
      by_cases hlt : j < m
      · have hjQ : j < Q.length := by rw [← hmQ.out]; exact hlt
        have hjz : h0' + j < hs.length := by rw [← Hz.out]; have := Hm.out; omega
        have hjP : h0' + j < P.length := by rw [← Hll.out]; have := Hm.out; omega
        have hL := Hhs.out wr hK
        have hhd := hL.hdr hjz
        have hp := hL.pg (h0' + j) hjz hjP
        have hQj : Q[j] = P[h0' + j] := by
          have h1 : Q[j] = (P.drop h0')[j]'(by rw [← HQ.out]; exact hjQ) := by congr 1
          rw [h1, List.getElem_drop]
        rw [← hQj] at hp
        rw [show o + (h0' + j) = o + h0' + j by omega] at hhd
        have hxg := hSB _ (hL.sg _ (List.getElem_mem hjz))
        have Hpre := Lib.hid (fun i => fromP_pre Q j i lo hjQ)
        have Hnx : Hid (fromP (Q.take (j + 1)).flatten lo = fromP ((Q.take j).flatten ++ Q[j].take Q[j].length) lo) := Lib.hid (by
          rw [flat_snoc Q j hjQ, List.take_length])
        have hq8 := hp.len
        have hqB : Hid (Q[j].length ≤ 8) := Lib.hid (by
          rw [hQj]
          exact (Hone.out _ (List.getElem_mem hjP)).2)
        generalize hs[h0' + j] = x at *
        obtain ⟨l1, Hl1⟩ : ∃ l1, Hid (l1 = Q[j]) := ⟨_, Lib.hid rfl⟩
        rw [← Hl1.out] at hp Hpre Hnx hq8 hqB
        clear hQj hL hjz hjP
        obtain ⟨xg, xo, xn, xc⟩ := x
        unfold Pgh.val at hhd
        simp only at hhd hxg hq8
        have hJ1 := hJa _ _ (wr.alloc (.cells #[.slice (some ⟨xg, xo, none⟩) xn xc] 105)) none hJ (World.grownBy_alloc wr _ none) (fun r e => by cases e)
        have hBr : B ≤ wr.heap.size := Nat.le_trans hBW hK.1.size
        have hK1 := hK.alloc hBr (.cells #[.slice (some ⟨xg, xo, none⟩) xn xc] 105)
        have Hp := Lib.hid (show ∀ W', KpN B wr W' → PgA W' ⟨xg, xo, xn, xc⟩ l1 from fun W' hk => hp.fr (T := fun k => B ≤ k) ⟨⟨hk.1.os, hk.1.tape, hk.1.output⟩, hk.1.size, fun k _ hn => hk.1.block k (by omega)⟩ (by show ¬ B ≤ xg; omega))
        have HKr := Lib.hid hK
        have hxn : xn ≤ 8 := by rw [hq8]; exact hqB.out
        have Hq8 := Lib.hid hq8
        clear hq8
        obtain ⟨G, HG⟩ : ∃ G, Hid (G = wr.heap.size) := ⟨_, Lib.hid rfl⟩
        have hKr1 := (KpN.refl B wr).alloc hBr (.cells #[.slice (some ⟨xg, xo, none⟩) xn xc] 105)
        gi_wp2
        gi_loopw [21] (fun kv wx => ∃ i : Nat, i ≤ xn ∧ kv = .int .i64 (i : Int) ∧ J (fromP ((Q.take j).flatten ++ l1.take i) lo) wx ∧ KpN B wr wx) (fun k _ => xn - (intOf k).toNat)
        case atStart => exact ⟨0, by omega, rfl, by simpa using hJ1, hKr1⟩
        case round =>
          clear hJ hK hJ1 hK1 hKr1 hhd
          obtain ⟨i, hix, rfl, hJ, hK⟩ := hrel
          by_cases hlt2 : i < xn
          · have hil : i < l1.length := by rw [← Hq8.out]; exact hlt2
            obtain ⟨c0, c1⟩ := (Hp.out wr hK).pair hil
            simp only at c0 c1
            have Hsn : Hid (fromP ((Q.take j).flatten ++ l1.take (i + 1)) lo = fromP ((Q.take j).flatten ++ l1.take i) lo ++ fromP [l1[i]] lo) := Lib.hid (by
              rw [List.take_succ_eq_append_getElem hil, ← List.append_assoc, fromP_app (_ ++ _)])
            rw [fromP_one] at Hsn
            have hpr1 := Hpre.out (i + 1)
            generalize l1[i] = y at *
            obtain ⟨yk, yv⟩ := y
            simp only at c0 c1 Hsn
            have hBx : B ≤ wr.heap.size := Nat.le_trans (Nat.le_trans hBW HKr.out.1.size) hK.1.size
            have hK2 := hK.alloc hBx (.cells #[.int .i64 (yk : Int), .int .i64 yv] 54)
            have hlo := Hb2.out _ (HKr.out.trans hK2)
            have hbx := Bk.made wr 54 #[.int .i64 (yk : Int), .int .i64 yv]
            have d0 : (wr.alloc (.cells #[.int .i64 (yk : Int), .int .i64 yv] 54)).cell? ⟨wr.heap.size, 0, none⟩ = some (.int .i64 (yk : Int)) := hbx.cell 0
            have d1 : (wr.alloc (.cells #[.int .i64 (yk : Int), .int .i64 yv] 54)).cell? ⟨wr.heap.size, 1, none⟩ = some (.int .i64 yv) := hbx.cell 1
            have hJ2 := hJa _ _ (wr.alloc (.cells #[.int .i64 (yk : Int), .int .i64 yv] 54)) none hJ (World.grownBy_alloc wr _ none) (fun r e => by cases e)
            clear hbx hJ
            by_cases hge : lo ≤ (yk : Int)
            · rw [if_pos hge] at Hsn
              have hdec : decide (lo ≤ (yk : Int)) = true := by simpa using hge
              have hplen : (fromP ((Q.take j).flatten ++ l1.take i) lo).length < (fromP P.flatten lo).length := by
                rw [Hfh.out, Hsn.out] at hpr1
                have := hpr1.length_le
                simp at this
                omega
              have Hpr1 := Lib.hid hpr1
              obtain ⟨fn, tmps, assign, body, hy, hR⟩ := hY _ (yk, yv) _ hJ2 hplen
              unfold encP at hy
              dsimp only at hy
              clear hplen hpr1 hJ2
              gi_wp2
              refine hR.mono ?_
              rintro e W3 (⟨rfl, hJ3, hk3⟩ | ⟨rfl, hJx3⟩)
              · have hK3 := hK2.trans hk3
                clear c0 c1 d0 d1 hlo hR hy hk3 hK hK2
                gi_wp2
                go_roundw
                case rel => exact ⟨i + 1, by omega, by go_num, by rw [Hsn.out]; exact hJ3, hK3⟩
                case measure => simp [intOf]; omega
              · clear c0 c1 d0 d1 hlo hR hy hK hK2
                gi_wp2
                refine bodyPost_ret (results_none rfl _ _ _) rfl ?_
                exact ⟨⟨_, rfl⟩, .inr ⟨_, by rw [← Hsn.out, ← Hfh.out]; exact Hpr1.out, hJx3⟩⟩
            · rw [if_neg hge, List.append_nil] at Hsn
              have hdec : decide (lo ≤ (yk : Int)) = false := by simpa using hge
              clear hpr1
              gi_wp2
              refine ⟨fun _ h => (by cases h), ?_⟩
              clear c0 c1 d0 d1 hlo hK
              gi_wp2
              go_roundw
              case rel => exact ⟨i + 1, by omega, by go_num, by rw [Hsn.out]; exact hJ2, hK2⟩
              case measure => simp [intOf]; omega
          · have hxi : i = xn := by omega
            have hJ4 : J (fromP (Q.take (j + 1)).flatten lo) wr := by
              rw [Hnx.out, ← Hq8.out, ← hxi]
              exact hJ
            have hK4 := HKr.out.trans hK
            clear hJ hK
            gi_wp2
            go_roundw
            case rel => exact ⟨j + 1, by omega, by go_num, hJ4, hK4⟩
            case measure => simp [intOf]; omega
      · have hall : Q.take j = Q := List.take_of_length_le (by rw [← hmQ.out]; omega)
        rw [hall, Hfh.out] at hJ
        gi_wp2
        go_end0
        exact ⟨⟨_, rfl⟩, .inl ⟨_, rfl, hJ⟩⟩
end Go.Proofs.YthenadijiepmnaaGreat
/- Package pages: the pairs of some keys. -/
namespace Go.Proofs.YthenadijiepmnaaGreat
open Go.RowKit Go.Shelf

attribute [local go_sem] Oper.semAt_some

set_option maxHeartbeats 1000000 in
theorem from_in (F : Fence) (n : Nat) (hF : F.fn 39) (hro : F.round = none) (A : Option Addr) (m c : Nat) (lo : Int) (w : World) :
    CallsIn F n Tryz.prog 39 #[.slice A m c, .int .i64 lo] w fun e w' => e = .returned (.func (.func 57) #[] #[.pointer (some ⟨w.heap.size, 0, none⟩), .pointer (some ⟨w.heap.size + 1, 0, none⟩)]) ∧
      w' = (w.alloc (.cells #[.slice A m c] 68)).alloc (.cells #[.int .i64 lo] 3) := by
  refine callsIn_of_wp Tryz.func39 rfl hF ?_ hro
  simp only [Tryz.ntmps39, List.size_toArray, List.length_cons, List.length_nil, Nat.reduceAdd, Nat.reduceSub, Array.replicate_succ, Array.replicate_zero, List.push_toArray, List.append_toArray, List.nil_append, List.cons_append]
  gi_wp2
  go_ret
  exact ⟨rfl, rfl⟩

set_option maxRecDepth 100000 in
set_option maxHeartbeats 4000000 in
theorem from1_none (n l bl bk : Nat) (A : Option Addr) (c : Nat) (lo : Int) (J : List (Nat × Int) → World → Prop) (W : World) (hn : 1 ≤ n) (hJa : AbidesFrom W.heap.size J)
    (b1 : Bk W bl 68 #[.slice A 0 c]) (b2 : Bk W bk 3 #[.int .i64 lo]) (h0 : J [] W) :
    CallsIn Fence.wide n Tryz.prog 57 #[.func (.yield l) #[] #[], .pointer (some ⟨bl, 0, none⟩), .pointer (some ⟨bk, 0, none⟩)] W fun e W' => (∃ v, e = .returned v) ∧ J [] W' := by
  have x0 : W.cell? ⟨bl, 0, none⟩ = some (.slice A 0 c) := b1.cell 0
  have x1 : W.cell? ⟨bk, 0, none⟩ = some (.int .i64 lo) := b2.cell 0
  have Hb1 := Lib.hid b1
  have Hb2 := Lib.hid b2
  clear b1 b2
  refine callsIn_of_wp Tryz.func57 rfl trivial ?_ rfl
  simp only [Tryz.ntmps57, List.size_toArray, List.length_cons, List.length_nil, Nat.reduceAdd, Nat.reduceSub, Array.replicate_succ, Array.replicate_zero, List.push_toArray, List.append_toArray, List.nil_append, List.cons_append]
  gi_wp2_with fail
  gi_cut [12, 13, 14] from 8 (fun s12 s13 s14 wx => (∃ A' c', s12 = .slice A' 0 c') ∧ s13 = .int .i64 0 ∧ s14 = .int .i64 0 ∧ J [] wx)
  case first =>
    first | gi_region_with (first
      | (refine ⟨trivial, ?_⟩
         gi_at_call 58
         refine (callsIn_wide.2 (home_none A c lo _)).mono ?_
         rintro e w1 ⟨rfl, f1⟩
         have F1 := ((Fr.refl No W).drew).trans' f1 (fun _ _ e => e)
         have y0 : w1.cell? ⟨bl, 0, none⟩ = some (.slice A 0 c) := (Hb1.out.fr F1 (fun e => e)).cell 0
         have y1 : w1.cell? ⟨bk, 0, none⟩ = some (.int .i64 lo) := (Hb2.out.fr F1 (fun e => e)).cell 0)) | fail
    all_goals
      have hJ1 := hJa _ _ w1 none h0 F1.grownBy (fun r e => by cases e)
      gi_wp2
      gi_meet
      exact ⟨⟨_, _, rfl⟩, rfl, rfl, hJ1⟩
  case rest =>
    obtain ⟨⟨A', c', rfl⟩, rfl, rfl, hJ0⟩ := hcut
    gi_wp2
    gi_loopw [14] (fun iv wr => iv = .int .i64 0 ∧ J [] wr) (fun _ _ => 0)
    case atStart => exact ⟨rfl, hJ0⟩
    case round =>
      obtain ⟨rfl, hJ⟩ := hrel
      gi_wp2
      go_end0
      exact ⟨⟨_, rfl⟩, hJ⟩

section
variable {w : World} {S : Nat → Prop} {q o c : Nat} {hs : List Pgh} {P : List Pg}
theorem from_stops (n B bl bk : Nat) (lo : Int) (hi : InvP P) (hne : P ≠ []) (hn : 1 ≤ n) (hBW : B ≤ w.heap.size) (hSB : ∀ k, S k → k < B) (h : LsN w S q o c hs P)
    (b1 : Bk w bl 68 #[.slice (some ⟨q, o, none⟩) hs.length c]) (b2 : Bk w bk 3 #[.int .i64 lo]) :
    SeqStopsK Fence.wide n Tryz.prog 57 #[.pointer (some ⟨bl, 0, none⟩), .pointer (some ⟨bk, 0, none⟩)] encP (KpN B) (fun ys => ys = fromP P.flatten lo) (fun pre => pre <+: fromP P.flatten lo) (fromP P.flatten lo).length w := fun l J Jx W hW hJ _ hY h0 =>
  from1_in n l B bl bk S q o c hs P lo hi hne J Jx W hn hJ (Nat.le_trans hBW hW.size) hSB hY (h.fr (Fr.ofBelow hW (fun _ => False)) (fun _ _ e => e)) ((hW.block bl b1.lt).trans b1) ((hW.block bk b2.lt).trans b2) h0
theorem from_stops0 (n B bl bk : Nat) (A : Option Addr) (lo : Int) (hn : 1 ≤ n) (b1 : Bk w bl 68 #[.slice A 0 c]) (b2 : Bk w bk 3 #[.int .i64 lo]) :
    SeqStopsK Fence.wide n Tryz.prog 57 #[.pointer (some ⟨bl, 0, none⟩), .pointer (some ⟨bk, 0, none⟩)] encP (KpN B) (fun ys => ys = fromP [] lo) (fun pre => pre <+: fromP [] lo) (fromP [] lo).length w := fun l J _ W hW hJ _ _ h0 =>
  (from1_none n l bl bk A c lo J W hn hJ ((hW.block bl b1.lt).trans b1) ((hW.block bk b2.lt).trans b2) h0).mono (fun _ _ ⟨h1, h2⟩ => ⟨h1, .inl ⟨_, rfl, h2⟩⟩)

theorem bk_own {β : Type} (B g : Nat) (t : TypeId) (cs : Array Value) : OwnFrom B (fun (_ : β) W => Bk W g t cs) := fun _ X Y row hs hg hr =>
  hs.grown hg (fun e => by
    obtain ⟨-, o, ho, hc⟩ := hr g e
    rw [show X.heap[g]? = _ from hs] at ho
    cases ho
    cases hc)
theorem row_own {β : Type} (B n₀ : Nat) (e : TypeId) (size : Nat) (v : Value) (n : Nat) (xs : List Value) : OwnFrom B (fun (_ : β) W => W.ownsRow n₀ e size v n xs) := fun _ X Y row hs hg hr => by
  refine hs.kept hg ?_
  rcases hs.2 with ⟨rfl, _⟩ | ⟨g, cap, cur, rfl, _, hgb, _⟩
  · exact .inl rfl
  · refine .inr fun e' => ?_
    obtain ⟨-, o, ho, hc⟩ := hr g (by simpa [Value.ownBlock] using e'.symm)
    rw [show X.heap[g]? = _ from hgb] at ho
    cases ho
    cases hc

/-- What has come into the list of a scan. -/
def ScI (w : World) (Bl Bh : Nat) (hi' : Int) (pre : List (Nat × Int)) (W : World) : Prop :=
  (∃ v, Boxed W Bl 28 v ∧ W.ownsRow w.heap.size 54 2 v pre.length (prs pre)) ∧ Boxed W Bh 3 (.int .i64 hi') ∧ Below w.heap.size w W
theorem ScI.own (w : World) (Bl Bh : Nat) (hi' : Int) (B : Nat) (hB : w.heap.size ≤ B) : OwnFrom B (ScI w Bl Bh hi') := by
  intro pre X Y row ⟨⟨v, h1, h2⟩, h3, h4⟩ hg hr
  exact ⟨⟨v, bk_own B Bl _ #[v] () X Y row h1 hg hr, row_own B w.heap.size _ 2 v _ _ () X Y row h2 hg hr⟩, bk_own B Bh _ #[.int .i64 hi'] () X Y row h3 hg hr, ownFrom_below (β := Unit) (Nat.le_refl _) hB () X Y row h4 hg hr⟩
theorem scan_from (l : List (Nat × Int)) (lo hi' : Int) : scanP l lo hi' = (fromP l lo).filter fun x => decide ((x.1 : Int) ≤ hi') := by
  unfold scanP fromP
  rw [List.filter_filter]
  congr 1
  funext x
  rw [Bool.and_comm]
theorem scan_done {L : List (Nat × Int)} {hi' : Int} (h : ∀ x ∈ L, (x.1 : Int) ≤ hi') : (L.filter fun x => decide ((x.1 : Int) ≤ hi')) = L := List.filter_eq_self.2 (fun x hx => by simpa using h x hx)
theorem scan_stop {L : List (Nat × Int)} {hi' : Int} (hr : Rise L) {pre : List (Nat × Int)} {x : Nat × Int} (hp : pre ++ [x] <+: L) (h : ∀ y ∈ pre, (y.1 : Int) ≤ hi') (hx : hi' < (x.1 : Int)) : (L.filter fun x => decide ((x.1 : Int) ≤ hi')) = pre := by
  obtain ⟨r, rfl⟩ := hp
  obtain ⟨-, -, h3⟩ := Rise.app hr
  rw [List.append_assoc, List.filter_append, scan_done h]
  have : (([x] ++ r).filter fun x => decide ((x.1 : Int) ≤ hi')) = [] := by
    rw [List.filter_eq_nil_iff]
    intro y hy
    simp only [List.cons_append, List.nil_append, List.mem_cons] at hy
    rcases hy with rfl | hy
    · simpa using hx
    · have := h3 x (by simp) y hy
      simp
      omega
  rw [this, List.append_nil]

/-- How the iterator of a store gives its pairs. -/
def Stops (w : World) (lo : Int) (L : List (Nat × Int)) (A : Option Addr) (n c : Nat) : Prop :=
  ∀ W bl bk, Fr No w W → Bk W bl 68 #[.slice A n c] → Bk W bk 3 #[.int .i64 lo] →
    SeqStopsK Fence.wide 2 Tryz.prog 57 #[.pointer (some ⟨bl, 0, none⟩), .pointer (some ⟨bk, 0, none⟩)] encP (KpN w.heap.size) (fun ys => ys = L) (fun pre => pre <+: L) L.length W

set_option maxRecDepth 100000 in
set_option maxHeartbeats 4000000 in
theorem scan_wide (p : Option Addr) (lo hi' : Int) (L : List (Nat × Int)) (A : Option Addr) (n c : Nat) (hL : L.length ≤ 1000) (hr : Rise L)
    (hal : ∀ W, Fr No w W → Calls Tryz.prog 38 #[.pointer p] W fun e w' => e = .returned (.slice A n c) ∧ w' = W) (hst : Stops w lo L A n c) :
    Calls Tryz.prog 16 #[.pointer p, .int .i64 lo, .int .i64 hi'] w fun e w' => ∃ B cb, e = .returned (.slice B (L.filter fun x => decide ((x.1 : Int) ≤ hi')).length cb) ∧ Sl w' w'.heap.size B (prs (L.filter fun x => decide ((x.1 : Int) ≤ hi'))) ∧ Fr No w w' := by
  refine (callsIn_wide (n := 3)).1 ?_
  have h1 : 1 ≤ 3 := by omega
  obtain ⟨i0, hi, hz0, hz1, hz2⟩ := info_parts info_pair
  have f0 := ((Fr.refl No w).alloc (.cells #[.int .i64 hi'] 3)).alloc (.cells #[.slice none 0 0] 28)
  have q := hal _ f0
  refine callsIn_of_wp_marks Tryz.func16 rfl trivial ?_ rfl
  simp only [Tryz.ntmps16, List.size_toArray, List.length_cons, List.length_nil, Nat.reduceAdd, Nat.reduceSub, Array.replicate_succ, Array.replicate_zero, List.push_toArray, List.append_toArray, List.nil_append, List.cons_append]
  gi_wp2_with (first
    | (refine ⟨trivial, ?_⟩; gi_at_call 38; refine (callsIn_wide.2 q).mono ?_; rintro e w1 ⟨rfl, rfl⟩)
    | (refine ⟨trivial, ?_⟩; gi_at_call 39; refine (from_in Fence.wide _ trivial rfl _ _ _ _ _).mono ?_; rintro e w' ⟨rfl, rfl⟩))
  obtain ⟨W0, hW0⟩ : ∃ W0, W0 = ((((w.alloc (.cells #[.int .i64 hi'] 3)).alloc (.cells #[.slice none 0 0] 28)).alloc (.cells #[.slice A n c] 68)).alloc (.cells #[.int .i64 lo] 3)) := ⟨_, rfl⟩
  have hsz : W0.heap.size = w.heap.size + 4 := by rw [hW0]; simp
  have hF0 : Fr No w W0 := by rw [hW0]; exact (f0.alloc _).alloc _
  have bH : Boxed W0 w.heap.size 3 (.int .i64 hi') := by rw [hW0]; exact (((Boxed.new w _ _).alloc _).alloc _).alloc _
  have bL : Boxed W0 (w.heap.size + 1) 28 (.slice none 0 0) := by rw [hW0]; exact (Boxed.alloc (Boxed.alloc (Bk.made1 w _ _ _) _) _)
  have b1 : Bk W0 (w.heap.size + 1 + 1) 68 #[.slice A n c] := by
    rw [hW0]
    have := (Bk.made1 (w.alloc (.cells #[.int .i64 hi'] 3)) (.cells #[.slice none 0 0] 28) 68 #[.slice A n c]).alloc (.cells #[.int .i64 lo] 3)
    rwa [World.size_alloc] at this
  have b2 : Bk W0 (w.heap.size + 1 + 1 + 1) 3 #[.int .i64 lo] := by
    rw [hW0]
    have := Bk.made1 ((w.alloc (.cells #[.int .i64 hi'] 3)).alloc (.cells #[.slice none 0 0] 28)) (.cells #[.slice A n c] 68) 3 #[.int .i64 lo]
    rwa [World.size_alloc, World.size_alloc] at this
  have hB0 : w.heap.size ≤ W0.heap.size := by omega
  rw [← hW0]
  clear hW0 q f0
  refine wpIn_rangeFunc_ownH rfl h1 (gf := 57) (lb := #[.pointer (some ⟨w.heap.size + 1 + 1, 0, none⟩), .pointer (some ⟨w.heap.size + 1 + 1 + 1, 0, none⟩)]) rfl trivial (enters_of Tryz.func57 (by kernel_rfl) rfl)
    (hst W0 (w.heap.size + 1 + 1) (w.heap.size + 1 + 1 + 1) hF0 b1 b2) KpN.trans (KpN.putObj hB0) (Below.refl _ _) (fun _ => rfl)
    (fun pre W => (∀ y ∈ pre, (y.1 : Int) ≤ hi') ∧ ScI w (w.heap.size + 1) w.heap.size hi' pre W)
    (fun cd pre W => cd = .exit 0 ∧ ∃ pre0 x, pre = pre0 ++ [x] ∧ hi' < (x.1 : Int) ∧ (∀ y ∈ pre0, (y.1 : Int) ≤ hi') ∧ ScI w (w.heap.size + 1) w.heap.size hi' pre0 W)
    (OwnFrom.and (ownFrom_pure _ _) (ScI.own _ _ _ _ _ hB0))
    (fun cd pre X Y row hs hg hr => by
      obtain ⟨e, pre0, x, a1, a2, a3, a4⟩ := hs
      exact ⟨e, pre0, x, a1, a2, a3, ScI.own _ _ _ _ _ hB0 pre0 X Y row a4 hg hr⟩)
    ⟨(fun y hy => by cases hy), ⟨_, bL, World.ownsRow_nil _ _ _ _⟩, bH, hF0.below0⟩
    (fun x a' W => ∃ Bx, w.heap.size + 1 < Bx ∧ Bk W Bx 54 #[.int .i64 (x.1 : Int), .int .i64 x.2] ∧ a' = { tmps := #[.pointer p, .int .i64 lo, .int .i64 hi', undef, undef,
          .pointer (some ⟨w.heap.size, 0, none⟩), .slice none 0 0, .pointer (some ⟨w.heap.size + 1, 0, none⟩), .pointer (some ⟨Bx, 0, none⟩), .pointer p, .slice A n c, .int .i64 lo,
          .func (.func 57) #[] #[.pointer (some ⟨w.heap.size + 1 + 1, 0, none⟩), .pointer (some ⟨w.heap.size + 1 + 1 + 1, 0, none⟩)], .agg #[.int .i64 (x.1 : Int), .int .i64 x.2], undef, undef, undef, undef, undef, undef, undef, undef, undef], defers := [] })
    (fun x a' _ X Y row hs hg hr => by
      obtain ⟨Bx, a1, a2, a3⟩ := hs
      exact ⟨Bx, a1, bk_own _ Bx _ _ () X Y row a2 hg hr, a3⟩)
    ?assign ?body ?done ?stop
  case assign =>
    rintro l pre x W K ⟨hle, ⟨v, hv, hrow⟩, hb, hB⟩ hK
    have hx0 : Bk (W.alloc (.cells #[.int .i64 (x.1 : Int), .int .i64 x.2] 54)) W.heap.size 54 #[.int .i64 (x.1 : Int), .int .i64 x.2] := Bk.made W _ _
    have hlt := hv.lt
    unfold encP
    gi_wp2
    exact hK _ _ ((KeepsOthers.alloc _ _).from _) ((KpN.refl _ W).alloc hB.size _) ⟨hle, ⟨v, hv.alloc _, hrow.alloc _⟩, hb.alloc _, hB.alloc hB.size _⟩ ⟨W.heap.size, by omega, hx0, rfl⟩
  case body =>
    rintro l pre ⟨xk, xv⟩ a' W hl ⟨r, hr⟩ ⟨hle, ⟨v, hv, hrow⟩, hb, hB⟩ ⟨Bx, hBx, hbx, rfl⟩ hlt
    have hc := hv.cell
    have hch := hb.cell
    have y0 : W.cell? ⟨Bx, 0, none⟩ = some (.int .i64 (xk : Int)) := hbx.cell 0
    have y1 : W.cell? ⟨Bx, 1, none⟩ = some (.int .i64 xv) := hbx.cell 1
    have hpl : pre.length ≤ 1000 := by omega
    by_cases hgt : hi' < (xk : Int)
    · have hX : Hid (∃ pre0 x, pre ++ [(xk, xv)] = pre0 ++ [x] ∧ hi' < (x.1 : Int) ∧ (∀ y ∈ pre0, (y.1 : Int) ≤ hi') ∧ ScI w (w.heap.size + 1) w.heap.size hi' pre0 W) := Lib.hid ⟨pre, (xk, xv), rfl, hgt, hle, ⟨v, hv, hrow⟩, hb, hB⟩
      clear hle hv hrow hb hB hbx
      gi_wp2
      exact ⟨(KeepsOthers.refl _).from _, rfl, hX.out⟩
    · have HL2 : Hid (∀ y ∈ pre ++ [(xk, xv)], (y.1 : Int) ≤ hi') := Lib.hid (fun y hy => by
        rcases List.mem_append.1 hy with hy | hy
        · exact hle y hy
        · rw [List.mem_singleton.1 hy]
          show (xk : Int) ≤ hi'
          omega)
      gi_wp2_with (gi_at_builtin; refine wpListIn_append_own _ rfl _ _ 28 rfl w.heap.size 54 i0 (.agg #[.int .i64 0, .int .i64 0]) 2 16 Tryz.underlying28 hi hz0 hz1 hz2 rfl (by decide) _ _ _ rfl (hrow.alloc _) ⟨W.heap.size, 0, none⟩ 1 1 [.int .i64 (xk : Int), .int .i64 xv] rfl rfl (World.news_of_block (Bk.made W 54 #[.int .i64 (xk : Int), .int .i64 xv])) (by intro u hu; simp at hu; rcases hu with rfl | rfl <;> rfl) (by unfold maxLen; omega) (by omega) (by have := hB.size; simp; omega) ?_; intro v' w2 hown' hgrow _; obtain ⟨g', cap', rfl⟩ := ownsRow_succ hown'; obtain ⟨hv1, hv2, hr2, hk2, hb2⟩ := hv.appended (by decide) hrow hB.size (by omega) hown' hgrow; have hc1 := hv1.cell; have hf1 := hv1.frozen)
      have hneB : ∀ k, v.ownBlock = some k → ∀ g t cs, (t = 68 ∨ t = 3) → Bk W g t cs → g ≠ k := fun k hk g t cs ht hbk e => own_apart hrow hbk (by rcases ht with rfl | rfl <;> decide) (e ▸ hk)
      have hKp : KpN w.heap.size W (w2.setCell ⟨w.heap.size + 1, 0, none⟩ (.slice (some ⟨g', 0, none⟩) (pre.length + 1) cap')) := ⟨hb2, fun g t cs ht hbk => by
        have hne : g ≠ w.heap.size + 1 := Bk.apart hbk hv (by rcases ht with rfl | rfl <;> decide)
        refine Bk.setCell_other (Bk.grown (hbk.alloc (.cells #[.int .i64 (xk : Int), .int .i64 xv] 54)) hgrow ?_) hne _
        exact own_apart hrow hbk (by rcases ht with rfl | rfl <;> decide)⟩
      refine ⟨hk2.from _, hKp, by first | exact HL2.out | simpa using HL2.out, ⟨_, hv2, ?_⟩, ?_, hB.trans hb2⟩
      · have e : (pre ++ [(xk, xv)]).length = pre.length + 1 := by simp
        rw [prs_app, e]
        exact hr2
      · exact hKp.2 _ _ _ (.inr rfl) hb
  case done =>
    rintro D zs W hD rfl ⟨hle, ⟨v, hv, hrow⟩, hb, hB⟩ hK
    have hc := hv.cell
    obtain ⟨A', c', rfl, -, -, -⟩ := own_shape hrow
    have Hsd := Lib.hid (scan_done hle)
    have HF := Lib.hid (fun o' => hB.trans (belowK_b (w := w) (Nat.le_refl _) W D _ o' (by omega) hK rfl rfl))
    have Hsl := Lib.hid (fun o' => Sl.ofOwn (ownsRow_putObj hrow o' hK rfl))
    clear hle hB hv hb
    gi_wp2
    refine ⟨by simp, .inl ⟨_, _, rfl, run_takeDeferred hK, ?_⟩⟩
    exact ⟨_, results_tmp rfl _ _ _, A', c', by rw [Hsd.out]; rfl, by rw [Hsd.out]; exact Hsl.out _, Fr.ofBelow (HF.out _) _⟩
  case stop =>
    rintro D cd pre W hD hpre ⟨rfl, pre0, x, rfl, hx, hle, ⟨v, hv, hrow⟩, hb, hB⟩ hK
    have hc := hv.cell
    obtain ⟨A', c', rfl, -, -, -⟩ := own_shape hrow
    have Hsd := Lib.hid (scan_stop hr hpre hle hx)
    have HF := Lib.hid (fun o' => hB.trans (belowK_b (w := w) (Nat.le_refl _) W D _ o' (by omega) hK rfl rfl))
    have Hsl := Lib.hid (fun o' => Sl.ofOwn (ownsRow_putObj hrow o' hK rfl))
    clear hle hB hv hb hpre hx
    gi_wp2
    refine ⟨by simp, .inl ⟨_, _, rfl, run_takeDeferred hK, ?_⟩⟩
    exact ⟨_, results_tmp rfl _ _ _, A', c', by rw [Hsd.out]; rfl, by rw [Hsd.out]; exact Hsl.out _, Fr.ofBelow (HF.out _) _⟩
end
end Go.Proofs.YthenadijiepmnaaGreat
/- Package pages: the pairs of a store, and whether two stores have the same. -/
namespace Go.Proofs.YthenadijiepmnaaGreat
open Go.RowKit

section
variable {w : World} {S : Nat → Prop} {s : Nat} {P : List Pg}
theorem stops_of (hi : InvP P) (h : PS w S s P) (lo : Int) : ∃ A c, (∀ W, Fr No w W → W.cell? ⟨s, 0, none⟩ = some (.slice A P.length c)) ∧ Stops w lo (fromP P.flatten lo) A P.length c := by
  obtain ⟨A, c, h1, h2⟩ := h.list
  have hlt := h.lt
  obtain ⟨v, hb, -⟩ := h
  refine ⟨A, c, fun W hW => ?_, fun W bl bk hW b1 b2 => ?_⟩
  · have e0 := (hb.cell 0).symm.trans h1
    have e1 := (hb.fr hW (fun e => e)).cell 0
    rw [e1]
    exact e0
  · by_cases hne : P = []
    · subst hne
      exact from_stops0 2 w.heap.size bl bk A lo (by omega) b1 b2
    · obtain ⟨q, o, hs, rfl, hl, hL⟩ := h2 hne
      rw [← hl] at b1
      exact from_stops 2 w.heap.size bl bk lo hi hne (by omega) hW.size hlt (hL.since hW) b1 b2
theorem rise_from {l : List (Nat × Int)} (h : Rise l) (lo : Int) : Rise (fromP l lo) := List.Pairwise.filter _ h
theorem from_len (l : List (Nat × Int)) (lo : Int) : (fromP l lo).length ≤ l.length := List.length_filter_le _ _
theorem pScan_any (lo hi' : Int) (hi : InvP P) (h : PS w S s P) :
    Calls Tryz.prog 16 #[.pointer (some ⟨s, 0, none⟩), .int .i64 lo, .int .i64 hi'] w fun e w' => ∃ A c, e = .returned (.slice A (scanP P.flatten lo hi').length c) ∧ Sl w' w'.heap.size A (prs (scanP P.flatten lo hi')) ∧ Fr No w w' := by
  obtain ⟨A, c, h1, h2⟩ := stops_of hi h lo
  have hl := hi.len.1
  have := scan_wide (w := w) (some ⟨s, 0, none⟩) lo hi' (fromP P.flatten lo) A P.length c (by have := from_len P.flatten lo; omega) (rise_from hi.rise lo) (fun W hW => all_val A _ c (h1 W hW)) h2
  rw [scan_from]
  exact this
theorem pScan_nil (lo hi' : Int) (w : World) : Calls Tryz.prog 16 #[.pointer none, .int .i64 lo, .int .i64 hi'] w fun e w' => ∃ A c, e = .returned (.slice A 0 c) ∧ Fr No w w' := by
  have := scan_wide (w := w) none lo hi' [] none 0 0 (by simp) Rise.nil (fun W _ => pAll_nil W) (fun W bl bk hW b1 b2 => from_stops0 2 w.heap.size bl bk none lo (by omega) b1 b2)
  refine this.mono ?_
  rintro e w' ⟨A, c, rfl, -, hf⟩
  exact ⟨A, c, rfl, hf⟩

theorem scan_all (hi : InvP P) (h : PS w S s P) : ∀ W, Fr No w W → Calls Tryz.prog 16 #[.pointer (some ⟨s, 0, none⟩), .int .i64 0, .int .i64 999] W fun e w' => ∃ A c, e = .returned (.slice A P.flatten.length c) ∧ Sl w' w'.heap.size A (prs P.flatten) ∧ Fr No W w' := fun W hW => by
  have := pScan_any 0 999 hi (h.fr hW (fun _ _ e => e))
  rwa [scanP_all hi.key] at this
theorem scan_nil (w : World) : ∀ W, Fr No w W → Calls Tryz.prog 16 #[.pointer none, .int .i64 0, .int .i64 999] W fun e w' => ∃ A c, e = .returned (.slice A ([] : Pg).length c) ∧ Sl w' w'.heap.size A (prs []) ∧ Fr No W w' := fun W _ =>
  (pScan_nil 0 999 W).mono (by rintro e w' ⟨A, c, rfl, hf⟩; exact ⟨A, c, rfl, Sl.nil _ _ _, hf⟩)
end
end Go.Proofs.YthenadijiepmnaaGreat
