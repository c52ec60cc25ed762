/- Package pages: the pairs of a store, from a key on, one by one. -/
import Derived.RangeFuncBox
import Derived.RangeFuncLeaves
import Derived.RangeFuncNested
import Derived.Shelf.Abstract
import Derived.WalkKit
import Derived.OwnWalkIn
import Derived.TacticsInMore
import Derived.LoopNIn
import Derived.LoopIn
import Derived.Maps.AppendAt
import Derived.Stop.RegionWithIn
import Derived.Sort.CutIn
import Derived.Test.YtenmiociinogeaaOfs5
namespace Go.Proofs.Ytenmiociinogeaa
open Go.RowKit Go.Shelf

attribute [local go_sem] Oper.semAt_some

/-- What the loop's body keeps: what lay below B, and boxes of lists of pages and of keys. -/
def KpN (B : Nat) (W W' : World) : Prop := Below B W W' ∧ ∀ g t cs, (t = 26 ∨ t = 3) → Bk W g t cs → Bk W' g t cs
theorem KpN.refl (B : Nat) (W : World) : KpN B W W := ⟨Below.refl _ _, fun _ _ _ _ h => h⟩
theorem KpN.trans {B : Nat} {X Y Z : World} (h : KpN B X Y) (k : KpN B Y Z) : KpN B X Z := ⟨h.1.trans k.1, fun g t cs ht hb => k.2 g t cs ht (h.2 g t cs ht hb)⟩
theorem KpN.putObj {B : Nat} {w : World} (hB : B ≤ w.heap.size) (W : World) (l : Nat) (o o' : Obj) (hl : w.heap.size ≤ l) (h : W.heap[l]? = some o) (hc : o.isCells = false) (hw : o.isWalk = false) : KpN B W (W.putObj l o') :=
  ⟨belowK_b hB W l o o' hl h hc hw, fun g t cs _ hb => by
    refine (World.putObj_heap_other (fun e => ?_)).trans hb
    subst e
    have := (show W.heap[g]? = _ from hb).symm.trans h
    injection this with this
    rw [← this] at hc
    cases hc⟩
theorem KpN.alloc {B : Nat} {X Y : World} (h : KpN B X Y) (hB : B ≤ Y.heap.size) (o : Obj) : KpN B X (Y.alloc o) := ⟨h.1.alloc hB o, fun g t cs ht hb => (h.2 g t cs ht hb).alloc o⟩
theorem KpN.fr0 {B : Nat} {X Y Z : World} (h : KpN B X Y) (hf : Fr No Y Z) (hB : B ≤ Y.heap.size) : KpN B X Z :=
  ⟨h.1.trans (hf.toBelow hB (fun _ e => e.elim)), fun g t cs ht hb => (h.2 g t cs ht hb).fr hf (fun e => e)⟩
theorem LsN.kp {B : Nat} {W W' : World} {S : Nat → Prop} {q o c : Nat} {hs : List Pgh} {P : List Pg} (h : LsN W S q o c hs P) (hk : KpN B W W') (hS : ∀ k, S k → k < B) : LsN W' S q o c hs P :=
  h.fr (T := fun k => B ≤ k) ⟨⟨hk.1.os, hk.1.tape, hk.1.output⟩, hk.1.size, fun k _ hn => hk.1.block k (by omega)⟩ (fun k hk2 e => by have := hS k hk2; omega)

theorem Fr.grownBy {W W' : World} (h : Fr No W W') : W.grownBy W' none := ⟨h.same.1, h.same.2.1, h.same.2.2, h.size, fun k hk _ => h.block k hk (fun e => e)⟩

/-- The pairs whose keys aren't below lo. -/
def fromP (l : List (Nat × Int)) (lo : Int) : List (Nat × Int) := l.filter fun x => decide (lo ≤ (x.1 : Int))
theorem fromP_app (a b : List (Nat × Int)) (lo : Int) : fromP (a ++ b) lo = fromP a lo ++ fromP b lo := by simp [fromP]
theorem fromP_one (x : Nat × Int) (lo : Int) : fromP [x] lo = if lo ≤ (x.1 : Int) then [x] else [] := by
  unfold fromP
  by_cases h : lo ≤ (x.1 : Int)
  · rw [if_pos h, List.filter_cons_of_pos (by simpa using h)]; rfl
  · rw [if_neg h, List.filter_cons_of_neg (by simpa using h)]; rfl
/-- What is ahead of the page to which lo belongs has no key from lo on. -/
theorem from_home {P : List Pg} (hi : InvP P) (lo : Int) : fromP (P.drop (homeP P lo)).flatten lo = fromP P.flatten lo := by
  have h1 : P.flatten = (P.take (homeP P lo)).flatten ++ (P.drop (homeP P lo)).flatten := by
    rw [← List.flatten_append, List.take_append_drop]
  have h2 : fromP (P.take (homeP P lo)).flatten lo = [] := by
    unfold fromP
    rw [List.filter_eq_nil_iff]
    intro x hx
    obtain ⟨p, hp, hxp⟩ := List.mem_flatten.1 hx
    obtain ⟨j, hj, rfl⟩ := List.mem_iff_getElem.1 hp
    have hj' : j < homeP P lo ∧ j < P.length := by rw [List.length_take] at hj; omega
    have hle := hposP_le P lo
    have hj1 : j + 1 < P.length := by have := hj'.1; unfold homeP at this; omega
    have hhead := (hposP_iff hi lo (j + 1) hj1).2 (by have := hj'.1; unfold homeP at this; omega)
    have hone := (hi.one _ (List.getElem_mem hj1)).1
    rw [headK_at hone] at hhead
    rw [List.getElem_take] at hxp
    have hr := hi.rise
    have e1 : P = P.take (j + 1) ++ P.drop (j + 1) := (List.take_append_drop _ _).symm
    rw [e1, List.flatten_append] at hr
    have hlt := (Rise.app hr).2.2 x (List.mem_flatten.2 ⟨P[j], List.mem_iff_getElem.2 ⟨j, by rw [List.length_take]; omega, by rw [List.getElem_take]⟩, hxp⟩) P[j + 1][0] (List.mem_flatten.2 ⟨P[j + 1], List.mem_iff_getElem.2 ⟨0, by rw [List.length_drop]; omega, by simp⟩, List.getElem_mem _⟩)
    simp only [decide_eq_true_eq]
    omega
  rw [h1, fromP_app, h2, List.nil_append]
theorem fromP_pre (Q : List Pg) (j i : Nat) (lo : Int) (hj : j < Q.length) : fromP ((Q.take j).flatten ++ Q[j].take i) lo <+: fromP Q.flatten lo := by
  have h1 : Q.flatten = ((Q.take j).flatten ++ Q[j].take i) ++ (Q[j].drop i ++ (Q.drop (j + 1)).flatten) := by
    conv => lhs; rw [← List.take_append_drop j Q, List.flatten_append, List.drop_eq_getElem_cons hj, List.flatten_cons]
    rw [List.append_assoc, ← List.append_assoc (Q[j].take i), List.take_append_drop]
  have h2 := fromP_app ((Q.take j).flatten ++ Q[j].take i) (Q[j].drop i ++ (Q.drop (j + 1)).flatten) lo
  rw [h1, h2]
  exact List.prefix_append _ _

def encP (x : Nat × Int) : Array Value := #[.agg #[.int .i64 (x.1 : Int), .int .i64 x.2]]
set_option maxRecDepth 100000 in
set_option maxHeartbeats 4000000 in
theorem from1_in (n l B bl bk : Nat) (S : Nat → Prop) (q o c : Nat) (hs : List Pgh) (P : List Pg) (lo : Int) (hi : InvP P) (hne : P ≠ []) (J Jx : List (Nat × Int) → World → Prop) (W : World) (hn : 1 ≤ n) (hJa : AbidesFrom W.heap.size J) (hBW : B ≤ W.heap.size) (hSB : ∀ k, S k → k < B)
    (hY : ∀ pre x W1, J pre W1 → pre.length < (fromP P.flatten lo).length → YieldAt Fence.wide (n - 1) Try.prog l (encP x) W1 fun e W' =>
      (e = .returned (.bool true) ∧ J (pre ++ [x]) W' ∧ KpN B W1 W') ∨ (e = .returned (.bool false) ∧ Jx (pre ++ [x]) W'))
    (h : LsN W S q o c hs P) (b1 : Bk W bl 26 #[.slice (some ⟨q, o, none⟩) hs.length c]) (b2 : Bk W bk 3 #[.int .i64 lo]) (h0 : J [] W) :
    CallsIn Fence.wide n Try.prog 45 #[.func (.yield l) #[] #[], .pointer (some ⟨bl, 0, none⟩), .pointer (some ⟨bk, 0, none⟩)] W fun e W' => (∃ v, e = .returned v) ∧
      ((∃ ys, ys = fromP P.flatten lo ∧ J ys W') ∨ (∃ pre, pre <+: fromP P.flatten lo ∧ Jx pre W')) := by
  have hlen := hi.len
  have hll := h.len
  have hhl := homeP_lt hne lo
  have hhm := home_any S q o c hs P hi lo
  have Hfh := Lib.hid (from_home hi lo)
  have Hone := Lib.hid hi.one
  obtain ⟨h0', Hh0⟩ : ∃ h0', Hid (h0' = homeP P lo) := ⟨_, Lib.hid rfl⟩
  rw [← Hh0.out] at Hfh hhm hhl
  obtain ⟨Q, HQ⟩ : ∃ Q, Hid (Q = P.drop h0') := ⟨_, Lib.hid rfl⟩
  rw [← HQ.out] at Hfh
  have hQl : Q.length = P.length - h0' := by rw [HQ.out, List.length_drop]
  have Hhs := Lib.hid (show ∀ W', KpN B W W' → LsN W' S q o c hs P from fun W' hk => h.kp hk hSB)
  have Hb1 := Lib.hid (show ∀ W', KpN B W W' → W'.cell? ⟨bl, 0, none⟩ = some (.slice (some ⟨q, o, none⟩) hs.length c) from fun W' hk => (hk.2 _ _ _ (.inl rfl) b1).cell 0)
  have Hb2 := Lib.hid (show ∀ W', KpN B W W' → W'.cell? ⟨bk, 0, none⟩ = some (.int .i64 lo) from fun W' hk => (hk.2 _ _ _ (.inr rfl) b2).cell 0)
  have Hcal := Lib.hid (show ∀ W', KpN B W W' → Calls Try.prog 37 #[.slice (some ⟨q, o, none⟩) hs.length c, .int .i64 lo] W' fun e w' => e = .returned (.int .i64 h0') ∧ Fr No W' w' from fun W' hk => hhm W' (h.kp hk hSB))
  have hle := h.le
  have hmx := h.max
  obtain ⟨z, Hz⟩ : ∃ z, Hid (z = hs.length) := ⟨_, Lib.hid rfl⟩
  rw [← Hz.out] at Hb1 Hcal hle hll
  have hzl : z ≤ 1000 := by omega
  have hhz : h0' < z := by omega
  have x0 := Hb1.out W (KpN.refl _ _)
  have x1 := Hb2.out W (KpN.refl _ _)
  have hch : ¬ c = h0' := by omega
  have hch2 : h0' ≤ z := by omega
  have hch3 : (h0' : Int) ≤ (z : Int) := by omega
  have hcm : c ≤ 9223372036854775807 := by unfold maxLen at hmx; omega
  have Hll := Lib.hid hll
  clear h b1 b2 hhm hi hlen hmx hll
  refine callsIn_of_wp Try.func45 rfl trivial ?_ rfl
  simp only [Try.ntmps45, List.size_toArray, List.length_cons, List.length_nil, Nat.reduceAdd, Nat.reduceSub, Array.replicate_succ, Array.replicate_zero, List.push_toArray, List.append_toArray, List.nil_append, List.cons_append]
  gi_wp2_with fail
  gi_cut [12, 13, 14] from 8 (fun s12 s13 s14 wx => s12 = .slice (some ⟨q, o + h0', none⟩) (z - h0') (c - h0') ∧ s13 = .int .i64 ((z - h0' : Nat) : Int) ∧ s14 = .int .i64 0 ∧ J [] wx ∧ KpN B W wx)
  case first =>
    first | gi_region_with (first
      | (refine ⟨trivial, ?_⟩
         gi_at_call 37
         refine (callsIn_wide.2 (Hcal.out _ (by first | exact KpN.refl _ _ | exact (KpN.refl _ _).fr0 ((Fr.refl No W).drew) hBW))).mono ?_
         rintro e w1 ⟨rfl, f1⟩
         have F1 := ((Fr.refl No W).drew).trans' f1 (fun _ _ e => e)
         have K1 := (KpN.refl B W).fr0 F1 hBW
         have y0 := Hb1.out w1 K1
         have y1 := Hb2.out w1 K1)) | fail
    all_goals
      have hJ1 := hJa _ _ w1 none h0 F1.grownBy (fun r e => by cases e)
      gi_wp2
      gi_meet
      exact ⟨rfl, rfl, rfl, hJ1, K1⟩
  case rest =>
    obtain ⟨rfl, rfl, rfl, hJ0, hK0⟩ := hcut
    clear x0 x1 Hcal Hb1 h0
    obtain ⟨m, Hm⟩ : ∃ m, Hid (m = z - h0') := ⟨_, Lib.hid rfl⟩
    have hm : m ≤ 1000 := by rw [Hm.out]; omega
    have hmQ : Hid (m = Q.length) := Lib.hid (by rw [Hm.out, hQl, Hll.out])
    rw [← Hm.out]
    clear hQl
    gi_wp2
    gi_loopw [14] (fun iv wr => ∃ j : Nat, j ≤ m ∧ iv = .int .i64 j ∧ J (fromP (Q.take j).flatten lo) wr ∧ KpN B W wr) (fun i _ => m - (intOf i).toNat)
    case atStart => exact ⟨0, by omega, rfl, hJ0, hK0⟩
    case round =>
      clear hJ0 hK0
      obtain ⟨j, hj, rfl, hJ, hK⟩ := hrel
      by_cases hlt : j < m
      · have hjQ : j < Q.length := by rw [← hmQ.out]; exact hlt
        have hjz : h0' + j < hs.length := by rw [← Hz.out]; have := Hm.out; omega
        have hjP : h0' + j < P.length := by rw [← Hll.out]; have := Hm.out; omega
        have hL := Hhs.out wr hK
        have hhd := hL.hdr hjz
        have hp := hL.pg (h0' + j) hjz hjP
        have hQj : Q[j] = P[h0' + j] := by
          have h1 : Q[j] = (P.drop h0')[j]'(by rw [← HQ.out]; exact hjQ) := by congr 1
          rw [h1, List.getElem_drop]
        rw [← hQj] at hp
        rw [show o + (h0' + j) = o + h0' + j by omega] at hhd
        have hxg := hSB _ (hL.sg _ (List.getElem_mem hjz))
        have Hpre := Lib.hid (fun i => fromP_pre Q j i lo hjQ)
        have Hnx : Hid (fromP (Q.take (j + 1)).flatten lo = fromP ((Q.take j).flatten ++ Q[j].take Q[j].length) lo) := Lib.hid (by
          rw [flat_snoc Q j hjQ, List.take_length])
        have hq8 := hp.len
        have hqB : Hid (Q[j].length ≤ 8) := Lib.hid (by
          rw [hQj]
          exact (Hone.out _ (List.getElem_mem hjP)).2)
        generalize hs[h0' + j] = x at *
        obtain ⟨l1, Hl1⟩ : ∃ l1, Hid (l1 = Q[j]) := ⟨_, Lib.hid rfl⟩
        rw [← Hl1.out] at hp Hpre Hnx hq8 hqB
        clear hQj hL hjz hjP
        obtain ⟨xg, xo, xn, xc⟩ := x
        unfold Pgh.val at hhd
        simp only at hhd hxg hq8
        have hJ1 := hJa _ _ (wr.alloc (.cells #[.slice (some ⟨xg, xo, none⟩) xn xc] 72)) none hJ (World.grownBy_alloc wr _ none) (fun r e => by cases e)
        have hBr : B ≤ wr.heap.size := Nat.le_trans hBW hK.1.size
        have hK1 := hK.alloc hBr (.cells #[.slice (some ⟨xg, xo, none⟩) xn xc] 72)
        have Hp := Lib.hid (show ∀ W', KpN B wr W' → PgA W' ⟨xg, xo, xn, xc⟩ l1 from fun W' hk => hp.fr (T := fun k => B ≤ k) ⟨⟨hk.1.os, hk.1.tape, hk.1.output⟩, hk.1.size, fun k _ hn => hk.1.block k (by omega)⟩ (by show ¬ B ≤ xg; omega))
        have HKr := Lib.hid hK
        have hxn : xn ≤ 8 := by rw [hq8]; exact hqB.out
        have Hq8 := Lib.hid hq8
        clear hq8
        obtain ⟨G, HG⟩ : ∃ G, Hid (G = wr.heap.size) := ⟨_, Lib.hid rfl⟩
        have hKr1 := (KpN.refl B wr).alloc hBr (.cells #[.slice (some ⟨xg, xo, none⟩) xn xc] 72)
        gi_wp2
        gi_loopw [21] (fun kv wx => ∃ i : Nat, i ≤ xn ∧ kv = .int .i64 (i : Int) ∧ J (fromP ((Q.take j).flatten ++ l1.take i) lo) wx ∧ KpN B wr wx) (fun k _ => xn - (intOf k).toNat)
        case atStart => exact ⟨0, by omega, rfl, by simpa using hJ1, hKr1⟩
        case round =>
          clear hJ hK hJ1 hK1 hKr1 hhd
          obtain ⟨i, hix, rfl, hJ, hK⟩ := hrel
          by_cases hlt2 : i < xn
          · have hil : i < l1.length := by rw [← Hq8.out]; exact hlt2
            obtain ⟨c0, c1⟩ := (Hp.out wr hK).pair hil
            simp only at c0 c1
            have Hsn : Hid (fromP ((Q.take j).flatten ++ l1.take (i + 1)) lo = fromP ((Q.take j).flatten ++ l1.take i) lo ++ fromP [l1[i]] lo) := Lib.hid (by
              rw [List.take_succ_eq_append_getElem hil, ← List.append_assoc, fromP_app (_ ++ _)])
            rw [fromP_one] at Hsn
            have hpr1 := Hpre.out (i + 1)
            generalize l1[i] = y at *
            obtain ⟨yk, yv⟩ := y
            simp only at c0 c1 Hsn
            have hBx : B ≤ wr.heap.size := Nat.le_trans (Nat.le_trans hBW HKr.out.1.size) hK.1.size
            have hK2 := hK.alloc hBx (.cells #[.int .i64 (yk : Int), .int .i64 yv] 50)
            have hlo := Hb2.out _ (HKr.out.trans hK2)
            have hbx := Bk.made wr 50 #[.int .i64 (yk : Int), .int .i64 yv]
            have d0 : (wr.alloc (.cells #[.int .i64 (yk : Int), .int .i64 yv] 50)).cell? ⟨wr.heap.size, 0, none⟩ = some (.int .i64 (yk : Int)) := hbx.cell 0
            have d1 : (wr.alloc (.cells #[.int .i64 (yk : Int), .int .i64 yv] 50)).cell? ⟨wr.heap.size, 1, none⟩ = some (.int .i64 yv) := hbx.cell 1
            have hJ2 := hJa _ _ (wr.alloc (.cells #[.int .i64 (yk : Int), .int .i64 yv] 50)) none hJ (World.grownBy_alloc wr _ none) (fun r e => by cases e)
            clear hbx hJ
            by_cases hge : lo ≤ (yk : Int)
            · rw [if_pos hge] at Hsn
              have hdec : decide (lo ≤ (yk : Int)) = true := by simpa using hge
              have hplen : (fromP ((Q.take j).flatten ++ l1.take i) lo).length < (fromP P.flatten lo).length := by
                rw [Hfh.out, Hsn.out] at hpr1
                have := hpr1.length_le
                simp at this
                omega
              have Hpr1 := Lib.hid hpr1
              obtain ⟨fn, tmps, assign, body, hy, hR⟩ := hY _ (yk, yv) _ hJ2 hplen
              unfold encP at hy
              dsimp only at hy
              clear hplen hpr1 hJ2
              gi_wp2
              refine hR.mono ?_
              rintro e W3 (⟨rfl, hJ3, hk3⟩ | ⟨rfl, hJx3⟩)
              · have hK3 := hK2.trans hk3
                clear c0 c1 d0 d1 hlo hR hy hk3 hK hK2
                gi_wp2
                go_roundw
                case rel => exact ⟨i + 1, by omega, by go_num, by rw [Hsn.out]; exact hJ3, hK3⟩
                case measure => simp [intOf]; omega
              · clear c0 c1 d0 d1 hlo hR hy hK hK2
                gi_wp2
                refine bodyPost_ret (results_none rfl _ _ _) rfl ?_
                exact ⟨⟨_, rfl⟩, .inr ⟨_, by rw [← Hsn.out, ← Hfh.out]; exact Hpr1.out, hJx3⟩⟩
            · rw [if_neg hge, List.append_nil] at Hsn
              have hdec : decide (lo ≤ (yk : Int)) = false := by simpa using hge
              clear hpr1
              gi_wp2
              refine ⟨fun _ h => (by cases h), ?_⟩
              clear c0 c1 d0 d1 hlo hK
              gi_wp2
              go_roundw
              case rel => exact ⟨i + 1, by omega, by go_num, by rw [Hsn.out]; exact hJ2, hK2⟩
              case measure => simp [intOf]; omega
          · have hxi : i = xn := by omega
            have hJ4 : J (fromP (Q.take (j + 1)).flatten lo) wr := by
              rw [Hnx.out, ← Hq8.out, ← hxi]
              exact hJ
            have hK4 := HKr.out.trans hK
            clear hJ hK
            gi_wp2
            go_roundw
            case rel => exact ⟨j + 1, by omega, by go_num, hJ4, hK4⟩
            case measure => simp [intOf]; omega
      · have hall : Q.take j = Q := List.take_of_length_le (by rw [← hmQ.out]; omega)
        rw [hall, Hfh.out] at hJ
        gi_wp2
        go_end0
        exact ⟨⟨_, rfl⟩, .inl ⟨_, rfl, hJ⟩⟩
end Go.Proofs.Ytenmiociinogeaa
