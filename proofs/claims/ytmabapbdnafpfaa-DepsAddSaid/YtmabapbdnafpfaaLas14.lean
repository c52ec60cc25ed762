/- Package units: the nodes of a history, from the last one on. -/
import Derived.RangeFuncBox
import Derived.RangeFuncLeaves
import Derived.RangeFuncNested
import Derived.RangeFuncCalls
import Derived.Shelf.Abstract
import Derived.WalkKit
import Derived.OwnWalkIn
import Derived.TacticsInMore
import Derived.LoopNIn
import Derived.LoopIn
import Derived.Stop.RegionWithIn
import Derived.Sort.CutIn
import Derived.Test.YtmabapbdnafpfaaUnt14
import Derived.Test.YtmabapbdnafpfaaMy11
namespace Go.Proofs.Ytmabapbdnafpfaa
open Go.RowKit Go.Shelf

attribute [local go_sem] Oper.semAt_some

/-- What the loop's body keeps: what lies below B, and boxes of histories. -/
def KpN (B : Nat) (W W' : World) : Prop := Below B W W' ∧ ∀ g cs, Bk W g 22 cs → Bk W' g 22 cs
section
variable {B : Nat} {X Y Z : World}
theorem KpN.refl (B : Nat) (W : World) : KpN B W W := ⟨Below.refl _ _, fun _ _ h => h⟩
theorem KpN.trans (h : KpN B X Y) (k : KpN B Y Z) : KpN B X Z := ⟨h.1.trans k.1, fun g cs hb => k.2 g cs (h.2 g cs hb)⟩
theorem KpN.putObj {w : World} (hB : B ≤ w.heap.size) (W : World) (l : Nat) (o o' : Obj) (hl : w.heap.size ≤ l) (h : W.heap[l]? = some o) (hc : o.isCells = false) (_hw : o.isWalk = false) : KpN B W (W.putObj l o') :=
  ⟨belowK_b hB W l o o' hl h hc _hw, fun g cs hb => by
    refine (World.putObj_heap_other (fun e => ?_)).trans hb
    subst e
    have := (show W.heap[g]? = _ from hb).symm.trans h
    injection this with this
    rw [← this] at hc
    cases hc⟩
theorem KpN.fr0 (h : KpN B X Y) (hf : Fr No Y Z) (hB : B ≤ Y.heap.size) : KpN B X Z :=
  ⟨h.1.trans (hf.toBelow hB (fun _ e => e.elim)), fun g cs hb => (h.2 g cs hb).fr hf (fun e => e)⟩
end
/-- A node's place, with the node. -/
abbrev BX (l : List Ndl) := {i : Nat // i < l.length}
def encB {l : List Ndl} (x : BX l) : Array Value := #[.int .i64 (x.1 : Int), (l[x.1]'x.2).agg]
/-- The places from the last one down to j. -/
def dnL (m j : Nat) : List Nat := ((List.range m).drop j).reverse
theorem dnL_step {m j : Nat} (h : j < m) : dnL m j = dnL m (j + 1) ++ [j] := by
  unfold dnL
  rw [List.drop_eq_getElem_cons (by rw [List.length_range]; exact h), List.reverse_cons, List.getElem_range]
theorem dnL_all (m : Nat) : dnL m m = [] := by
  unfold dnL
  rw [List.drop_eq_nil_of_le (by rw [List.length_range]; omega)]
  rfl
theorem dnL_len (m j : Nat) : (dnL m j).length = m - j := by
  unfold dnL
  rw [List.length_reverse, List.length_drop, List.length_range]
theorem dnL_pre (m j : Nat) : dnL m j <+: dnL m 0 := by
  unfold dnL
  have h := (List.take_append_drop j (List.range m))
  rw [List.drop_zero]
  conv => rhs; rw [← h]
  rw [List.reverse_append]
  exact List.prefix_append _ _
theorem dnL_at {m k : Nat} (h : k < m) : (dnL m 0)[k]? = some (m - 1 - k) := by
  unfold dnL
  rw [List.drop_zero, List.getElem?_reverse (by rw [List.length_range]; exact h), List.length_range, List.getElem?_range (by omega)]
/-- The first of the places from the end of which p is true is the last one. -/
theorem last_of_pre {p : Nat → Bool} {m : Nat} {ks : List Nat} {q : Nat} (h : ks ++ [q] <+: dnL m 0) (hno : ∀ k ∈ ks, p k = false) (hq : p q = true) : lastP p m = (q : Int) := by
  have hl := h.length_le
  rw [List.length_append, List.length_singleton, dnL_len] at hl
  have hat : ∀ k, k < ks.length + 1 → (ks ++ [q])[k]? = some (m - 1 - k) := fun k hk => by
    have h1 : (ks ++ [q])[k]? = (dnL m 0)[k]? := by
      obtain ⟨t, ht⟩ := h
      rw [← ht]
      exact (List.getElem?_append_left (by rw [List.length_append, List.length_singleton]; exact hk)).symm
    rw [h1, dnL_at (by omega)]
  have hqe : q = m - 1 - ks.length := by
    have := hat ks.length (by omega)
    rw [List.getElem?_append_right (Nat.le_refl _), Nat.sub_self] at this
    simpa using this
  refine lastP_at (by omega) hq (fun j hj hjm => ?_)
  have hj2 := hat (m - 1 - j) (by omega)
  rw [List.getElem?_append_left (by omega)] at hj2
  have hmem := List.mem_of_getElem? hj2
  rw [show m - 1 - (m - 1 - j) = j by omega] at hmem
  exact hno j hmem
theorem none_of_pre {p : Nat → Bool} {m : Nat} (hno : ∀ k ∈ dnL m 0, p k = false) : lastP p m = -1 := by
  refine lastP_none (fun k hk => hno k ?_)
  have := dnL_at (m := m) (k := m - 1 - k) (by omega)
  rw [show m - 1 - (m - 1 - k) = k by omega] at this
  exact List.mem_of_getElem? this

set_option maxHeartbeats 1000000 in
theorem backward_in (F : Fence) (n : Nat) (hF : F.fn 26) (hro : F.round = none) (A : Option Addr) (m c : Nat) (w : World) :
    CallsIn F n Try.prog 26 #[.slice A m c] w fun e w' => e = .returned (.func (.func 33) #[] #[.pointer (some ⟨w.heap.size, 0, none⟩)]) ∧ w' = w.alloc (.cells #[.slice A m c] 22) := by
  refine callsIn_of_wp Try.func26 rfl hF ?_ hro
  simp only [Try.ntmps26, List.size_toArray, List.length_cons, List.length_nil, Nat.reduceAdd, Nat.reduceSub, Array.replicate_succ, Array.replicate_zero, List.push_toArray, List.append_toArray, List.nil_append, List.cons_append]
  gi_wp2
  go_ret
  exact ⟨rfl, rfl⟩

set_option maxRecDepth 100000 in
set_option maxHeartbeats 4000000 in
theorem back1_in (n lp B bx : Nat) (l : List Ndl) (A : Option Addr) (m c : Nat) (W : World) (hn : 1 ≤ n) (hs : Sl W B A (l.flatMap Ndl.cells)) (hm : l.length = m) (_ : B ≤ W.heap.size) (b : Bk W bx 22 #[.slice A m c])
    (hl : m ≤ 1099511627776) (J Jx : List (BX l) → World → Prop)
    (hY : ∀ pre x W1, J pre W1 → pre.length < l.length → YieldAt Fence.wide (n - 1) Try.prog lp (encB x) W1 fun e W' =>
      (e = .returned (.bool true) ∧ J (pre ++ [x]) W' ∧ KpN B W1 W') ∨ (e = .returned (.bool false) ∧ Jx (pre ++ [x]) W')) (h0 : J [] W) :
    CallsIn Fence.wide n Try.prog 33 #[.func (.yield lp) #[] #[], .pointer (some ⟨bx, 0, none⟩)] W fun e V => (∃ v, e = .returned v) ∧
      ((∃ ys, ys.map (·.1) = dnL l.length 0 ∧ J ys V) ∨ (∃ pre, pre.map (·.1) <+: dnL l.length 0 ∧ Jx pre V)) := by
  have Hb := Lib.hid (fun V (hV : KpN B W V) => hV.2 bx _ b)
  have Hs := Lib.hid (fun V (hV : KpN B W V) => show Sl V B A (l.flatMap Ndl.cells) from hs.below hV.1)
  have Hm := Lib.hid hm
  have b0 := b.cell 0
  simp at b0
  clear b hs hm
  refine callsIn_of_wp Try.func33 rfl trivial ?_ rfl
  simp only [Try.ntmps33, List.size_toArray, List.length_cons, List.length_nil, Nat.reduceAdd, Nat.reduceSub, Array.replicate_succ, Array.replicate_zero, List.push_toArray, List.append_toArray, List.nil_append, List.cons_append]
  gi_wp2_with fail
  clear b0
  gi_loopw [3] (fun iv wr => ∃ (j : Nat) (pre : List (BX l)), j ≤ m ∧ iv = .int .i64 ((j : Int) - 1) ∧ Hid (pre.map (·.1) = dnL m j) ∧ J pre wr ∧ KpN B W wr) (fun i _ => (intOf i + 1).toNat)
  case atStart => exact ⟨m, [], by omega, rfl, Lib.hid (dnL_all m).symm, h0, KpN.refl _ _⟩
  case round =>
    obtain ⟨j, pre, hj, rfl, hpre, hJ, hK⟩ := hrel
    by_cases hlt : 0 < j
    · obtain ⟨k, rfl⟩ : ∃ k, j = k + 1 := ⟨j - 1, by omega⟩
      have hkl : k < l.length := by rw [Hm.out]; omega
      have hpl : pre.length < l.length := by
        have := congrArg List.length hpre.out
        rw [List.length_map, dnL_len] at this
        rw [Hm.out]
        omega
      obtain ⟨ad, e1, hb1, c0, c1, c2, c3, c4, c5⟩ := (Hs.out _ hK).nd hkl
      have b0 := (Hb.out _ hK).cell 0
      simp at b0
      obtain ⟨fn, tmps, assign, body, hy, hR⟩ := hY pre ⟨k, hkl⟩ _ hJ hpl
      unfold encB Ndl.agg Ndl.arr at hy
      dsimp only at hy
      have Hnx : Hid ((pre ++ [⟨k, hkl⟩] : List (BX l)).map (·.1) = dnL m k) := Lib.hid (by
        rw [List.map_append, hpre.out, dnL_step (show k < m by omega)]
        rfl)
      have hkk : (((k + 1 : Nat) : Int) - 1) = (k : Int) := by omega
      rw [hkk]
      have HK := Lib.hid hK
      obtain ⟨X, hX⟩ : ∃ X, X = (pre ++ [⟨k, hkl⟩] : List (BX l)) := ⟨_, rfl⟩
      rw [← hX] at hR Hnx
      generalize l[k] = x at *
      have hkm : ((k : Nat) : Int) < (m : Int) := by omega
      subst e1
      clear hX hpre hJ hK hkk hpl
      gi_wp2
      refine hR.mono ?_
      rintro e W3 (⟨rfl, hJ3, hK3⟩ | ⟨rfl, hJx⟩)
      · have hK4 := HK.out.trans hK3
        clear hK3 hR hy
        gi_wp2
        go_roundw
        case rel => exact ⟨k, _, by omega, by go_num, Hnx, hJ3, hK4⟩
        case measure => simp [intOf] <;> omega
      · clear hR hy
        gi_wp2
        refine bodyPost_ret (results_none rfl _ _ _) rfl ?_
        refine ⟨⟨_, rfl⟩, .inr ⟨_, ?_, hJx⟩⟩
        rw [Hnx.out, Hm.out]
        exact dnL_pre m k
    · obtain rfl : j = 0 := by omega
      have hp2 := hpre.out
      rw [← Hm.out] at hp2
      clear hpre
      gi_wp2
      go_end0
      exact ⟨⟨_, rfl⟩, .inl ⟨_, hp2, hJ⟩⟩
end Go.Proofs.Ytmabapbdnafpfaa
/- Package units: the last node of a history that a function tells. -/
namespace Go.Proofs.Ytmabapbdnafpfaa
open Go.RowKit Go.Shelf

attribute [local go_sem] Oper.semAt_some

theorem bk_ownN {β : Type} (B g : Nat) (t : TypeId) (cs : Array Value) : OwnFrom B (fun (_ : β) W => Bk W g t cs) := fun _ X Y row hs hg hr =>
  hs.grown hg (fun e => by
    obtain ⟨-, o, ho, hc⟩ := hr g e
    rw [show X.heap[g]? = _ from hs] at ho
    cases ho
    cases hc)
/-- One has been found. -/
def LstX (w : World) (p : Nat → Bool) {l : List Ndl} (pre : List (BX l)) (W : World) : Prop :=
  (∃ ks q, pre.map (·.1) = ks ++ [q] ∧ (∀ k ∈ ks, p k = false) ∧ p q = true ∧ Bk W (w.heap.size + 1) 3 #[.int .i64 (q : Int)]) ∧ Below w.heap.size w W
theorem LstX.own (w : World) (p : Nat → Bool) (l : List Ndl) (B : Nat) (hB : w.heap.size ≤ B) : OwnFrom B (LstX w p (l := l)) := by
  intro pre X Y row ⟨⟨ks, q, h1, h2, h3, h4⟩, h5⟩ hg hr
  exact ⟨⟨ks, q, h1, h2, h3, bk_ownN B _ _ _ () X Y row h4 hg hr⟩, ownFrom_below (β := Unit) (Nat.le_refl _) hB () X Y row h5 hg hr⟩

end Go.Proofs.Ytmabapbdnafpfaa
