/- Package units: the nodes of a history, from the last one on. -/
import Derived.RangeFuncBox
import Derived.RangeFuncLeaves
import Derived.RangeFuncNested
import Derived.RangeFuncCalls
import Derived.Shelf.Abstract
import Derived.WalkKit
import Derived.OwnWalkIn
import Derived.TacticsInMore
import Derived.LoopNIn
import Derived.LoopIn
import Derived.Stop.RegionWithIn
import Derived.Sort.CutIn
import Derived.Test.YtmeimhpllemjfaaGreatUnt14
import Derived.Test.YtmeimhpllemjfaaGreatMy11
namespace Go.Proofs.YtmeimhpllemjfaaGreat
open Go.RowKit Go.Shelf

attribute [local go_sem] Oper.semAt_some

def KpN (B : Nat) (W W' : World) : Prop := Below B W W' ∧ ∀ g cs, Bk W g 27 cs → Bk W' g 27 cs
section
variable {B : Nat} {X Y Z : World}
theorem KpN.refl (B : Nat) (W : World) : KpN B W W := ⟨Below.refl _ _, fun _ _ h => h⟩
theorem KpN.trans (h : KpN B X Y) (k : KpN B Y Z) : KpN B X Z := ⟨h.1.trans k.1, fun g cs hb => k.2 g cs (h.2 g cs hb)⟩
theorem KpN.putObj {w : World} (hB : B ≤ w.heap.size) (W : World) (l : Nat) (o o' : Obj) (hl : w.heap.size ≤ l) (h : W.heap[l]? = some o) (hc : o.isCells = false) (_hw : o.isWalk = false) : KpN B W (W.putObj l o') :=
 ⟨belowK_b hB W l o o' hl h hc _hw, fun g cs hb => by
  refine (World.putObj_heap_other (fun e => ?_)).trans hb
  subst e
  have := (show W.heap[g]? = _ from hb).symm.trans h
  injection this with this
  rw [← this] at hc
  cases hc⟩
theorem KpN.fr0 (h : KpN B X Y) (hf : Fr No Y Z) (hB : B ≤ Y.heap.size) : KpN B X Z :=
 ⟨h.1.trans (hf.toBelow hB (fun _ e => e.elim)), fun g cs hb => (h.2 g cs hb).fr hf (fun e => e)⟩
end
abbrev BX (l : List Ndl) := {i : Nat // i < l.length}
def encB {l : List Ndl} (x : BX l) : Array Value := #[.int .i64 (x.1 : Int), (l[x.1]'x.2).agg]
def dnL (m j : Nat) : List Nat := ((List.range m).drop j).reverse
theorem dnL_step {m j : Nat} (h : j < m) : dnL m j = dnL m (j + 1) ++ [j] := by
 unfold dnL
 rw [List.drop_eq_getElem_cons (by rw [List.length_range]; exact h), List.reverse_cons, List.getElem_range]
theorem dnL_all (m : Nat) : dnL m m = [] := by
 unfold dnL
 rw [List.drop_eq_nil_of_le (by rw [List.length_range]; omega)]
 rfl
theorem dnL_len (m j : Nat) : (dnL m j).length = m - j := by
 unfold dnL
 rw [List.length_reverse, List.length_drop, List.length_range]
theorem dnL_pre (m j : Nat) : dnL m j <+: dnL m 0 := by
 unfold dnL
 have h := (List.take_append_drop j (List.range m))
 rw [List.drop_zero]
 conv => rhs; rw [← h]
 rw [List.reverse_append]
 exact List.prefix_append _ _
theorem dnL_at {m k : Nat} (h : k < m) : (dnL m 0)[k]? = some (m - 1 - k) := by
 unfold dnL
 rw [List.drop_zero, List.getElem?_reverse (by rw [List.length_range]; exact h), List.length_range, List.getElem?_range (by omega)]
theorem last_of_pre {p : Nat → Bool} {m : Nat} {ks : List Nat} {q : Nat} (h : ks ++ [q] <+: dnL m 0) (hno : ∀ k ∈ ks, p k = false) (hq : p q = true) : lastP p m = (q : Int) := by
 have hl := h.length_le
 rw [List.length_append, List.length_singleton, dnL_len] at hl
 have hat : ∀ k, k < ks.length + 1 → (ks ++ [q])[k]? = some (m - 1 - k) := fun k hk => by
  have h1 : (ks ++ [q])[k]? = (dnL m 0)[k]? := by
   obtain ⟨t, ht⟩ := h
   rw [← ht]
   exact (List.getElem?_append_left (by rw [List.length_append, List.length_singleton]; exact hk)).symm
  rw [h1, dnL_at (by omega)]
 have hqe : q = m - 1 - ks.length := by
  have := hat ks.length (by omega)
  rw [List.getElem?_append_right (Nat.le_refl _), Nat.sub_self] at this
  simpa using this
 refine lastP_at (by omega) hq (fun j hj hjm => ?_)
 have hj2 := hat (m - 1 - j) (by omega)
 rw [List.getElem?_append_left (by omega)] at hj2
 have hmem := List.mem_of_getElem? hj2
 rw [show m - 1 - (m - 1 - j) = j by omega] at hmem
 exact hno j hmem
theorem none_of_pre {p : Nat → Bool} {m : Nat} (hno : ∀ k ∈ dnL m 0, p k = false) : lastP p m = -1 := by
 refine lastP_none (fun k hk => hno k ?_)
 have := dnL_at (m := m) (k := m - 1 - k) (by omega)
 rw [show m - 1 - (m - 1 - k) = k by omega] at this
 exact List.mem_of_getElem? this

set_option maxHeartbeats 1000000 in
theorem backward_in (F : Fence) (n : Nat) (hF : F.fn 61) (hro : F.round = none) (A : Option Addr) (m c : Nat) (w : World) :
  CallsIn F n Tryz.prog 61 #[.slice A m c] w fun e w' => e = .returned (.func (.func 82) #[] #[.pointer (some ⟨w.heap.size, 0, none⟩)]) ∧ w' = w.alloc (.cells #[.slice A m c] 27) := by
 refine callsIn_of_wp Tryz.func61 rfl hF ?_ hro
 simp only [Tryz.ntmps61, List.size_toArray, List.length_cons, List.length_nil, Nat.reduceAdd, Nat.reduceSub, Array.replicate_succ, Array.replicate_zero, List.push_toArray, List.append_toArray, List.nil_append, List.cons_append]
 gi_wp2
 go_ret
 exact ⟨rfl, rfl⟩

set_option maxRecDepth 100000 in
set_option maxHeartbeats 4000000 in
theorem back1_in (n lp B bx : Nat) (l : List Ndl) (A : Option Addr) (m c : Nat) (W : World) (hn : 1 ≤ n) (hs : Sl W B A (l.flatMap Ndl.cells)) (hm : l.length = m) (_ : B ≤ W.heap.size) (b : Bk W bx 27 #[.slice A m c])
  (hl : m ≤ 1099511627776) (J Jx : List (BX l) → World → Prop)
  (hY : ∀ pre x W1, J pre W1 → pre.length < l.length → YieldAt Fence.wide (n - 1) Tryz.prog lp (encB x) W1 fun e W' =>
   (e = .returned (.bool true) ∧ J (pre ++ [x]) W' ∧ KpN B W1 W') ∨ (e = .returned (.bool false) ∧ Jx (pre ++ [x]) W')) (h0 : J [] W) :
  CallsIn Fence.wide n Tryz.prog 82 #[.func (.yield lp) #[] #[], .pointer (some ⟨bx, 0, none⟩)] W fun e V => (∃ v, e = .returned v) ∧
   ((∃ ys, ys.map (·.1) = dnL l.length 0 ∧ J ys V) ∨ (∃ pre, pre.map (·.1) <+: dnL l.length 0 ∧ Jx pre V)) := by
 have Hb := Lib.hid (fun V (hV : KpN B W V) => hV.2 bx _ b)
 have Hs := Lib.hid (fun V (hV : KpN B W V) => show Sl V B A (l.flatMap Ndl.cells) from hs.below hV.1)
 have Hm := Lib.hid hm
 have b0 := b.cell 0
 simp at b0
 clear b hs hm
 refine callsIn_of_wp Tryz.func82 rfl trivial ?_ rfl
 simp only [Tryz.ntmps82, List.size_toArray, List.length_cons, List.length_nil, Nat.reduceAdd, Nat.reduceSub, Array.replicate_succ, Array.replicate_zero, List.push_toArray, List.append_toArray, List.nil_append, List.cons_append]
 gi_wp2_with fail
 clear b0
 gi_loopw [3] (fun iv wr => ∃ (j : Nat) (pre : List (BX l)), j ≤ m ∧ iv = .int .i64 ((j : Int) - 1) ∧ Hid (pre.map (·.1) = dnL m j) ∧ J pre wr ∧ KpN B W wr) (fun i _ => (intOf i + 1).toNat)
 case atStart => exact ⟨m, [], by omega, rfl, Lib.hid (dnL_all m).symm, h0, KpN.refl _ _⟩
 case round =>
  obtain ⟨j, pre, hj, rfl, hpre, hJ, hK⟩ := hrel
  by_cases hlt : 0 < j
  ·obtain ⟨k, rfl⟩ : ∃ k, j = k + 1 := ⟨j - 1, by omega⟩
   have hkl : k < l.length := by rw [Hm.out]; omega
   have hpl : pre.length < l.length := by
    have := congrArg List.length hpre.out
    rw [List.length_map, dnL_len] at this
    rw [Hm.out]
    omega
   obtain ⟨ad, e1, hb1, c0, c1, c2, c3, c4, c5⟩ := (Hs.out _ hK).nd hkl
   have b0 := (Hb.out _ hK).cell 0
   simp at b0
   obtain ⟨fn, tmps, assign, body, hy, hR⟩ := hY pre ⟨k, hkl⟩ _ hJ hpl
   unfold encB Ndl.agg Ndl.arr at hy
   dsimp only at hy
   have Hnx : Hid ((pre ++ [⟨k, hkl⟩] : List (BX l)).map (·.1) = dnL m k) := Lib.hid (by
    rw [List.map_append, hpre.out, dnL_step (show k < m by omega)]
    rfl)
   have hkk : (((k + 1 : Nat) : Int) - 1) = (k : Int) := by omega
   rw [hkk]
   have HK := Lib.hid hK
   obtain ⟨X, hX⟩ : ∃ X, X = (pre ++ [⟨k, hkl⟩] : List (BX l)) := ⟨_, rfl⟩
   rw [← hX] at hR Hnx
   generalize l[k] = x at *
   have hkm : ((k : Nat) : Int) < (m : Int) := by omega
   subst e1
   clear hX hpre hJ hK hkk hpl
   gi_wp2
   refine hR.mono ?_
   rintro e W3 (⟨rfl, hJ3, hK3⟩ | ⟨rfl, hJx⟩)
   ·have hK4 := HK.out.trans hK3
    clear hK3 hR hy
    gi_wp2
    go_roundw
    case rel => exact ⟨k, _, by omega, by go_num, Hnx, hJ3, hK4⟩
    case measure => simp [intOf] <;> omega
   ·clear hR hy
    gi_wp2
    refine bodyPost_ret (results_none rfl _ _ _) rfl ?_
    refine ⟨⟨_, rfl⟩, .inr ⟨_, ?_, hJx⟩⟩
    rw [Hnx.out, Hm.out]
    exact dnL_pre m k
  ·obtain rfl : j = 0 := by omega
   have hp2 := hpre.out
   rw [← Hm.out] at hp2
   clear hpre
   gi_wp2
   go_end0
   exact ⟨⟨_, rfl⟩, .inl ⟨_, hp2, hJ⟩⟩
end Go.Proofs.YtmeimhpllemjfaaGreat
/- Package units: the last node of a history that a function tells. -/
namespace Go.Proofs.YtmeimhpllemjfaaGreat
open Go.RowKit Go.Shelf

attribute [local go_sem] Oper.semAt_some

theorem bk_ownN {β : Type} (B g : Nat) (t : TypeId) (cs : Array Value) : OwnFrom B (fun (_ : β) W => Bk W g t cs) := fun _ X Y row hs hg hr =>
 hs.grown hg (fun e => by
  obtain ⟨-, o, ho, hc⟩ := hr g e
  rw [show X.heap[g]? = _ from hs] at ho
  cases ho
  cases hc)
def LstI (w : World) (fv : Value) (p : Nat → Bool) {l : List Ndl} (pre : List (BX l)) (W : World) : Prop :=
 (∀ q ∈ pre, p q.1 = false) ∧ Bk W w.heap.size 111 #[fv] ∧ Bk W (w.heap.size + 1) 3 #[.int .i64 0] ∧ Below w.heap.size w W
theorem LstI.own (w : World) (fv : Value) (p : Nat → Bool) (l : List Ndl) (B : Nat) (hB : w.heap.size ≤ B) : OwnFrom B (LstI w fv p (l := l)) := by
 intro pre X Y row ⟨h1, h2, h3, h4⟩ hg hr
 exact ⟨h1, bk_ownN B _ _ _ () X Y row h2 hg hr, bk_ownN B _ _ _ () X Y row h3 hg hr, ownFrom_below (β := Unit) (Nat.le_refl _) hB () X Y row h4 hg hr⟩
def LstX (w : World) (p : Nat → Bool) {l : List Ndl} (pre : List (BX l)) (W : World) : Prop :=
 (∃ ks q, pre.map (·.1) = ks ++ [q] ∧ (∀ k ∈ ks, p k = false) ∧ p q = true ∧ Bk W (w.heap.size + 1) 3 #[.int .i64 (q : Int)]) ∧ Below w.heap.size w W
theorem LstX.own (w : World) (p : Nat → Bool) (l : List Ndl) (B : Nat) (hB : w.heap.size ≤ B) : OwnFrom B (LstX w p (l := l)) := by
 intro pre X Y row ⟨⟨ks, q, h1, h2, h3, h4⟩, h5⟩ hg hr
 exact ⟨⟨ks, q, h1, h2, h3, bk_ownN B _ _ _ () X Y row h4 hg hr⟩, ownFrom_below (β := Unit) (Nat.le_refl _) hB () X Y row h5 hg hr⟩

set_option maxRecDepth 100000 in
set_option maxHeartbeats 4000000 in
theorem lastF14 (l : List Ndl) (A : Option Addr) (m c : Nat) (q : Nat) (p : Nat → Bool) (w : World) (hsl : Sl w w.heap.size A (l.flatMap Ndl.cells)) (hm : l.length = m) (hl : m ≤ 1099511627776)
  (hf : ∀ (x : BX l) W, Below w.heap.size w W → Calls Tryz.prog 76 #[(l[x.1]'x.2).agg, .pointer (some ⟨q, 0, none⟩)] W (Has W (p x.1))) :
  Calls Tryz.prog 68 #[.slice A m c, .func (.func 76) #[] #[.pointer (some ⟨q, 0, none⟩)]] w fun e w' => e = .returned (.int .i64 (lastP p m)) ∧ Fr No w w' := by
 refine (callsIn_wide (n := 3)).1 ?_
 have h1 : 1 ≤ 3 := by omega
 obtain ⟨r, hr⟩ : ∃ r, Hid (lastP p m = r) := ⟨_, Lib.hid rfl⟩
 rw [hr.out]
 refine callsIn_of_wp_marks Tryz.func68 rfl trivial ?_ rfl
 simp only [Tryz.ntmps68, List.size_toArray, List.length_cons, List.length_nil, Nat.reduceAdd, Nat.reduceSub, Array.replicate_succ, Array.replicate_zero, List.push_toArray, List.append_toArray, List.nil_append, List.cons_append]
 gi_wp2_with (first
  | (refine ⟨trivial, ?_⟩; gi_at_call 61; refine (backward_in Fence.wide _ trivial rfl _ _ _ _).mono ?_; rintro e w' ⟨rfl, rfl⟩))
 obtain ⟨W0, hW0⟩ : ∃ W0, W0 = ((w.alloc (.cells #[.func (.func 76) #[] #[.pointer (some ⟨q, 0, none⟩)]] 111)).alloc (.cells #[.int .i64 0] 3)).alloc (.cells #[.slice A m c] 27) := ⟨_, rfl⟩
 have hsz : W0.heap.size = w.heap.size + 3 := by rw [hW0]; simp
 have hF0 : Fr No w W0 := by rw [hW0]; exact (((Fr.refl No w).alloc _).alloc _).alloc _
 have bF : Bk W0 w.heap.size 111 #[.func (.func 76) #[] #[.pointer (some ⟨q, 0, none⟩)]] := by rw [hW0]; exact ((Bk.made w _ _).alloc _).alloc _
 have bR : Bk W0 (w.heap.size + 1) 3 #[.int .i64 0] := by
  rw [hW0]
  have := (Bk.made (w.alloc (.cells #[.func (.func 76) #[] #[.pointer (some ⟨q, 0, none⟩)]] 111)) 3 #[.int .i64 0]).alloc (.cells #[.slice A m c] 27)
  rwa [World.size_alloc] at this
 have bP : Bk W0 (w.heap.size + 1 + 1) 27 #[.slice A m c] := by
  rw [hW0]
  have := Bk.made ((w.alloc (.cells #[.func (.func 76) #[] #[.pointer (some ⟨q, 0, none⟩)]] 111)).alloc (.cells #[.int .i64 0] 3)) 27 #[.slice A m c]
  rwa [World.size_alloc, World.size_alloc] at this
 have hB0 : w.heap.size ≤ W0.heap.size := by omega
 have hbw : Below w.heap.size w W0 := hF0.below0
 have HS := Lib.hid hsl
 have Hm := Lib.hid hm
 have Hf := Lib.hid hf
 rw [← hW0]
 clear hW0 hsl hm hf
 have hsq : SeqStopsK Fence.wide 2 Tryz.prog 82 #[.pointer (some ⟨w.heap.size + 1 + 1, 0, none⟩)] (encB (l := l)) (KpN w.heap.size) (fun ys => ys.map (·.1) = dnL l.length 0) (fun pre => pre.map (·.1) <+: dnL l.length 0) l.length W0 := fun lp J Jx W hW hJ _ hY h0 =>
  back1_in 2 lp w.heap.size (w.heap.size + 1 + 1) l A m c W (by omega) (HS.out.below (hbw.trans (hW.mono hB0))) Hm.out (Nat.le_trans hB0 hW.size) ((hW.block _ bP.lt).trans bP) hl J Jx hY h0
 refine wpIn_rangeFunc_ownH rfl h1 (gf := 82) (lb := #[.pointer (some ⟨w.heap.size + 1 + 1, 0, none⟩)]) rfl trivial (enters_of Tryz.func82 (by kernel_rfl) rfl)
  hsq KpN.trans (KpN.putObj hB0) (Below.refl _ _) (fun _ => rfl)
  (LstI w (.func (.func 76) #[] #[.pointer (some ⟨q, 0, none⟩)]) p)
  (fun cd pre W => cd = .ret ∧ LstX w p pre W)
  (LstI.own w _ p l _ hB0)
  (fun cd pre X Y row hs hg hr => ⟨hs.1, LstX.own w p l _ hB0 pre X Y row hs.2 hg hr⟩)
  ⟨(fun q hq => by cases hq), bF, bR, hbw⟩
  (fun x a' W => ∃ Bx, w.heap.size + 1 < Bx ∧ Bk W Bx 37 (l[x.1]'x.2).arr ∧ a' = { tmps := #[.slice A m c, .func (.func 76) #[] #[.pointer (some ⟨q, 0, none⟩)], undef, .pointer (some ⟨w.heap.size, 0, none⟩), .pointer (some ⟨w.heap.size + 1, 0, none⟩), .int .i64 (x.1 : Int), .pointer (some ⟨Bx, 0, none⟩), .slice A m c, .func (.func 82) #[] #[.pointer (some ⟨w.heap.size + 1 + 1, 0, none⟩)], .int .i64 (x.1 : Int), (l[x.1]'x.2).agg, undef, undef, undef, undef], defers := [] })
  (fun x a' _ X Y row hs hg hr => by
   obtain ⟨Bx, a1, a2, a3⟩ := hs
   exact ⟨Bx, a1, bk_ownN _ Bx _ _ () X Y row a2 hg hr, a3⟩)
  ?assign ?body ?done ?stop
 case assign =>
  rintro lp pre ⟨k, hk⟩ W K ⟨hp, hcb, hrb, hB⟩ hK
  have hlt := hrb.lt
  dsimp only
  obtain ⟨y, hy⟩ : ∃ y, l[k] = y := ⟨_, rfl⟩
  dsimp only at hK
  unfold encB at *
  dsimp only at *
  rw [hy] at hK ⊢
  unfold Ndl.agg Ndl.arr at *
  have k1 : Fr No W (W.alloc (.cells #[.int .i64 y.n.saga, .int .i64 y.n.cls, .int .i64 y.n.step, .bool y.n.back, .slice y.rA y.n.rd.length y.rc, .slice y.wA y.n.wt.length y.wc] 37)) := (Fr.refl No W).alloc _
  have hx0 : Bk (W.alloc (.cells #[.int .i64 y.n.saga, .int .i64 y.n.cls, .int .i64 y.n.step, .bool y.n.back, .slice y.rA y.n.rd.length y.rc, .slice y.wA y.n.wt.length y.wc] 37)) W.heap.size 37 #[.int .i64 y.n.saga, .int .i64 y.n.cls, .int .i64 y.n.step, .bool y.n.back, .slice y.rA y.n.rd.length y.rc, .slice y.wA y.n.wt.length y.wc] := Bk.made W _ _
  gi_wp2
  exact hK _ _ ((KeepsOthers.alloc _ _).from _) ((KpN.refl _ W).fr0 k1 hB.size) ⟨hp, hcb.fr k1 (fun e => e), hrb.fr k1 (fun e => e), hB.alloc hB.size _⟩ ⟨W.heap.size, by omega, hx0, rfl⟩
 case body =>
  rintro lp pre ⟨k, hk⟩ a' W hl' hr' ⟨hp, hcb, hrb, hB⟩ ⟨Bx, a1, hbx, rfl⟩ hlt
  dsimp only at hbx ⊢
  have D1 := Lib.hid (Hf.out ⟨k, hk⟩ W hB)
  have HI : Hid (∀ V, Fr No W V → p k = false → KeepsFrom W0.heap.size W V ∧ KpN w.heap.size W V ∧ LstI w (.func (.func 76) #[] #[.pointer (some ⟨q, 0, none⟩)]) p (pre ++ [⟨k, hk⟩]) V) := Lib.hid (fun V h ht => ⟨⟨h.size, fun j o _ hj _ => (h.block j (Array.getElem?_eq_some_iff.1 hj).1 (fun e => e)).trans hj⟩, (KpN.refl _ W).fr0 h hB.size, fun q hq' => by
   rcases List.mem_append.1 hq' with h' | h'
   ·exact hp q h'
   ·rw [List.mem_singleton.1 h']
    exact ht, hcb.fr h (fun e => e), hrb.fr h (fun e => e), hB.trans (h.toBelow hB.size (fun _ e => e.elim))⟩)
  have HX : Hid (∀ V, Fr No W V → p k = true → KeepsFrom W0.heap.size W (V.setCell ⟨w.heap.size + 1, 0, none⟩ (.int .i64 (k : Int))) ∧ LstX w p (pre ++ [⟨k, hk⟩] : List (BX l)) (V.setCell ⟨w.heap.size + 1, 0, none⟩ (.int .i64 (k : Int)))) := Lib.hid (fun V h ht => ⟨⟨by simpa using h.size, fun j o _ hj hc => by
    have h5 := (h.block j (Array.getElem?_eq_some_iff.1 hj).1 (fun e => e)).trans hj
    exact (KeepsOthers.setCell V ⟨w.heap.size + 1, 0, none⟩ (.int .i64 (k : Int))).same j o h5 hc⟩, ⟨pre.map (·.1), k, by rw [List.map_append]; rfl, fun j hj => by
     obtain ⟨q, hq, rfl⟩ := List.mem_map.1 hj
     exact hp q hq, ht, by simpa using (hrb.fr h (fun e => e)).put 0 (.int .i64 (k : Int))⟩, (hB.trans (h.toBelow hB.size (fun _ e => e.elim))).setCell (p := ⟨w.heap.size + 1, 0, none⟩) (Nat.le_succ _) _⟩)
  have HR := Lib.hid (fun V (h : Fr No W V) => And.intro ((hrb.fr h (fun e => e)).cell 0) ((hrb.fr h (fun e => e)).frozen 0))
  obtain ⟨y, hy⟩ : ∃ y, l[k] = y := ⟨_, rfl⟩
  dsimp only at D1
  rw [hy] at D1 hbx ⊢
  have x0 := hbx.cell 0
  have x1 := hbx.cell 1
  have x2 := hbx.cell 2
  have x3 := hbx.cell 3
  have x4 := hbx.cell 4
  have x5 := hbx.cell 5
  have xf : W.cell? ⟨w.heap.size, 0, none⟩ = some (.func (.func 76) #[] #[.pointer (some ⟨q, 0, none⟩)]) := hcb.cell 0
  unfold Ndl.arr at x0 x1 x2 x3 x4 x5
  simp only [List.getElem?_toArray, List.getElem?_cons_zero, List.getElem?_cons_succ] at x0 x1 x2 x3 x4 x5
  unfold Ndl.agg Ndl.arr at D1
  unfold Ndl.agg Ndl.arr
  generalize p k = b at *
  clear hp hcb hrb hbx hB hl' hr' hy Hf
  gi_wp2_with fail
  refine ⟨trivial, ?_⟩
  gi_at_call 76
  refine (callsIn_wide.2 D1.out).mono ?_
  rintro e w1 ⟨rfl, f1⟩
  obtain ⟨d2, d3⟩ := HR.out w1 f1
  simp at d2
  clear x0 x1 x2 x3 x4 x5 xf
  cases b
  ·gi_wp2
   exact HI.out w1 f1 (by first | rfl | trivial)
  ·gi_wp2_with (refine ⟨trivial, ?_⟩)
   exact ⟨(HX.out w1 f1 (by first | rfl | trivial)).1, rfl, (HX.out w1 f1 (by first | rfl | trivial)).2⟩
 case done =>
  rintro D ys W hD hys ⟨hp, hcb, hrb, hB⟩ hK
  have d2 : W.cell? ⟨w.heap.size + 1, 0, none⟩ = some (.int .i64 0) := hrb.cell 0
  have d3 := hrb.frozen 0
  have ht : r = -1 := by
   rw [← hr.out]
   refine none_of_pre (fun k hk => ?_)
   rw [← Hm.out, ← hys] at hk
   obtain ⟨q, hq, rfl⟩ := List.mem_map.1 hk
   exact hp q hq
  have hne : D ≠ w.heap.size + 1 := by omega
  have hK2 : (W.setCell ⟨w.heap.size + 1, 0, none⟩ (.int .i64 (-1))).heap[D]? = some (.deferred (some [])) := (KeepsOthers.setCell W ⟨w.heap.size + 1, 0, none⟩ (.int .i64 (-1))).same D _ hK rfl
  have hr2 : Bk (W.setCell ⟨w.heap.size + 1, 0, none⟩ (.int .i64 (-1))) (w.heap.size + 1) 3 #[.int .i64 (-1)] := by simpa using hrb.put 0 (.int .i64 (-1))
  have hB2 : Below w.heap.size w (W.setCell ⟨w.heap.size + 1, 0, none⟩ (.int .i64 (-1))) := hB.setCell (p := ⟨w.heap.size + 1, 0, none⟩) (Nat.le_succ _) _
  clear hp hcb hrb hys
  gi_wp2
  refine ⟨by simp, .inl ⟨_, _, rfl, run_takeDeferred hK2, ?_⟩⟩
  have hr3 : Bk ((W.setCell ⟨w.heap.size + 1, 0, none⟩ (.int .i64 (-1))).putObj D (.deferred none)) (w.heap.size + 1) 3 #[.int .i64 (-1)] := (World.putObj_heap_other (fun e => hne e.symm)).trans hr2
  have e0 := hr3.cell 0
  exact ⟨.int .i64 (-1), by simp [results, Tryz.results68, go_sem, e0], by first | rfl | rw [ht], Fr.ofBelow (hB2.trans (belowK_b (w := w) (Nat.le_refl _) _ D _ _ (by omega) hK2 rfl rfl)) _⟩
 case stop =>
  rintro D cd pre W hD hpre ⟨rfl, ⟨ks, q', hks, hno, hq, hrb⟩, hB⟩ hK
  have hf : r = (q' : Int) := by
   rw [← hr.out, ← Hm.out]
   exact last_of_pre (by rw [← hks]; exact hpre) hno hq
  have hne : D ≠ w.heap.size + 1 := by omega
  gi_wp2
  refine ⟨by simp, .inl ⟨_, _, rfl, run_takeDeferred hK, ?_⟩⟩
  have hr3 : Bk (W.putObj D (.deferred none)) (w.heap.size + 1) 3 #[.int .i64 (q' : Int)] := (World.putObj_heap_other (fun e => hne e.symm)).trans hrb
  have e0 := hr3.cell 0
  exact ⟨.int .i64 (q' : Int), by simp [results, Tryz.results68, go_sem, e0], by first | rfl | rw [hf], Fr.ofBelow (hB.trans (belowK_b (w := w) (Nat.le_refl _) _ D _ _ (by omega) hK rfl rfl)) _⟩

set_option maxRecDepth 100000 in
set_option maxHeartbeats 4000000 in
theorem lastN14 (l : List Ndl) (A : Option Addr) (m c : Nat) (p : Nat → Bool) (w : World) (hsl : Sl w w.heap.size A (l.flatMap Ndl.cells)) (hm : l.length = m) (hl : m ≤ 1099511627776)
  (hf : ∀ (x : BX l) W, Below w.heap.size w W → Calls Tryz.prog 88 #[(l[x.1]'x.2).agg] W (Has W (p x.1))) :
  Calls Tryz.prog 68 #[.slice A m c, .func (.func 88) #[] #[]] w fun e w' => e = .returned (.int .i64 (lastP p m)) ∧ Fr No w w' := by
 refine (callsIn_wide (n := 3)).1 ?_
 have h1 : 1 ≤ 3 := by omega
 obtain ⟨r, hr⟩ : ∃ r, Hid (lastP p m = r) := ⟨_, Lib.hid rfl⟩
 rw [hr.out]
 refine callsIn_of_wp_marks Tryz.func68 rfl trivial ?_ rfl
 simp only [Tryz.ntmps68, List.size_toArray, List.length_cons, List.length_nil, Nat.reduceAdd, Nat.reduceSub, Array.replicate_succ, Array.replicate_zero, List.push_toArray, List.append_toArray, List.nil_append, List.cons_append]
 gi_wp2_with (first
  | (refine ⟨trivial, ?_⟩; gi_at_call 61; refine (backward_in Fence.wide _ trivial rfl _ _ _ _).mono ?_; rintro e w' ⟨rfl, rfl⟩))
 obtain ⟨W0, hW0⟩ : ∃ W0, W0 = ((w.alloc (.cells #[.func (.func 88) #[] #[]] 111)).alloc (.cells #[.int .i64 0] 3)).alloc (.cells #[.slice A m c] 27) := ⟨_, rfl⟩
 have hsz : W0.heap.size = w.heap.size + 3 := by rw [hW0]; simp
 have hF0 : Fr No w W0 := by rw [hW0]; exact (((Fr.refl No w).alloc _).alloc _).alloc _
 have bF : Bk W0 w.heap.size 111 #[.func (.func 88) #[] #[]] := by rw [hW0]; exact ((Bk.made w _ _).alloc _).alloc _
 have bR : Bk W0 (w.heap.size + 1) 3 #[.int .i64 0] := by
  rw [hW0]
  have := (Bk.made (w.alloc (.cells #[.func (.func 88) #[] #[]] 111)) 3 #[.int .i64 0]).alloc (.cells #[.slice A m c] 27)
  rwa [World.size_alloc] at this
 have bP : Bk W0 (w.heap.size + 1 + 1) 27 #[.slice A m c] := by
  rw [hW0]
  have := Bk.made ((w.alloc (.cells #[.func (.func 88) #[] #[]] 111)).alloc (.cells #[.int .i64 0] 3)) 27 #[.slice A m c]
  rwa [World.size_alloc, World.size_alloc] at this
 have hB0 : w.heap.size ≤ W0.heap.size := by omega
 have hbw : Below w.heap.size w W0 := hF0.below0
 have HS := Lib.hid hsl
 have Hm := Lib.hid hm
 have Hf := Lib.hid hf
 rw [← hW0]
 clear hW0 hsl hm hf
 have hsq : SeqStopsK Fence.wide 2 Tryz.prog 82 #[.pointer (some ⟨w.heap.size + 1 + 1, 0, none⟩)] (encB (l := l)) (KpN w.heap.size) (fun ys => ys.map (·.1) = dnL l.length 0) (fun pre => pre.map (·.1) <+: dnL l.length 0) l.length W0 := fun lp J Jx W hW hJ _ hY h0 =>
  back1_in 2 lp w.heap.size (w.heap.size + 1 + 1) l A m c W (by omega) (HS.out.below (hbw.trans (hW.mono hB0))) Hm.out (Nat.le_trans hB0 hW.size) ((hW.block _ bP.lt).trans bP) hl J Jx hY h0
 refine wpIn_rangeFunc_ownH rfl h1 (gf := 82) (lb := #[.pointer (some ⟨w.heap.size + 1 + 1, 0, none⟩)]) rfl trivial (enters_of Tryz.func82 (by kernel_rfl) rfl)
  hsq KpN.trans (KpN.putObj hB0) (Below.refl _ _) (fun _ => rfl)
  (LstI w (.func (.func 88) #[] #[]) p)
  (fun cd pre W => cd = .ret ∧ LstX w p pre W)
  (LstI.own w _ p l _ hB0)
  (fun cd pre X Y row hs hg hr => ⟨hs.1, LstX.own w p l _ hB0 pre X Y row hs.2 hg hr⟩)
  ⟨(fun q hq => by cases hq), bF, bR, hbw⟩
  (fun x a' W => ∃ Bx, w.heap.size + 1 < Bx ∧ Bk W Bx 37 (l[x.1]'x.2).arr ∧ a' = { tmps := #[.slice A m c, .func (.func 88) #[] #[], undef, .pointer (some ⟨w.heap.size, 0, none⟩), .pointer (some ⟨w.heap.size + 1, 0, none⟩), .int .i64 (x.1 : Int), .pointer (some ⟨Bx, 0, none⟩), .slice A m c, .func (.func 82) #[] #[.pointer (some ⟨w.heap.size + 1 + 1, 0, none⟩)], .int .i64 (x.1 : Int), (l[x.1]'x.2).agg, undef, undef, undef, undef], defers := [] })
  (fun x a' _ X Y row hs hg hr => by
   obtain ⟨Bx, a1, a2, a3⟩ := hs
   exact ⟨Bx, a1, bk_ownN _ Bx _ _ () X Y row a2 hg hr, a3⟩)
  ?assign ?body ?done ?stop
 case assign =>
  rintro lp pre ⟨k, hk⟩ W K ⟨hp, hcb, hrb, hB⟩ hK
  have hlt := hrb.lt
  dsimp only
  obtain ⟨y, hy⟩ : ∃ y, l[k] = y := ⟨_, rfl⟩
  dsimp only at hK
  unfold encB at *
  dsimp only at *
  rw [hy] at hK ⊢
  unfold Ndl.agg Ndl.arr at *
  have k1 : Fr No W (W.alloc (.cells #[.int .i64 y.n.saga, .int .i64 y.n.cls, .int .i64 y.n.step, .bool y.n.back, .slice y.rA y.n.rd.length y.rc, .slice y.wA y.n.wt.length y.wc] 37)) := (Fr.refl No W).alloc _
  have hx0 : Bk (W.alloc (.cells #[.int .i64 y.n.saga, .int .i64 y.n.cls, .int .i64 y.n.step, .bool y.n.back, .slice y.rA y.n.rd.length y.rc, .slice y.wA y.n.wt.length y.wc] 37)) W.heap.size 37 #[.int .i64 y.n.saga, .int .i64 y.n.cls, .int .i64 y.n.step, .bool y.n.back, .slice y.rA y.n.rd.length y.rc, .slice y.wA y.n.wt.length y.wc] := Bk.made W _ _
  gi_wp2
  exact hK _ _ ((KeepsOthers.alloc _ _).from _) ((KpN.refl _ W).fr0 k1 hB.size) ⟨hp, hcb.fr k1 (fun e => e), hrb.fr k1 (fun e => e), hB.alloc hB.size _⟩ ⟨W.heap.size, by omega, hx0, rfl⟩
 case body =>
  rintro lp pre ⟨k, hk⟩ a' W hl' hr' ⟨hp, hcb, hrb, hB⟩ ⟨Bx, a1, hbx, rfl⟩ hlt
  dsimp only at hbx ⊢
  have D1 := Lib.hid (Hf.out ⟨k, hk⟩ W hB)
  have HI : Hid (∀ V, Fr No W V → p k = false → KeepsFrom W0.heap.size W V ∧ KpN w.heap.size W V ∧ LstI w (.func (.func 88) #[] #[]) p (pre ++ [⟨k, hk⟩]) V) := Lib.hid (fun V h ht => ⟨⟨h.size, fun j o _ hj _ => (h.block j (Array.getElem?_eq_some_iff.1 hj).1 (fun e => e)).trans hj⟩, (KpN.refl _ W).fr0 h hB.size, fun q hq' => by
   rcases List.mem_append.1 hq' with h' | h'
   ·exact hp q h'
   ·rw [List.mem_singleton.1 h']
    exact ht, hcb.fr h (fun e => e), hrb.fr h (fun e => e), hB.trans (h.toBelow hB.size (fun _ e => e.elim))⟩)
  have HX : Hid (∀ V, Fr No W V → p k = true → KeepsFrom W0.heap.size W (V.setCell ⟨w.heap.size + 1, 0, none⟩ (.int .i64 (k : Int))) ∧ LstX w p (pre ++ [⟨k, hk⟩] : List (BX l)) (V.setCell ⟨w.heap.size + 1, 0, none⟩ (.int .i64 (k : Int)))) := Lib.hid (fun V h ht => ⟨⟨by simpa using h.size, fun j o _ hj hc => by
    have h5 := (h.block j (Array.getElem?_eq_some_iff.1 hj).1 (fun e => e)).trans hj
    exact (KeepsOthers.setCell V ⟨w.heap.size + 1, 0, none⟩ (.int .i64 (k : Int))).same j o h5 hc⟩, ⟨pre.map (·.1), k, by rw [List.map_append]; rfl, fun j hj => by
     obtain ⟨q, hq, rfl⟩ := List.mem_map.1 hj
     exact hp q hq, ht, by simpa using (hrb.fr h (fun e => e)).put 0 (.int .i64 (k : Int))⟩, (hB.trans (h.toBelow hB.size (fun _ e => e.elim))).setCell (p := ⟨w.heap.size + 1, 0, none⟩) (Nat.le_succ _) _⟩)
  have HR := Lib.hid (fun V (h : Fr No W V) => And.intro ((hrb.fr h (fun e => e)).cell 0) ((hrb.fr h (fun e => e)).frozen 0))
  obtain ⟨y, hy⟩ : ∃ y, l[k] = y := ⟨_, rfl⟩
  dsimp only at D1
  rw [hy] at D1 hbx ⊢
  have x0 := hbx.cell 0
  have x1 := hbx.cell 1
  have x2 := hbx.cell 2
  have x3 := hbx.cell 3
  have x4 := hbx.cell 4
  have x5 := hbx.cell 5
  have xf : W.cell? ⟨w.heap.size, 0, none⟩ = some (.func (.func 88) #[] #[]) := hcb.cell 0
  unfold Ndl.arr at x0 x1 x2 x3 x4 x5
  simp only [List.getElem?_toArray, List.getElem?_cons_zero, List.getElem?_cons_succ] at x0 x1 x2 x3 x4 x5
  unfold Ndl.agg Ndl.arr at D1
  unfold Ndl.agg Ndl.arr
  generalize p k = b at *
  clear hp hcb hrb hbx hB hl' hr' hy Hf
  gi_wp2_with fail
  refine ⟨trivial, ?_⟩
  gi_at_call 88
  refine (callsIn_wide.2 D1.out).mono ?_
  rintro e w1 ⟨rfl, f1⟩
  obtain ⟨d2, d3⟩ := HR.out w1 f1
  simp at d2
  clear x0 x1 x2 x3 x4 x5 xf
  cases b
  ·gi_wp2
   exact HI.out w1 f1 (by first | rfl | trivial)
  ·gi_wp2_with (refine ⟨trivial, ?_⟩)
   exact ⟨(HX.out w1 f1 (by first | rfl | trivial)).1, rfl, (HX.out w1 f1 (by first | rfl | trivial)).2⟩
 case done =>
  rintro D ys W hD hys ⟨hp, hcb, hrb, hB⟩ hK
  have d2 : W.cell? ⟨w.heap.size + 1, 0, none⟩ = some (.int .i64 0) := hrb.cell 0
  have d3 := hrb.frozen 0
  have ht : r = -1 := by
   rw [← hr.out]
   refine none_of_pre (fun k hk => ?_)
   rw [← Hm.out, ← hys] at hk
   obtain ⟨q, hq, rfl⟩ := List.mem_map.1 hk
   exact hp q hq
  have hne : D ≠ w.heap.size + 1 := by omega
  have hK2 : (W.setCell ⟨w.heap.size + 1, 0, none⟩ (.int .i64 (-1))).heap[D]? = some (.deferred (some [])) := (KeepsOthers.setCell W ⟨w.heap.size + 1, 0, none⟩ (.int .i64 (-1))).same D _ hK rfl
  have hr2 : Bk (W.setCell ⟨w.heap.size + 1, 0, none⟩ (.int .i64 (-1))) (w.heap.size + 1) 3 #[.int .i64 (-1)] := by simpa using hrb.put 0 (.int .i64 (-1))
  have hB2 : Below w.heap.size w (W.setCell ⟨w.heap.size + 1, 0, none⟩ (.int .i64 (-1))) := hB.setCell (p := ⟨w.heap.size + 1, 0, none⟩) (Nat.le_succ _) _
  clear hp hcb hrb hys
  gi_wp2
  refine ⟨by simp, .inl ⟨_, _, rfl, run_takeDeferred hK2, ?_⟩⟩
  have hr3 : Bk ((W.setCell ⟨w.heap.size + 1, 0, none⟩ (.int .i64 (-1))).putObj D (.deferred none)) (w.heap.size + 1) 3 #[.int .i64 (-1)] := (World.putObj_heap_other (fun e => hne e.symm)).trans hr2
  have e0 := hr3.cell 0
  exact ⟨.int .i64 (-1), by simp [results, Tryz.results68, go_sem, e0], by first | rfl | rw [ht], Fr.ofBelow (hB2.trans (belowK_b (w := w) (Nat.le_refl _) _ D _ _ (by omega) hK2 rfl rfl)) _⟩
 case stop =>
  rintro D cd pre W hD hpre ⟨rfl, ⟨ks, q', hks, hno, hq, hrb⟩, hB⟩ hK
  have hf : r = (q' : Int) := by
   rw [← hr.out, ← Hm.out]
   exact last_of_pre (by rw [← hks]; exact hpre) hno hq
  have hne : D ≠ w.heap.size + 1 := by omega
  gi_wp2
  refine ⟨by simp, .inl ⟨_, _, rfl, run_takeDeferred hK, ?_⟩⟩
  have hr3 : Bk (W.putObj D (.deferred none)) (w.heap.size + 1) 3 #[.int .i64 (q' : Int)] := (World.putObj_heap_other (fun e => hne e.symm)).trans hrb
  have e0 := hr3.cell 0
  exact ⟨.int .i64 (q' : Int), by simp [results, Tryz.results68, go_sem, e0], by first | rfl | rw [hf], Fr.ofBelow (hB.trans (belowK_b (w := w) (Nat.le_refl _) _ D _ _ (by omega) hK rfl rfl)) _⟩

set_option maxRecDepth 100000 in
set_option maxHeartbeats 4000000 in
theorem lastU14 (l : List Ndl) (A : Option Addr) (m c : Nat) (q q1 q2 : Nat) (p : Nat → Bool) (w : World) (hsl : Sl w w.heap.size A (l.flatMap Ndl.cells)) (hm : l.length = m) (hl : m ≤ 1099511627776)
  (hf : ∀ (x : BX l) W, Below w.heap.size w W → Calls Tryz.prog 90 #[(l[x.1]'x.2).agg, .pointer (some ⟨q, 0, none⟩), .pointer (some ⟨q1, 0, none⟩), .pointer (some ⟨q2, 0, none⟩)] W (Has W (p x.1))) :
  Calls Tryz.prog 68 #[.slice A m c, .func (.func 90) #[] #[.pointer (some ⟨q, 0, none⟩), .pointer (some ⟨q1, 0, none⟩), .pointer (some ⟨q2, 0, none⟩)]] w fun e w' => e = .returned (.int .i64 (lastP p m)) ∧ Fr No w w' := by
 refine (callsIn_wide (n := 3)).1 ?_
 have h1 : 1 ≤ 3 := by omega
 obtain ⟨r, hr⟩ : ∃ r, Hid (lastP p m = r) := ⟨_, Lib.hid rfl⟩
 rw [hr.out]
 refine callsIn_of_wp_marks Tryz.func68 rfl trivial ?_ rfl
 simp only [Tryz.ntmps68, List.size_toArray, List.length_cons, List.length_nil, Nat.reduceAdd, Nat.reduceSub, Array.replicate_succ, Array.replicate_zero, List.push_toArray, List.append_toArray, List.nil_append, List.cons_append]
 gi_wp2_with (first
  | (refine ⟨trivial, ?_⟩; gi_at_call 61; refine (backward_in Fence.wide _ trivial rfl _ _ _ _).mono ?_; rintro e w' ⟨rfl, rfl⟩))
 obtain ⟨W0, hW0⟩ : ∃ W0, W0 = ((w.alloc (.cells #[.func (.func 90) #[] #[.pointer (some ⟨q, 0, none⟩), .pointer (some ⟨q1, 0, none⟩), .pointer (some ⟨q2, 0, none⟩)]] 111)).alloc (.cells #[.int .i64 0] 3)).alloc (.cells #[.slice A m c] 27) := ⟨_, rfl⟩
 have hsz : W0.heap.size = w.heap.size + 3 := by rw [hW0]; simp
 have hF0 : Fr No w W0 := by rw [hW0]; exact (((Fr.refl No w).alloc _).alloc _).alloc _
 have bF : Bk W0 w.heap.size 111 #[.func (.func 90) #[] #[.pointer (some ⟨q, 0, none⟩), .pointer (some ⟨q1, 0, none⟩), .pointer (some ⟨q2, 0, none⟩)]] := by rw [hW0]; exact ((Bk.made w _ _).alloc _).alloc _
 have bR : Bk W0 (w.heap.size + 1) 3 #[.int .i64 0] := by
  rw [hW0]
  have := (Bk.made (w.alloc (.cells #[.func (.func 90) #[] #[.pointer (some ⟨q, 0, none⟩), .pointer (some ⟨q1, 0, none⟩), .pointer (some ⟨q2, 0, none⟩)]] 111)) 3 #[.int .i64 0]).alloc (.cells #[.slice A m c] 27)
  rwa [World.size_alloc] at this
 have bP : Bk W0 (w.heap.size + 1 + 1) 27 #[.slice A m c] := by
  rw [hW0]
  have := Bk.made ((w.alloc (.cells #[.func (.func 90) #[] #[.pointer (some ⟨q, 0, none⟩), .pointer (some ⟨q1, 0, none⟩), .pointer (some ⟨q2, 0, none⟩)]] 111)).alloc (.cells #[.int .i64 0] 3)) 27 #[.slice A m c]
  rwa [World.size_alloc, World.size_alloc] at this
 have hB0 : w.heap.size ≤ W0.heap.size := by omega
 have hbw : Below w.heap.size w W0 := hF0.below0
 have HS := Lib.hid hsl
 have Hm := Lib.hid hm
 have Hf := Lib.hid hf
 rw [← hW0]
 clear hW0 hsl hm hf
 have hsq : SeqStopsK Fence.wide 2 Tryz.prog 82 #[.pointer (some ⟨w.heap.size + 1 + 1, 0, none⟩)] (encB (l := l)) (KpN w.heap.size) (fun ys => ys.map (·.1) = dnL l.length 0) (fun pre => pre.map (·.1) <+: dnL l.length 0) l.length W0 := fun lp J Jx W hW hJ _ hY h0 =>
  back1_in 2 lp w.heap.size (w.heap.size + 1 + 1) l A m c W (by omega) (HS.out.below (hbw.trans (hW.mono hB0))) Hm.out (Nat.le_trans hB0 hW.size) ((hW.block _ bP.lt).trans bP) hl J Jx hY h0
 refine wpIn_rangeFunc_ownH rfl h1 (gf := 82) (lb := #[.pointer (some ⟨w.heap.size + 1 + 1, 0, none⟩)]) rfl trivial (enters_of Tryz.func82 (by kernel_rfl) rfl)
  hsq KpN.trans (KpN.putObj hB0) (Below.refl _ _) (fun _ => rfl)
  (LstI w (.func (.func 90) #[] #[.pointer (some ⟨q, 0, none⟩), .pointer (some ⟨q1, 0, none⟩), .pointer (some ⟨q2, 0, none⟩)]) p)
  (fun cd pre W => cd = .ret ∧ LstX w p pre W)
  (LstI.own w _ p l _ hB0)
  (fun cd pre X Y row hs hg hr => ⟨hs.1, LstX.own w p l _ hB0 pre X Y row hs.2 hg hr⟩)
  ⟨(fun q hq => by cases hq), bF, bR, hbw⟩
  (fun x a' W => ∃ Bx, w.heap.size + 1 < Bx ∧ Bk W Bx 37 (l[x.1]'x.2).arr ∧ a' = { tmps := #[.slice A m c, .func (.func 90) #[] #[.pointer (some ⟨q, 0, none⟩), .pointer (some ⟨q1, 0, none⟩), .pointer (some ⟨q2, 0, none⟩)], undef, .pointer (some ⟨w.heap.size, 0, none⟩), .pointer (some ⟨w.heap.size + 1, 0, none⟩), .int .i64 (x.1 : Int), .pointer (some ⟨Bx, 0, none⟩), .slice A m c, .func (.func 82) #[] #[.pointer (some ⟨w.heap.size + 1 + 1, 0, none⟩)], .int .i64 (x.1 : Int), (l[x.1]'x.2).agg, undef, undef, undef, undef], defers := [] })
  (fun x a' _ X Y row hs hg hr => by
   obtain ⟨Bx, a1, a2, a3⟩ := hs
   exact ⟨Bx, a1, bk_ownN _ Bx _ _ () X Y row a2 hg hr, a3⟩)
  ?assign ?body ?done ?stop
 case assign =>
  rintro lp pre ⟨k, hk⟩ W K ⟨hp, hcb, hrb, hB⟩ hK
  have hlt := hrb.lt
  dsimp only
  obtain ⟨y, hy⟩ : ∃ y, l[k] = y := ⟨_, rfl⟩
  dsimp only at hK
  unfold encB at *
  dsimp only at *
  rw [hy] at hK ⊢
  unfold Ndl.agg Ndl.arr at *
  have k1 : Fr No W (W.alloc (.cells #[.int .i64 y.n.saga, .int .i64 y.n.cls, .int .i64 y.n.step, .bool y.n.back, .slice y.rA y.n.rd.length y.rc, .slice y.wA y.n.wt.length y.wc] 37)) := (Fr.refl No W).alloc _
  have hx0 : Bk (W.alloc (.cells #[.int .i64 y.n.saga, .int .i64 y.n.cls, .int .i64 y.n.step, .bool y.n.back, .slice y.rA y.n.rd.length y.rc, .slice y.wA y.n.wt.length y.wc] 37)) W.heap.size 37 #[.int .i64 y.n.saga, .int .i64 y.n.cls, .int .i64 y.n.step, .bool y.n.back, .slice y.rA y.n.rd.length y.rc, .slice y.wA y.n.wt.length y.wc] := Bk.made W _ _
  gi_wp2
  exact hK _ _ ((KeepsOthers.alloc _ _).from _) ((KpN.refl _ W).fr0 k1 hB.size) ⟨hp, hcb.fr k1 (fun e => e), hrb.fr k1 (fun e => e), hB.alloc hB.size _⟩ ⟨W.heap.size, by omega, hx0, rfl⟩
 case body =>
  rintro lp pre ⟨k, hk⟩ a' W hl' hr' ⟨hp, hcb, hrb, hB⟩ ⟨Bx, a1, hbx, rfl⟩ hlt
  dsimp only at hbx ⊢
  have D1 := Lib.hid (Hf.out ⟨k, hk⟩ W hB)
  have HI : Hid (∀ V, Fr No W V → p k = false → KeepsFrom W0.heap.size W V ∧ KpN w.heap.size W V ∧ LstI w (.func (.func 90) #[] #[.pointer (some ⟨q, 0, none⟩), .pointer (some ⟨q1, 0, none⟩), .pointer (some ⟨q2, 0, none⟩)]) p (pre ++ [⟨k, hk⟩]) V) := Lib.hid (fun V h ht => ⟨⟨h.size, fun j o _ hj _ => (h.block j (Array.getElem?_eq_some_iff.1 hj).1 (fun e => e)).trans hj⟩, (KpN.refl _ W).fr0 h hB.size, fun q hq' => by
   rcases List.mem_append.1 hq' with h' | h'
   ·exact hp q h'
   ·rw [List.mem_singleton.1 h']
    exact ht, hcb.fr h (fun e => e), hrb.fr h (fun e => e), hB.trans (h.toBelow hB.size (fun _ e => e.elim))⟩)
  have HX : Hid (∀ V, Fr No W V → p k = true → KeepsFrom W0.heap.size W (V.setCell ⟨w.heap.size + 1, 0, none⟩ (.int .i64 (k : Int))) ∧ LstX w p (pre ++ [⟨k, hk⟩] : List (BX l)) (V.setCell ⟨w.heap.size + 1, 0, none⟩ (.int .i64 (k : Int)))) := Lib.hid (fun V h ht => ⟨⟨by simpa using h.size, fun j o _ hj hc => by
    have h5 := (h.block j (Array.getElem?_eq_some_iff.1 hj).1 (fun e => e)).trans hj
    exact (KeepsOthers.setCell V ⟨w.heap.size + 1, 0, none⟩ (.int .i64 (k : Int))).same j o h5 hc⟩, ⟨pre.map (·.1), k, by rw [List.map_append]; rfl, fun j hj => by
     obtain ⟨q, hq, rfl⟩ := List.mem_map.1 hj
     exact hp q hq, ht, by simpa using (hrb.fr h (fun e => e)).put 0 (.int .i64 (k : Int))⟩, (hB.trans (h.toBelow hB.size (fun _ e => e.elim))).setCell (p := ⟨w.heap.size + 1, 0, none⟩) (Nat.le_succ _) _⟩)
  have HR := Lib.hid (fun V (h : Fr No W V) => And.intro ((hrb.fr h (fun e => e)).cell 0) ((hrb.fr h (fun e => e)).frozen 0))
  obtain ⟨y, hy⟩ : ∃ y, l[k] = y := ⟨_, rfl⟩
  dsimp only at D1
  rw [hy] at D1 hbx ⊢
  have x0 := hbx.cell 0
  have x1 := hbx.cell 1
  have x2 := hbx.cell 2
  have x3 := hbx.cell 3
  have x4 := hbx.cell 4
  have x5 := hbx.cell 5
  have xf : W.cell? ⟨w.heap.size, 0, none⟩ = some (.func (.func 90) #[] #[.pointer (some ⟨q, 0, none⟩), .pointer (some ⟨q1, 0, none⟩), .pointer (some ⟨q2, 0, none⟩)]) := hcb.cell 0
  unfold Ndl.arr at x0 x1 x2 x3 x4 x5
  simp only [List.getElem?_toArray, List.getElem?_cons_zero, List.getElem?_cons_succ] at x0 x1 x2 x3 x4 x5
  unfold Ndl.agg Ndl.arr at D1
  unfold Ndl.agg Ndl.arr
  generalize p k = b at *
  clear hp hcb hrb hbx hB hl' hr' hy Hf
  gi_wp2_with fail
  refine ⟨trivial, ?_⟩
  gi_at_call 90
  refine (callsIn_wide.2 D1.out).mono ?_
  rintro e w1 ⟨rfl, f1⟩
  obtain ⟨d2, d3⟩ := HR.out w1 f1
  simp at d2
  clear x0 x1 x2 x3 x4 x5 xf
  cases b
  ·gi_wp2
   exact HI.out w1 f1 (by first | rfl | trivial)
  ·gi_wp2_with (refine ⟨trivial, ?_⟩)
   exact ⟨(HX.out w1 f1 (by first | rfl | trivial)).1, rfl, (HX.out w1 f1 (by first | rfl | trivial)).2⟩
 case done =>
  rintro D ys W hD hys ⟨hp, hcb, hrb, hB⟩ hK
  have d2 : W.cell? ⟨w.heap.size + 1, 0, none⟩ = some (.int .i64 0) := hrb.cell 0
  have d3 := hrb.frozen 0
  have ht : r = -1 := by
   rw [← hr.out]
   refine none_of_pre (fun k hk => ?_)
   rw [← Hm.out, ← hys] at hk
   obtain ⟨q, hq, rfl⟩ := List.mem_map.1 hk
   exact hp q hq
  have hne : D ≠ w.heap.size + 1 := by omega
  have hK2 : (W.setCell ⟨w.heap.size + 1, 0, none⟩ (.int .i64 (-1))).heap[D]? = some (.deferred (some [])) := (KeepsOthers.setCell W ⟨w.heap.size + 1, 0, none⟩ (.int .i64 (-1))).same D _ hK rfl
  have hr2 : Bk (W.setCell ⟨w.heap.size + 1, 0, none⟩ (.int .i64 (-1))) (w.heap.size + 1) 3 #[.int .i64 (-1)] := by simpa using hrb.put 0 (.int .i64 (-1))
  have hB2 : Below w.heap.size w (W.setCell ⟨w.heap.size + 1, 0, none⟩ (.int .i64 (-1))) := hB.setCell (p := ⟨w.heap.size + 1, 0, none⟩) (Nat.le_succ _) _
  clear hp hcb hrb hys
  gi_wp2
  refine ⟨by simp, .inl ⟨_, _, rfl, run_takeDeferred hK2, ?_⟩⟩
  have hr3 : Bk ((W.setCell ⟨w.heap.size + 1, 0, none⟩ (.int .i64 (-1))).putObj D (.deferred none)) (w.heap.size + 1) 3 #[.int .i64 (-1)] := (World.putObj_heap_other (fun e => hne e.symm)).trans hr2
  have e0 := hr3.cell 0
  exact ⟨.int .i64 (-1), by simp [results, Tryz.results68, go_sem, e0], by first | rfl | rw [ht], Fr.ofBelow (hB2.trans (belowK_b (w := w) (Nat.le_refl _) _ D _ _ (by omega) hK2 rfl rfl)) _⟩
 case stop =>
  rintro D cd pre W hD hpre ⟨rfl, ⟨ks, q', hks, hno, hq, hrb⟩, hB⟩ hK
  have hf : r = (q' : Int) := by
   rw [← hr.out, ← Hm.out]
   exact last_of_pre (by rw [← hks]; exact hpre) hno hq
  have hne : D ≠ w.heap.size + 1 := by omega
  gi_wp2
  refine ⟨by simp, .inl ⟨_, _, rfl, run_takeDeferred hK, ?_⟩⟩
  have hr3 : Bk (W.putObj D (.deferred none)) (w.heap.size + 1) 3 #[.int .i64 (q' : Int)] := (World.putObj_heap_other (fun e => hne e.symm)).trans hrb
  have e0 := hr3.cell 0
  exact ⟨.int .i64 (q' : Int), by simp [results, Tryz.results68, go_sem, e0], by first | rfl | rw [hf], Fr.ofBelow (hB.trans (belowK_b (w := w) (Nat.le_refl _) _ D _ _ (by omega) hK rfl rfl)) _⟩
end Go.Proofs.YtmeimhpllemjfaaGreat
