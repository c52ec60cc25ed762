/- Package cat: each two classes, row by row. -/
import Derived.RangeFuncBox
import Derived.RangeFuncLeaves
import Derived.RangeFuncNested
import Derived.RangeFuncCalls
import Derived.Shelf.Abstract
import Derived.WalkKit
import Derived.OwnWalkIn
import Derived.TacticsInMore
import Derived.LoopNIn
import Derived.LoopIn
import Derived.Stop.RegionWithIn
import Derived.Sort.CutIn
import Derived.Test.YtmeimhpllemjfaaGreatWls12
import Derived.Test.YtmeimhpllemjfaaGreatHand
namespace Go.Proofs.YtmeimhpllemjfaaGreat
open Go.RowKit Go.Shelf

attribute [local go_sem] Oper.semAt_some

abbrev PX (n : Nat) := {i : Nat // i < n * n}
def encX {n : Nat} (x : PX n) : Array Value := #[.int .i64 ((x.1 / n : Nat) : Int), .int .i64 ((x.1 % n : Nat) : Int)]
def KpX (bx : Nat) (n : Nat) (W W' : World) : Prop := Bk W bx 3 #[.int .i64 (n : Int)] → Bk W' bx 3 #[.int .i64 (n : Int)]
section
variable {bx n : Nat} {X Y Z : World}
theorem KpX.refl (W : World) : KpX bx n W W := fun h => h
theorem KpX.trans (h : KpX bx n X Y) (k : KpX bx n Y Z) : KpX bx n X Z := fun hb => k (h hb)
theorem KpX.putObj (W : World) (l : Nat) (o o' : Obj) (h : W.heap[l]? = some o) (hc : o.isCells = false) : KpX bx n W (W.putObj l o') := fun hb => by
 refine (World.putObj_heap_other (fun e => ?_)).trans hb
 subst e
 have := (show W.heap[bx]? = _ from hb).symm.trans h
 injection this with this
 rw [← this] at hc
 cases hc
theorem KpX.fr {S : Nat → Prop} (hf : Fr S X Y) (hS : ¬ S bx) : KpX bx n X Y := fun hb => hb.fr hf hS
end
theorem range_pre {a b : Nat} (h : a ≤ b) : List.range a <+: List.range b := by
 obtain ⟨k, rfl⟩ := Nat.exists_eq_add_of_le h
 rw [List.range_add]
 exact List.prefix_append _ _
set_option maxRecDepth 100000 in
set_option maxHeartbeats 4000000 in
theorem pairsX_in (m lp bx n : Nat) (W : World) (hm : 1 ≤ m) (hn : n ≤ 4) (b : Bk W bx 3 #[.int .i64 (n : Int)])
  (J Jx : List (PX n) → World → Prop) (hJa : AbidesFrom W.heap.size J)
  (hY : ∀ pre x W1, J pre W1 → pre.length < n * n → YieldAt Fence.wide (m - 1) Tryz.prog lp (encX x) W1 fun e W' =>
   (e = .returned (.bool true) ∧ J (pre ++ [x]) W' ∧ KpX bx n W1 W') ∨ (e = .returned (.bool false) ∧ Jx (pre ++ [x]) W')) (h0 : J [] W) :
  CallsIn Fence.wide m Tryz.prog 145 #[.func (.yield lp) #[] #[], .pointer (some ⟨bx, 0, none⟩)] W fun e V => (∃ v, e = .returned v) ∧
   ((∃ ys, ys.map (·.1) = List.range (n * n) ∧ J ys V) ∨ (∃ pre, pre.map (·.1) <+: List.range (n * n) ∧ Jx pre V)) := by
 have Hb := Lib.hid (fun V (hV : KpX bx n W V) => hV b)
 have b0 := b.cell 0
 simp at b0
 clear b
 refine callsIn_of_wp Tryz.func145 rfl trivial ?_ rfl
 simp only [Tryz.ntmps145, List.size_toArray, List.length_cons, List.length_nil, Nat.reduceAdd, Nat.reduceSub, Array.replicate_succ, Array.replicate_zero, List.push_toArray, List.append_toArray, List.nil_append, List.cons_append]
 gi_wp2_with fail
 clear b0
 gi_loopw [6] (fun iv wr => ∃ (c : Nat) (pre : List (PX n)), c ≤ n ∧ iv = .int .i64 c ∧ Hid (pre.map (·.1) = List.range (c * n)) ∧ J pre wr ∧ KpX bx n W wr) (fun i _ => n - (intOf i).toNat)
 case atStart => exact ⟨0, [], by omega, rfl, Lib.hid (by simp), h0, KpX.refl W⟩
 case round =>
  obtain ⟨c, pre, hc, rfl, hpre, hJ, hK⟩ := hrel
  by_cases hlt : c < n
  ·have HB1 := Lib.hid (Hb.out _ hK)
   have b1 := HB1.out.cell 0
   simp at b1
   have Hpre : Hid (pre.map (·.1) = List.range (c * n + 0)) := hpre
   clear hpre
   gi_wp2_with fail
   clear b1
   gi_loopw [10] (fun iv wx => ∃ (d : Nat) (pre : List (PX n)), d ≤ n ∧ iv = .int .i64 d ∧ Hid (pre.map (·.1) = List.range (c * n + d)) ∧ J pre wx ∧ KpX bx n W wx) (fun i _ => n - (intOf i).toNat)
   case atStart => exact ⟨0, _, by omega, rfl, Hpre, hJ, hK⟩
   case round =>
    obtain ⟨d, pre, hd, rfl, hpre, hJ, hK⟩ := hrel
    by_cases hltd : d < n
    ·have hpl : pre.length = c * n + d := by
      have := congrArg List.length hpre.out
      rwa [List.length_map, List.length_range] at this
     have hlim : c * n + d < n * n := by
      have := Nat.mul_le_mul_right n (Nat.succ_le_of_lt hlt)
      rw [Nat.succ_mul] at this
      omega
     obtain ⟨fn, tmps, assign, body, hy, hR⟩ := hY pre ⟨c * n + d, hlim⟩ _ hJ (by omega)
     have e1 : (c * n + d) / n = c := by rw [Nat.add_comm, Nat.add_mul_div_right _ _ (by omega), Nat.div_eq_of_lt hltd, Nat.zero_add]
     have e2 : (c * n + d) % n = d := by rw [Nat.add_comm, Nat.add_mul_mod_self_right, Nat.mod_eq_of_lt hltd]
     unfold encX at hy
     simp only [e1, e2] at hy
     have Hnx : Hid ((pre ++ [⟨c * n + d, hlim⟩] : List (PX n)).map (·.1) = List.range (c * n + (d + 1))) := Lib.hid (by
      rw [List.map_append, hpre.out, ← Nat.add_assoc, List.range_succ]
      rfl)
     have HK := Lib.hid hK
     obtain ⟨X, hX⟩ : ∃ X, X = (pre ++ [⟨c * n + d, hlim⟩] : List (PX n)) := ⟨_, rfl⟩
     rw [← hX] at hR Hnx
     have Hlim := Lib.hid (And.intro hlim hpl)
     clear hX hpre e1 e2 hJ hK hlim hpl
     gi_wp2
     refine hR.mono ?_
     rintro e W3 (⟨rfl, hJ3, hK3⟩ | ⟨rfl, hJx⟩)
     ·have hK4 := HK.out.trans hK3
      clear hK3 hR hy
      gi_wp2
      go_roundw
      case rel => exact ⟨d + 1, _, by omega, by go_num, Hnx, hJ3, hK4⟩
      case measure => simp [intOf]; omega
     ·clear hR hy
      gi_wp2
      refine bodyPost_ret (results_none rfl _ _ _) rfl ?_
      refine ⟨⟨_, rfl⟩, .inr ⟨_, ?_, hJx⟩⟩
      rw [Hnx.out]
      have hl := Hlim.out.1
      exact range_pre (by omega)
    ·obtain rfl : d = n := by omega
     have HB2 : Hid (pre.map (·.1) = List.range ((c + 1) * d)) := Lib.hid (by rw [Nat.succ_mul]; exact hpre.out)
     clear hpre
     gi_wp2
     go_roundw
     case rel => exact ⟨c + 1, _, by omega, by go_num, HB2, hJ, hK⟩
     case measure => simp [intOf]; omega
  ·obtain rfl : c = n := by omega
   have hp2 := hpre.out
   clear hpre
   gi_wp2
   go_end0
   exact ⟨⟨_, rfl⟩, .inl ⟨_, hp2, hJ⟩⟩
end Go.Proofs.YtmeimhpllemjfaaGreat
/- Package cat: what a function tells of each two classes. -/
namespace Go.Proofs.YtmeimhpllemjfaaGreat
open Go.RowKit Go.Shelf

attribute [local go_sem] Oper.semAt_some

set_option maxHeartbeats 1000000 in
theorem pairs_in12 (F : Fence) (m : Nat) (hF : F.fn 115) (hro : F.round = none) (Z : Array Value) (cA : Option Addr) (n cc : Nat) (b : Nat → Int) (hZ : Z = brA (.slice cA n cc) b) (hn : n ≤ 4) (w : World) :
  CallsIn F m Tryz.prog 115 #[.agg Z] w fun e w' => e = .returned (.func (.func 145) #[] #[.pointer (some ⟨w.heap.size + 1, 0, none⟩)]) ∧ w' = (w.alloc (.cells Z 26)).alloc (.cells #[.int .i64 (n : Int)] 3) := by
 have hb := Bk.made w 26 Z
 have x0 : (w.alloc (.cells Z 26)).cell? ⟨w.heap.size, 0, none⟩ = some (.slice cA n cc) := by rw [hb.cell, hZ]; rfl
 have hmin : (if (n : Int) ≤ 4 then (n : Int) else 4) = (n : Int) := if_pos (by omega)
 clear hZ hb
 refine callsIn_of_wp Tryz.func115 rfl hF ?_ hro
 simp only [Tryz.ntmps115, List.size_toArray, List.length_cons, List.length_nil, Nat.reduceAdd, Nat.reduceSub, Array.replicate_succ, Array.replicate_zero, List.push_toArray, List.append_toArray, List.nil_append, List.cons_append]
 gi_wp2
 go_ret
 exact ⟨rfl, rfl⟩
theorem br16_put (b : Nat → Int) {j : Nat} (hj : j < 16) (u : Int) : (br16 b).setIfInBounds j (.int .i64 u) = br16 (updB b j u) := by
 have h : j = 0 ∨ j = 1 ∨ j = 2 ∨ j = 3 ∨ j = 4 ∨ j = 5 ∨ j = 6 ∨ j = 7 ∨ j = 8 ∨ j = 9 ∨ j = 10 ∨ j = 11 ∨ j = 12 ∨ j = 13 ∨ j = 14 ∨ j = 15 := by omega
 rcases h with rfl | rfl | rfl | rfl | rfl | rfl | rfl | rfl | rfl | rfl | rfl | rfl | rfl | rfl | rfl | rfl <;> simp [br16, updB]
theorem br16_at (b : Nat → Int) {j : Nat} (hj : j < 16) : (br16 b)[j]? = some (.int .i64 (b j)) := by
 have h : j = 0 ∨ j = 1 ∨ j = 2 ∨ j = 3 ∨ j = 4 ∨ j = 5 ∨ j = 6 ∨ j = 7 ∨ j = 8 ∨ j = 9 ∨ j = 10 ∨ j = 11 ∨ j = 12 ∨ j = 13 ∨ j = 14 ∨ j = 15 := by omega
 rcases h with rfl | rfl | rfl | rfl | rfl | rfl | rfl | rfl | rfl | rfl | rfl | rfl | rfl | rfl | rfl | rfl <;> rfl
def stE {σ : Type} (val : σ → Nat → Int) (nxt : σ → Nat → σ) (n : Nat) (s0 : σ) (l : List Nat) : σ × (Nat → Int) :=
 l.foldl (fun s i => (nxt s.1 i, updB s.2 (i / n * 4 + i % n) (val s.1 i))) (s0, fun _ => 0)
theorem stE_snoc {σ : Type} (val : σ → Nat → Int) (nxt : σ → Nat → σ) (n : Nat) (s0 : σ) (l : List Nat) (i : Nat) :
  stE val nxt n s0 (l ++ [i]) = (nxt (stE val nxt n s0 l).1 i, updB (stE val nxt n s0 l).2 (i / n * 4 + i % n) (val (stE val nxt n s0 l).1 i)) := by
 unfold stE
 rw [List.foldl_append]
 rfl
theorem bk_own12 {β : Type} (B g : Nat) (t : TypeId) (cs : Array Value) : OwnFrom B (fun (_ : β) W => Bk W g t cs) := fun _ X Y row hs hg hr =>
 hs.grown hg (fun e => by
  obtain ⟨-, o, ho, hc⟩ := hr g e
  rw [show X.heap[g]? = _ from hs] at ho
  cases ho
  cases hc)
structure E12 {σ : Type} (R : σ → World → Prop) (T : Nat → Prop) (w : World) (f : Value) (s : σ × (Nat → Int)) (W : World) : Prop where
 fn : Bk W (w.heap.size + 1) 142 #[f]
 res : Bk W (w.heap.size + 1 + 1) 24 (br16 fun _ => 0)
 br : Bk W (w.heap.size + 1 + 1 + 1) 24 (br16 s.2)
 r : R s.1 W
 fr : Fr T w W
theorem E12.own {σ : Type} {R : σ → World → Prop} {T : Nat → Prop} {w : World} {f : Value} {β : Type} {g : β → σ × (Nat → Int)} {B : Nat} (hB : w.heap.size ≤ B) (hR : ∀ s W W', R s W → Fr (fun i => w.heap.size ≤ i) W W' → R s W') : OwnFrom B (fun (x : β) W => E12 R T w f (g x) W) := by
 intro x X Y row h hg hr
 have hf : Fr (fun i => w.heap.size ≤ i) X Y := (Fr.refl _ X).grown hg (fun k e => .inl (by have := (hr k e).1; omega))
 exact ⟨bk_own12 B _ _ _ () X Y row h.fn hg hr, bk_own12 B _ _ _ () X Y row h.res hg hr, bk_own12 B _ _ _ () X Y row h.br hg hr, hR _ _ _ h.r hf, h.fr.trans' hf (fun i hi e => by have e : w.heap.size ≤ i := e; omega)⟩
theorem E12.step {σ : Type} {R : σ → World → Prop} {T : Nat → Prop} {w : World} {f : Value} {s : σ × (Nat → Int)} {W W1 : World} {s' : σ} (h : E12 R T w f s W) (hT : ∀ i, T i → i < w.heap.size) (hr : R s' W1) (hf : Fr T W W1) : E12 R T w f (s', s.2) W1 :=
 ⟨h.fn.fr hf (fun e => by have := hT _ e; omega), h.res.fr hf (fun e => by have := hT _ e; omega), h.br.fr hf (fun e => by have := hT _ e; omega), hr, h.fr.trans' hf (fun _ _ e => e)⟩
theorem E12.put {σ : Type} {R : σ → World → Prop} {T : Nat → Prop} {w : World} {f : Value} {s : σ × (Nat → Int)} {W : World} (h : E12 R T w f s W) (hR : ∀ s W W', R s W → Fr (fun i => w.heap.size ≤ i) W W' → R s W') {j : Nat} (hj : j < 16) (u : Int) :
  E12 R T w f (s.1, updB s.2 j u) (W.setCell ⟨w.heap.size + 1 + 1 + 1, j, none⟩ (.int .i64 u)) := by
 have hX : Fr (Only (w.heap.size + 1 + 1 + 1)) W (W.setCell ⟨w.heap.size + 1 + 1 + 1, j, none⟩ (.int .i64 u)) := (Fr.refl (Only (w.heap.size + 1 + 1 + 1)) W).setCell (p := ⟨w.heap.size + 1 + 1 + 1, j, none⟩) (.inl rfl) _
 have hp := h.br.put j (.int .i64 u)
 rw [br16_put _ hj] at hp
 exact ⟨h.fn.fr hX (fun e => by have e : w.heap.size + 1 = w.heap.size + 1 + 1 + 1 := e; omega), h.res.fr hX (fun e => by have e : w.heap.size + 1 + 1 = w.heap.size + 1 + 1 + 1 := e; omega), hp, hR _ _ _ h.r (hX.weak (fun i _ e => by have e : i = w.heap.size + 1 + 1 + 1 := e; omega)), h.fr.trans' hX (fun i hi e => by have e : i = w.heap.size + 1 + 1 + 1 := e; omega)⟩

set_option maxRecDepth 100000 in
set_option maxHeartbeats 4000000 in
theorem each_pts {σ : Type} (Z : Array Value) (cA : Option Addr) (n cc : Nat) (b : Nat → Int) (hZ : Z = brA (.slice cA n cc) b) (hn : n ≤ 4) (q0 : Addr) (w : World)
  (R : σ → World → Prop) (T : Nat → Prop) (val : σ → Nat → Int) (nxt : σ → Nat → σ) (s0 : σ) (hT : ∀ i, T i → i < w.heap.size) (hR0 : R s0 w) (hR : ∀ s W W', R s W → Fr (fun i => w.heap.size ≤ i) W W' → R s W')
  (hcl : ∀ s i W, i < n * n → Fr T w W → R s W → Calls Tryz.prog 99 #[.int .i64 ((i / n : Nat) : Int), .int .i64 ((i % n : Nat) : Int), .pointer (some q0)] W (fun e W' => e = .returned (.int .i64 (val s i)) ∧ R (nxt s i) W' ∧ Fr T W W')) :
  Calls Tryz.prog 98 #[.agg Z, .func (.func 99) #[] #[.pointer (some q0)]] w fun e w' => e = .returned (.agg (br16 (stE val nxt n s0 (List.range (n * n))).2)) ∧ R (stE val nxt n s0 (List.range (n * n))).1 w' ∧ Fr T w w' := by
 obtain ⟨s, hs⟩ : ∃ s, Hid (s = stE val nxt n s0 (List.range (n * n))) := ⟨_, Lib.hid rfl⟩
 rw [← hs.out]
 have Hp := Lib.hid (fun m W => pairs_in12 Fence.wide m trivial rfl Z cA n cc b hZ hn W)
 obtain ⟨W0, hW0⟩ : ∃ W0, W0 = (((w.alloc (.cells Z 26)).alloc (.cells #[.func (.func 99) #[] #[.pointer (some q0)]] 142)).alloc (.cells (br16 fun _ => 0) 24)).alloc (.cells (br16 fun _ => 0) 24) := ⟨_, rfl⟩
 have bZ : Bk W0 w.heap.size 26 Z := by rw [hW0]; exact (((Bk.made w _ _).fr ((Fr.refl No _).alloc _) (fun e => e)).fr ((Fr.refl No _).alloc _) (fun e => e)).fr ((Fr.refl No _).alloc _) (fun e => e)
 have Hsz0 : Hid (W0.heap.size = w.heap.size + 4) := Lib.hid (by rw [hW0]; simp)
 have HE0 : Hid (E12 R T w (.func (.func 99) #[] #[.pointer (some q0)]) (s0, fun _ => 0) W0) := Lib.hid (by
  have hf0 : Fr No w W0 := by rw [hW0]; exact ((((Fr.refl _ _).alloc _).alloc _).alloc _).alloc _
  refine ⟨?_, ?_, ?_, hR _ _ _ hR0 (hf0.weak (fun _ _ e => e.elim)), hf0.weak (fun _ _ e => e.elim)⟩
  ·have h := Bk.made (w.alloc (.cells Z 26)) 142 #[.func (.func 99) #[] #[.pointer (some q0)]]
   rw [World.size_alloc] at h
   rw [hW0]
   exact (h.fr ((Fr.refl No _).alloc _) (fun e => e)).fr ((Fr.refl No _).alloc _) (fun e => e)
  ·have h := Bk.made ((w.alloc (.cells Z 26)).alloc (.cells #[.func (.func 99) #[] #[.pointer (some q0)]] 142)) 24 (br16 fun _ => 0)
   rw [World.size_alloc, World.size_alloc] at h
   rw [hW0]
   exact h.fr ((Fr.refl No _).alloc _) (fun e => e)
  ·have h := Bk.made (((w.alloc (.cells Z 26)).alloc (.cells #[.func (.func 99) #[] #[.pointer (some q0)]] 142)).alloc (.cells (br16 fun _ => 0) 24)) 24 (br16 fun _ => 0)
   rw [World.size_alloc, World.size_alloc, World.size_alloc] at h
   rw [hW0]
   exact h)
 have hld := Lib.hid (ld_cat hZ bZ)
 unfold br16 at hW0
 have hwe := hW0.symm
 have HT := Lib.hid hT
 have HR := Lib.hid hR
 have Hcl := Lib.hid hcl
 clear hZ hW0 bZ hT hR hcl hR0
 refine (callsIn_wide (n := 3)).1 ?_
 have h1 : 1 ≤ 3 := by omega
 refine callsIn_of_wp_marks Tryz.func98 rfl trivial ?_ rfl
 simp only [Tryz.ntmps98, List.size_toArray, List.length_cons, List.length_nil, Nat.reduceAdd, Nat.reduceSub, Array.replicate_succ, Array.replicate_zero, List.push_toArray, List.append_toArray, List.nil_append, List.cons_append]
 gi_wp2_with (first
  | ((with_reducible refine wplIn_ld ?_ ?_ hld.out ?_); (· rfl); (· rfl); simp only [Act.put, szA, szB, szC])
  | (refine ⟨trivial, ?_⟩; gi_at_call 115; refine (Hp.out _ _).mono ?_; rintro e w' ⟨rfl, rfl⟩)
  | (refine ⟨trivial, ?_⟩))
 clear hwe hld
 have hsz0 := Hsz0.out
 obtain ⟨W1, hW1⟩ : ∃ W1, W1 = (W0.alloc (.cells Z 26)).alloc (.cells #[.int .i64 (n : Int)] 3) := ⟨_, rfl⟩
 have hsz : W1.heap.size = w.heap.size + 6 := by rw [hW1]; simp [hsz0]
 have hf1 : Fr No W0 W1 := by rw [hW1]; exact ((Fr.refl _ _).alloc _).alloc _
 have bN : Bk W1 (W0.heap.size + 1) 3 #[.int .i64 (n : Int)] := by
  have h := Bk.made (W0.alloc (.cells Z 26)) 3 #[.int .i64 (n : Int)]
  rw [World.size_alloc] at h
  rw [hW1]
  exact h
 rw [← hW1]
 have h01 : E12 R T w (.func (.func 99) #[] #[.pointer (some q0)]) (s0, fun _ => 0) W1 := ⟨HE0.out.fn.fr hf1 (fun e => e), HE0.out.res.fr hf1 (fun e => e), HE0.out.br.fr hf1 (fun e => e), HR.out _ _ _ HE0.out.r (hf1.weak (fun _ _ e => e.elim)), HE0.out.fr.trans' hf1 (fun _ _ e => e.elim)⟩
 have hB0 : w.heap.size ≤ W1.heap.size := by omega
 obtain ⟨bx, hbx⟩ : ∃ bx, bx = W0.heap.size + 1 := ⟨_, rfl⟩
 rw [← hbx] at bN ⊢
 have hbx5 : bx = w.heap.size + 5 := by omega
 have hbx6 : bx < W1.heap.size := by omega
 have HBX := Lib.hid hbx5
 clear hW1 hbx hbx5 HE0 hf1 hsz0
 have hsq : SeqStopsK Fence.wide 2 Tryz.prog 145 #[.pointer (some ⟨bx, 0, none⟩)] (encX (n := n)) (KpX bx n) (fun ys => ys.map (·.1) = List.range (n * n)) (fun pre => pre.map (·.1) <+: List.range (n * n)) (n * n) W1 := fun lp J Jx W hW hJ _ hY h0 =>
  pairsX_in 2 lp bx n W (by omega) hn ((hW.block _ bN.lt).trans bN) J Jx hJ hY h0
 refine wpIn_rangeFunc_ownH rfl h1 (gf := 145) (lb := #[.pointer (some ⟨bx, 0, none⟩)]) rfl trivial (enters_of Tryz.func145 (by kernel_rfl) rfl)
  hsq KpX.trans (fun W l o o' _ h hc _ => KpX.putObj W l o o' h hc) (Below.refl _ _) (fun _ => rfl)
  (fun pre W => E12 R T w (.func (.func 99) #[] #[.pointer (some q0)]) (stE val nxt n s0 (pre.map (·.1))) W)
  (fun _ _ _ => False)
  (E12.own hB0 HR.out)
  (fun cd pre X Y row hs hg hr => hs.elim)
  h01
  (fun x a' W => a' = { tmps := #[.agg Z, .func (.func 99) #[] #[.pointer (some q0)], .pointer (some ⟨w.heap.size, 0, none⟩), .pointer (some ⟨w.heap.size + 1, 0, none⟩), .pointer (some ⟨w.heap.size + 1 + 1, 0, none⟩), .pointer (some ⟨w.heap.size + 1 + 1 + 1, 0, none⟩), .int .i64 ((x.1 / n : Nat) : Int), .int .i64 ((x.1 % n : Nat) : Int), .agg Z, .func (.func 145) #[] #[.pointer (some ⟨bx, 0, none⟩)], .int .i64 ((x.1 / n : Nat) : Int), .int .i64 ((x.1 % n : Nat) : Int), undef, undef, undef, undef, undef, undef, undef, undef, undef], defers := [] })
  (fun x a' _ X Y row hs hg hr => hs)
  ?assign ?body ?done ?stop
 case assign =>
  rintro lp pre x W K hI hK
  unfold encX
  dsimp only
  gi_wp2
  exact hK _ _ (KeepsFrom.refl _ _) (KpX.refl W) hI rfl
 case body =>
  rintro lp pre ⟨i, hi⟩ a' W hl hr hI rfl hlt
  clear hs
  obtain ⟨s, hs⟩ : ∃ s, Hid (s = stE val nxt n s0 (pre.map (·.1))) := ⟨_, Lib.hid rfl⟩
  rw [← hs.out] at hI
  have fD : Fr No W W.drew := (Fr.refl No W).drew
  have hID : E12 R T w (.func (.func 99) #[] #[.pointer (some q0)]) s W.drew := ⟨hI.fn.fr fD (fun e => e), hI.res.fr fD (fun e => e), hI.br.fr fD (fun e => e), HR.out _ _ _ hI.r (fD.weak (fun _ _ e => e.elim)), hI.fr.trans' fD (fun _ _ e => e.elim)⟩
  have HID := Lib.hid hID
  have Hs2 : Hid (stE val nxt n s0 ((pre ++ [⟨i, hi⟩] : List (PX n)).map (·.1)) = (nxt s.1 i, updB s.2 (i / n * 4 + i % n) (val s.1 i))) := Lib.hid (by
   rw [List.map_append, hs.out]
   exact stE_snoc val nxt n s0 (pre.map (·.1)) i)
  have Hc := Lib.hid (Hcl.out s.1 i W.drew hi hID.fr hID.r)
  have hn0 : 0 < n := by
   rcases Nat.eq_zero_or_pos n with e | e
   ·subst e
    omega
   ·exact e
  have hc4 : i / n < 4 := by
   have := Nat.div_lt_of_lt_mul hi
   omega
  have hd4 : i % n < 4 := by
   have := Nat.mod_lt i hn0
   omega
  have HF : Hid (∀ V u, Fr T W.drew V → KeepsFrom W1.heap.size W (V.setCell ⟨w.heap.size + 1 + 1 + 1, i / n * 4 + i % n, none⟩ u) ∧ KpX bx n W (V.setCell ⟨w.heap.size + 1 + 1 + 1, i / n * 4 + i % n, none⟩ u)) := Lib.hid (fun V u h => by
   have h3 : Fr (fun i => T i ∨ i = w.heap.size + 1 + 1 + 1) W (V.setCell ⟨w.heap.size + 1 + 1 + 1, i / n * 4 + i % n, none⟩ u) := ((fD.weak (fun _ _ e => e.elim)).trans' h (fun _ _ e => .inl e)).setCell (p := ⟨w.heap.size + 1 + 1 + 1, i / n * 4 + i % n, none⟩) (.inl (.inr rfl)) u
   refine ⟨⟨h3.size, fun k o hk ho _ => (h3.block k (Array.getElem?_eq_some_iff.1 ho).1 (fun e => ?_)).trans ho⟩, KpX.fr h3 (fun e => ?_)⟩
   ·rcases e with e | e
    ·have := HT.out _ e
     omega
    ·omega
   ·have := HBX.out
    rcases e with e | e
    ·have := HT.out _ e
     omega
    ·omega)
  have HI2 : Hid (∀ V, Fr T W.drew V → R (nxt s.1 i) V → E12 R T w (.func (.func 99) #[] #[.pointer (some q0)]) (nxt s.1 i, s.2) V) := Lib.hid (fun V h hr => HID.out.step HT.out hr h)
  have x1 : W.drew.cell? ⟨w.heap.size + 1, 0, none⟩ = some (.func (.func 99) #[] #[.pointer (some q0)]) := hID.fn.cell 0
  obtain ⟨c, hce⟩ : ∃ c, c = i / n := ⟨_, rfl⟩
  obtain ⟨d, hde⟩ : ∃ d, d = i % n := ⟨_, rfl⟩
  rw [← hce, ← hde] at Hc Hs2 HF
  rw [← hce] at hc4
  rw [← hde] at hd4
  rw [← hce, ← hde]
  have ic4 : ((c : Nat) : Int) < 4 := by omega
  have id4 : ((d : Nat) : Int) < 4 := by omega
  clear hI hID hlt hl hr hce hde fD
  obtain ⟨u, hu⟩ : ∃ u, Hid (u = val s.1 i) := ⟨_, Lib.hid rfl⟩
  rw [← hu.out] at Hc Hs2
  gi_wp2_with fail
  refine region_round12 (by kernel_rfl) (noDefer_of (by kernel_rfl)) rfl ?_
  refine take12 12 (.int .i64 (c : Int)) (i := 0) rfl rfl rfl (by kernel_rfl) (by kernel_rfl) (by kernel_rfl) (fun _ _ _ h => h) (by rfl) (by intro w; go_simp; try with_reducible rfl) (fun _ => rfl) ?_
  simp only [Act.put, szA, szB, szC]
  refine take12 13 (.int .i64 (d : Int)) (i := 1) rfl rfl rfl (by kernel_rfl) (by kernel_rfl) (by kernel_rfl) (fun _ _ _ h => h) (by rfl) (by intro w; go_simp; try with_reducible rfl) (fun _ => rfl) ?_
  simp only [Act.put, szA, szB, szC]
  refine take12 15 (.int .i64 (c : Int)) (i := 3) rfl rfl rfl (by kernel_rfl) (by kernel_rfl) (by kernel_rfl) (fun _ _ _ h => h) (by rfl) (by intro w; go_simp; try with_reducible rfl) (fun _ => rfl) ?_
  simp only [Act.put, szA, szB, szC]
  refine take12 16 (.int .i64 (d : Int)) (i := 4) rfl rfl rfl (by kernel_rfl) (by kernel_rfl) (by kernel_rfl) (fun _ _ _ h => h) (by rfl) (by intro w; go_simp; try with_reducible rfl) (fun _ => rfl) ?_
  simp only [Act.put, szA, szB, szC]
  refine take12 18 (.pointer (some ⟨w.heap.size + 1 + 1 + 1, c * 4, none⟩)) (i := 6) rfl rfl rfl (by kernel_rfl) (by kernel_rfl) (by kernel_rfl) (fun _ _ _ h => h) (by rfl) (by intro w; go_simp; try with_reducible rfl) (fun _ => rfl) ?_
  simp only [Act.put, szA, szB, szC]
  refine val12 14 (.func (.func 99) #[] #[.pointer (some q0)]) (i := 2) rfl (by kernel_rfl) rfl rfl (by rfl) (by go_simp) rfl ?_
  simp only [Act.put, szA, szB, szC]
  refine call12 17 (i := 5) (f := 99) (args := #[.int .i64 (c : Int), .int .i64 (d : Int), .pointer (some q0)]) rfl (by kernel_rfl) rfl rfl (by rfl) (by go_simp) (R := fun v W' => v = .int .i64 u ∧ R (nxt s.1 i) W' ∧ Fr T W.drew W') (Hc.out.mono (fun e W' h => ⟨_, h.1, rfl, h.2⟩)) ?_
  rintro v W2 ⟨rfl, hr2, hf2⟩
  simp only [Act.put, szA, szB, szC]
  have h2 := HI2.out W2 hf2 hr2
  have H2 := Lib.hid h2
  have H3 := Lib.hid (HF.out W2 (.int .i64 u) hf2)
  have y1 : W2.cell? ⟨w.heap.size + 1 + 1 + 1, c * 4 + d, none⟩ = some (.int .i64 (s.2 (c * 4 + d))) := by rw [h2.br.cell]; exact br16_at _ (by omega)
  have y2 := h2.br.frozen (c * 4 + d)
  have y3 := h2.br.lt
  clear h2 hr2 hf2
  refine val12 19 (.pointer (some ⟨w.heap.size + 1 + 1 + 1, c * 4 + d, none⟩)) (i := 7) rfl (by kernel_rfl) rfl rfl (by rfl) (by go_simp) rfl ?_
  simp only [Act.put, szA, szB, szC]
  refine skip12 (i := 8) (w' := W2.setCell ⟨w.heap.size + 1 + 1 + 1, c * 4 + d, none⟩ (.int .i64 u)) rfl (by kernel_rfl) rfl rfl (by rfl) (by go_simp) rfl ?_
  refine wpAnyIn_done (by kernel_rfl) ?_ _
  gi_wp2
  refine ⟨H3.out.1, H3.out.2, ?_⟩
  show E12 R T w _ (stE val nxt n s0 ((pre ++ [⟨i, hi⟩] : List (PX n)).map (·.1))) _
  rw [Hs2.out]
  exact H2.out.put HR.out (by omega) u
 case done =>
  rintro D ys W hD hys hI hK
  rw [hys] at hI
  rw [← hs.out] at hI
  have hld := Lib.hid (ld_br hI.br)
  have hst := Lib.hid (st_br (b' := s.2) hI.res)
  have hne : D ≠ w.heap.size + 1 + 1 := by omega
  obtain ⟨W2, hW2⟩ : ∃ W2, Hid (W2 = W.setRow (w.heap.size + 1 + 1) (br16 s.2)) := ⟨_, Lib.hid rfl⟩
  have b2 : Bk W2 (w.heap.size + 1 + 1) 24 (br16 s.2) := by rw [hW2.out]; exact bk_row12 hI.res _
  have hK2 : W2.heap[D]? = some (.deferred (some [])) := by rw [hW2.out, setRow_other W (w.heap.size + 1 + 1) D _ hne]; exact hK
  have hF2 : Fr (fun i => w.heap.size ≤ i) W W2 := by rw [hW2.out]; exact fr_row12 (Fr.refl _ W) (.inl (by omega)) _
  have hF3 : Fr (fun i => w.heap.size ≤ i) W2 (W2.putObj D (.deferred none)) := (Fr.refl _ W2).grown (grownBy_putObj' W2 D _) (fun k e => by cases e; exact .inl (by omega))
  have HR2 := Lib.hid (HR.out _ _ _ (HR.out _ _ _ hI.r hF2) hF3)
  have HF2 := Lib.hid ((hI.fr.trans' hF2 (fun i hi e => by have e : w.heap.size ≤ i := e; omega)).trans' hF3 (fun i hi e => by have e : w.heap.size ≤ i := e; omega))
  have b3 : Bk (W2.putObj D (.deferred none)) (w.heap.size + 1 + 1) 24 (br16 s.2) := (World.putObj_heap_other (fun e => hne e.symm)).trans b2
  have HL := Lib.hid (ld_br b3)
  have HK2 := Lib.hid hK2
  rw [← hW2.out] at hst
  clear hI hK b2 b3 hK2 hF2 hF3 hys
  gi_wp2_with (first
   | ((with_reducible refine wplIn_ld ?_ ?_ hld.out ?_); (· rfl); (· rfl); simp only [Act.put, szA, szB, szC])
   | ((with_reducible refine wplIn_st ?_ ?_ ?_ hst.out ?_); (· rfl); (· rfl); (· rfl); simp only [Act.put]))
  refine ⟨by simp, .inl ⟨_, _, rfl, run_takeDeferred HK2.out, ?_⟩⟩
  exact ⟨.agg (br16 s.2), cell_result Tryz.results98 HL.out rfl, rfl, HR2.out, HF2.out⟩
 case stop =>
  rintro D cd pre W hD hpre hI hK
  exact hI.elim

end Go.Proofs.YtmeimhpllemjfaaGreat
