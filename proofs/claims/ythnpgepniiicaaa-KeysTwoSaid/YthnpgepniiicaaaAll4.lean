/- Package keys: the keys of a set, one by one. -/
import Derived.RangeFuncBox
import Derived.RangeFuncLeaves
import Derived.Shelf.Abstract
import Derived.WalkKit
import Derived.OwnWalkIn
import Derived.TacticsInMore
import Derived.LoopNIn
import Derived.LoopIn
import Derived.Maps.AppendAt
import Derived.Test.YthnpgepniiicaaaMay4
namespace Go.Proofs.Ythnpgepniiicaaa
open Go.RowKit Go.Shelf

attribute [local go_sem] Oper.semAt_some

/-- What the loop's body keeps: rows of spans, and boxes of lists of spans. -/
def KpS (W W' : World) : Prop := ∀ g t cs, (t = 30 ∨ t = 22) → Bk W g t cs → Bk W' g t cs
theorem KpS.refl (W : World) : KpS W W := fun _ _ _ _ h => h
theorem KpS.trans {A B C : World} (h : KpS A B) (k : KpS B C) : KpS A C := fun g t cs ht hb => k g t cs ht (h g t cs ht hb)
theorem KpS.putObj {w : World} (W : World) (l : Nat) (o o' : Obj) (_ : w.heap.size ≤ l) (h : W.heap[l]? = some o) (hc : o.isCells = false) (_ : o.isWalk = false) : KpS W (W.putObj l o') := fun g t cs _ hb => by
  refine (World.putObj_heap_other (fun e => ?_)).trans hb
  subst e
  have := (show W.heap[g]? = _ from hb).symm.trans h
  injection this with this
  rw [← this] at hc
  cases hc
theorem KpS.alloc {A B : World} (h : KpS A B) (o : Obj) : KpS A (B.alloc o) := fun g t cs ht hb => (h g t cs ht hb).alloc o
theorem KpS.own {W W' : World} (h : KpS W W') {B n c k : Nat} {A : Option Addr} {xs : List Value} (ho : W.ownsRow B 30 k (.slice A n c) n xs) : W'.ownsRow B 30 k (.slice A n c) n xs := by
  refine ⟨ho.1, ?_⟩
  rcases ho.2 with h0 | ⟨g, cap, cur, hv, hb, hg, r⟩
  · exact .inl h0
  · exact .inr ⟨g, cap, cur, hv, hb, h g _ cur (.inl rfl) hg, r⟩
theorem KpS.fr {S : Nat → Prop} {W W' : World} (h : Fr S W W') (hS : ∀ g t cs, (t = 30 ∨ t = 22) → Bk W g t cs → ¬ S g) : KpS W W' := fun g t cs ht hb => hb.fr h (hS g t cs ht hb)

theorem flatK_app (l m : List Span) : flatK (l ++ m) = flatK l ++ flatK m := by simp [flatK]
theorem flatK_one (a b : Nat) : flatK [((a : Int), ((a + b : Nat) : Int))] = List.range' a (b + 1) := by
  simp only [flatK, List.flatMap_cons, List.flatMap_nil, List.append_nil, spKeys]
  congr 1
  omega
theorem flat_pre (zs : List Span) (j a b i : Nat) (hj : j < zs.length) (he : zs[j] = ((a : Int), ((a + b : Nat) : Int))) (hi : i ≤ b + 1) : flatK (zs.take j) ++ List.range' a i <+: flatK zs := by
  have h1 : zs = zs.take j ++ (zs[j] :: zs.drop (j + 1)) := by rw [List.getElem_cons_drop, List.take_append_drop]
  have h2 : flatK zs = flatK (zs.take j) ++ (List.range' a (b + 1) ++ flatK (zs.drop (j + 1))) := by
    rw [← flatK_one, ← he, ← flatK_app, ← flatK_app]
    exact congrArg flatK h1
  rw [h2, List.prefix_append_right_inj]
  refine List.IsPrefix.trans ?_ (List.prefix_append _ _)
  obtain ⟨k, hk⟩ : ∃ k, b + 1 = i + k := ⟨b + 1 - i, by omega⟩
  rw [hk, ← List.range'_append_1]
  exact List.prefix_append _ _

set_option maxRecDepth 100000 in
set_option maxHeartbeats 4000000 in
theorem each1_in (F : Fence) (n : Nat) (hF : F.fn 29) (hro : F.round = none) (hn : 1 ≤ n) (l Bn : Nat) (A : Option Addr) (m c : Nat) (zs : List Span) (J Jx : List Nat → World → Prop) (W : World) (hJa : AbidesFrom W.heap.size J)
    (hY : ∀ pre (x : Nat) W1, J pre W1 → pre.length < (flatK zs).length → YieldAt F (n - 1) Try.prog l #[.int .i64 (x : Int)] W1 fun e W' =>
      (e = .returned (.bool true) ∧ J (pre ++ [x]) W' ∧ KpS W1 W') ∨ (e = .returned (.bool false) ∧ Jx (pre ++ [x]) W'))
    (hBn : Bk W Bn 22 #[.slice A m c]) (hown : W.ownsRow 0 30 2 (.slice A m c) m (sps zs)) (hm : zs.length = m) (hml : m ≤ 1048576) (hok : ∀ p ∈ zs, okSp p) (h0 : J [] W) :
    CallsIn F n Try.prog 29 #[.func (.yield l) #[] #[], .pointer (some ⟨Bn, 0, none⟩)] W fun e W' => (∃ v, e = .returned v) ∧
      ((∃ ys, ys = flatK zs ∧ J ys W') ∨ (∃ pre, pre <+: flatK zs ∧ Jx pre W')) := by
  have b0 := hBn.cell 0
  simp at b0
  have Hm := Lib.hid hm
  clear hm hBn
  refine callsIn_of_wp Try.func29 rfl hF ?_ hro
  simp only [Try.ntmps29, List.size_toArray, List.length_cons, List.length_nil, Nat.reduceAdd, Nat.reduceSub, Array.replicate_succ, Array.replicate_zero, List.push_toArray, List.append_toArray, List.nil_append, List.cons_append]
  gi_wp2
  gi_loopw [8] (fun iv wr => ∃ j : Nat, j ≤ m ∧ iv = .int .i64 j ∧ J (flatK (zs.take j)) wr ∧ KpS W wr) (fun i _ => m - (intOf i).toNat)
  case atStart => exact ⟨0, by omega, rfl, h0, KpS.refl _⟩
  case round =>
    obtain ⟨j, hj, rfl, hJ, hK⟩ := hrel
    by_cases hlt : j < m
    · have hjz : j < zs.length := by rw [Hm.out]; exact hlt
      obtain ⟨g, rfl⟩ : ∃ g, A = some ⟨g, 0, none⟩ := by
        obtain ⟨g, cap, hv, _, _⟩ := hown.form (by omega)
        exact ⟨g, by injection hv⟩
      obtain ⟨c0, c1, -⟩ := own_cells (hK.own hown) hjz
      obtain ⟨o1, o2, o3⟩ := hok _ (List.getElem_mem hjz)
      obtain ⟨a, ha⟩ : ∃ a : Nat, zs[j].1 = a := ⟨zs[j].1.toNat, by omega⟩
      obtain ⟨b, hb⟩ : ∃ b : Nat, zs[j].2 = ((a + b : Nat) : Int) := ⟨(zs[j].2 - zs[j].1).toNat, by omega⟩
      have Hpre : Hid (∀ i, i ≤ b + 1 → flatK (zs.take j) ++ List.range' a i <+: flatK zs) := Lib.hid (fun i hi => flat_pre zs j a b i hjz (by rw [← ha, ← hb]) hi)
      have Hnx : Hid (flatK (zs.take (j + 1)) = flatK (zs.take j) ++ List.range' a (b + 1)) := Lib.hid (by
        rw [List.take_succ_eq_append_getElem hjz, flatK_app, ← flatK_one, ← ha, ← hb])
      obtain ⟨E, hE⟩ : ∃ E, E = a + b := ⟨_, rfl⟩
      rw [← hE] at hb
      rw [ha] at c0 o1 o2
      rw [hb] at c1 o2 o3
      have hbx := Bk.made wr 30 #[.int .i64 (a : Int), .int .i64 (E : Int)]
      have hJ1 := hJa _ _ (wr.alloc (.cells #[.int .i64 (a : Int), .int .i64 (E : Int)] 30)) none hJ (World.grownBy_alloc wr _ none) (fun r e => by cases e)
      have hK1 := hK.alloc (.cells #[.int .i64 (a : Int), .int .i64 (E : Int)] 30)
      have hk9 : E ≤ 999 := by omega
      have haE : a ≤ E := by omega
      have Hpr2 : Hid (∀ x, x ≤ E + 1 → flatK (zs.take j) ++ List.range' a (x - a) <+: flatK zs) := Lib.hid (fun x hx => Hpre.out (x - a) (by omega))
      have Hnx2 : Hid (flatK (zs.take (j + 1)) = flatK (zs.take j) ++ List.range' a (E + 1 - a)) := Lib.hid (by rw [Hnx.out, hE]; congr 2; omega)
      clear ha hb hE Hpre Hnx
      obtain ⟨G, HGb⟩ : ∃ G, Hid (G = wr.heap.size) := ⟨_, Lib.hid rfl⟩
      rw [← HGb.out] at hbx
      gi_wp2
      rw [← HGb.out]
      gi_loopw [5] (fun kv wx => ∃ x : Nat, a ≤ x ∧ x ≤ E + 1 ∧ kv = .int .i64 (x : Int) ∧ J (flatK (zs.take j) ++ List.range' a (x - a)) wx ∧ Bk wx G 30 #[.int .i64 (a : Int), .int .i64 (E : Int)] ∧ KpS W wx) (fun k _ => E + 1 - (intOf k).toNat)
      case atStart => exact ⟨a, by omega, by omega, rfl, by simpa using hJ1, hbx, hK1⟩
      case round =>
        clear hJ hK hJ1 hbx hK1 c0 c1
        obtain ⟨x, hax, hxE, rfl, hJ, hbx, hK⟩ := hrel
        have x1 := hbx.cell 1
        simp at x1
        by_cases hle : x ≤ E
        · have hpl : (flatK (zs.take j) ++ List.range' a (x - a)).length < (flatK zs).length := by
            have h1 := (Hpr2.out (x + 1) (by omega)).length_le
            simp at h1 ⊢
            omega
          obtain ⟨fn, tmps, assign, body, hy, hR⟩ := hY _ x wr hJ hpl
          have HR : Hid (flatK (zs.take j) ++ List.range' a (x + 1 - a) = flatK (zs.take j) ++ List.range' a (x - a) ++ [x]) := Lib.hid (by
            rw [show x + 1 - a = x - a + 1 by omega, List.range'_1_concat, List.append_assoc, show a + (x - a) = x by omega])
          clear hpl
          gi_wp2
          refine hR.mono ?_
          rintro e W3 (⟨rfl, hJ3, hk3⟩ | ⟨rfl, hJx3⟩)
          · have hbx3 := hk3 _ _ _ (.inl rfl) hbx
            clear hbx x1
            gi_wp2
            go_roundw
            case rel => exact ⟨x + 1, by omega, by omega, by go_num, by rw [HR.out]; exact hJ3, hbx3, hK.trans hk3⟩
            case measure => simp [intOf]; omega
          · gi_wp2
            refine bodyPost_ret (results_none rfl _ _ _) rfl ?_
            exact ⟨⟨_, rfl⟩, .inr ⟨_, by rw [← HR.out]; exact Hpr2.out (x + 1) (by omega), hJx3⟩⟩
        · have hJ4 : J (flatK (zs.take (j + 1))) wr := by
            rw [Hnx2.out, show E + 1 - a = x - a by omega]
            exact hJ
          gi_wp2
          go_roundw
          case rel => exact ⟨j + 1, by omega, by go_num, hJ4, hK⟩
          case measure => simp [intOf]; omega
    · have hall : zs.take j = zs := List.take_of_length_le (by rw [Hm.out]; omega)
      rw [hall] at hJ
      gi_wp2
      go_end0
      exact ⟨⟨_, rfl⟩, .inl ⟨_, rfl, hJ⟩⟩

theorem each_stops (F : Fence) (n : Nat) (hF : F.fn 29) (hro : F.round = none) (hn : 1 ≤ n) (Bn : Nat) (A : Option Addr) (m c : Nat) (zs : List Span) (w : World)
    (hBn : Bk w Bn 22 #[.slice A m c]) (hown : w.ownsRow 0 30 2 (.slice A m c) m (sps zs)) (hm : zs.length = m) (hml : m ≤ 1048576) (hok : ∀ p ∈ zs, okSp p) :
    SeqStopsK F n Try.prog 29 #[.pointer (some ⟨Bn, 0, none⟩)] (fun x : Nat => #[Value.int .i64 (x : Int)]) KpS (fun ys => ys = flatK zs) (fun pre => pre <+: flatK zs) (flatK zs).length w := fun l J Jx W hW hJ _ hY h0 =>
  each1_in F n hF hro hn l Bn A m c zs J Jx W hJ hY ((hW.block Bn hBn.lt).trans hBn) (own_fr hown (Fr.ofBelow hW (fun _ => False)) (fun _ _ e => e)) hm hml hok h0
set_option maxHeartbeats 1000000 in
theorem each_in (F : Fence) (n : Nat) (hF : F.fn 23) (hro : F.round = none) (A : Option Addr) (m c : Nat) (w : World) :
    CallsIn F n Try.prog 23 #[.slice A m c] w fun e w' => e = .returned (.func (.func 29) #[] #[.pointer (some ⟨w.heap.size, 0, none⟩)]) ∧ w' = w.alloc (.cells #[.slice A m c] 22) := by
  refine callsIn_of_wp Try.func23 rfl hF ?_ hro
  simp only [Try.ntmps23, List.size_toArray, List.length_cons, List.length_nil, Nat.reduceAdd, Nat.reduceSub, Array.replicate_succ, Array.replicate_zero, List.push_toArray, List.append_toArray, List.nil_append, List.cons_append]
  gi_wp2
  go_ret
  exact ⟨rfl, rfl⟩
theorem info_int4 : (Try.prog.info? 3).map (fun i => (i.zero, i.size, i.bytes)) = some (some (.int .i64 0), 1, 8) := by kernel_rfl
theorem i64s_app (xs ys : List Nat) : i64s (xs ++ ys) = i64s xs ++ i64s ys := by simp [i64s]

set_option maxRecDepth 100000 in
set_option maxHeartbeats 4000000 in
theorem kAll_wide (zs : List Span) (v : Value) (w : World) (hpl : ∀ W, Fr No w W → Calls Try.prog 14 #[v] W (NewO W zs)) (hok : IsPl zs) (hlen : (flatK zs).length ≤ 1000) (hz : zs.length ≤ 1000) :
    Calls Try.prog 9 #[v] w fun e w' => ∃ B c2, e = .returned (.slice B (flatK zs).length c2) ∧ Sl w' w'.heap.size B (i64s (flatK zs)) ∧ Fr No w w' := by
  refine (callsIn_wide (n := 3)).1 ?_
  have h1 : 1 ≤ 3 := by omega
  obtain ⟨i0, hi, hz0, hz1, hz2⟩ := info_parts info_int4
  have q := hpl _ ((Fr.refl No w).alloc (.cells #[.slice none 0 0] 26))
  refine callsIn_of_wp_marks Try.func9 rfl trivial ?_ rfl
  simp only [Try.ntmps9, List.size_toArray, List.length_cons, List.length_nil, Nat.reduceAdd, Nat.reduceSub, Array.replicate_succ, Array.replicate_zero, List.push_toArray, List.append_toArray, List.nil_append, List.cons_append]
  gi_wp2_with (first
    | (refine ⟨trivial, ?_⟩; gi_at_call 14; refine (callsIn_wide.2 q).mono ?_; rintro e w1 ⟨A, c, rfl, hown, hf1⟩)
    | (refine ⟨trivial, ?_⟩; gi_at_call 23; refine (each_in Fence.wide _ trivial rfl _ _ _ _).mono ?_; rintro e w' ⟨rfl, rfl⟩))
  have bO0 := Boxed.new w 26 (.slice none 0 0)
  have bO : Boxed (w1.alloc (.cells #[.slice A zs.length c] 22)) w.heap.size 26 (.slice none 0 0) := Bk.alloc (Bk.fr bO0 hf1 (fun e => e)) _
  have bN := Bk.made w1 22 #[.slice A zs.length c]
  have hB1 := ((Fr.refl No w).alloc (.cells #[.slice none 0 0] 26)).trans' hf1 (fun _ _ e => e)
  have hB0 : Below w.heap.size w (w1.alloc (.cells #[.slice A zs.length c] 22)) := (hB1.alloc _).below0
  have hsz := hB1.size
  have hown0 := own_base (B' := 0) (hown.alloc (.cells #[.slice A zs.length c] 22)) (Nat.zero_le _)
  clear q hpl hown
  refine wpIn_rangeFunc_ownG rfl h1 (gf := 29) (lb := #[.pointer (some ⟨w1.heap.size, 0, none⟩)]) rfl trivial (enters_of Try.func29 (by kernel_rfl) rfl)
    (each_stops Fence.wide (3 - 1) trivial rfl (by omega) w1.heap.size A zs.length c zs _ bN hown0 rfl (by omega) hok.ok) KpS.trans KpS.putObj (Below.refl _ _) (fun _ => rfl)
    (fun pre W => (∃ u, Boxed W w.heap.size 26 u ∧ W.ownsRow w.heap.size 3 1 u pre.length (i64s pre) ∧ True) ∧ Below w.heap.size w W)
    (fun _ _ _ => False)
    (OwnFrom.and (Own.from (holdsRow_own w.heap.size w.heap.size 26 3 1 (fun pre => pre.length) (fun pre => i64s pre) (fun _ _ => True)) _) (ownFrom_below (Nat.le_refl _) (by simp; omega)))
    (fun _ _ _ _ _ hs _ _ => hs)
    ⟨⟨_, bO, World.ownsRow_nil _ _ _ _, trivial⟩, hB0⟩
    (fun x => { tmps := #[v, undef, .slice none 0 0, .pointer (some ⟨w.heap.size, 0, none⟩), .int .i64 (x : Int), v, .slice A zs.length c, .func (.func 29) #[] #[.pointer (some ⟨w1.heap.size, 0, none⟩)], .int .i64 (x : Int), undef, undef, undef, undef, undef], defers := [] }) ?assign ?body ?done ?stop
  case assign =>
    intro l x W K hK
    gi_wp2
    exact hK
  case body =>
    rintro l pre x W ⟨⟨u, hv, hrow, -⟩, hB⟩ hlt
    have hc := hv.cell
    have hpl : pre.length ≤ 1000 := by omega
    gi_wp2_with (gi_at_builtin; refine wpListIn_append_own _ rfl _ _ 26 rfl w.heap.size 3 i0 (.int .i64 0) 1 8 Try.underlying26 hi hz0 hz1 hz2 rfl (by decide) _ _ _ rfl (hrow.alloc _) ⟨W.heap.size, 0, none⟩ 1 1 [.int .i64 (x : Int)] rfl rfl (cell_one_new _ _ _) (by simp [Value.oneCell']) (by unfold maxLen; omega) (by omega) (by have := hB.size; simp; omega) ?_; intro v' w2 hown' hgrow _; obtain ⟨g', cap', rfl⟩ := ownsRow_succ hown'; obtain ⟨hv1, hv2, hr2, hk2, hb2⟩ := hv.appended (by decide) hrow hB.size (Nat.le_refl _) hown' hgrow; have hc1 := hv1.cell; have hf1 := hv1.frozen)
    have hKp : KpS W (w2.setCell ⟨w.heap.size, 0, none⟩ (.slice (some ⟨g', 0, none⟩) (pre.length + 1) cap')) := fun g t cs ht hb => by
      have hne : g ≠ w.heap.size := Bk.apart hb hv (by rcases ht with rfl | rfl <;> decide)
      refine Bk.setCell_other (Bk.grown (hb.alloc (.cells #[.int .i64 (x : Int)] 3)) hgrow ?_) hne _
      exact own_apart hrow hb (by rcases ht with rfl | rfl <;> decide)
    exact ⟨hk2.from _, hKp, ⟨_, hv2, by
      have e : (pre ++ [x]).length = pre.length + 1 := by simp
      rw [i64s_app, e]
      exact hr2, trivial⟩, hB.trans hb2⟩
  case done =>
    rintro D ys W hD rfl ⟨⟨u, hv, hrow, -⟩, hB⟩ hK
    obtain ⟨B, c2, rfl, -, -, -⟩ := own_shape hrow
    have hc := hv.cell
    gi_wp2
    refine ⟨by simp, .inl ⟨_, _, rfl, run_takeDeferred hK, ?_⟩⟩
    exact ⟨_, results_tmp rfl _ _ _, B, c2, rfl, Sl.ofOwn (ownsRow_putObj hrow _ hK rfl), Fr.ofBelow (hB.trans (belowK_b (w := w) (Nat.le_refl _) W D _ _ (by simp at hD; omega) hK rfl rfl)) _⟩
  case stop =>
    rintro D c pre W _ _ h _
    exact h.elim
end Go.Proofs.Ythnpgepniiicaaa
