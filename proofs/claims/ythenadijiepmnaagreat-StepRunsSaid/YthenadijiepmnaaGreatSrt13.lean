/- Package step: changes put in order by the library; the values of a map of changes, one by one, gathered. -/
import Derived.Test.YthenadijiepmnaaGreatAlw13
import Derived.Test.YthenadijiepmnaaGreatShl4
import Derived.Test.YthenadijiepmnaaGreatPgs5
import Derived.Shelf.SlSortCmp.NoneTotal
namespace Go.Proofs.YthenadijiepmnaaGreat
open Go.RowKit Go.Shelf Go.Lib Go.Sort

instance : Inhabited Chg := ⟨⟨0, false, 0⟩⟩
theorem ltKy (x y : Chg) : ltOf (fun x y : Chg => Lib.compareInt x.key y.key) x y = decide (x.key < y.key) := by
  unfold ltOf Lib.compareInt
  by_cases h1 : x.key < y.key
  · simp [h1]
  · by_cases h2 : y.key < x.key <;> simp [h1, h2]
theorem swoKy : SWO (ltOf fun x y : Chg => Lib.compareInt x.key y.key) where
  irrefl x := by rw [ltKy]; simp
  trans x y z h1 h2 := by rw [ltKy] at *; simp at *; omega
  ntrans x y z h1 h2 := by rw [ltKy] at *; simp at *; omega
set_option maxHeartbeats 1000000 in
theorem closKy (x y : Chg) (W : World) : Calls Tryz.prog 50 #[.agg #[.int .i64 x.key, .bool x.gone, .int .i64 x.value], .agg #[.int .i64 y.key, .bool y.gone, .int .i64 y.value]] W fun e w' => e = .returned (.int .i64 (Lib.compareInt x.key y.key)) ∧ ∃ q os', w' = grow (W.drewN q) os' := by
  have hcon := fun W' => AnyG.cmp_Compare_int cmpK x.key y.key W'
  change ∀ W', Calls Tryz.prog 51 _ _ _ at hcon
  generalize Lib.compareInt x.key y.key = r at hcon ⊢
  go_enter Tryz.func50, Tryz.ntmps50
  go_wp2_with (go_at_call 51; refine (hcon _).mono ?_; rintro e w' ⟨rfl, rfl⟩)
  go_ret
  exact ⟨rfl, 0, _, by rw [alloc_eq_grow, alloc_eq_grow, grow_grow]; rfl⟩
theorem laysKy (blk off size : Nat) (w : World) : CmpLays Tryz.prog 50 #[] Chg.cells 3 (fun x y => Lib.compareInt x.key y.key) blk off size w :=
  fun _ _ _ _ x y => closKy x y _
theorem chgs_len (l : List Chg) : (l.flatMap Chg.cells).length = l.length * 3 := by
  induction l with
  | nil => rfl
  | cons x l ih => rw [List.flatMap_cons, List.length_append, ih, List.length_cons]; show 3 + _ = _; omega
theorem chgs_at : ∀ (l : List Chg) (i : Nat) (hi : i < l.length), (l.flatMap Chg.cells)[i * 3]? = some (.int .i64 l[i].key) ∧ (l.flatMap Chg.cells)[i * 3 + 1]? = some (.bool l[i].gone) ∧ (l.flatMap Chg.cells)[i * 3 + 2]? = some (.int .i64 l[i].value)
  | x :: l, 0, _ => ⟨rfl, rfl, rfl⟩
  | x :: l, i + 1, hi => by
    obtain ⟨h1, h2, h3⟩ := chgs_at l i (by simpa using hi)
    have e : ∀ j, ((x :: l).flatMap Chg.cells)[(i + 1) * 3 + j]? = (l.flatMap Chg.cells)[i * 3 + j]? := fun j => by
      rw [List.flatMap_cons, List.getElem?_append_right (by show 3 ≤ _; omega)]
      congr 1
      show (i + 1) * 3 + j - 3 = _
      omega
    exact ⟨(e 0).trans h1, (e 1).trans h2, (e 2).trans h3⟩
theorem holdsC_of {w : World} {B g n c : Nat} {l : List Chg} (h : w.ownsRow B 57 3 (.slice (some ⟨g, 0, none⟩) n c) n (l.flatMap Chg.cells)) (hn : l.length = n) : HoldsK Chg.cells 3 w g 0 l.toArray := by
  intro j hj
  rw [size_flatK] at hj
  have hjl : j < l.length * 3 := by simpa using hj
  rw [get_flatK _ _ _ _ hj]
  have hi : j / 3 < l.length := by omega
  have hcell : w.cell? ⟨g, j, none⟩ = (l.flatMap Chg.cells)[j]? := h.cellAt _ (by omega)
  have hfz : w.frozen? ⟨g, j, none⟩ = false := by
    rcases h.2 with ⟨hv, _⟩ | ⟨g', cap', cur, hv, _, hgg, _⟩
    · cases hv
    · obtain ⟨rfl, -⟩ : g = g' ∧ True := by simp at hv; exact ⟨hv.1, trivial⟩
      exact Bk.frozen (t := 57) hgg _
  have e : (⟨g, 0 + j, none⟩ : Addr) = ⟨g, j, none⟩ := by simp
  rw [e]
  refine ⟨?_, hfz⟩
  rw [hcell]
  obtain ⟨s0, s1, s2⟩ := chgs_at l (j / 3) hi
  have el : l.toArray[j / 3]! = l[j / 3] := by simp [hi]
  rw [el]
  rcases (show j % 3 = 0 ∨ j % 3 = 1 ∨ j % 3 = 2 by omega) with h2 | h2 | h2
  · have e2 : (l.flatMap Chg.cells)[j]? = (l.flatMap Chg.cells)[j / 3 * 3]? := by congr 1; omega
    rw [h2, e2, s0]; rfl
  · have e2 : (l.flatMap Chg.cells)[j]? = (l.flatMap Chg.cells)[j / 3 * 3 + 1]? := by congr 1; omega
    rw [h2, e2, s1]; rfl
  · have e2 : (l.flatMap Chg.cells)[j]? = (l.flatMap Chg.cells)[j / 3 * 3 + 2]? := by congr 1; omega
    rw [h2, e2, s2]; rfl
theorem sl_holdsC {w : World} {g B : Nat} {d : Array Chg} (h : HoldsK Chg.cells 3 w g 0 d) (hg : g < B) : Sl w B (some ⟨g, 0, none⟩) (d.toList.flatMap Chg.cells) := by
  intro _
  refine ⟨_, rfl, hg, fun j u hu => ?_⟩
  have hj : j < d.size * 3 := by
    have := (List.getElem?_eq_some_iff.1 hu).1
    rw [chgs_len] at this
    simpa using this
  have e : (⟨g, 0, none⟩ : Addr).add j = ⟨g, 0 + j, none⟩ := by cases j <;> simp [Addr.add]
  rw [e]
  have h1 := (h j (by rw [size_flatK]; exact hj)).1
  rw [get_flatK _ _ _ _ hj] at h1
  rw [h1]
  have hi : j / 3 < d.toList.length := by simp; omega
  obtain ⟨s0, s1, s2⟩ := chgs_at d.toList (j / 3) hi
  have el : d[j / 3]! = d.toList[j / 3] := by
    rw [getElem!_pos d (j / 3) (by omega)]
    simp
  rw [el, ← hu]
  rcases (show j % 3 = 0 ∨ j % 3 = 1 ∨ j % 3 = 2 by omega) with h2 | h2 | h2
  · have e2 : (d.toList.flatMap Chg.cells)[j]? = (d.toList.flatMap Chg.cells)[j / 3 * 3]? := by congr 1; omega
    rw [h2, e2, s0]; rfl
  · have e2 : (d.toList.flatMap Chg.cells)[j]? = (d.toList.flatMap Chg.cells)[j / 3 * 3 + 1]? := by congr 1; omega
    rw [h2, e2, s1]; rfl
  · have e2 : (d.toList.flatMap Chg.cells)[j]? = (d.toList.flatMap Chg.cells)[j / 3 * 3 + 2]? := by congr 1; omega
    rw [h2, e2, s2]; rfl
theorem fr_sortWorldC (w : World) (g n : Nat) (d : Array Chg) (os : Array Obj) : Fr (fun k => k = g) w (sortWorldK Chg.cells 3 w g 0 n d os) := by
  refine ⟨⟨?_, ?_, ?_⟩, size_sortWorldK_c Chg.cells 3 w g 0 n d os, fun i hi hne => ?_⟩
  · rfl
  · rfl
  · rfl
  · unfold sortWorldK
    rw [heap_grow_old _ _ (by rw [size_putRowK]; exact hi)]
    unfold putRowK putRow
    show (w.heap.modify g _)[i]? = w.heap[i]?
    rw [Array.getElem?_modify, if_neg (fun e => hne e.symm)]
set_option maxHeartbeats 1000000 in
theorem cSort_any (A : Option Addr) (n c B : Nat) (l : List Chg) (w : World) (h : w.ownsRow B 57 3 (.slice A n c) n (l.flatMap Chg.cells)) (hn : l.length = n) (hle : n ≤ 4194304) :
    Calls Tryz.prog 84 #[.slice A n c, .func (.func 50) #[] #[]] w fun e w' => e = .returned (.tuple #[]) ∧
      ∃ d : List Chg, d.length = n ∧ d.Perm l ∧ d.Pairwise (fun x y => x.key ≤ y.key) ∧ Sl w' w'.heap.size A (d.flatMap Chg.cells) ∧ Fr (fun k => B ≤ k) w w' := by
  rcases Nat.eq_zero_or_pos n with h0 | h0
  · subst h0
    obtain rfl := List.eq_nil_of_length_eq_zero hn
    have q := AnyF.slices_SortFunc_none { sortC with } A c (.func (.func 50) #[] #[]) w
    change Calls Tryz.prog 84 _ _ _ at q
    refine q.mono ?_
    rintro e w' ⟨rfl, rfl⟩
    exact ⟨rfl, [], rfl, List.Perm.refl _, .nil, Sl.nil _ _ _, Fr.refl _ _⟩
  · obtain ⟨g, cap, hv, hBg, hlt⟩ := h.form h0
    obtain ⟨rfl, rfl⟩ : A = some ⟨g, 0, none⟩ ∧ c = cap := by injection hv with h1 h2 h3; exact ⟨h1, h3⟩
    have eg : ∀ args w, (callFunc 50 args).run Tryz.prog w = .ok (.enter 50 args) w := enters_of Tryz.func50 (by kernel_rfl) rfl
    have hH := holdsC_of h hn
    have hsz : l.toArray.size = n := by simp [hn]
    have q := AnyQ.slices_SortFunc sortC 3 Tryz.isAgg57 Tryz.sizeOf57 Chg.cells (fun _ => rfl) (fun x v hv => by simp [Chg.cells] at hv; rcases hv with rfl | rfl | rfl <;> rfl) (fun x y => Lib.compareInt x.key y.key) swoKy 50 #[] g 0 c l.toArray w eg (laysKy g 0 _ w) hH hlt (by rw [hsz]; omega)
    rw [hsz] at q
    change Calls Tryz.prog 84 _ _ _ at q
    refine q.mono ?_
    rintro e w' ⟨rfl, d', m, os, hp, hs, rfl⟩
    have hd : d'.size = n := by rw [hp.1, hsz]
    refine ⟨rfl, d'.toList, by simp [hd], ?_, ?_, sl_holdsC (holdsK_sortWorldK_c Chg.cells 3 w g 0 _ _ _ _ hH hlt (by rw [hd, hsz])) (Nat.lt_of_lt_of_le hlt (size_sortWorldK_c Chg.cells 3 w g 0 m d' os)), (fr_sortWorldC w g m d' os).weak (fun k _ e => by rw [e]; exact hBg)⟩
    · have h3 := hp.2.2
      rw [← hd] at h3
      have e1 : (d'.extract 0 d'.size) = d' := by simp
      have e2 : (l.toArray.extract 0 d'.size) = l.toArray := by rw [hd, ← hsz]; simp
      rw [e1, e2] at h3
      exact h3
    · rw [List.pairwise_iff_getElem]
      intro i j hi hj hij
      have h4 := hs i j (Nat.zero_le _) hij (by simp at hj; omega)
      rw [ltKy, decide_eq_false_iff_not] at h4
      simp at hi hj
      rw [getElem!_pos d' i (by omega), getElem!_pos d' j (by omega)] at h4
      simp
      omega
/-- In order, they are the changes of the keys that were written. -/
theorem chgsTo_map (wt : Nat → Bool) (m : Mp) (n : Nat) : chgsTo wt m n = ((List.range n).filter wt).map (chgAt m) := by
  induction n with
  | zero => rfl
  | succ n ih =>
    rw [chgsTo, ih, List.range_succ, List.filter_append, List.map_append]
    congr 1
    cases h : wt n <;> simp [h]
theorem sorted_eq : ∀ {a b : List Chg}, a.Pairwise (fun x y => x.key < y.key) → b.Pairwise (fun x y => x.key ≤ y.key) → b.Perm a → b = a
  | [], b, _, _, hp => List.perm_nil.1 hp
  | x :: a, [], _, _, hp => absurd hp.length_eq (by simp)
  | x :: a, y :: b, ha, hb, hp => by
    have hy : y = x := by
      rcases List.mem_cons.1 (hp.mem_iff.1 (List.mem_cons_self)) with e | e
      · exact e
      · have h1 := (List.pairwise_cons.1 ha).1 y e
        rcases List.mem_cons.1 (hp.symm.mem_iff.1 (List.mem_cons_self)) with e2 | e2
        · exact e2.symm
        · have h2 := (List.pairwise_cons.1 hb).1 x e2
          omega
    subst hy
    rw [sorted_eq (List.pairwise_cons.1 ha).2 (List.pairwise_cons.1 hb).2 (List.Perm.cons_inv hp)]
theorem gathered {wt : Nat → Bool} {m : Mp} {xs : List Nat} (hn : xs.Nodup) (hx : ∀ i, i ∈ xs ↔ i < 1000 ∧ wt i = true) {d : List Chg} (hp : d.Perm (xs.map (chgAt m))) (hs : d.Pairwise fun x y => x.key ≤ y.key) : d = chgsOf wt m := by
  refine sorted_eq (chgsOf_rise wt m) hs (hp.trans ?_)
  unfold chgsOf
  rw [chgsTo_map]
  refine List.Perm.map _ ((List.perm_ext_iff_of_nodup hn (List.Pairwise.filter _ List.nodup_range)).2 fun i => ?_)
  rw [hx, List.mem_filter, List.mem_range]

/-- What the iterator of a map's values hands over. -/
def encC (c : Nat → Chg) (i : Nat) : Array Value := #[(c i).agg]
theorem MR.walks {P : Program} {k : TypeId} {w w' : World} {m r n : Nat} {f : Nat → Option Value} {left : Nat → Bool} {cnt : Nat} (h : MR P k w m r n f left cnt) (hk : KeepsWalks w w') : MR P k w' m r n f left cnt := by
  obtain ⟨D, lf, hr, q⟩ := h
  exact ⟨D, lf, hr.of_walks hk, q⟩
theorem MR.walk {P : Program} {k : TypeId} {w : World} {m r n : Nat} {f : Nat → Option Value} {left : Nat → Bool} {cnt : Nat} (h : MR P k w m r n f left cnt) : ∃ o : Obj, w.heap[r]? = some o ∧ o.isWalk = true := by
  obtain ⟨D, lf, hr, q⟩ := h
  exact hr.iter_walk
theorem Fr.grown1 {W W' : World} {r : Nat} (h : Fr (fun k => k = r) W W') : W.grownBy W' (some r) := ⟨h.same.1, h.same.2.1, h.same.2.2, h.size, fun k hk hne => h.block k hk (fun e => hne (by rw [e]))⟩
attribute [local go_sem] Oper.semAt_some
set_option maxRecDepth 100000 in
set_option maxHeartbeats 4000000 in
theorem values1_in (n l bl m : Nat) (f : Nat → Option Value) (c : Nat → Chg) (hc : ∀ i v, i < 1000 → f i = some v → v = (c i).agg) (J Jx : List Nat → World → Prop) (W : World) (hn : 1 ≤ n) (hJa : AbidesFrom W.heap.size J)
    (hY : ∀ pre x W1, J pre W1 → pre.length < 1000 → YieldAt Fence.wide (n - 1) Tryz.prog l (encC c x) W1 fun e W' => (e = .returned (.bool true) ∧ J (pre ++ [x]) W' ∧ KeepsWalks W1 W') ∨ (e = .returned (.bool false) ∧ Jx (pre ++ [x]) W'))
    (b1 : Bk W bl 78 #[.map (some m)]) (hm : MI Tryz.prog 3 W m 1000 f) (h0 : J [] W) :
    CallsIn Fence.wide n Tryz.prog 85 #[.func (.yield l) #[] #[], .pointer (some ⟨bl, 0, none⟩)] W fun e W' => (∃ v, e = .returned v) ∧ ((∃ xs : List Nat, (xs.Nodup ∧ ∀ i, i ∈ xs ↔ i < 1000 ∧ (f i).isSome = true) ∧ J xs W') ∨ ∃ pre, True ∧ Jx pre W') := by
  have x0 := b1.cell 0
  simp only [List.getElem?_toArray, List.getElem?_cons_zero] at x0
  obtain ⟨w0, cnt0, hrun, hMR, hf0, hsz⟩ := hm.range int_k13 map_t13
  have hJ0 := hJa _ _ w0 none h0 hf0.grownBy (fun r e => by cases e)
  have Hc := Lib.hid hc
  clear b1 hm h0 hc
  obtain ⟨rb, hrb⟩ : ∃ rb, W.heap.size = rb := ⟨_, rfl⟩
  rw [hrb] at hrun hMR
  refine callsIn_of_wp Tryz.func85 rfl trivial ?_ rfl
  simp only [Tryz.ntmps85, List.size_toArray, List.length_cons, List.length_nil, Nat.reduceAdd, Nat.reduceSub, Array.replicate_succ, Array.replicate_zero, List.push_toArray, List.append_toArray, List.nil_append, List.cons_append]
  gi_wp2
  clear hrun x0
  gi_loopw [4] (fun _ wr => ∃ (left : Nat → Bool) (cnt : Nat) (xs : List Nat), Hid (MR Tryz.prog 3 wr m rb 1000 f left cnt) ∧ Hid (xs.Nodup ∧ ∀ i, i ∈ xs ↔ (i < 1000 ∧ (f i).isSome = true) ∧ left i = false) ∧ J xs wr) (fun _ wr => wr.rangeLeft m rb)
  case atStart => exact ⟨_, _, [], Lib.hid hMR, Lib.hid ⟨List.nodup_nil, fun i => ⟨fun h => (by cases h), fun h => (by obtain ⟨⟨h1, h2⟩, h3⟩ := h; rw [decide_eq_true h1, h2] at h3; cases h3)⟩⟩, hJ0⟩
  case round =>
    clear hMR hJ0
    obtain ⟨left, cnt, xs, hMR, hxs, hJs⟩ := hrel
    have hmeas := hMR.out.left_eq
    rcases hMR.out.next int_k13 0 with ⟨h0, hno, hnx⟩ | ⟨i, v, w2, cnt', hi, hli, hv, hnx, hMR', hlt, hf2, hsz2, hen⟩
    · have hS : Hid (xs.Nodup ∧ ∀ i, i ∈ xs ↔ i < 1000 ∧ (f i).isSome = true) := Lib.hid ⟨hxs.out.1, fun i => (hxs.out.2 i).trans ⟨fun h => h.1, fun h => ⟨h, hno i⟩⟩⟩
      clear hMR hxs hmeas
      gi_wp2
      go_end0
      exact ⟨⟨_, rfl⟩, .inl ⟨xs, hS.out, hJs⟩⟩
    · obtain rfl := Hc.out i v hi hv
      have hnot : i ∉ xs := fun h => by have := ((hxs.out.2 i).1 h).2; rw [hli] at this; cases this
      have hnd : (xs ++ [i]).Nodup := by
        rw [List.nodup_append]
        exact ⟨hxs.out.1, by simp, fun a ha b hb => by rw [List.mem_singleton.1 hb]; rintro rfl; exact hnot ha⟩
      have hlen : xs.length < 1000 := by
        have := below_len 1000 (xs ++ [i]) hnd (fun x hx => by
          rcases List.mem_append.1 hx with h | h
          · exact ((hxs.out.2 x).1 h).1.1
          · rw [List.mem_singleton.1 h]; exact hi)
        simp at this
        omega
      have hnew : Hid ((xs ++ [i]).Nodup ∧ ∀ j, j ∈ xs ++ [i] ↔ (j < 1000 ∧ (f j).isSome = true) ∧ upd left i false j = false) := Lib.hid ⟨hnd, fun j => by
        rw [List.mem_append, List.mem_singleton, hxs.out.2 j]
        by_cases e : j = i
        · subst e
          rw [upd_same]
          exact ⟨fun _ => ⟨⟨hi, by rw [hv]; rfl⟩, rfl⟩, fun _ => .inr rfl⟩
        · rw [upd_other _ _ _ _ e]
          exact ⟨fun h => h.resolve_right e, .inl⟩⟩
      have hrW : W.heap.size ≤ rb := by omega
      have hJ2 := hJa _ _ w2 (some rb) hJs hf2.grown1 (fun r e => by cases e; exact ⟨hrW, hMR.out.walk⟩)
      have HM := Lib.hid hMR'
      unfold Chg.agg at hnx hen
      have bx := Bk.made w2 57 #[.int .i64 (c i).key, .bool (c i).gone, .int .i64 (c i).value]
      have hJ3 := hJa _ _ (w2.alloc (.cells #[.int .i64 (c i).key, .bool (c i).gone, .int .i64 (c i).value] 57)) none hJ2 (World.grownBy_alloc w2 _ none) (fun r e => by cases e)
      have HM2 := Lib.hid (HM.out.fr ((Fr.refl No w2).alloc (.cells #[.int .i64 (c i).key, .bool (c i).gone, .int .i64 (c i).value] 57)) (fun e => e) (fun e => e))
      have d0 := bx.cell 0
      have d1 := bx.cell 1
      have d2 := bx.cell 2
      simp only [List.getElem?_toArray, List.getElem?_cons_zero, List.getElem?_cons_succ] at d0 d1 d2
      obtain ⟨fn, tmps, assign, body, hy, hR⟩ := hY _ i _ hJ3 hlen
      unfold encC Chg.agg at hy
      have hlt' := Lib.hid hlt
      have hmeas' := Lib.hid hmeas
      clear hMR' hMR hxs hJs hf2 hsz2 hv hnot hnd hlen hJ2 HM bx hJ3 hlt hmeas hli
      gi_wp2
      refine hR.mono ?_
      rintro e W3 (⟨rfl, hJ4, hk4⟩ | ⟨rfl, hx4⟩)
      · have HM3 := Lib.hid (HM2.out.walks hk4)
        clear d0 d1 d2 hR hy hk4 HM2
        gi_wp2
        go_roundw
        case rel => exact ⟨_, cnt', xs ++ [i], HM3, hnew, hJ4⟩
        case measure => rw [HM3.out.left_eq, hmeas'.out]; exact hlt'.out
      · clear d0 d1 d2 hR hy HM2
        gi_wp2
        refine bodyPost_ret (results_none rfl _ _ _) rfl ?_
        exact ⟨⟨_, rfl⟩, .inr ⟨_, trivial, hx4⟩⟩
theorem values_stops {w : World} (n bl m : Nat) (f : Nat → Option Value) (c : Nat → Chg) (hc : ∀ i v, i < 1000 → f i = some v → v = (c i).agg) (hn : 1 ≤ n) (b1 : Bk w bl 78 #[.map (some m)]) (hm : MI Tryz.prog 3 w m 1000 f) :
    SeqStopsK Fence.wide n Tryz.prog 85 #[.pointer (some ⟨bl, 0, none⟩)] (encC c) KeepsWalks (fun xs => xs.Nodup ∧ ∀ i, i ∈ xs ↔ i < 1000 ∧ (f i).isSome = true) (fun _ => True) 1000 w := fun l J Jx W hW hJ _ hY h0 =>
  values1_in n l bl m f c hc J Jx W hn hJ hY ((hW.block bl b1.lt).trans b1) (hm.block (hW.block m hm.lt)) h0
end Go.Proofs.YthenadijiepmnaaGreat
