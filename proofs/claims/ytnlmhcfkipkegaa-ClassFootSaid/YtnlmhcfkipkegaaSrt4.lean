/- Spans put in order by the library. -/
import Derived.Test.YtnlmhcfkipkegaaMay4
import Derived.Test.YtnlmhcfkipkegaaShl4
import Derived.Shelf.SlSortCmp.NoneTotal
namespace Go.Proofs.Ytnlmhcfkipkegaa
open Go.RowKit Go.Shelf Go.Lib Go.Sort

theorem ltLo (x y : Span) : ltOf (fun x y : Span => Lib.compareInt x.1 y.1) x y = decide (x.1 < y.1) := by
  unfold ltOf Lib.compareInt
  by_cases h1 : x.1 < y.1
  · simp [h1]
  · by_cases h2 : y.1 < x.1 <;> simp [h1, h2]
theorem swoLo : SWO (ltOf fun x y : Span => Lib.compareInt x.1 y.1) where
  irrefl x := by rw [ltLo]; simp
  trans x y z h1 h2 := by rw [ltLo] at *; simp at *; omega
  ntrans x y z h1 h2 := by rw [ltLo] at *; simp at *; omega
set_option maxHeartbeats 1000000 in
theorem closLo (x y : Span) (W : World) : Calls Try.prog 97 #[.agg #[.int .i64 x.1, .int .i64 x.2], .agg #[.int .i64 y.1, .int .i64 y.2]] W fun e w' => e = .returned (.int .i64 (Lib.compareInt x.1 y.1)) ∧ ∃ q os', w' = grow (W.drewN q) os' := by
  have hcon := fun W' => AnyG.cmp_Compare_int cmpI x.1 y.1 W'
  change ∀ W', Calls Try.prog 98 _ _ _ at hcon
  generalize Lib.compareInt x.1 y.1 = r at hcon ⊢
  go_enter Try.func97, Try.ntmps97
  go_wp2_with (go_at_call 98; refine (hcon _).mono ?_; rintro e w' ⟨rfl, rfl⟩)
  go_ret
  exact ⟨rfl, 0, _, by rw [alloc_eq_grow, alloc_eq_grow, grow_grow]; rfl⟩
theorem laysLo (blk off size : Nat) (w : World) : CmpLays Try.prog 97 #[] spC 2 (fun x y => Lib.compareInt x.1 y.1) blk off size w :=
  fun _ _ _ _ x y => closLo x y _
theorem holdsK_of {w : World} {B g n c : Nat} {l : List Span} (h : w.ownsRow B 77 2 (.slice (some ⟨g, 0, none⟩) n c) n (sps l)) (hn : l.length = n) : HoldsK spC 2 w g 0 l.toArray := by
  intro j hj
  rw [size_flatK] at hj
  have hjl : j < l.length * 2 := by simpa using hj
  rw [get_flatK _ _ _ _ hj]
  have hdm : j / 2 * 2 + j % 2 = j := by omega
  have hi : j / 2 < l.length := by omega
  have hcell : w.cell? ⟨g, j, none⟩ = (sps l)[j]? := by
    exact h.cellAt _ (by omega)
  have hfz : w.frozen? ⟨g, j, none⟩ = false := by
    rcases h.2 with ⟨hv, _⟩ | ⟨g', cap', cur, hv, _, hgg, _⟩
    · cases hv
    · obtain ⟨rfl, -⟩ : g = g' ∧ True := by simp at hv; exact ⟨hv.1, trivial⟩
      exact Bk.frozen (t := 77) hgg _
  have e : (⟨g, 0 + j, none⟩ : Addr) = ⟨g, j, none⟩ := by simp
  rw [e]
  refine ⟨?_, hfz⟩
  rw [hcell]
  obtain ⟨s0, s1⟩ := sps_at l (j / 2) hi
  have el : l.toArray[j / 2]! = l[j / 2] := by simp [hi]
  rw [el]
  rcases (show j % 2 = 0 ∨ j % 2 = 1 by omega) with h2 | h2
  · have e2 : (sps l)[j]? = (sps l)[j / 2 * 2]? := by congr 1; omega
    rw [h2, e2, s0]
    rfl
  · have e2 : (sps l)[j]? = (sps l)[j / 2 * 2 + 1]? := by congr 1; omega
    rw [h2, e2, s1]
    rfl
theorem sl_holdsK {w : World} {g B : Nat} {d : Array Span} (h : HoldsK spC 2 w g 0 d) (hg : g < B) : Sl w B (some ⟨g, 0, none⟩) (sps d.toList) := by
  intro _
  refine ⟨_, rfl, hg, fun j u hu => ?_⟩
  have hj : j < d.size * 2 := by
    have := (List.getElem?_eq_some_iff.1 hu).1
    rw [sps_len] at this
    simpa using this
  have e : (⟨g, 0, none⟩ : Addr).add j = ⟨g, 0 + j, none⟩ := by cases j <;> simp [Addr.add]
  rw [e]
  have h1 := (h j (by rw [size_flatK]; exact hj)).1
  rw [get_flatK _ _ _ _ hj] at h1
  rw [h1]
  have hi : j / 2 < d.toList.length := by simp; omega
  obtain ⟨s0, s1⟩ := sps_at d.toList (j / 2) hi
  have el : d[j / 2]! = d.toList[j / 2] := by
    rw [getElem!_pos d (j / 2) (by omega)]
    simp
  rw [el]
  rw [← hu]
  rcases (show j % 2 = 0 ∨ j % 2 = 1 by omega) with h2 | h2
  · rw [h2]
    have e2 : (sps d.toList)[j]? = (sps d.toList)[j / 2 * 2]? := by congr 1; omega
    rw [e2, s0]
    rfl
  · rw [h2]
    have e2 : (sps d.toList)[j]? = (sps d.toList)[j / 2 * 2 + 1]? := by congr 1; omega
    rw [e2, s1]
    rfl
theorem fr_sortWorldK (w : World) (g n : Nat) (d : Array Span) (os : Array Obj) : Fr (fun k => k = g) w (sortWorldK spC 2 w g 0 n d os) := by
  refine ⟨⟨?_, ?_, ?_⟩, size_sortWorldK_c spC 2 w g 0 n d os, fun i hi hne => ?_⟩
  · rfl
  · rfl
  · rfl
  · unfold sortWorldK
    rw [heap_grow_old _ _ (by rw [size_putRowK]; exact hi)]
    unfold putRowK putRow
    show (w.heap.modify g _)[i]? = w.heap[i]?
    rw [Array.getElem?_modify, if_neg (fun e => hne e.symm)]
set_option maxHeartbeats 1000000 in
theorem kSort_any (A : Option Addr) (n c B : Nat) (l : List Span) (w : World) (h : w.ownsRow B 77 2 (.slice A n c) n (sps l)) (hn : l.length = n) (hle : n ≤ 4194304) :
    Calls Try.prog 96 #[.slice A n c, .func (.func 97) #[] #[]] w fun e w' => e = .returned (.tuple #[]) ∧
      ∃ d, d.length = n ∧ d.Perm l ∧ d.Pairwise (fun x y => x.1 ≤ y.1) ∧ Sl w' w'.heap.size A (sps d) ∧ Fr (fun k => B ≤ k) w w' := by
  rcases Nat.eq_zero_or_pos n with h0 | h0
  · subst h0
    obtain rfl := List.eq_nil_of_length_eq_zero hn
    have q := AnyF.slices_SortFunc_none { sortS with } A c (.func (.func 97) #[] #[]) w
    change Calls Try.prog 96 _ _ _ at q
    refine q.mono ?_
    rintro e w' ⟨rfl, rfl⟩
    exact ⟨rfl, [], rfl, List.Perm.refl _, .nil, Sl.nil _ _ _, Fr.refl _ _⟩
  · obtain ⟨g, cap, hv, hBg, hlt⟩ := h.form h0
    obtain ⟨rfl, rfl⟩ : A = some ⟨g, 0, none⟩ ∧ c = cap := by injection hv with h1 h2 h3; exact ⟨h1, h3⟩
    have eg : ∀ args w, (callFunc 97 args).run Try.prog w = .ok (.enter 97 args) w := enters_of Try.func97 (by kernel_rfl) rfl
    have hH := holdsK_of h hn
    have hsz : l.toArray.size = n := by simp [hn]
    have q := AnyQ.slices_SortFunc sortS 2 Try.isAgg77 Try.sizeOf77 spC (fun _ => rfl) (fun x v hv => by simp [spC] at hv; rcases hv with rfl | rfl <;> rfl) (fun x y => Lib.compareInt x.1 y.1) swoLo 97 #[] g 0 c l.toArray w eg (laysLo g 0 _ w) hH hlt (by rw [hsz]; omega)
    rw [hsz] at q
    change Calls Try.prog 96 _ _ _ at q
    refine q.mono ?_
    rintro e w' ⟨rfl, d', m, os, hp, hs, rfl⟩
    have hd : d'.size = n := by rw [hp.1, hsz]
    refine ⟨rfl, d'.toList, by simp [hd], ?_, ?_, sl_holdsK (holdsK_sortWorldK_c spC 2 w g 0 _ _ _ _ hH hlt (by rw [hd, hsz])) (Nat.lt_of_lt_of_le hlt (size_sortWorldK_c spC 2 w g 0 m d' os)), (fr_sortWorldK w g m d' os).weak (fun k _ e => by rw [e]; exact hBg)⟩
    · have h3 := hp.2.2
      rw [← hd] at h3
      have e1 : (d'.extract 0 d'.size) = d' := by simp
      have e2 : (l.toArray.extract 0 d'.size) = l.toArray := by rw [hd, ← hsz]; simp
      rw [e1, e2] at h3
      exact h3
    · rw [List.pairwise_iff_getElem]
      intro i j hi hj hij
      have h4 := hs i j (Nat.zero_le _) hij (by simp at hj; omega)
      rw [ltLo, decide_eq_false_iff_not] at h4
      simp at hi hj
      rw [getElem!_pos d' i (by omega), getElem!_pos d' j (by omega)] at h4
      simp
      omega
end Go.Proofs.Ytnlmhcfkipkegaa
