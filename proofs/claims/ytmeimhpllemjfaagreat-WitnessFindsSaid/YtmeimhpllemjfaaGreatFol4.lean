/- Spans put in order by the library. -/
import Derived.Test.YtmeimhpllemjfaaGreatMay4
import Derived.Test.YtmeimhpllemjfaaGreatShl4
import Derived.Shelf.SlSortCmp.NoneTotal
namespace Go.Proofs.YtmeimhpllemjfaaGreat
open Go.RowKit Go.Shelf Go.Lib Go.Sort

theorem ltLo (x y : Span) : ltOf (fun x y : Span => Lib.compareInt x.1 y.1) x y = decide (x.1 < y.1) := by
 unfold ltOf Lib.compareInt
 by_cases h1 : x.1 < y.1
 ·simp [h1]
 ·by_cases h2 : y.1 < x.1 <;> simp [h1, h2]
theorem swoLo : SWO (ltOf fun x y : Span => Lib.compareInt x.1 y.1) where
 irrefl x := by rw [ltLo]; simp
 trans x y z h1 h2 := by rw [ltLo] at *; simp at *; omega
 ntrans x y z h1 h2 := by rw [ltLo] at *; simp at *; omega
set_option maxHeartbeats 1000000 in
theorem closLo (x y : Span) (W : World) : Calls Tryz.prog 190 #[.agg #[.int .i64 x.1, .int .i64 x.2], .agg #[.int .i64 y.1, .int .i64 y.2]] W fun e w' => e = .returned (.int .i64 (Lib.compareInt x.1 y.1)) ∧ ∃ q os', w' = grow (W.drewN q) os' := by
 have hcon := fun W' => AnyG.cmp_Compare_int cmpK x.1 y.1 W'
 change ∀ W', Calls Tryz.prog 122 _ _ _ at hcon
 generalize Lib.compareInt x.1 y.1 = r at hcon ⊢
 go_enter Tryz.func190, Tryz.ntmps190
 go_wp2_with (go_at_call 122; refine (hcon _).mono ?_; rintro e w' ⟨rfl, rfl⟩)
 go_ret
 exact ⟨rfl, 0, _, by rw [alloc_eq_grow, alloc_eq_grow, grow_grow]; rfl⟩
theorem laysLo (blk off size : Nat) (w : World) : CmpLays Tryz.prog 190 #[] spC 2 (fun x y => Lib.compareInt x.1 y.1) blk off size w :=
 fun _ _ _ _ x y => closLo x y _
theorem holdsK_of {w : World} {B g n c : Nat} {l : List Span} (h : w.ownsRow B 51 2 (.slice (some ⟨g, 0, none⟩) n c) n (sps l)) (hn : l.length = n) : HoldsK spC 2 w g 0 l.toArray := by
 intro j hj
 rw [size_flatK] at hj
 have hjl : j < l.length * 2 := by simpa using hj
 rw [get_flatK _ _ _ _ hj]
 have hdm : j / 2 * 2 + j % 2 = j := by omega
 have hi : j / 2 < l.length := by omega
 have hcell : w.cell? ⟨g, j, none⟩ = (sps l)[j]? := by
  exact h.cellAt _ (by omega)
 have hfz : w.frozen? ⟨g, j, none⟩ = false := by
  rcases h.2 with ⟨hv, _⟩ | ⟨g', cap', cur, hv, _, hgg, _⟩
  ·cases hv
  ·obtain ⟨rfl, -⟩ : g = g' ∧ True := by simp at hv; exact ⟨hv.1, trivial⟩
   exact Bk.frozen (t := 51) hgg _
 have e : (⟨g, 0 + j, none⟩ : Addr) = ⟨g, j, none⟩ := by simp
 rw [e]
 refine ⟨?_, hfz⟩
 rw [hcell]
 obtain ⟨s0, s1⟩ := sps_at l (j / 2) hi
 have el : l.toArray[j / 2]! = l[j / 2] := by simp [hi]
 rw [el]
 rcases (show j % 2 = 0 ∨ j % 2 = 1 by omega) with h2 | h2
 ·have e2 : (sps l)[j]? = (sps l)[j / 2 * 2]? := by congr 1; omega
  rw [h2, e2, s0]
  rfl
 ·have e2 : (sps l)[j]? = (sps l)[j / 2 * 2 + 1]? := by congr 1; omega
  rw [h2, e2, s1]
  rfl
theorem sl_holdsK {w : World} {g B : Nat} {d : Array Span} (h : HoldsK spC 2 w g 0 d) (hg : g < B) : Sl w B (some ⟨g, 0, none⟩) (sps d.toList) := by
 intro _
 refine ⟨_, rfl, hg, fun j u hu => ?_⟩
 have hj : j < d.size * 2 := by
  have := (List.getElem?_eq_some_iff.1 hu).1
  rw [sps_len] at this
  simpa using this
 have e : (⟨g, 0, none⟩ : Addr).add j = ⟨g, 0 + j, none⟩ := by cases j <;> simp [Addr.add]
 rw [e]
 have h1 := (h j (by rw [size_flatK]; exact hj)).1
 rw [get_flatK _ _ _ _ hj] at h1
 rw [h1]
 have hi : j / 2 < d.toList.length := by simp; omega
 obtain ⟨s0, s1⟩ := sps_at d.toList (j / 2) hi
 have el : d[j / 2]! = d.toList[j / 2] := by
  rw [getElem!_pos d (j / 2) (by omega)]
  simp
 rw [el]
 rw [← hu]
 rcases (show j % 2 = 0 ∨ j % 2 = 1 by omega) with h2 | h2
 ·rw [h2]
  have e2 : (sps d.toList)[j]? = (sps d.toList)[j / 2 * 2]? := by congr 1; omega
  rw [e2, s0]
  rfl
 ·rw [h2]
  have e2 : (sps d.toList)[j]? = (sps d.toList)[j / 2 * 2 + 1]? := by congr 1; omega
  rw [e2, s1]
  rfl
theorem fr_sortWorldK (w : World) (g n : Nat) (d : Array Span) (os : Array Obj) : Fr (fun k => k = g) w (sortWorldK spC 2 w g 0 n d os) := by
 refine ⟨⟨?_, ?_, ?_⟩, size_sortWorldK_c spC 2 w g 0 n d os, fun i hi hne => ?_⟩
 ·rfl
 ·rfl
 ·rfl
 ·unfold sortWorldK
  rw [heap_grow_old _ _ (by rw [size_putRowK]; exact hi)]
  unfold putRowK putRow
  show (w.heap.modify g _)[i]? = w.heap[i]?
  rw [Array.getElem?_modify, if_neg (fun e => hne e.symm)]
set_option maxHeartbeats 1000000 in
theorem kSort_any (A : Option Addr) (n c B : Nat) (l : List Span) (w : World) (h : w.ownsRow B 51 2 (.slice A n c) n (sps l)) (hn : l.length = n) (hle : n ≤ 4194304) :
  Calls Tryz.prog 189 #[.slice A n c, .func (.func 190) #[] #[]] w fun e w' => e = .returned (.tuple #[]) ∧
   ∃ d, d.length = n ∧ d.Perm l ∧ d.Pairwise (fun x y => x.1 ≤ y.1) ∧ Sl w' w'.heap.size A (sps d) ∧ Fr (fun k => B ≤ k) w w' := by
 rcases Nat.eq_zero_or_pos n with h0 | h0
 ·subst h0
  obtain rfl := List.eq_nil_of_length_eq_zero hn
  have q := AnyF.slices_SortFunc_none { sortS with } A c (.func (.func 190) #[] #[]) w
  change Calls Tryz.prog 189 _ _ _ at q
  refine q.mono ?_
  rintro e w' ⟨rfl, rfl⟩
  exact ⟨rfl, [], rfl, List.Perm.refl _, .nil, Sl.nil _ _ _, Fr.refl _ _⟩
 ·obtain ⟨g, cap, hv, hBg, hlt⟩ := h.form h0
  obtain ⟨rfl, rfl⟩ : A = some ⟨g, 0, none⟩ ∧ c = cap := by injection hv with h1 h2 h3; exact ⟨h1, h3⟩
  have eg : ∀ args w, (callFunc 190 args).run Tryz.prog w = .ok (.enter 190 args) w := enters_of Tryz.func190 (by kernel_rfl) rfl
  have hH := holdsK_of h hn
  have hsz : l.toArray.size = n := by simp [hn]
  have q := AnyQ.slices_SortFunc sortS 2 Tryz.isAgg51 Tryz.sizeOf51 spC (fun _ => rfl) (fun x v hv => by simp [spC] at hv; rcases hv with rfl | rfl <;> rfl) (fun x y => Lib.compareInt x.1 y.1) swoLo 190 #[] g 0 c l.toArray w eg (laysLo g 0 _ w) hH hlt (by rw [hsz]; omega)
  rw [hsz] at q
  change Calls Tryz.prog 189 _ _ _ at q
  refine q.mono ?_
  rintro e w' ⟨rfl, d', m, os, hp, hs, rfl⟩
  have hd : d'.size = n := by rw [hp.1, hsz]
  refine ⟨rfl, d'.toList, by simp [hd], ?_, ?_, sl_holdsK (holdsK_sortWorldK_c spC 2 w g 0 _ _ _ _ hH hlt (by rw [hd, hsz])) (Nat.lt_of_lt_of_le hlt (size_sortWorldK_c spC 2 w g 0 m d' os)), (fr_sortWorldK w g m d' os).weak (fun k _ e => by rw [e]; exact hBg)⟩
  ·have h3 := hp.2.2
   rw [← hd] at h3
   have e1 : (d'.extract 0 d'.size) = d' := by simp
   have e2 : (l.toArray.extract 0 d'.size) = l.toArray := by rw [hd, ← hsz]; simp
   rw [e1, e2] at h3
   exact h3
  ·rw [List.pairwise_iff_getElem]
   intro i j hi hj hij
   have h4 := hs i j (Nat.zero_le _) hij (by simp at hj; omega)
   rw [ltLo, decide_eq_false_iff_not] at h4
   simp at hi hj
   rw [getElem!_pos d' i (by omega), getElem!_pos d' j (by omega)] at h4
   simp
   omega
end Go.Proofs.YtmeimhpllemjfaaGreat
/- Package keys: lists folded into a plain one. -/
namespace Go.Proofs.YtmeimhpllemjfaaGreat
open Go.RowKit

abbrev Ls := Option Addr × Nat × Nat × List Span
def lsC (q : Ls) : List Value := [.slice q.1 q.2.1 q.2.2.1]
theorem lsC_len (q : Ls) : (lsC q).length = 1 := rfl
def spansOf (ls : List Ls) : List Span := ls.flatMap fun q => q.2.2.2
theorem spansOf_app (ls ms : List Ls) : spansOf (ls ++ ms) = spansOf ls ++ spansOf ms := by simp [spansOf]
structure LsOk (w : World) (ls : List Ls) : Prop where
 each : ∀ q ∈ ls, Sl w w.heap.size q.1 (sps q.2.2.2) ∧ q.2.2.2.length = q.2.1
 le : (spansOf ls).length ≤ 4194304
theorem spansOf_le {ls : List Ls} {k : Nat} (hk : k < ls.length) (i : Nat) : (spansOf (ls.take k) ++ (ls[k].2.2.2).take i).length ≤ (spansOf ls).length := by
 have e : spansOf ls = spansOf (ls.take k) ++ (ls[k].2.2.2 ++ spansOf (ls.drop (k + 1))) := by
  have h1 : ls = ls.take k ++ (ls[k] :: ls.drop (k + 1)) := by rw [List.getElem_cons_drop, List.take_append_drop]
  have h2 : spansOf (ls.take k ++ (ls[k] :: ls.drop (k + 1))) = spansOf (ls.take k) ++ (ls[k].2.2.2 ++ spansOf (ls.drop (k + 1))) := by unfold spansOf; rw [List.flatMap_append, List.flatMap_cons]
  rw [← h2, ← h1]
 rw [e]
 simp only [List.length_append, List.length_take]
 omega

set_option maxRecDepth 100000 in
set_option maxHeartbeats 4000000 in
theorem kRising_any (ls : List Ls) (LA : Option Addr) (m c : Nat) (w : World) (hl : Sl w w.heap.size LA (ls.flatMap lsC)) (hm : ls.length = m) (hok : LsOk w ls) (hml : m ≤ 1048576) :
  Calls Tryz.prog 178 #[.slice LA m c] w fun e w' => ∃ A n c' d, e = .returned (.slice A n c') ∧ d.length = n ∧ Sl w' w'.heap.size A (sps d) ∧ d.Perm (valid (spansOf ls)) ∧ d.Pairwise (fun x y => x.1 ≤ y.1) ∧ Fr No w w' := by
 have Hm := Lib.hid hm
 have Hok := Lib.hid hok
 have HM : ∀ W a b, Calls Tryz.prog 102 #[.agg #[.int .i64 a, .int .i64 b]] W fun e w' => e = .returned (.bool (mayB a b)) ∧ Fr No W w' := fun W a b => kMay_any a b W
 clear hm hok
 go_enter Tryz.func178, Tryz.ntmps178
 go_wp2
 go_loopw [3, 10] (fun lv iv wr => ∃ (j n : Nat) (A : Option Addr) (c : Nat), j ≤ m ∧ iv = .int .i64 j ∧ lv = .slice A n c ∧ Hid (n = (valid (spansOf (ls.take j))).length) ∧ wr.ownsRow w.heap.size 51 2 (.slice A n c) n (sps (valid (spansOf (ls.take j)))) ∧ Fr No w wr) (fun _ i _ => m - (intOf i).toNat)
 case atStart => exact ⟨0, 0, none, 0, by omega, rfl, rfl, Lib.hid rfl, World.ownsRow_nil _ _ _ _, Fr.refl _ _⟩
 case round =>
  obtain ⟨j, n, A, ca, hj, rfl, rfl, Hn, hown, hfr⟩ := hrel
  by_cases hlt : j < m
  ·have hjl : j < ls.length := by rw [Hm.out]; exact hlt
   obtain ⟨ad, rfl, hadB, hcell⟩ := hl.row 1 lsC_len hjl (by omega)
   have d0 := hcell 0 _ rfl
   have c0 := (hfr.cell (p := (ad.add (j * 1))) (by rw [block_add]; exact hadB) (fun e => e)).trans d0
   have Hle := Lib.hid (spansOf_le hjl)
   have Hs : Hid (ls.take (j + 1) = ls.take j ++ [ls[j]]) := Lib.hid (List.take_succ_eq_append_getElem hjl)
   obtain ⟨hsl, hln⟩ := Hok.out.each _ (List.getElem_mem hjl)
   have hbig := Hok.out.le
   generalize ls[j] = q at *
   obtain ⟨qA, qn, qc, ql⟩ := q
   simp only at hsl hln Hle
   have Hln := Lib.hid hln
   have hqn : qn ≤ 4194304 := by
    have h1 := Hle.out ql.length
    rw [List.take_length, List.length_append, Hln.out] at h1
    omega
   clear d0 hcell hln
   simp only [Nat.mul_one] at c0
   go_wp2
   go_loopw [3, 16] (fun lv iv wx => ∃ (i n : Nat) (A : Option Addr) (c : Nat), i ≤ qn ∧ iv = .int .i64 i ∧ lv = .slice A n c ∧ Hid (n = (valid (spansOf (ls.take j) ++ ql.take i)).length) ∧ wx.ownsRow w.heap.size 51 2 (.slice A n c) n (sps (valid (spansOf (ls.take j) ++ ql.take i))) ∧ Fr No w wx) (fun _ i _ => qn - (intOf i).toNat)
   case atStart => exact ⟨0, n, A, ca, by omega, rfl, rfl, Lib.hid (by simpa using Hn.out), by simpa using hown, hfr⟩
   case round =>
    clear hown hfr c0 Hn
    obtain ⟨i, n, A, ca, hi, rfl, rfl, Hn, hown, hfr⟩ := hrel
    by_cases hlti : i < qn
    ·have hil : i < ql.length := by rw [Hln.out]; exact hlti
     obtain ⟨ad2, rfl, had2, e0, e1⟩ := hsl.span hil
     have k0 := (hfr.cell (p := ad2.add (i * 2)) (by rw [block_add]; exact had2) (fun e => e)).trans e0
     have k1 := (hfr.cell (p := ⟨(ad2.add (i * 2)).block, (ad2.add (i * 2)).off + 1, none⟩) (by rw [block_add]; exact had2) (fun e => e)).trans e1
     have Hs2 : Hid (ql.take (i + 1) = ql.take i ++ [ql[i]]) := Lib.hid (List.take_succ_eq_append_getElem hil)
     have hn4 : n ≤ 4194304 := by
      rw [Hn.out]
      exact Nat.le_trans (valid_le _) (Nat.le_trans (Hle.out i) hbig)
     clear e0 e1
     generalize ql[i] = p at *
     obtain ⟨lo, hi'⟩ := p
     have v1 := Bk.made wr 51 #[.int .i64 lo, .int .i64 hi']
     have g1 := hfr.alloc (.cells #[.int .i64 lo, .int .i64 hi'] 51)
     have hown1 := hown.alloc (.cells #[.int .i64 lo, .int .i64 hi'] 51)
     cases hmay : mayB lo hi' with
     | true =>
      have HMt : ∀ W, Calls Tryz.prog 102 #[.agg #[.int .i64 lo, .int .i64 hi']] W fun e w' => e = .returned (.bool true) ∧ Fr No W w' := fun W => by rw [← hmay]; exact HM W lo hi'
      have Hv := Lib.hid (valid_snoc_yes (spansOf (ls.take j) ++ ql.take i) (lo, hi') hmay)
      clear hmay HM
      go_wp2_with fail
      refine (HMt _).mono ?_
      rintro e w2 ⟨rfl, hf2⟩
      have g2 := g1.trans' hf2 (fun _ _ e => e)
      have v2 := v1.fr hf2 (fun e => e)
      have x0 := v2.cell 0
      have x1 := v2.cell 1
      simp at x0 x1
      have hown2 := own_fr hown1 hf2 (fun _ _ e => e)
      have Hown := Lib.hid hown
      clear hown hown1 hfr hf2 v1 g1 HMt k0 k1
      go_wp2_with (at_builtin; refine wpList_append_elem rfl _ _ _ rfl w.heap.size 51 (.agg #[.int .i64 0, .int .i64 0]) 2 16 Tryz.underlying35 info_span rfl (by omega) (.slice A n ca) n (sps (valid (spansOf (ls.take j) ++ ql.take i))) #[.int .i64 lo, .int .i64 hi'] rfl (by intro u hu; simp at hu; rcases hu with rfl | rfl <;> rfl) rfl w2.heap.size rfl rfl hown2 (by unfold maxLen; omega) (by omega) g2.size ?r1)
      case r1 =>
       intro A1 c1 w3 hown3 hf3 hg3
       have hfin := g2.trans' hf3 (fun k hk e => by have := (hown2.lt k e).1; omega)
       clear hown2 hf3 hg3 v2
       go_wp2
       go_roundw
       case rel => exact ⟨i + 1, n + 1, A1, c1, by omega, by go_num, rfl, Lib.hid (by rw [Hs2.out, ← List.append_assoc, Hv.out, List.length_append, ← Hn.out]; rfl), by rw [Hs2.out, ← List.append_assoc, Hv.out, sps_app]; exact hown3, hfin⟩
       case measure => simp [intOf]; omega
     | false =>
      have HMt : ∀ W, Calls Tryz.prog 102 #[.agg #[.int .i64 lo, .int .i64 hi']] W fun e w' => e = .returned (.bool false) ∧ Fr No W w' := fun W => by rw [← hmay]; exact HM W lo hi'
      have Hv := Lib.hid (valid_snoc_no (spansOf (ls.take j) ++ ql.take i) (lo, hi') hmay)
      clear hmay HM
      go_wp2_with fail
      refine (HMt _).mono ?_
      rintro e w2 ⟨rfl, hf2⟩
      have g2 := g1.trans' hf2 (fun _ _ e => e)
      have hown2 := own_fr hown1 hf2 (fun _ _ e => e)
      clear hown hown1 hfr hf2 v1 g1 HMt k0 k1
      go_wp2
      go_roundw
      case rel => exact ⟨i + 1, n, A, ca, by omega, by go_num, rfl, Lib.hid (by rw [Hs2.out, ← List.append_assoc, Hv.out]; exact Hn.out), by rw [Hs2.out, ← List.append_assoc, Hv.out]; exact hown2, g2⟩
      case measure => simp [intOf]; omega
    ·have Hq : Hid (valid (spansOf (ls.take j) ++ ql.take i) = valid (spansOf (ls.take (j + 1)))) := Lib.hid (by
      rw [Hs.out, spansOf_app, List.take_of_length_le (l := ql) (i := i) (by rw [Hln.out]; omega)]
      simp [spansOf])
     go_wp2
     go_roundw
     case rel => exact ⟨j + 1, n, A, ca, by omega, by go_num, rfl, Lib.hid (by rw [← Hq.out]; exact Hn.out), by rw [← Hq.out]; exact hown, hfr⟩
     case measure => simp [intOf]; omega
  ·have hall : ls.take j = ls := List.take_of_length_le (by rw [Hm.out]; omega)
   rw [hall] at hown Hn
   have hn4 : n ≤ 4194304 := by
    rw [Hn.out]
    exact Nat.le_trans (valid_le _) Hok.out.le
   have q := kSort_any A n ca w.heap.size (valid (spansOf ls)) wr hown Hn.out.symm hn4
   clear hall HM
   go_wp2_with fail
   refine q.mono ?_
   rintro e w2 ⟨rfl, d, hd, hp, hs, hsl2, hf2⟩
   have hfin := hfr.trans' hf2 (fun k hk e => by omega)
   have HD4 := Lib.hid hd
   have Hsl := Lib.hid hsl2
   clear hown hd hsl2 hf2 q
   go_wp2
   go_ret
   exact ⟨A, n, ca, d, rfl, HD4.out, Hsl.out, hp, hs, hfin⟩

theorem upF_sps (i : List Span) (q s : Span) : (sps (i ++ [q])).set (i.length * 2 + 1) (.int .i64 (max q.2 s.2)) = sps (foldS (i ++ [q]) s) := by
 rw [foldS_snoc, sps_app, sps_app, List.set_append_right _ _ (by rw [sps_len]; omega), sps_len, show i.length * 2 + 1 - i.length * 2 = 1 by omega]
 rfl
set_option maxRecDepth 100000 in
set_option maxHeartbeats 4000000 in
theorem kFolded_any (ls : List Ls) (LA : Option Addr) (m c : Nat) (w : World) (hl : Sl w w.heap.size LA (ls.flatMap lsC)) (hm : ls.length = m) (hok : LsOk w ls) (hml : m ≤ 1048576) :
  Calls Tryz.prog 154 #[.slice LA m c] w (NewO w (plainOf (keysOf (spansOf ls)))) := by
 have q := kRising_any ls LA m c w hl hm hok hml
 have hle := hok.le
 clear hl hm hok
 go_enter Tryz.func154, Tryz.ntmps154
 go_wp2_with fail
 refine q.mono ?_
 rintro e w1 ⟨RA, rn, rc, d, rfl, hd, hsl, hp, hs, hf1⟩
 have HD4 := Lib.hid hd
 have Hk : Hid (∀ k, keysOf d k = keysOf (spansOf ls) k) := Lib.hid (fun k => by rw [keysOf_perm hp, valid_keys])
 have hrn : rn ≤ 4194304 := by
  rw [← hd, hp.length_eq]
  exact Nat.le_trans (valid_le _) hle
 have Hv : Hid (∀ p ∈ d, okSp p) := Lib.hid (fun p h => valid_ok _ p (hp.mem_iff.1 h))
 have Hs := Lib.hid hs
 clear hd hp hs q hle
 go_wp2
 go_loopw [3, 10] (fun lv iv wr => ∃ (j n : Nat) (A : Option Addr) (c : Nat) (l : List Span), j ≤ rn ∧ iv = .int .i64 j ∧ lv = .slice A n c ∧ l.length = n ∧ Hid (Fold (d.take j) l) ∧ wr.ownsRow w1.heap.size 51 2 (.slice A n c) n (sps l) ∧ Fr No w1 wr) (fun _ i _ => rn - (intOf i).toNat)
 case atStart => exact ⟨0, 0, none, 0, [], by omega, rfl, rfl, rfl, Lib.hid Fold.nil, World.ownsRow_nil _ _ _ _, Fr.refl _ _⟩
 case round =>
  obtain ⟨j, n, A, ca, l, hj, rfl, rfl, hln, HF, hown, hfr⟩ := hrel
  have hn4 : n ≤ 4194304 := by
   have h1 := HF.out.le
   rw [List.length_take] at h1
   omega
  by_cases hlt : j < rn
  ·have hjd : j < d.length := by rw [HD4.out]; exact hlt
   obtain ⟨ad, rfl, hadB, e0, e1⟩ := hsl.span hjd
   have k0 := (hfr.cell (p := ad.add (j * 2)) (by rw [block_add]; exact hadB) (fun e => e)).trans e0
   have k1 := (hfr.cell (p := ⟨(ad.add (j * 2)).block, (ad.add (j * 2)).off + 1, none⟩) (by rw [block_add]; exact hadB) (fun e => e)).trans e1
   have Hs2 : Hid (d.take (j + 1) = d.take j ++ [d[j]]) := Lib.hid (List.take_succ_eq_append_getElem hjd)
   have hok := Hv.out _ (List.getElem_mem hjd)
   have Hlo : Hid (∀ r ∈ d.take j, r.1 ≤ d[j].1) := Lib.hid (fun r hr => by
    have h1 := Hs.out
    rw [← List.take_append_drop j d, List.drop_eq_getElem_cons hjd, List.pairwise_append] at h1
    exact h1.2.2 r hr _ List.mem_cons_self)
   clear e0 e1
   generalize d[j] = p at *
   obtain ⟨lo, hi⟩ := p
   obtain ⟨o1, o2, o3⟩ := hok
   simp only at o1 o2 o3
   have hok : okSp (lo, hi) := ⟨o1, o2, o3⟩
   have g1 := hfr.alloc (.cells #[.int .i64 lo, .int .i64 hi] 51)
   have hown1 := hown.alloc (.cells #[.int .i64 lo, .int .i64 hi] 51)
   rcases Nat.eq_zero_or_pos n with h0 | h0
   ·subst h0
    obtain rfl := List.eq_nil_of_length_eq_zero hln
    have HFn := Lib.hid (HF.out.append hok (.inl rfl))
    have hownd : ∀ k, ((wr.alloc (.cells #[.int .i64 lo, .int .i64 hi] 51)).drewN k).ownsRow w1.heap.size 51 2 (.slice A 0 ca) 0 (sps []) := fun _ => hown1
    have g1d := fun k => g1.drewN k
    have hsz := g1.size
    simp only [World.size_alloc] at hsz
    clear HF hown hok hown1
    go_wp2
    go_quiet (fail)
    go_wp2_with (at_builtin; refine wpList_append_elem rfl _ _ _ rfl w1.heap.size 51 (.agg #[.int .i64 0, .int .i64 0]) 2 16 Tryz.underlying35 info_span rfl (by omega) (.slice A 0 ca) 0 (sps []) #[.int .i64 lo, .int .i64 hi] rfl (by intro u hu; simp at hu; rcases hu with rfl | rfl <;> rfl) rfl (wr.heap.size + 1) (by simp) rfl (hownd _) (by unfold maxLen; omega) (by omega) (by simp; omega) ?r0)
    case r0 =>
     intro A1 c1 w3 hown3 hf3 hg3
     have hfin := (g1d nq).trans' hf3 (fun k hk e => by have := ((hownd nq).lt k e).1; omega)
     clear hf3 hg3 g1 g1d hownd
     go_wp2
     go_roundw
     case rel => exact ⟨j + 1, 1, A1, c1, [(lo, hi)], by omega, by go_num, rfl, rfl, by rw [Hs2.out]; exact HFn, hown3, hfin⟩
     case measure => simp [intOf]; omega
   ·obtain ⟨i, y, rfl⟩ := snoc_of l (by rintro rfl; simp at hln; omega)
    obtain ⟨gb, rfl⟩ : ∃ gb, A = some ⟨gb, 0, none⟩ := by
     obtain ⟨g, cap, hv, _, _⟩ := hown.form h0
     exact ⟨g, by injection hv⟩
    have hil : i.length = n - 1 := by simp at hln; omega
    obtain ⟨y0, y1, yz⟩ := own_cells hown1 (i := n - 1) (by simp; omega)
    have ey : (i ++ [y])[n - 1]'(by simp; omega) = y := by simp [← hil]
    rw [ey] at y0 y1
    have hyo := HF.out.pl.init.2.1
    obtain ⟨ya, yb⟩ := y
    obtain ⟨z1, z2, z3⟩ := hyo
    simp only at y0 y1 z1 z2 z3
    have hw : wrap64 (yb + 1) = yb + 1 := by unfold wrap64; omega
    have hmi : ((n : Int) - 1).toNat = n - 1 := by omega
    have hm0 : (0 : Int) ≤ (n : Int) - 1 := by omega
    have hm1 : (1 : Int) ≤ (n : Int) := by omega
    have hm2 : (n : Int) - 1 < (n : Int) := by omega
    by_cases hc : lo ≤ yb + 1
    ·have HFn := Lib.hid (HF.out.widen hok Hlo.out hc)
     have hb3 := hown1.lt gb rfl
     have hmx : (if yb < hi then hi else yb) = max yb hi := by split <;> omega
     have h4 := upF_sps i (ya, yb) (lo, hi)
     simp only at h4
     rw [← hmx] at h4
     have HO : ∀ k, Hid ((((wr.alloc (.cells #[.int .i64 lo, .int .i64 hi] 51)).drewN k).setCell ⟨gb, (n - 1) * 2 + 1, none⟩ (.int .i64 (if yb < hi then hi else yb))).ownsRow w1.heap.size 51 2 (.slice (some ⟨gb, 0, none⟩) n ca) n (sps (foldS (i ++ [(ya, yb)]) (lo, hi)))) := fun k => Lib.hid (by
      have h3 := own_set (w := (wr.alloc (.cells #[.int .i64 lo, .int .i64 hi] 51)).drewN k) hown1 ((n - 1) * 2 + 1) (.int .i64 (if yb < hi then hi else yb))
      rw [← hil, h4] at h3
      rw [← hil]
      exact h3)
     have HG : ∀ k, Hid (Fr No w1 (((wr.alloc (.cells #[.int .i64 lo, .int .i64 hi] 51)).drewN k).setCell ⟨gb, (n - 1) * 2 + 1, none⟩ (.int .i64 (if yb < hi then hi else yb)))) := fun k => Lib.hid ((g1.drewN k).setCell (p := ⟨gb, (n - 1) * 2 + 1, none⟩) (.inr hb3.1) _)
     have hlen := foldS_len (i ++ [(ya, yb)]) (lo, hi)
     rw [hln] at hlen
     have hgb : gb ≠ wr.heap.size := by have := hown.lt gb rfl; omega
     have Hmx := Lib.hid hmx
     clear HF hown hok hown1 ey hmx h4
     go_wp2
     go_quiet (fail)
     go_wp2
     go_region
     all_goals
      go_wp2
      exact ⟨⟨j + 1, n, _, ca, _, by omega, by go_num, rfl, hlen, by rw [Hs2.out]; exact HFn, by first | exact (HO _).out | (rw [← Hmx.out]; exact (HO _).out), by first | exact (HG _).out | (rw [← Hmx.out]; exact (HG _).out)⟩, by simp [intOf]; omega⟩
    ·have HFn := Lib.hid (HF.out.append hok (.inr ⟨i, (ya, yb), rfl, by show yb + 1 < lo; omega⟩))
     have hownd : ∀ k, ((wr.alloc (.cells #[.int .i64 lo, .int .i64 hi] 51)).drewN k).ownsRow w1.heap.size 51 2 (.slice (some ⟨gb, 0, none⟩) n ca) n (sps (i ++ [(ya, yb)])) := fun _ => hown1
     have g1d := fun k => g1.drewN k
     have hsz := g1.size
     simp only [World.size_alloc] at hsz
     have hgb : gb ≠ wr.heap.size := by have := hown.lt gb rfl; omega
     clear HF hown hok hown1 ey
     go_wp2
     go_quiet (fail)
     go_wp2_with (at_builtin; refine wpList_append_elem rfl _ _ _ rfl w1.heap.size 51 (.agg #[.int .i64 0, .int .i64 0]) 2 16 Tryz.underlying35 info_span rfl (by omega) (.slice (some ⟨gb, 0, none⟩) n ca) n (sps (i ++ [(ya, yb)])) #[.int .i64 lo, .int .i64 hi] rfl (by intro u hu; simp at hu; rcases hu with rfl | rfl <;> rfl) rfl (wr.heap.size + 1) (by simp) rfl (hownd _) (by unfold maxLen; omega) (by omega) (by simp; omega) ?r1)
     case r1 =>
      intro A1 c1 w3 hown3 hf3 hg3
      have hfin := (g1d nq).trans' hf3 (fun k hk e => by have := ((hownd nq).lt k e).1; omega)
      have hown4 : w3.ownsRow w1.heap.size 51 2 (.slice A1 (n + 1) c1) (n + 1) (sps (i ++ [(ya, yb)] ++ [(lo, hi)])) := by
       rw [sps_app (i ++ [(ya, yb)])]
       exact hown3
      clear hf3 hg3 g1 g1d hownd hown3
      go_wp2
      go_roundw
      case rel => exact ⟨j + 1, n + 1, A1, c1, i ++ [(ya, yb)] ++ [(lo, hi)], by omega, by go_num, rfl, by rw [List.length_append, hln]; rfl, by rw [Hs2.out]; exact HFn, hown4, hfin⟩
      case measure => simp [intOf]; omega
  ·have hall : d.take j = d := List.take_of_length_le (by rw [HD4.out]; omega)
   have hF := HF.out
   rw [hall] at hF
   have hl := hF.pl.of (s := keysOf (spansOf ls)) (fun k _ => (hF.keys k).trans (Hk.out k))
   subst hln
   have Hl := Lib.hid hl
   have hlen := congrArg List.length hl
   clear hF HF hall hl
   go_wp2
   go_ret
   refine ⟨A, ca, ?_, ?_, hf1.trans' hfr (fun _ _ e => e)⟩
   ·rw [← Hl.out]; rfl
   ·rw [← Hl.out]; exact own_base hown hf1.size
end Go.Proofs.YtmeimhpllemjfaaGreat
