/- The document's own, of any history that may be: its functions, all together. -/
import Derived.Test.YtmeimhpllemjfaaGreatRfm14
import Derived.Test.YtmeimhpllemjfaaGreatCnf14
import Derived.Test.YtmeimhpllemjfaaGreatArc16
import Derived.Test.YtmeimhpllemjfaaGreatWay16
import Derived.Test.YtmeimhpllemjfaaGreatGrt14
namespace Go.Proofs.YtmeimhpllemjfaaGreat
open Go.RowKit

theorem confD16 {h : List Ndl} {A : Option Addr} {w : World} (hs : Nds w A h) (hf : Nds.Few h) : ∀ (a b : Nat) (ha : a < h.length) (hb : b < h.length) W, Fr No w W → Calls Tryz.prog 28 #[h[a].agg, h[b].agg] W (Has W (confN h[a].n h[b].n)) :=
 fun a b ha hb W hW => refConflict14_any h[a] h[b] W ((hs.all _ (List.getElem_mem ha)).since hW) ((hs.all _ (List.getElem_mem hb)).since hW) (hf.all _ (List.getElem_mem ha)).1 (hf.all _ (List.getElem_mem ha)).2 (hf.all _ (List.getElem_mem hb)).1 (hf.all _ (List.getElem_mem hb)).2
theorem class16 {x : Ctl} {h : List Ndl} (hm : mayH x.p (ndsOf h) = true) {j : Nat} (hj : j < h.length) : ∃ d : Nat, h[j].n.cls = (d : Int) ∧ d < x.cls.length ∧ x.cls.length ≤ 4 := by
 have pa := selfOk_parts (ndOk_self (mayH_at hm (i := j) (by rw [ndsOf_len]; exact hj)))
 rw [ndsOf_at hj] at pa
 have ha1 := pa.2.1
 rw [has_eq, decide_eq_true_eq] at ha1
 obtain ⟨d, hd⟩ := Int.eq_ofNat_of_zero_le ha1.1
 exact ⟨d, hd, by omega, (nice_of_ok (mayH_cat hm)).few.n⟩
theorem kL_len (p : Nat → Bool) : ∀ m, (kL p m).length ≤ m
 | 0 => Nat.le_refl _
 | m + 1 => by
  have := kL_len p m
  rw [kL, List.length_append]
  split
  ·simp; omega
  ·simp; omega
theorem rowA_len (p : Nat → Nat → Nat → Bool) (i : Nat) : ∀ k, (rowA p i k).length ≤ k * 5
 | 0 => by simp [rowA]
 | k + 1 => by
  have := rowA_len p i k
  have h2 : (cellA p i k 5).length ≤ 5 := by unfold cellA; rw [List.length_map]; exact kL_len _ 5
  rw [rowA_step, List.length_append]
  omega
theorem allA_len (p : Nat → Nat → Nat → Bool) {n : Nat} (hn : n ≤ 100) : ∀ i, (allA p n i).length ≤ i * 500
 | 0 => by simp [allA]
 | i + 1 => by
  have := allA_len p hn i
  have h2 := rowA_len p i n
  rw [allA_step, List.length_append]
  omega
theorem arcs_small16 (x : PCt) (h : List Nd) (hn : h.length ≤ 100) : (arcsL x h).length ≤ 1048576 := by
 have := allA_len (arcB x h) hn h.length
 unfold arcsL
 omega
theorem arcs_any16 (x : PCt) (h : List Nd) : (fun a b => (arcsL x h).any fun t => decide (t.1 = a ∧ t.2.1 = b)) = arcA x h := by
 funext a b
 by_cases hl : a < h.length ∧ b < h.length
 ·exact any_arc x h hl.1 hl.2
 ·rw [show arcA x h a b = false from by
   cases e : arcA x h a b
   ·rfl
   ·exact absurd (arcA_lt a b e) hl, List.any_eq_false]
  intro t ht e
  have := arcs_lt ht
  rw [decide_eq_true_eq] at e
  rw [e.1, e.2] at this
  exact hl ⟨this.1, this.2.1⟩
theorem free_cyc16 (x : PCt) (h : List Nd) : freeB x h = decide ((cycT (wayB x h) h.length).length = 0) := by
 unfold freeB cycT
 rw [Bool.eq_iff_iff, decide_eq_true_eq, List.all_eq_true, List.length_eq_zero_iff, List.filter_eq_nil_iff]
 constructor
 ·intro q i hi e
  have := q i hi
  rw [e] at this
  cases this
 ·intro q i hi
  have := q i hi
  rw [Bool.not_eq_true] at this
  rw [this]
  rfl
section
variable (x : Ctl) (h : List Ndl) (A : Option Addr) (n c : Nat) (w : World) (hx : Clss w x.cA x.cls) (hs : Nds w A h) (hh : h.length = n) (hf : Nds.Few h) (hm : mayH x.p (ndsOf h) = true)
include hx hs hh hf hm
theorem arcsD16 : Calls Tryz.prog 77 #[x.agg, .slice A n c] w fun e w' => ∃ L lc, e = .returned (.slice L (arcsL x.p (ndsOf h)).length lc) ∧ w'.ownsRow w.heap.size 121 3 (.slice L (arcsL x.p (ndsOf h)).length lc) (arcsL x.p (ndsOf h)).length ((arcsL x.p (ndsOf h)).flatMap arcC) ∧ Fr No w w' := by
 have h100 := mayH_len hm
 rw [ndsOf_len] at h100
 refine refArcs16_any x h A n c w hs hh (by omega) (fun i hi => ?_) (fun W hW => refOf15_any h A n c W (hs.since hW) hh (by omega) (confD16 (hs.since hW) hf)) (fun i k j hi hk hj W hW => ?_)
 ·obtain ⟨d, hd, h1, h2⟩ := class16 hm hi
  omega
 ·obtain ⟨d, hd, h1, h2⟩ := class16 hm hj
  rw [hd]
  exact refIn14_any x h A n c i k d W (hx.since hW) (hs.since hW) hh hm (by omega) (by omega) h1
theorem waysD16 : Calls Tryz.prog 55 #[x.agg, .slice A n c] w fun e w' => ∃ G g, e = .returned (.slice (some ⟨G, 0, none⟩) n n) ∧ MatB w' w.heap.size 73 4 G n n g (wayB x.p (ndsOf h)) ∧ Fr No w w' := by
 have h100 := mayH_len hm
 rw [ndsOf_len] at h100
 have e : wayB x.p (ndsOf h) = wsh (fun a b => (arcsL x.p (ndsOf h)).any fun t => decide (t.1 = a ∧ t.2.1 = b)) n := by
  rw [arcs_any16]
  unfold wayB
  rw [ndsOf_len, hh]
 rw [e]
 exact refWays16_any x A n c w _ (by omega) (arcs_small16 _ _ (by rw [ndsOf_len]; omega)) (fun t ht => by have := arcs_lt ht; rw [ndsOf_len, hh] at this; exact ⟨this.1, this.2.1⟩) (fun W hW => arcsD16 x h A n c W (hx.since hW) (hs.since hW) hh hf hm)
theorem cycleD16 : Calls Tryz.prog 36 #[x.agg, .slice A n c] w fun e w' => ∃ L lc, e = .returned (.slice L (cycT (wayB x.p (ndsOf h)) n).length lc) ∧ w'.ownsRow w.heap.size 3 1 (.slice L (cycT (wayB x.p (ndsOf h)) n).length lc) (cycT (wayB x.p (ndsOf h)) n).length (nums (cycT (wayB x.p (ndsOf h)) n)) ∧ Fr No w w' := by
 have h100 := mayH_len hm
 rw [ndsOf_len] at h100
 exact refCycle16_any x A n c w (wayB x.p (ndsOf h)) (by omega) (fun W hW => waysD16 x h A n c W (hx.since hW) (hs.since hW) hh hf hm)
end
theorem mayD16 (x : Ctl) (h : List Ndl) (A : Option Addr) (n c : Nat) (w : World) (hx : Clss w x.cA x.cls) (hs : Nds w A h) (hh : h.length = n) (hnm : n ≤ 1048576) (hf : Nds.Few h) : Calls Tryz.prog 9 #[x.agg, .slice A n c] w (Has w (mayH x.p (ndsOf h))) :=
 refMayH14_any x h A n c w hx hs hh hnm hf
theorem goodD16 (x : Ctl) (h : List Ndl) (A : Option Addr) (n c : Nat) (w : World) (hx : Clss w x.cA x.cls) (hs : Nds w A h) (hh : h.length = n) (hnm : n ≤ 1048576) (hf : Nds.Few h) : Calls Tryz.prog 15 #[x.agg, .slice A n c] w (Has w (goodH x.p (ndsOf h))) := by
 have e : goodH x.p (ndsOf h) = (mayH x.p (ndsOf h) && decide ((cycT (wayB x.p (ndsOf h)) n).length = 0)) := by
  unfold goodH
  rw [← hh, ← ndsOf_len h, free_cyc16]
 rw [e]
 exact refGood16_any x A n c w _ _ (fun W hW => mayD16 x h A n c W (hx.since hW) (hs.since hW) hh hnm hf) (fun hm W hW => cycleD16 x h A n c W (hx.since hW) (hs.since hW) hh hf hm)
end Go.Proofs.YtmeimhpllemjfaaGreat
/- The law's own: is a history more than the laws of this layer look at? -/
namespace Go.Proofs.YtmeimhpllemjfaaGreat
open Go.RowKit

def great16 (l : List Cls) (h : List Ndl) : Bool := great14 l h || (great15 h || decide (24 < h.length))
theorem few_of_great16 {x : Ctl} {h : List Ndl} (hg : great16 x.cls h = false) : x.Big ∧ h.length ≤ 24 ∧ Nds.Few h := by
 unfold great16 at hg
 simp only [Bool.or_eq_false_iff, decide_eq_false_iff_not] at hg
 obtain ⟨h1, -, h3⟩ := hg
 obtain ⟨b1, b2, b3⟩ := big_of_great h1
 exact ⟨b1, by omega, ⟨fun a ha => by have := b3 a ha; omega⟩⟩
set_option maxRecDepth 100000 in
set_option maxHeartbeats 4000000 in
theorem great16_any (x : Ctl) (h : List Ndl) (A : Option Addr) (N c : Nat) (w : World) (hx : Clss w x.cA x.cls) (hs : Nds w A h) (hN : h.length = N) (hNm : N ≤ 9223372036854775807) (hnc : x.cls.length ≤ 9223372036854775807) :
  Calls Tryz.prog 8 #[x.agg, .slice A N c] w (Has w (great16 x.cls h)) := by
 have HG := Lib.hid (fun W (hW : Fr No w W) => great14_any x h A N c W (hx.since hW) (hs.since hW) hN hNm hnc)
 have HH := Lib.hid (fun W (hW : Fr No w W) => great15_any h A N c W (hs.since hW) hN hNm)
 have Hr : Hid (great16 x.cls h = (great14 x.cls h || (great15 h || decide (24 < (N : Int))))) := Lib.hid (by
  unfold great16
  congr 2
  exact decide_eq_decide.2 (by omega))
 generalize great16 x.cls h = r at *
 generalize great14 x.cls h = g at *
 generalize great15 h = g2 at *
 unfold Ctl.agg at HG ⊢
 obtain ⟨Z, hZ⟩ : ∃ Z, Z = x.arr := ⟨_, rfl⟩
 rw [← hZ] at HG ⊢
 rw [Ctl.arr_eq] at hZ
 obtain ⟨W0, hW0⟩ : ∃ W0, W0 = w.alloc (.cells Z 26) := ⟨_, rfl⟩
 have bZ : Bk W0 w.heap.size 26 Z := by rw [hW0]; exact Bk.made w _ _
 have HF0 : Hid (Fr No w W0) := Lib.hid (by rw [hW0]; exact (Fr.refl _ _).alloc _)
 have HL : Hid (LdO W0 26 ⟨w.heap.size, 0, none⟩ (.agg Z)) := Lib.hid (ld_cat hZ bZ)
 have hwe := hW0.symm
 clear hZ hW0 bZ hx hs hN
 go_enter Tryz.func8, Tryz.ntmps8
 go_wp2_with (first
  | ((with_reducible refine wpl_ld ?_ ?_ HL.out ?_); (· rfl); (· rfl); simp only [Act.put, szA, szB, szC]))
 refine (HG.out _ HF0.out).mono ?_
 rintro e w1 ⟨rfl, f1⟩
 have F1 := Lib.hid (HF0.out.trans' f1 (fun _ _ e => e))
 clear f1 HL HG hwe
 cases g
 ·go_wp2_with fail
  refine (HH.out _ F1.out).mono ?_
  rintro e w2 ⟨rfl, f2⟩
  have F2 := Lib.hid (F1.out.trans' f2 (fun _ _ e => e))
  clear f2 HH
  cases g2
  ·go_wp2
   go_ret
   exact ⟨by rw [Hr.out]; rfl, F2.out⟩
  ·go_wp2
   go_ret
   exact ⟨by rw [Hr.out]; rfl, F2.out⟩
 ·go_wp2
  go_ret
  exact ⟨by rw [Hr.out]; rfl, F1.out⟩
end Go.Proofs.YtmeimhpllemjfaaGreat
/- What the package's functions do, as the laws ask it. -/
namespace Go.Proofs.YtmeimhpllemjfaaGreat
open Go.RowKit

def ordH (x : PCt) (h : List Nd) : List Nat := if goodH x h = true then ordT (wayB x h) h.length h.length else []
structure In16 (x : Ctl) (h : List Ndl) (A : Option Addr) (n c : Nat) (w : World) : Prop where
 cl : Clss w x.cA x.cls
 nd : Nds w A h
 len : h.length = n
 n24 : n ≤ 24
 nc : n ≤ c
 big : x.Big
 few : Nds.Few h
def arcH (x : PCt) (h : List Nd) : List (Nat × Nat × Nat) := if mayH x h = true then arcsL x h else []
end Go.Proofs.YtmeimhpllemjfaaGreat
