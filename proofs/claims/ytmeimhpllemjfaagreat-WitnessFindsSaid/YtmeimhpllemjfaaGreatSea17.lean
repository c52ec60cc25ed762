/- The law: whether any order keeps any history, and is fair, is the document's. -/
import Derived.Test.YtmeimhpllemjfaaGreatDoc16
import Derived.Test.YtmeimhpllemjfaaGreatOrd17
import Derived.BigQuiet
import Derived.Test.YtmeimhpllemjfaaGreatRfr17
import Derived.Test.YtmeimhpllemjfaaGreatRkp17
import Derived.Test.YtmeimhpllemjfaaGreatAlv17
namespace Go.Proofs.YtmeimhpllemjfaaGreat
open Go.RowKit

end Go.Proofs.YtmeimhpllemjfaaGreat
/- The law: whether any order of a short history is fair is the document's. -/
namespace Go.Proofs.YtmeimhpllemjfaaGreat
open Go.RowKit

end Go.Proofs.YtmeimhpllemjfaaGreat
/- The law: a history has a fair order, that is told, just if its graph is good. -/
namespace Go.Proofs.YtmeimhpllemjfaaGreat
open Go.RowKit

set_option maxRecDepth 100000 in
set_option maxHeartbeats 8000000 in
theorem witnessFinds17_any (x : Ctl) (h : List Ndl) (A : Option Addr) (N c : Nat) (w : World) (hx : Clss w x.cA x.cls) (hs : Nds w A h) (hN : h.length = N) (hNm : N ≤ 9223372036854775807) (hnc : x.cls.length ≤ 9223372036854775807)
  (hal : ∀ W, Fr No w W → Calls Tryz.prog 7 #[] W (Has W true))
  (hpf : great16 x.cls h = false → N ≤ 16 → ∀ W, Fr No w W → Calls Tryz.prog 17 #[x.agg, .slice A N c] W fun e w' => ∃ L lc l, e = .returned (.tuple #[.slice L (List.length l) lc, .bool (goodH x.p (ndsOf h))]) ∧ (goodH x.p (ndsOf h) = true → (isOrd N l = true ∧ fairP x.p (ndsOf h) (plc l)) ∧ Sl w' w'.heap.size L (ints l)) ∧ (goodH x.p (ndsOf h) = false → l = []) ∧ Fr No W w')
  (hdf : great16 x.cls h = false → mayH x.p (ndsOf h) = true → ∀ l L lc, (isOrd N l = true ∧ fairP x.p (ndsOf h) (plc l)) → ∀ W, Fr No w W → Sl W W.heap.size L (ints l) → Calls Tryz.prog 13 #[x.agg, .slice A N c, .slice L l.length lc] W (Has W true)) :
  Calls Tryz.prog 5 #[x.agg, .slice A N c] w (Has w true) := by
 have Hal := Lib.hid hal
 have HG := Lib.hid (fun W (hW : Fr No w W) => great16_any x h A N c W (hx.since hW) (hs.since hW) hN hNm hnc)
 have HD := Lib.hid (fun (hg : great16 x.cls h = false) W (hW : Fr No w W) => goodD16 x h A N c W (hx.since hW) (hs.since hW) hN (by have := (few_of_great16 hg).2.1; omega) (few_of_great16 hg).2.2)
 have HPf := Lib.hid hpf
 have HDf := Lib.hid hdf
 have hgm : goodH x.p (ndsOf h) = true → mayH x.p (ndsOf h) = true := fun e => by unfold goodH at e; rw [Bool.and_eq_true] at e; exact e.1
 clear hal hpf hdf
 generalize great16 x.cls h = g at *
 generalize goodH x.p (ndsOf h) = q at *
 unfold Ctl.agg at HG HD HPf HDf ⊢
 obtain ⟨Z, hZ⟩ : ∃ Z, Z = x.arr := ⟨_, rfl⟩
 rw [← hZ] at HG HD HPf HDf ⊢
 rw [Ctl.arr_eq] at hZ
 obtain ⟨W0, hW0⟩ : ∃ W0, W0 = w.alloc (.cells Z 26) := ⟨_, rfl⟩
 have bZ : Bk W0 w.heap.size 26 Z := by rw [hW0]; exact Bk.made w _ _
 have HF0 : Hid (Fr No w W0) := Lib.hid (by rw [hW0]; exact (Fr.refl _ _).alloc _)
 have HL := Lib.hid (fun V (hV : Fr No w V) (h0 : Fr No W0 V) => show LdO V 26 ⟨w.heap.size, 0, none⟩ (.agg Z) from ld_cat hZ (bZ.fr h0 (fun e => e)))
 have hwe := hW0.symm
 clear hZ hW0 bZ hx hs hN
 go_enter Tryz.func5, Tryz.ntmps5
 go_wp2_with fail
 refine (Hal.out _ HF0.out).mono ?_
 rintro e w1 ⟨rfl, f1⟩
 have D1 : Hid (Fr No W0 w1) := Lib.hid f1
 have F1 := Lib.hid (HF0.out.trans' f1 (fun _ _ e => e))
 clear f1 hwe Hal
 have HLw := Lib.hid (HL.out _ F1.out D1.out)
 go_wp2_with (first
  | ((with_reducible refine wpl_ld ?_ ?_ HLw.out ?_); (· rfl); (· rfl); simp only [Act.put, szA, szB, szC])
  | ((with_reducible refine wpl_ldg ?_ ?_ HLw.out ?_); (· rfl); (· rfl); simp only [Act.put, szA, szB, szC]))
 refine (HG.out _ F1.out).mono ?_
 rintro e w2 ⟨rfl, f2⟩
 have D2 := Lib.hid (D1.out.trans' f2 (fun _ _ e => e))
 have F2 := Lib.hid (F1.out.trans' f2 (fun _ _ e => e))
 clear f2 HLw
 clear HG
 cases g
 ·by_cases hn : N ≤ 16
  ·have d1 : decide ((N : Int) > 16) = false := by simp; omega
   have HLw := Lib.hid (HL.out _ F2.out D2.out)
   go_wp2_with (first
    | ((with_reducible refine wpl_ld ?_ ?_ HLw.out ?_); (· rfl); (· rfl); simp only [Act.put, szA, szB, szC])
    | ((with_reducible refine wpl_ldg ?_ ?_ HLw.out ?_); (· rfl); (· rfl); simp only [Act.put, szA, szB, szC]))
   refine (HPf.out (by first | rfl | trivial) hn _ F2.out).mono ?_
   rintro e w3 ⟨L, lc, l, rfl, hS, hE, f3⟩
   have D3 := Lib.hid (D2.out.trans' f3 (fun _ _ e => e))
   have F3 := Lib.hid (F2.out.trans' f3 (fun _ _ e => e))
   clear f3 HLw
   have HLw := Lib.hid (HL.out _ F3.out D3.out)
   go_wp2_with (first
    | ((with_reducible refine wpl_ld ?_ ?_ HLw.out ?_); (· rfl); (· rfl); simp only [Act.put, szA, szB, szC])
    | ((with_reducible refine wpl_ldg ?_ ?_ HLw.out ?_); (· rfl); (· rfl); simp only [Act.put, szA, szB, szC]))
   refine (HD.out (by first | rfl | trivial) _ F3.out).mono ?_
   rintro e w4 ⟨rfl, f4⟩
   have D4 := Lib.hid (D3.out.trans' f4 (fun _ _ e => e))
   have F4 := Lib.hid (F3.out.trans' f4 (fun _ _ e => e))
   clear HLw
   cases q
   ·obtain rfl := hE rfl
    go_wp2
    go_ret
    exact ⟨rfl, F4.out⟩
   ·obtain ⟨hl, hsl⟩ := hS rfl
    have hsl2 := Lib.hid (hsl.since f4)
    clear hS hE hsl
    have HLw := Lib.hid (HL.out _ F4.out D4.out)
    go_wp2_with (first
     | ((with_reducible refine wpl_ld ?_ ?_ HLw.out ?_); (· rfl); (· rfl); simp only [Act.put, szA, szB, szC])
     | ((with_reducible refine wpl_ldg ?_ ?_ HLw.out ?_); (· rfl); (· rfl); simp only [Act.put, szA, szB, szC]))
    refine (HDf.out (by first | rfl | trivial) (hgm (by first | rfl | trivial)) l L lc hl _ F4.out hsl2.out).mono ?_
    rintro e w5 ⟨rfl, f5⟩
    have D5 := Lib.hid (D4.out.trans' f5 (fun _ _ e => e))
    have F5 := Lib.hid (F4.out.trans' f5 (fun _ _ e => e))
    clear f5 HLw
    go_wp2
    go_ret
    exact ⟨rfl, F5.out⟩
  ·have d1 : decide ((N : Int) > 16) = true := by simp; omega
   go_wp2
   go_ret
   exact ⟨rfl, F2.out⟩
 ·go_wp2
  go_ret
  exact ⟨rfl, F2.out⟩
end Go.Proofs.YtmeimhpllemjfaaGreat
/- An order saga by saga: purely. -/
namespace Go.Proofs.YtmeimhpllemjfaaGreat
open Go.RowKit

end Go.Proofs.YtmeimhpllemjfaaGreat
/- The law: an order saga by saga that keeps a history is fair. -/
namespace Go.Proofs.YtmeimhpllemjfaaGreat
open Go.RowKit

end Go.Proofs.YtmeimhpllemjfaaGreat
/- The document's search, and the laws, of what package witness should do. -/
namespace Go.Proofs.YtmeimhpllemjfaaGreat
open Go.RowKit

theorem in17 {x : Ctl} {h : List Ndl} {A : Option Addr} {n c : Nat} {w : World} (hx : Clss w x.cA x.cls) (hs : Nds w A h) (hn : h.length = n) (hnc : n ≤ c) (hg : great16 x.cls h = false) : ∀ W, Fr No w W → In16 x h A n c W :=
 fun W hW => ⟨hx.since hW, hs.since hW, hn, by have := (few_of_great16 hg).2.1; omega, hnc, (few_of_great16 hg).1, (few_of_great16 hg).2.2⟩
theorem lawFinds17 (hF : FairC17) (hD : FindC17) (x : Ctl) (h : List Ndl) (A : Option Addr) (n c : Nat) (w : World) (hx : Clss w x.cA x.cls) (hs : Nds w A h) (hn : h.length = n) (hnc : n ≤ c) (hnm : n ≤ 9223372036854775807) (hncl : x.cls.length ≤ 9223372036854775807) :
  Calls Tryz.prog 5 #[x.agg, .slice A n c] w (Has w true) :=
 witnessFinds17_any x h A n c w hx hs hn hnm hncl (fun W _ => aliveF17 hF W) (fun hg h16 W hW => hD x h A n c W (in17 hx hs hn hnc hg W hW) h16) (fun hg hy l L lc hlf W hW hsl => refFair17 x h A n c l L l.length lc W (hx.since hW) (hs.since hW) hn (few_of_great16 hg).2.2 hy hsl rfl (by
  have h1 := hlf.1
  unfold isOrd at h1
  rw [Bool.and_eq_true, decide_eq_true_eq] at h1
  have := (few_of_great16 hg).2.1
  omega) true ⟨fun _ => hlf, fun _ => rfl⟩)
end Go.Proofs.YtmeimhpllemjfaaGreat
