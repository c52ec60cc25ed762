/- The law: with more breakpoints a good history stays good; so is each beginning of it. -/
import Derived.Test.YtdjhdnejeehgnaaGreatDoc16
import Derived.Test.YtdjhdnejeehgnaaGreatAlv16
import Derived.Test.YtdjhdnejeehgnaaGreatRsg16
import Derived.Test.YtdjhdnejeehgnaaGreatHand
import Derived.Deep.CutRange
import Derived.Test.YtdjhdnejeehgnaaGreatRead12
import Derived.Test.YtdjhdnejeehgnaaGreatRead
namespace Go.Proofs.YtdjhdnejeehgnaaGreat
open Go.RowKit

def u16 (mo : Nat → Nat) : Array Value := #[.int .u8 (mo 0 : Int), .int .u8 (mo 1 : Int), .int .u8 (mo 2 : Int), .int .u8 (mo 3 : Int), .int .u8 (mo 4 : Int), .int .u8 (mo 5 : Int), .int .u8 (mo 6 : Int), .int .u8 (mo 7 : Int), .int .u8 (mo 8 : Int), .int .u8 (mo 9 : Int), .int .u8 (mo 10 : Int), .int .u8 (mo 11 : Int), .int .u8 (mo 12 : Int), .int .u8 (mo 13 : Int), .int .u8 (mo 14 : Int), .int .u8 (mo 15 : Int)]
theorem bk_u16 {w : World} {H : Nat} {t : TypeId} {mo : Nat → Nat} (h : Bk w H t (u16 mo)) {j : Nat} (hj : j < 16) : w.cell? ⟨H, j, none⟩ = some (.int .u8 (mo j : Int)) := by
 rw [h.cell]
 unfold u16
 have h : j = 0 ∨ j = 1 ∨ j = 2 ∨ j = 3 ∨ j = 4 ∨ j = 5 ∨ j = 6 ∨ j = 7 ∨ j = 8 ∨ j = 9 ∨ j = 10 ∨ j = 11 ∨ j = 12 ∨ j = 13 ∨ j = 14 ∨ j = 15 := by omega
 rcases h with rfl | rfl | rfl | rfl | rfl | rfl | rfl | rfl | rfl | rfl | rfl | rfl | rfl | rfl | rfl | rfl <;> rfl
theorem brA_set (v : Value) (b : Nat → Int) (u : Int) {j : Nat} (hj : j < 16) : (brA v b).setIfInBounds (1 + j) (.int .i64 u) = brA v (fun k => if k = j then u else b k) := by
 unfold brA
 have h : j = 0 ∨ j = 1 ∨ j = 2 ∨ j = 3 ∨ j = 4 ∨ j = 5 ∨ j = 6 ∨ j = 7 ∨ j = 8 ∨ j = 9 ∨ j = 10 ∨ j = 11 ∨ j = 12 ∨ j = 13 ∨ j = 14 ∨ j = 15 := by omega
 rcases h with rfl | rfl | rfl | rfl | rfl | rfl | rfl | rfl | rfl | rfl | rfl | rfl | rfl | rfl | rfl | rfl <;> rfl
theorem take_flat16 (l : List Ndl) (j : Nat) : (l.take j).flatMap Ndl.cells = (l.flatMap Ndl.cells).take (j * 6) := by
 induction l generalizing j with
 | nil => simp
 | cons a r ih =>
  cases j with
  | zero => simp
  | succ j =>
   have hl := Ndl.cells_len a
   rw [List.take_succ_cons, List.flatMap_cons, List.flatMap_cons, List.take_append, ih j, hl, show (j + 1) * 6 - 6 = j * 6 by omega, show List.take ((j + 1) * 6) a.cells = a.cells from List.take_of_length_le (by omega)]
theorem Nds.take16 {w : World} {A : Option Addr} {l : List Ndl} (h : Nds w A l) (j : Nat) : Nds w A (l.take j) := by
 refine ⟨?_, fun x hx => h.all x (List.mem_of_mem_take hx)⟩
 rw [take_flat16]
 exact h.sl.take _
structure FinW (w : World) (Z : Array Value) (mo : Nat → Nat) (v : Value) (P9 : Nat) (f : Nat → Int) (W : World) : Prop where
 bx : Bk W w.heap.size 26 Z
 bm : Bk W (w.heap.size + 1) 43 (u16 mo)
 bY : Bk W P9 26 (brA v f)
 new : w.heap.size + 2 ≤ P9
 fr : Fr No w W
section
variable {w W V : World} {Z : Array Value} {mo : Nat → Nat} {v : Value} {P9 : Nat} {f g : Nat → Int}
theorem FinW.since (h : FinW w Z mo v P9 f W) (hf : Fr No W V) : FinW w Z mo v P9 f V := ⟨h.bx.fr hf (fun e => e), h.bm.fr hf (fun e => e), h.bY.fr hf (fun e => e), h.new, h.fr.trans' hf (fun _ _ e => e)⟩
theorem FinW.congr (h : FinW w Z mo v P9 f W) (e : ∀ j, f j = g j) : FinW w Z mo v P9 g W := by
 rw [← funext e]
 exact h
theorem FinW.put (h : FinW w Z mo v P9 f W) {j : Nat} (hj : j < 16) (u : Int) : FinW w Z mo v P9 (fun k => if k = j then u else f k) (W.setCell ⟨P9, 1 + j, none⟩ (.int .i64 u)) := by
 have hn := h.new
 have hX : Fr (fun k => k = P9) W (W.setCell ⟨P9, 1 + j, none⟩ (.int .i64 u)) := (Fr.refl (fun k => k = P9) W).setCell (.inl rfl) _
 refine ⟨h.bx.fr hX (fun e => by omega), h.bm.fr hX (fun e => by omega), ?_, h.new, h.fr.setCell (.inr (show w.heap.size ≤ P9 by omega)) _⟩
 rw [← brA_set v f u hj]
 exact h.bY.put _ _
end
set_option maxRecDepth 100000 in
set_option maxHeartbeats 16000000 in
theorem rsgFiner16_any (x : Ctl) (h : List Ndl) (mo : Nat → Nat) (q0 : Nat) (A : Option Addr) (n c0 : Nat) (w : World) (hx : Clss w x.cA x.cls) (hs : Nds w A h) (hh : h.length = n) (hnc0 : n ≤ c0) (hnm : n ≤ 9223372036854775807) (hncl : x.cls.length ≤ 9223372036854775807) (hmo : ∀ j, j < 16 → mo j < 256) (hq0 : q0 < 256)
  (hal : ∀ W, Fr No w W → Calls Tryz.prog 8 #[] W (Has W true))
  (hgood : ∀ (x : Ctl) (h : List Ndl) (A : Option Addr) (n c : Nat) (w : World), Clss w x.cA x.cls → Nds w A h → h.length = n → n ≤ 24 → n ≤ c → x.Big → Nds.Few h → Calls Tryz.prog 14 #[x.agg, .slice A n c] w (Has w (goodH x.p (ndsOf h)))) :
  Calls Tryz.prog 7 #[x.agg, .slice A n c0, .agg (u16 mo), .int .u8 (q0 : Int)] w (Has w true) := by
 have Hal := Lib.hid hal
 have HG := Lib.hid (fun W (hW : Fr No w W) => great16_any x h A n c0 W (hx.since hW) (hs.since hW) hh hnm hncl)
 have HD := Lib.hid (fun (hg : great16 x.cls h = false) W (hW : Fr No w W) => goodD16 x h A n c0 W (hx.since hW) (hs.since hW) hh (by have := (few_of_great16 hg).2.1; omega) (few_of_great16 hg).2.2)
 have HPy := Lib.hid (fun (hg : great16 x.cls h = false) (hd : goodH x.p (ndsOf h) = true) W (hW : Fr No w W) => show Calls Tryz.prog 14 #[.agg (brA (.slice x.cA x.cls.length x.cc) (finB x.p mo x.cls.length 0)), .slice A n c0] W (Has W true) by
  have e : x.p.cs.length = x.cls.length := by simp [Ctl.p]
  have := hgood ⟨x.cA, x.cls, x.cc, finB x.p mo x.cls.length 0⟩ h A n c0 W (hx.since hW) (hs.since hW) hh (by have := (few_of_great16 hg).2.1; omega) hnc0 ⟨(few_of_great16 hg).1.n, (few_of_great16 hg).1.cls⟩ (few_of_great16 hg).2.2
  rw [show (⟨x.cA, x.cls, x.cc, finB x.p mo x.cls.length 0⟩ : Ctl).p = x.p.fin mo by rw [← e]; rfl, fin_good mo hd] at this
  exact this)
 have HPq := Lib.hid (fun (hg : great16 x.cls h = false) (hd : goodH x.p (ndsOf h) = true) (q : Nat) (hq : q ≤ n) W (hW : Fr No w W) => show Calls Tryz.prog 14 #[x.agg, .slice A q c0] W (Has W true) by
  have h24 := (few_of_great16 hg).2.1
  have := hgood x (h.take q) A q c0 W (hx.since hW) ((hs.since hW).take16 q) (by rw [List.length_take]; omega) (by omega) (by omega) (few_of_great16 hg).1 ⟨fun y hy => (few_of_great16 hg).2.2.all y (List.mem_of_mem_take hy)⟩
  rw [show ndsOf (h.take q) = (ndsOf h).take q by simp [ndsOf], good_take (by rw [ndsOf_len]; omega) hd] at this
  exact this)
 have Hst := Lib.hid (fun (k : Nat) (hk : k < x.cls.length) W (hW : Fr No w W) => show ∃ ad sA sc, x.cA = some ad ∧ W.cell? ⟨(ad.add (k * 5)).block, (ad.add (k * 5)).off + 2, none⟩ = some (.slice sA x.cls[k].steps.length sc) by
  obtain ⟨ad, e, -, -, -, c2, -⟩ := (hx.since hW).sl.cls hk
  exact ⟨ad, _, _, e, c2⟩)
 have H4 := Lib.hid (fun (hd : goodH x.p (ndsOf h) = true) => show x.cls.length ≤ 4 ∧ (∀ k (hk : k < x.cls.length), x.cls[k].steps.length ≤ 4) ∧ ∀ c d, c < x.cls.length → d < x.cls.length → 0 ≤ x.b (c * 4 + d) ∧ x.b (c * 4 + d) ≤ 7 by
  unfold goodH at hd
  rw [Bool.and_eq_true] at hd
  have hf := (nice_of_ok (mayH_cat hd.1)).few
  refine ⟨hf.n, fun k hk => hf.st _ (List.getElem_mem hk), fun c d hc hdd => ?_⟩
  obtain ⟨h0, h1⟩ := hf.at hc hdd
  have := mskL_le (hf.st _ (List.getElem_mem hc))
  exact ⟨h0, by omega⟩)
 have HB0 := Lib.hid (fun j => show finB x.p mo 0 0 j = x.b j from finB_start x.p mo j)
 have HBh := Lib.hid (fun (c d : Nat) (hd : d < 4) => show finB x.p mo c d (c * 4 + d) = x.b (c * 4 + d) from finB_here x.p mo hd)
 have HBs := Lib.hid (fun (c d : Nat) (hc : c < x.cls.length) (hdd : d < x.cls.length) (hd : d < 4) (j : Nat) => show finB x.p mo c (d + 1) j = if j = c * 4 + d then orN (x.b (c * 4 + d)) ((mo (c * 4 + d) : Int) % ((2 ^ (x.cls[c].steps.length - 1) : Nat) : Int)) else finB x.p mo c d j by
  have e := finB_step x.p mo (c := c) hd j
  rw [Ctl.most_at x hc hdd] at e
  unfold mskL at e
  rw [Int.sub_add_cancel] at e
  exact e)
 have HBr := Lib.hid (fun (c j : Nat) => show finB x.p mo c x.cls.length j = finB x.p mo (c + 1) 0 j by
  have e := finB_row x.p mo c j
  rwa [show x.p.cs.length = x.cls.length by simp [Ctl.p]] at e)
 have Hmo := Lib.hid hmo
 obtain ⟨q, hq⟩ : ∃ q, q = q0 % (n + 1) := ⟨_, rfl⟩
 have hqn : q ≤ n := by have := Nat.mod_lt q0 (show 0 < n + 1 by omega); omega
 have hrem : (q0 : Int).tmod ((n : Int) + 1) = (q : Int) := by
  rw [hq]
  have : ((n : Int) + 1) = ((n + 1 : Nat) : Int) := by push_cast; rfl
  rw [this]
  exact (Int.ofNat_tmod q0 (n + 1)).symm
 have hz1 : ¬ ((n : Int) + 1 = 0) := by omega
 have HPq2 := Lib.hid (fun hg hd => HPq.out hg hd q hqn)
 have Hrq := Lib.hid (And.intro hrem (And.intro hz1 hqn))
 have h24 := Lib.hid (fun (hg : great16 x.cls h = false) => (show n ≤ 24 by have := (few_of_great16 hg).2.1; omega))
 clear hal hgood hmo hq HPq hs hh hrem hz1 hqn
 generalize great16 x.cls h = g at *
 generalize goodH x.p (ndsOf h) = gd at *
 generalize finB x.p mo = fB at *
 unfold Ctl.agg at *
 obtain ⟨Z, hZ⟩ : ∃ Z, Z = x.arr := ⟨_, rfl⟩
 rw [← hZ] at HG HD HPq2 ⊢
 rw [Ctl.arr_eq] at hZ
 obtain ⟨N, hN⟩ : ∃ N, x.cls.length = N := ⟨_, rfl⟩
 rw [hN] at hZ HPy HBr hncl
 obtain ⟨v, hv⟩ : ∃ v, v = Value.slice x.cA N x.cc := ⟨_, rfl⟩
 rw [← hv] at hZ HPy
 obtain ⟨W0, hW0⟩ : ∃ W0, W0 = (w.alloc (.cells Z 26)).alloc (.cells (u16 mo) 43) := ⟨_, rfl⟩
 have f0 : Fr No w W0 := by rw [hW0]; exact ((Fr.refl _ _).alloc _).alloc _
 have bZ : Bk W0 w.heap.size 26 Z := by rw [hW0]; exact (Bk.made w _ _).alloc _
 have bM : Bk W0 (w.heap.size + 1) 43 (u16 mo) := by rw [hW0]; simpa using Bk.made (w.alloc (.cells Z 26)) 43 (u16 mo)
 have hs0 : W0.heap.size = w.heap.size + 2 := by rw [hW0]; simp
 have HLc := Lib.hid (fun V (hV : Fr No W0 V) => show LdO V 26 ⟨w.heap.size, 0, none⟩ (.agg Z) from ld_cat hZ (bZ.fr hV (fun e => e)))
 have HLz := Lib.hid (fun V (hV : Bk V w.heap.size 26 Z) => show LdO V 26 ⟨w.heap.size, 0, none⟩ (.agg Z) ∧ V.cell? ⟨w.heap.size, 0, none⟩ = some (.slice x.cA N x.cc) ∧ ∀ c d, c < 4 → d < 4 → V.cell? ⟨w.heap.size, 1 + c * 4 + d, none⟩ = some (.int .i64 (x.b (c * 4 + d))) from ⟨ld_cat hZ hV, by rw [hV.cell, hZ, ← hv]; rfl, fun c d hc hd => by rw [hZ] at hV; exact bk_br2 hV hc hd⟩)
 have HFin := Lib.hid (fun W (hW : Fr No W0 W) WF (hWF : WF = (W.alloc (.cells (brA (.slice none 0 0) fun _ => 0) 26)).setRow W.heap.size Z) => show FinW w Z mo v W.heap.size (fB 0 0) WF by
  have hsz := hW.size
  have bY0 := Bk.made W 26 (brA (.slice none 0 0) fun _ => 0)
  have fY : Fr No W WF := by rw [hWF]; exact fr_row12 ((Fr.refl _ _).alloc _) (.inr (Nat.le_refl _)) _
  have fW : Fr No W0 WF := hW.trans' fY (fun _ _ e => e)
  refine ⟨bZ.fr fW (fun e => e), bM.fr fW (fun e => e), ?_, by omega, f0.trans' fW (fun _ _ e => e)⟩
  have := bk_row12 bY0 Z
  rw [← hWF, hZ, ← funext HB0.out] at this
  exact this)
 have HSt := Lib.hid (fun W => show StO (W.alloc (.cells (brA (.slice none 0 0) fun _ => 0) 26)) 26 ⟨W.heap.size, 0, none⟩ (.agg Z) ((W.alloc (.cells (brA (.slice none 0 0) fun _ => 0) 26)).setRow W.heap.size Z) from st_cat rfl hZ (by rw [hv]; rfl) (Bk.made W 26 _))
 have hwe := hW0.symm
 have HF0 := Lib.hid f0
 have HV := Lib.hid hv
 have HN := Lib.hid hN
 clear bZ bM f0 hW0 hZ hx hs0 hv hN
 unfold brA at HSt
 generalize x.cA = cA at *
 generalize x.cc = cc at *
 generalize x.b = xb at *
 go_enter Tryz.func7, Tryz.ntmps7
 go_wp2_with fail
 refine (Hal.out _ HF0.out).mono ?_
 rintro e w1 ⟨rfl, f1⟩
 have F1 := Lib.hid f1
 clear f1 hwe Hal
 have HLw := Lib.hid (HLc.out _ F1.out)
 go_wp2_with (first
  | ((with_reducible refine wpl_ld ?_ ?_ HLw.out ?_); (· rfl); (· rfl); simp only [Act.put, szA, szB, szC])
  | ((with_reducible refine wpl_ldg ?_ ?_ HLw.out ?_); (· rfl); (· rfl); simp only [Act.put, szA, szB, szC]))
 refine (HG.out _ (HF0.out.trans' F1.out (fun _ _ e => e))).mono ?_
 rintro e w2 ⟨rfl, f2⟩
 have F2 := Lib.hid (F1.out.trans' f2 (fun _ _ e => e))
 clear f2 HLw HG F1
 cases g
 case true =>
  go_wp2
  go_ret
  exact ⟨rfl, HF0.out.trans' F2.out (fun _ _ e => e)⟩
 have HLw := Lib.hid (HLc.out _ F2.out)
 have hn24 := h24.out (by first | rfl | trivial)
 clear h24
 go_wp2_with (first
  | ((with_reducible refine wpl_ld ?_ ?_ HLw.out ?_); (· rfl); (· rfl); simp only [Act.put, szA, szB, szC])
  | ((with_reducible refine wpl_ldg ?_ ?_ HLw.out ?_); (· rfl); (· rfl); simp only [Act.put, szA, szB, szC]))
 refine (HD.out (by first | rfl | trivial) _ (HF0.out.trans' F2.out (fun _ _ e => e))).mono ?_
 rintro e w3 ⟨rfl, f3⟩
 have F3 := Lib.hid (F2.out.trans' f3 (fun _ _ e => e))
 clear f3 HLw HD F2
 cases gd
 case false =>
  go_wp2
  go_ret
  exact ⟨rfl, HF0.out.trans' F3.out (fun _ _ e => e)⟩
 have HLw := Lib.hid (HLc.out _ F3.out)
 obtain ⟨WF, hWF⟩ : ∃ WF, WF = (w3.alloc (.cells (brA (.slice none 0 0) fun _ => 0) 26)).setRow w3.heap.size Z := ⟨_, rfl⟩
 have HA0 := Lib.hid (HFin.out w3 F3.out WF hWF)
 have hst := HSt.out w3
 unfold brA at hWF
 rw [← hWF] at hst
 have Hst3 := Lib.hid hst
 clear hst hWF HSt HFin HLc HB0
 obtain ⟨P9, hP9⟩ : ∃ P, w3.heap.size = P := ⟨_, rfl⟩
 rw [hP9] at HA0 Hst3
 obtain ⟨hN4, hL4, hb7⟩ := H4.out (by first | rfl | trivial)
 have HPy2 := Lib.hid (HPy.out (by first | rfl | trivial) (by first | rfl | trivial))
 have HPq3 := Lib.hid (HPq2.out (by first | rfl | trivial) (by first | rfl | trivial))
 have HL4 := Lib.hid hL4
 have Hb7 := Lib.hid hb7
 rw [HN.out] at hN4
 clear H4 HPy HPq2 hL4 hb7
 go_wp2_with (first
  | ((with_reducible refine wpl_st ?_ ?_ ?_ Hst3.out ?_); (· first | rfl | (rw [← hP9]; rfl)); (· rfl); (· rfl); simp only [Act.put])
  | ((with_reducible refine wpl_ld ?_ ?_ HLw.out ?_); (· rfl); (· rfl); simp only [Act.put, szA, szB, szC])
  | ((with_reducible refine wpl_ldg ?_ ?_ HLw.out ?_); (· rfl); (· rfl); simp only [Act.put, szA, szB, szC]))
 go_loopw [10] (fun cv wr => ∃ c : Nat, c ≤ N ∧ cv = .int .i64 (c : Int) ∧ Hid (FinW w Z mo v P9 (fB c 0) wr)) (fun cv _ => N - (intOf cv).toNat)
 case atStart => exact ⟨0, Nat.zero_le _, rfl, HA0⟩
 case round =>
  obtain ⟨c, hc, rfl, HA⟩ := hrel
  clear HA0 HLw Hst3 F3
  obtain ⟨-, y0, -⟩ := HLz.out wr HA.out.bx
  by_cases hlt : c < N
  ·have hcl : c < x.cls.length := by rw [HN.out]; exact hlt
   have hc4 : c < 4 := by omega
   have hcN : ((c : Nat) : Int) < (N : Int) := by omega
   have hci4 : ((c : Nat) : Int) < 4 := by omega
   have Hrow := Lib.hid (fun W (hW : Fr No w W) => Hst.out c hcl W hW)
   have HBc := Lib.hid (fun d (hd : d < N) => HBs.out c d hcl (by rw [HN.out]; exact hd) (by omega))
   have hL := HL4.out c hcl
   have Hb := Lib.hid (fun d (hd : d < N) => Hb7.out c d hcl (by rw [HN.out]; exact hd))
   clear Hst HBs HL4
   generalize x.cls[c].steps.length = L at *
   go_wp2
   go_loopw [11, 12] (fun av iv wx => ∃ i a : Nat, 1 ≤ i ∧ (i ≤ L ∨ i = 1) ∧ av = .int .i64 (a : Int) ∧ iv = .int .i64 (i : Int) ∧ Hid (a = 2 ^ (i - 1)) ∧ a ≤ 8 ∧ Hid (FinW w Z mo v P9 (fB c 0) wx)) (fun _ iv _ => L - (intOf iv).toNat)
   case atStart => exact ⟨1, 1, Nat.le_refl _, .inr rfl, rfl, rfl, Lib.hid rfl, by omega, HA⟩
   case round =>
    clear y0
    obtain ⟨i, a, hi1, hiL, rfl, rfl, Ha, ha8, HA2⟩ := hrel
    obtain ⟨-, y0, -⟩ := HLz.out wr HA2.out.bx
    obtain ⟨ad, sA, sc, e, c2⟩ := Hrow.out wr HA2.out.fr
    subst e
    by_cases hil : i < L
    ·have hiL2 : ((i : Nat) : Int) < (L : Int) := by omega
     have Ha2 : Hid (2 * a = 2 ^ (i + 1 - 1)) := Lib.hid (by rw [Ha.out, show i + 1 - 1 = (i - 1) + 1 by omega, Nat.pow_succ]; omega)
     have ha16 : 2 * a ≤ 8 := by
      have h3 := Ha2.out
      have : i + 1 - 1 ≤ 3 := by omega
      have := Nat.pow_le_pow_right (n := 2) (by omega) this
      omega
     clear Ha HA
     go_wp2
     go_roundw
     case rel => exact ⟨i + 1, 2 * a, by omega, .inl (by omega), by go_num, by go_num, Ha2, by omega, HA2⟩
     case measure => simp [intOf]; omega
    ·have Ha2 : Hid (a = 2 ^ (L - 1)) := Lib.hid (by
      rw [Ha.out]
      congr 1
      omega)
     have ha0 : 0 < a := by rw [Ha2.out]; exact Nat.two_pow_pos _
     have hLi : ¬ ((i : Nat) : Int) < (L : Int) := by omega
     rw [← Ha2.out] at HBc
     clear Ha HA Ha2
     go_wp2
     go_loopw [13] (fun dv wx => ∃ d : Nat, d ≤ N ∧ dv = .int .i64 (d : Int) ∧ Hid (FinW w Z mo v P9 (fB c d) wx)) (fun dv _ => N - (intOf dv).toNat)
     case atStart => exact ⟨0, Nat.zero_le _, rfl, HA2⟩
     case round =>
      clear y0 c2
      obtain ⟨d, hd, rfl, HA3⟩ := hrel
      obtain ⟨-, y0, x1⟩ := HLz.out wr HA3.out.bx
      by_cases hdN : d < N
      ·have hd4 : d < 4 := by omega
       have hdN2 : ((d : Nat) : Int) < (N : Int) := by omega
       have hdi4 : ((d : Nat) : Int) < 4 := by omega
       obtain ⟨hb0, hb7⟩ := Hb.out d hdN
       have hm := Hmo.out (c * 4 + d) (by omega)
       have HS := Lib.hid (fun V (hV : FinW w Z mo v P9 (fB c d) V) => show V.cell? ⟨w.heap.size, 1 + c * 4 + d, none⟩ = some (.int .i64 (xb (c * 4 + d))) ∧ V.cell? ⟨w.heap.size + 1, c * 4 + d, none⟩ = some (.int .u8 (mo (c * 4 + d) : Int)) ∧ V.frozen? ⟨P9, 1 + c * 4 + d, none⟩ = false ∧ ∃ u : Value, V.cell? ⟨P9, 1 + c * 4 + d, none⟩ = some u from ⟨(HLz.out V hV.bx).2.2 c d hc4 hd4, bk_u16 hV.bm (by omega), hV.bY.frozen _, _, bk_br2 hV.bY hc4 hd4⟩)
       have HS2 := Lib.hid (fun V (hV : FinW w Z mo v P9 (fB c (d + 1)) V) => show V.cell? ⟨w.heap.size, 1 + c * 4 + d, none⟩ = some (.int .i64 (xb (c * 4 + d))) ∧ V.cell? ⟨w.heap.size + 1, c * 4 + d, none⟩ = some (.int .u8 (mo (c * 4 + d) : Int)) ∧ V.frozen? ⟨P9, 1 + c * 4 + d, none⟩ = false ∧ ∃ u : Value, V.cell? ⟨P9, 1 + c * 4 + d, none⟩ = some u from ⟨(HLz.out V hV.bx).2.2 c d hc4 hd4, bk_u16 hV.bm (by omega), hV.bY.frozen _, _, bk_br2 hV.bY hc4 hd4⟩)
       have HBd := Lib.hid (HBc.out d hdN)
       have HPt := Lib.hid (fun V (hV : FinW w Z mo v P9 (fB c d) V) => show FinW w Z mo v P9 (fB c (d + 1)) (V.setCell ⟨P9, 1 + c * 4 + d, none⟩ (.int .i64 (orN (xb (c * 4 + d)) ((mo (c * 4 + d) : Int) % (a : Int))))) by
        have := hV.put (j := c * 4 + d) (by omega) (orN (xb (c * 4 + d)) ((mo (c * 4 + d) : Int) % (a : Int)))
        rw [show 1 + (c * 4 + d) = 1 + c * 4 + d by omega] at this
        exact this.congr (fun j => (HBd.out j).symm))
       clear HBd
       generalize xb (c * 4 + d) = b0 at *
       generalize mo (c * 4 + d) = m0 at *
       have hcv : IntKind.i64.wrap (m0 : Int) = (m0 : Int) := by unfold IntKind.wrap; simp [IntKind.bits]; omega
       have hrm : (m0 : Int).tmod (a : Int) = (m0 : Int) % (a : Int) := Int.tmod_eq_emod_of_nonneg (by omega)
       have ha1 : ¬ a = 0 := by omega
       have r0 : 0 ≤ (m0 : Int) % (a : Int) := Int.emod_nonneg _ (by omega)
       have r7 : (m0 : Int) % (a : Int) ≤ 7 := by have := Int.emod_lt_of_pos (m0 : Int) (show (0 : Int) < (a : Int) by omega); omega
       have hor := or_bits hb0 hb7 r0 r7
       generalize (m0 : Int) % (a : Int) = rm at *
       go_wp2_with fail
       have HA4 := Lib.hid (HA3.out.since ((Fr.refl No wr).drew))
       have HA5 := Lib.hid (HPt.out _ HA4.out)
       clear HA3 HPt
       refine wp_region_held_drew (S := fun V => V.cell? ⟨w.heap.size, 1 + c * 4 + d, none⟩ = some (.int .i64 b0) ∧ V.cell? ⟨w.heap.size + 1, c * 4 + d, none⟩ = some (.int .u8 (m0 : Int)) ∧ V.frozen? ⟨P9, 1 + c * 4 + d, none⟩ = false ∧ ∃ u : Value, V.cell? ⟨P9, 1 + c * 4 + d, none⟩ = some u) (by kernel_rfl) (HS.out _ HA4.out) (fun hHeld => ?_)
       refine any_tk 61 (.int .i64 (c : Int)) (i := 0) rfl rfl (by kernel_rfl) (fun _ _ _ h => h) (by rfl) (by intro w hSw; (try dsimp only at hSw); go_simp; try with_reducible rfl) (by assumption) ?_
       simp only [Act.put, szA, szB, szC]
       refine any_tk 62 (.int .i64 (d : Int)) (i := 1) rfl rfl (by kernel_rfl) (fun _ _ _ h => h) (by rfl) (by intro w hSw; (try dsimp only at hSw); go_simp; try with_reducible rfl) (by assumption) ?_
       simp only [Act.put, szA, szB, szC]
       refine any_tk 63 (.int .i64 (c : Int)) (i := 2) rfl rfl (by kernel_rfl) (fun _ _ _ h => h) (by rfl) (by intro w hSw; (try dsimp only at hSw); go_simp; try with_reducible rfl) (by assumption) ?_
       simp only [Act.put, szA, szB, szC]
       refine any_tk 64 (.int .i64 (d : Int)) (i := 3) rfl rfl (by kernel_rfl) (fun _ _ _ h => h) (by rfl) (by intro w hSw; (try dsimp only at hSw); go_simp; try with_reducible rfl) (by assumption) ?_
       simp only [Act.put, szA, szB, szC]
       refine any_tk 65 (.pointer (some ⟨w.heap.size, 1, none⟩)) (i := 4) rfl rfl (by kernel_rfl) (fun _ _ _ h => h) (by rfl) (by intro w hSw; (try dsimp only at hSw); go_simp; try with_reducible rfl) (by assumption) ?_
       simp only [Act.put, szA, szB, szC]
       refine any_tk 66 (.pointer (some ⟨w.heap.size, 1 + c * 4, none⟩)) (i := 5) rfl rfl (by kernel_rfl) (fun _ _ _ h => h) (by rfl) (by intro w hSw; (try dsimp only at hSw); go_simp; try with_reducible rfl) (by assumption) ?_
       simp only [Act.put, szA, szB, szC]
       refine any_tk 67 (.pointer (some ⟨w.heap.size, 1 + c * 4 + d, none⟩)) (i := 6) rfl rfl (by kernel_rfl) (fun _ _ _ h => h) (by rfl) (by intro w hSw; (try dsimp only at hSw); go_simp; try with_reducible rfl) (by assumption) ?_
       simp only [Act.put, szA, szB, szC]
       refine any_tk 68 (.int .i64 b0) (i := 7) rfl rfl (by kernel_rfl) (fun _ _ _ h => h) (by rfl) (by intro w hSw; (try dsimp only at hSw); go_simp; try with_reducible rfl) (by assumption) ?_
       simp only [Act.put, szA, szB, szC]
       refine any_tk 69 (.int .i64 (c : Int)) (i := 8) rfl rfl (by kernel_rfl) (fun _ _ _ h => h) (by rfl) (by intro w hSw; (try dsimp only at hSw); go_simp; try with_reducible rfl) (by assumption) ?_
       simp only [Act.put, szA, szB, szC]
       refine any_tk 70 (.int .i64 (d : Int)) (i := 9) rfl rfl (by kernel_rfl) (fun _ _ _ h => h) (by rfl) (by intro w hSw; (try dsimp only at hSw); go_simp; try with_reducible rfl) (by assumption) ?_
       simp only [Act.put, szA, szB, szC]
       refine any_tk 71 (.pointer (some ⟨w.heap.size + 1, c * 4, none⟩)) (i := 10) rfl rfl (by kernel_rfl) (fun _ _ _ h => h) (by rfl) (by intro w hSw; (try dsimp only at hSw); go_simp; try with_reducible rfl) (by assumption) ?_
       simp only [Act.put, szA, szB, szC]
       refine any_tk 72 (.pointer (some ⟨w.heap.size + 1, c * 4 + d, none⟩)) (i := 11) rfl rfl (by kernel_rfl) (fun _ _ _ h => h) (by rfl) (by intro w hSw; (try dsimp only at hSw); go_simp; try with_reducible rfl) (by assumption) ?_
       simp only [Act.put, szA, szB, szC]
       refine any_tk 73 (.int .u8 (m0 : Int)) (i := 12) rfl rfl (by kernel_rfl) (fun _ _ _ h => h) (by rfl) (by intro w hSw; (try dsimp only at hSw); go_simp; try with_reducible rfl) (by assumption) ?_
       simp only [Act.put, szA, szB, szC]
       refine any_tk 74 (.int .i64 (m0 : Int)) (i := 13) rfl rfl (by kernel_rfl) (fun _ _ _ h => h) (by rfl) (by intro w hSw; (try dsimp only at hSw); go_simp; try with_reducible rfl) (by assumption) ?_
       simp only [Act.put, szA, szB, szC]
       refine any_tk 75 (.int .i64 (a : Int)) (i := 14) rfl rfl (by kernel_rfl) (fun _ _ _ h => h) (by rfl) (by intro w hSw; (try dsimp only at hSw); go_simp; try with_reducible rfl) (by assumption) ?_
       simp only [Act.put, szA, szB, szC]
       refine any_tk 76 (.int .i64 rm) (i := 15) rfl rfl (by kernel_rfl) (fun _ _ _ h => h) (by rfl) (by intro w hSw; (try dsimp only at hSw); go_simp; try with_reducible rfl) (by assumption) ?_
       simp only [Act.put, szA, szB, szC]
       refine any_tk 77 (.int .i64 (orN b0 rm)) (i := 16) rfl rfl (by kernel_rfl) (fun _ _ _ h => h) (by rfl) (by intro w hSw; (try dsimp only at hSw); go_simp; try with_reducible rfl) (by assumption) ?_
       simp only [Act.put, szA, szB, szC]
       refine any_tk 78 (.pointer (some ⟨P9, 1, none⟩)) (i := 17) rfl rfl (by kernel_rfl) (fun _ _ _ h => h) (by rfl) (by intro w hSw; (try dsimp only at hSw); go_simp; try with_reducible rfl) (by assumption) ?_
       simp only [Act.put, szA, szB, szC]
       refine any_tk 79 (.pointer (some ⟨P9, 1 + c * 4, none⟩)) (i := 18) rfl rfl (by kernel_rfl) (fun _ _ _ h => h) (by rfl) (by intro w hSw; (try dsimp only at hSw); go_simp; try with_reducible rfl) (by assumption) ?_
       simp only [Act.put, szA, szB, szC]
       refine any_tk 80 (.pointer (some ⟨P9, 1 + c * 4 + d, none⟩)) (i := 19) rfl rfl (by kernel_rfl) (fun _ _ _ h => h) (by rfl) (by intro w hSw; (try dsimp only at hSw); go_simp; try with_reducible rfl) (by assumption) ?_
       simp only [Act.put, szA, szB, szC]
       refine any_store12 (i := 20) (w' := wr.drew.setCell ⟨P9, 1 + c * 4 + d, none⟩ (.int .i64 (orN b0 rm))) (by kernel_rfl) rfl rfl (by rfl) (by obtain ⟨-, -, p1, u, p2⟩ := HS.out _ HA4.out; go_simp; try rfl) (HS2.out _ HA5.out) ?_
       refine wpAnyH_done (by kernel_rfl) ?_ _
       clear hHeld
       go_wp2
       go_roundw
       case rel => exact ⟨d + 1, by omega, by go_num, HA5⟩
       case measure => simp [intOf]; omega
      ·obtain rfl : d = N := by omega
       have HA4 := Lib.hid (HA3.out.congr (fun j => HBr.out c j))
       have hdx : ¬ ((d : Nat) : Int) < (d : Int) := by omega
       clear HA3 x1
       go_wp2
       go_roundw
       case rel => exact ⟨c + 1, by omega, by go_num, HA4⟩
       case measure => simp [intOf]; omega
  ·obtain rfl : c = N := by omega
   have hcx : ¬ ((c : Nat) : Int) < (c : Int) := by omega
   have HS18 := Lib.hid (fun V (hV : Fr No wr V) => show LdO V 26 ⟨P9, 0, none⟩ (.agg (brA v (fB c 0))) ∧ LdO V 26 ⟨w.heap.size, 0, none⟩ (.agg Z) from ⟨ld_cat rfl ((HA.out.since hV).bY), (HLz.out V (HA.out.since hV).bx).1⟩)
   have HFw := Lib.hid HA.out.fr
   obtain ⟨YZ, hYZ⟩ : ∃ YZ, YZ = brA v (fB c 0) := ⟨_, rfl⟩
   rw [← hYZ] at HPy2 HS18
   obtain ⟨hrem, hz1, hqn⟩ := Hrq.out
   have hw1 : wrap64 ((n : Int) + 1) = (n : Int) + 1 := by unfold wrap64; omega
   have hqc : ((q : Nat) : Int) ≤ (c0 : Int) := by omega
   have hw2 : IntKind.i64.wrap ((n : Int) + 1) = (n : Int) + 1 := by unfold IntKind.wrap; simp [IntKind.bits]; omega
   have hcv : IntKind.i64.wrap (q0 : Int) = (q0 : Int) := by unfold IntKind.wrap; simp [IntKind.bits]; omega
   clear HA HLz HBs HBr Hmo Hst HL4 Hb7 hYZ Hrq HV
   go_wp2
   have FD := Lib.hid ((Fr.refl No wr).drew)
   refine wp_region_held_drew (S := fun V => LdO V 26 ⟨P9, 0, none⟩ (.agg YZ) ∧ LdO V 26 ⟨w.heap.size, 0, none⟩ (.agg Z)) (by kernel_rfl) (HS18.out _ FD.out) (fun hHeld => ?_)
   refine any_tk 81 (.agg YZ) (i := 0) rfl rfl (by kernel_rfl) (fun _ _ _ h => h) (by rfl) (by intro w hSw; exact exec_ld rfl hSw.1) (by assumption) ?_
   simp only [Act.put, szA, szB, szC]
   refine any_tk 82 (.slice A n c0) (i := 1) rfl rfl (by kernel_rfl) (fun _ _ _ h => h) (by rfl) (by intro w hSw; (try dsimp only at hSw); go_simp; try with_reducible rfl) (by assumption) ?_
   simp only [Act.put, szA, szB, szC]
   refine wpAnyH_ready (rs := [2]) (by kernel_rfl) (by simp) ?_
   refine AllReadyH.cons rfl (fun K' hK => ?_) AllReadyH.nil
   go_simp
   go_at_call 14
   refine (HPy2.out _ (HFw.out.trans' FD.out (fun _ _ e => e))).mono ?_
   rintro e' v2 ⟨rfl, g2⟩
   have F2 := Lib.hid (FD.out.trans' g2 (fun _ _ e => e))
   clear g2
   dsimp only
   refine hK.out _ _ (HS18.out _ F2.out) (fun hHeld => ?_)
   clear hK
   try simp only [Act.put, szA, szB, szC]
   refine any_tk 84 (.bool true) (i := 3) rfl rfl (by kernel_rfl) (fun _ _ _ h => h) (by rfl) (by intro w hSw; (try dsimp only at hSw); go_simp; try with_reducible rfl) (by assumption) ?_
   simp only [Act.put, szA, szB, szC]
   refine any_tk 85 (.agg Z) (i := 4) rfl rfl (by kernel_rfl) (fun _ _ _ h => h) (by rfl) (by intro w hSw; exact exec_ld rfl hSw.2) (by assumption) ?_
   simp only [Act.put, szA, szB, szC]
   refine any_tk 86 (.slice A n c0) (i := 5) rfl rfl (by kernel_rfl) (fun _ _ _ h => h) (by rfl) (by intro w hSw; (try dsimp only at hSw); go_simp; try with_reducible rfl) (by assumption) ?_
   simp only [Act.put, szA, szB, szC]
   refine any_tk 87 (.int .u8 (q0 : Int)) (i := 6) rfl rfl (by kernel_rfl) (fun _ _ _ h => h) (by rfl) (by intro w hSw; (try dsimp only at hSw); go_simp; try with_reducible rfl) (by assumption) ?_
   simp only [Act.put, szA, szB, szC]
   refine any_tk 88 (.int .i64 (q0 : Int)) (i := 7) rfl rfl (by kernel_rfl) (fun _ _ _ h => h) (by rfl) (by intro w hSw; (try dsimp only at hSw); go_simp; try with_reducible rfl) (by assumption) ?_
   simp only [Act.put, szA, szB, szC]
   refine any_tk 89 (.slice A n c0) (i := 8) rfl rfl (by kernel_rfl) (fun _ _ _ h => h) (by rfl) (by intro w hSw; (try dsimp only at hSw); go_simp; try with_reducible rfl) (by assumption) ?_
   simp only [Act.put, szA, szB, szC]
   refine any_tk 90 (.int .i64 (n : Int)) (i := 9) rfl rfl (by kernel_rfl) (fun _ _ _ h => h) (by rfl) (by intro w hSw; (try dsimp only at hSw); go_simp; try with_reducible rfl) (by assumption) ?_
   simp only [Act.put, szA, szB, szC]
   refine any_tk 91 (.int .i64 ((n : Int) + 1)) (i := 10) rfl rfl (by kernel_rfl) (fun _ _ _ h => h) (by rfl) (by intro w hSw; (try dsimp only at hSw); go_simp; try with_reducible rfl) (by assumption) ?_
   simp only [Act.put, szA, szB, szC]
   refine any_tk 92 (.int .i64 (q : Int)) (i := 11) rfl rfl (by kernel_rfl) (fun _ _ _ h => h) (by rfl) (by intro w hSw; (try dsimp only at hSw); go_simp; try with_reducible rfl) (by assumption) ?_
   simp only [Act.put, szA, szB, szC]
   refine any_tk 93 (.slice A q c0) (i := 12) rfl rfl (by kernel_rfl) (fun _ _ _ h => h) (by rfl) (by intro w hSw; (try dsimp only at hSw); go_simp; try with_reducible rfl) (by assumption) ?_
   simp only [Act.put, szA, szB, szC]
   refine wpAnyH_ready (rs := [13]) (by kernel_rfl) (by simp) ?_
   refine AllReadyH.cons rfl (fun K' hK => ?_) AllReadyH.nil
   go_simp
   go_at_call 14
   refine (HPq3.out _ (HFw.out.trans' F2.out (fun _ _ e => e))).mono ?_
   rintro e' v3 ⟨rfl, g3⟩
   have F3 := Lib.hid (F2.out.trans' g3 (fun _ _ e => e))
   clear g3
   dsimp only
   refine hK.out _ _ (HS18.out _ F3.out) (fun hHeld => ?_)
   clear hK
   try simp only [Act.put, szA, szB, szC]
   refine any_tk 95 (.bool true) (i := 14) rfl rfl (by kernel_rfl) (fun _ _ _ h => h) (by rfl) (by intro w hSw; (try dsimp only at hSw); go_simp; try with_reducible rfl) (by assumption) ?_
   simp only [Act.put, szA, szB, szC]
   refine any_tk 8 (.bool true) (i := 15) rfl rfl (by kernel_rfl) (fun _ _ _ h => h) (by rfl) (by intro w hSw; (try dsimp only at hSw); go_simp; try with_reducible rfl) (by assumption) ?_
   simp only [Act.put, szA, szB, szC]
   refine wpAnyH_done (by kernel_rfl) ?_ _
   clear hHeld
   go_wp2
   go_ret
   exact ⟨rfl, HFw.out.trans' F3.out (fun _ _ e => e)⟩
theorem lawFiner16 (hG : GoodC16) (x : Ctl) (h : List Ndl) (A : Option Addr) (n c : Nat) (w : World) (hx : Clss w x.cA x.cls) (hs : Nds w A h) (hn : h.length = n) (hnc : n ≤ c) (hnm : n ≤ 9223372036854775807) (hncl : x.cls.length ≤ 9223372036854775807) (mo : Nat → Nat) (q0 : Nat) (hmo : ∀ j, j < 16 → mo j < 256) (hq0 : q0 < 256) : Calls Tryz.prog 7 #[x.agg, .slice A n c, .agg (u16 mo), .int .u8 (q0 : Int)] w (Has w true) :=
 rsgFiner16_any x h mo q0 A n c w hx hs hn hnc hnm hncl hmo hq0 (fun W _ => aliveG16 hG W) (fun x h A n c w h1 h2 h3 h4 h5 h6 h7 => hG x h A n c w ⟨h1, h2, h3, h4, h5, h6, h7⟩)
end Go.Proofs.YtdjhdnejeehgnaaGreat
/- What is read as sixteen bytes, four by four. -/
namespace Go.Proofs.YtdjhdnejeehgnaaGreat
open Go.ChangeShapes Go.WideShapes Go.ChangeAt Go.RowKit

section
variable {H : Type} {enc : TypeId × Value → H} {w : World}
set_option maxRecDepth 100000 in
theorem arg_mo16 {v : Value} {d : DataW H} {p : List MemPlace} {r : Reach} {b : Nat} (hv : Value.okWide Tryz.prog w r b 43 v) (h : DataW.Trod enc Tryz.prog w 0 (fun _ => true) true 43 v d p) :
  ∃ mo : Nat → Nat, v = .agg (u16 mo) ∧ ∀ j, j < 16 → mo j < 256 := by
 simp only [Value.okWide, Tryz.underlying43] at hv
 obtain ⟨cs, rfl, _, _⟩ := hv
 obtain ⟨fuel, hf⟩ := h
 obtain ⟨a, e1, q1⟩ := rd_arr4 Tryz.underlying43 (m := 4) (by kernel_rfl) (by kernel_rfl) (rd_arr4 Tryz.underlying42 (m := 1) (by kernel_rfl) (by kernel_rfl) (rd_u8 Tryz.underlying5)) _ _ _ hf
 obtain ⟨⟨a0, a1, a2, a3⟩, ⟨a4, a5, a6, a7⟩, ⟨a8, a9, a10, a11⟩, ⟨a12, a13, a14, a15⟩⟩ := a
 obtain ⟨⟨q10, q11, q12, q13⟩, ⟨q14, q15, q16, q17⟩, ⟨q18, q19, q110, q111⟩, ⟨q112, q113, q114, q115⟩⟩ := q1
 obtain ⟨ls⟩ := cs
 have hl : (Value.agg ⟨ls⟩).cells.toList = ls := rfl
 rw [hl] at e1
 simp only [List.cons_append, List.nil_append] at e1
 subst e1
 refine ⟨fun j => [a0, a1, a2, a3, a4, a5, a6, a7, a8, a9, a10, a11, a12, a13, a14, a15].getD j 0, rfl, fun j hj => ?_⟩
 have h : j = 0 ∨ j = 1 ∨ j = 2 ∨ j = 3 ∨ j = 4 ∨ j = 5 ∨ j = 6 ∨ j = 7 ∨ j = 8 ∨ j = 9 ∨ j = 10 ∨ j = 11 ∨ j = 12 ∨ j = 13 ∨ j = 14 ∨ j = 15 := by omega
 rcases h with rfl | rfl | rfl | rfl | rfl | rfl | rfl | rfl | rfl | rfl | rfl | rfl | rfl | rfl | rfl | rfl <;> assumption
end
end Go.Proofs.YtdjhdnejeehgnaaGreat
