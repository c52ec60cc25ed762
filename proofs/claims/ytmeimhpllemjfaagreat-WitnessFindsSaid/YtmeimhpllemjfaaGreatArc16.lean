/- Flags by three numbers, in one array. -/
import Derived.Test.YtmeimhpllemjfaaGreatRef4
import Derived.Test.YtmeimhpllemjfaaGreatRsg16
import Derived.Test.YtmeimhpllemjfaaGreatRof15
import Derived.Test.YtmeimhpllemjfaaGreatWls12
import Derived.Test.YtmeimhpllemjfaaGreatPts12
import Derived.Test.YtmeimhpllemjfaaGreatHand
import Derived.Deep.CutRange
import Derived.BigQuiet
namespace Go.Proofs.YtmeimhpllemjfaaGreat
open Go.RowKit

set_option maxRecDepth 400000 in
theorem zero_is16 (w : World) : (zeroValue 147).run Tryz.prog w = .ok (.agg (flags 50000 fun _ => false)) w := by
 obtain ⟨i, hi, hz⟩ := Option.map_eq_some_iff.1 (show (Tryz.prog.info? 147).map (·.zero) = some (some (.agg (flags 50000 fun _ => false))) by kernel_rfl)
 simp [zeroValue, typeInfo, hi, hz]
end Go.Proofs.YtmeimhpllemjfaaGreat
/- The document's own: the arcs of a history. -/
namespace Go.Proofs.YtmeimhpllemjfaaGreat
open Go.RowKit

structure ArcW (w : World) (Z : Array Value) (Gd n : Nat) (g : Nat → Nat) (B : Nat) (f : Nat → Nat → Bool) (P : Nat → Nat → Nat → Bool) (W : World) : Prop where
 bz : Bk W w.heap.size 26 Z
 mat : MatB W w.heap.size 73 4 Gd n n g f
 is : Bk W B 147 (flags 50000 (mk3 P))
 new : w.heap.size ≤ B
 fr : Fr No w W
section
variable {w W V : World} {Z : Array Value} {Gd n : Nat} {g : Nat → Nat} {B : Nat} {f : Nat → Nat → Bool} {P Q : Nat → Nat → Nat → Bool}
theorem ArcW.since (h : ArcW w Z Gd n g B f P W) (hf : Fr No W V) : ArcW w Z Gd n g B f P V := ⟨h.bz.fr hf (fun e => e), h.mat.since hf, h.is.fr hf (fun e => e), h.new, h.fr.trans' hf (fun _ _ e => e)⟩
theorem ArcW.congr (h : ArcW w Z Gd n g B f P W) (e : ∀ a b m, P a b m = Q a b m) : ArcW w Z Gd n g B f Q W := by
 have : P = Q := funext fun a => funext fun b => funext fun m => e a b m
 rw [← this]
 exact h
theorem ArcW.put (h : ArcW w Z Gd n g B f P W) {a b m : Nat} (hb : b < 100) (hm : m < 5) : ArcW w Z Gd n g B f (fun a' b' m' => if a' = a ∧ b' = b ∧ m' = m then true else P a' b' m') (W.setCell ⟨B, a * 500 + b * 5 + m, none⟩ (.bool true)) := by
 have hX : Fr (fun k => k = B) W (W.setCell ⟨B, a * 500 + b * 5 + m, none⟩ (.bool true)) := (Fr.refl (fun k => k = B) W).setCell (.inl rfl) _
 refine ⟨h.bz.fr hX (fun e => Bk.apart h.is h.bz (by decide) e.symm), h.mat.fr hX (fun e => Bk.apart h.is h.mat.rows (by decide) e.symm) (fun j hj e => Bk.apart h.is (h.mat.row j hj) (by decide) e.symm), ?_, h.new, h.fr.setCell (.inr h.new) _⟩
 rw [← mk3_put P hb hm, ← flags_put]
 exact h.is.put _ _
theorem ArcW.cell (h : ArcW w Z Gd n g B f P W) {a b m : Nat} (ha : a < 100) (hb : b < 100) (hm : m < 5) : W.cell? ⟨B, a * 500 + b * 5 + m, none⟩ = some (.bool (P a b m)) := by
 rw [h.is.cell, flags_at _ _ _ (by omega), mk3_at P hb hm]
theorem ArcW.frozen (h : ArcW w Z Gd n g B f P W) (i : Nat) : W.frozen? ⟨B, i, none⟩ = false := h.is.frozen i
end
def outO (p : Nat → Nat → Nat → Bool) (n a k m : Nat) : List (Nat × Nat × Nat) := allA p n a ++ (rowA p a k ++ cellA p a k m)
theorem outO_nil (p : Nat → Nat → Nat → Bool) (n : Nat) : outO p n 0 0 1 = [] := rfl
theorem outO_one (p : Nat → Nat → Nat → Bool) (n a k : Nat) : outO p n a k 1 = allA p n a ++ rowA p a k := by
 unfold outO
 rw [show cellA p a k 1 = [] from rfl, List.append_nil]
theorem outO_cell (p : Nat → Nat → Nat → Bool) (n a k : Nat) : outO p n a k 5 = outO p n a (k + 1) 1 := by
 rw [outO_one, rowA_step]
 rfl
theorem outO_row (p : Nat → Nat → Nat → Bool) (n a : Nat) : outO p n a n 1 = outO p n (a + 1) 0 1 := by
 rw [outO_one, outO_one, allA_step, show rowA p (a + 1) 0 = [] from rfl, List.append_nil]
theorem outO_fin (p : Nat → Nat → Nat → Bool) (n a : Nat) : outO p n a 0 1 = allA p n a := by
 rw [outO_one, show rowA p a 0 = [] from rfl, List.append_nil]
theorem outO_step (p : Nat → Nat → Nat → Bool) (n a k m : Nat) (hm : 1 ≤ m) : outO p n a k (m + 1) = outO p n a k m ++ (if p a k m = true then [(a, k, m)] else []) := by
 unfold outO
 rw [cellA_step, List.append_assoc, List.append_assoc]
 by_cases e : p a k m = true
 ·rw [if_pos ⟨hm, e⟩, if_pos e]
 ·rw [if_neg (fun h => e h.2), if_neg e]
theorem arcs_snoc (l : List (Nat × Nat × Nat)) (a k m : Nat) : (l ++ [(a, k, m)]).flatMap arcC = l.flatMap arcC ++ [.int .i64 (a : Int), .int .i64 (k : Int), .int .i64 (m : Int)] := by
 rw [List.flatMap_append]
 rfl
theorem info_arc16 : (Tryz.prog.info? 121).map (fun i => (i.zero, i.size, i.bytes)) = some (some (.agg #[.int .i64 0, .int .i64 0, .int .i64 0]), 3, 24) := by kernel_rfl
theorem ArcW.app {w W V : World} {Z : Array Value} {Gd n : Nat} {g : Nat → Nat} {B : Nat} {f : Nat → Nat → Bool} {P : Nat → Nat → Nat → Bool} (h : ArcW w Z Gd n g B f P W) {v : Value} {m : Nat} {xs : List Value} (ho : W.ownsRow w.heap.size 121 3 v m xs) (hf : Fr (fun k => v.ownBlock = some k) W V) : ArcW w Z Gd n g B f P V :=
 ⟨h.bz.fr hf (fun e => own_apart ho h.bz (by decide) e), h.mat.fr hf (fun e => own_apart ho h.mat.rows (by decide) e) (fun j hj e => own_apart ho (h.mat.row j hj) (by decide) e), h.is.fr hf (fun e => own_apart ho h.is (by decide) e), h.new, h.fr.trans' hf (fun k hk e => by have := (ho.lt k e).1; omega)⟩
set_option maxRecDepth 100000 in
set_option maxHeartbeats 16000000 in
theorem refArcs16_any (x : Ctl) (h : List Ndl) (A : Option Addr) (n c : Nat) (w : World) (hs : Nds w A h) (hh : h.length = n) (hn : n ≤ 100) (hcl : ∀ i (hi : i < h.length), 0 ≤ h[i].n.cls ∧ h[i].n.cls < 1000)
  (hof : ∀ W, Fr No w W → Calls Tryz.prog 31 #[.slice A n c] W fun e w' => ∃ G g, e = .returned (.slice (some ⟨G, 0, none⟩) n n) ∧ MatB w' W.heap.size 73 4 G n n g (depB (ndsOf h)) ∧ Fr No W w')
  (hin : ∀ (i k j : Nat) (_ : i < h.length) (_ : k < h.length) (hj : j < h.length) W, Fr No w W → Calls Tryz.prog 32 #[x.agg, .slice A n c, .int .i64 (i : Int), .int .i64 (k : Int), .int .i64 h[j].n.cls] W (Has W (inN x.p (ndsOf h) i k h[j].n.cls))) :
  Calls Tryz.prog 77 #[x.agg, .slice A n c] w fun e w' => ∃ L lc, e = .returned (.slice L (arcsL x.p (ndsOf h)).length lc) ∧ w'.ownsRow w.heap.size 121 3 (.slice L (arcsL x.p (ndsOf h)).length lc) (arcsL x.p (ndsOf h)).length ((arcsL x.p (ndsOf h)).flatMap arcC) ∧ Fr No w w' := by
 have hlen : (ndsOf h).length = n := by simp [ndsOf, hh]
 have hz := zero_is16
 have Hnd := Lib.hid (fun (k : Nat) (hk : k < h.length) W (hW : Fr No w W) => (hs.since hW).sl.nd hk)
 have HOf := Lib.hid hof
 have HIn := Lib.hid hin
 have Hh := Lib.hid hh
 have Hlst := Lib.hid (fun (s : Int) (k : Nat) (hk : k < h.length) => show lastN (ndsOf h) s (k + 1) = if h[k].n.saga = s then k + 1 else lastN (ndsOf h) s k by
  rw [lastN, ndsOf_at hk])
 have Hl0 := Lib.hid (fun (s : Int) => show lastN (ndsOf h) s 0 = 0 from rfl)
 have Hll := Lib.hid (fun (s : Int) (i : Nat) => lastN_le (ndsOf h) s i)
 have Hno := Lib.hid (fun (i : Nat) (hi : i < h.length) (hl : lastN (ndsOf h) h[i].n.saga i = 0) a b m => stA_none (x := x.p) (h := ndsOf h) (i := i) (by rw [ndsOf_at hi]; exact hl) a b m)
 have Hown := Lib.hid (fun (i l : Nat) (hi : i < h.length) (hl : lastN (ndsOf h) h[i].n.saga i = l + 1) a b m => stA_own (x := x.p) (h := ndsOf h) (i := i) (l := l) (by rw [hlen, ← hh]; exact hi) (by rw [ndsOf_at hi]; exact hl) a b m)
 have Hdep := Lib.hid (fun (i k : Nat) (hi : i < h.length) (hk : k < h.length) => show depO (ndsOf h) i k = (depB (ndsOf h) i k && decide (h[k].n.saga ≠ h[i].n.saga)) by
  unfold depO
  rw [ndsOf_at hi, ndsOf_at hk])
 have Hskp := Lib.hid (fun (o i k : Nat) (hd : depO (ndsOf h) i k = false) a b m => stA_skip (x := x.p) (o := o) hd a b m)
 have Hpr := Lib.hid (fun (o i k : Nat) (hd : depO (ndsOf h) i k = true) a b m => stA_pair (x := x.p) (o := o) hd a b m)
 have Hrow := Lib.hid (fun (o i a b m : Nat) => show stA x.p (ndsOf h) o i n a b m = stA x.p (ndsOf h) o (i + 1) 0 a b m by rw [← hlen]; exact stA_row x.p (ndsOf h) o i a b m)
 have Hst0 := Lib.hid (fun (a b m : Nat) => stA_start x.p (ndsOf h) a b m)
 have Hlo := Lib.hid (fun (i k : Nat) (e : depO (ndsOf h) i k = true) => depO_lt e)
 have Hgen := Lib.hid (fun (i k : Nat) (hi : i < h.length) (hk : k < h.length) (a b m : Nat) => show genA x.p (ndsOf h) i k a b m = (decide (m = 2 ∧ a = k ∧ b = i) || (decide (m = 3 ∧ b = i ∧ lastP (fun m => inN x.p (ndsOf h) k m h[i].n.cls) n = (a : Int)) || decide (m = 4 ∧ a = k ∧ firstP (fun m => inN x.p (ndsOf h) i m h[k].n.cls) n = (b : Int)))) by
  unfold genA lastU firstU
  rw [hlen, ndsOf_at hi, ndsOf_at hk])
 have Hse := Lib.hid (fun (k : Nat) (d : Int) => inN_self x.p (ndsOf h) k d)
 have HF0 := Lib.hid (fun a b m (h1 : 1 ≤ m) (h5 : m < 5) => show stA x.p (ndsOf h) n n 0 a b m = arcB x.p (ndsOf h) a b m by
  have := stA_fin x.p (ndsOf h) (a := a) (b := b) h1 h5
  rwa [hlen] at this)
 have HAll := Lib.hid (fun (q : Nat → Nat → Nat → Bool) (hq : ∀ a b m, 1 ≤ m → m < 5 → q a b m = arcB x.p (ndsOf h) a b m) => show allA q n n = arcsL x.p (ndsOf h) by
  unfold arcsL
  rw [hlen]
  exact allA_congr hq n n)
 have Hcl := Lib.hid hcl
 clear hs hof hin hh hlen hcl
 generalize arcsL x.p (ndsOf h) = res at *
 generalize arcB x.p (ndsOf h) = arB at *
 generalize genA x.p (ndsOf h) = gA at *
 generalize stA x.p (ndsOf h) = sA at *
 generalize inN x.p (ndsOf h) = iN at *
 generalize lastN (ndsOf h) = lN at *
 generalize depO (ndsOf h) = dO at *
 generalize depB (ndsOf h) = dB at *
 unfold Ctl.agg at *
 obtain ⟨Z, hZ⟩ : ∃ Z, Z = x.arr := ⟨_, rfl⟩
 rw [← hZ] at HIn ⊢
 rw [Ctl.arr_eq] at hZ
 obtain ⟨W0, hW0⟩ : ∃ W0, W0 = w.alloc (.cells Z 26) := ⟨_, rfl⟩
 have bZ : Bk W0 w.heap.size 26 Z := by rw [hW0]; exact Bk.made w _ _
 have f0 : Fr No w W0 := by rw [hW0]; exact (Fr.refl _ _).alloc _
 have hsz0 : W0.heap.size = w.heap.size + 1 := by rw [hW0]; simp
 have HLd := Lib.hid (fun V (h : Bk V w.heap.size 26 Z) => ld_cat hZ h)
 have hwe := hW0.symm
 have HbZ := Lib.hid bZ
 have HF1 := Lib.hid f0
 clear hZ hW0 bZ f0
 go_enter Tryz.func77, Tryz.ntmps77
 go_wp2_with fail
 refine (HOf.out _ HF1.out).mono ?_
 rintro e w1 ⟨Gd, g, rfl, hM, f1⟩
 obtain ⟨B, hB⟩ : ∃ B, w1.heap.size = B := ⟨_, rfl⟩
 obtain ⟨W2, hW2⟩ : ∃ W2, W2 = w1.alloc (.cells (flags 50000 fun _ => false) 147) := ⟨_, rfl⟩
 have f2 : Fr No w1 W2 := by rw [hW2]; exact (Fr.refl _ _).alloc _
 have HA2 : Hid (ArcW w Z Gd n g B dB (sA 0 0 0) W2) := Lib.hid ⟨(HbZ.out.fr f1 (fun e => e)).fr f2 (fun e => e), (hM.weak (by omega)).since f2, by
  rw [hW2, ← hB, ← flags_congr 50000 (fun _ => false) (mk3 (sA 0 0 0)) (fun i _ => by unfold mk3; rw [Hst0.out])]
  exact Bk.made _ _ _, by have h1 := HF1.out.size; have h2 := f1.size; omega, (HF1.out.trans' f1 (fun _ _ e => e)).trans' f2 (fun _ _ e => e)⟩
 have hwe2 := hW2.symm
 clear hM f1 f2 hW2 HOf HbZ HF1 hwe hsz0
 go_wp2
 try rw [hB]
 clear hwe2 hB hz Hst0
 go_loopw [8] (fun iv wr => ∃ i : Nat, i ≤ n ∧ iv = .int .i64 (i : Int) ∧ Hid (ArcW w Z Gd n g B dB (sA i i 0) wr)) (fun iv _ => n - (intOf iv).toNat)
 case atStart => exact ⟨0, Nat.zero_le _, rfl, HA2⟩
 case round =>
  obtain ⟨i, hi, rfl, hA⟩ := hrel
  by_cases hlt : i < n
  ·have hil : i < h.length := by rw [Hh.out]; exact hlt
   have hin2 : ((i : Nat) : Int) < (n : Int) := by omega
   have hi100 : ((i : Nat) : Int) < 100 := by omega
   obtain ⟨ad, hAd, -⟩ := Hnd.out i hil w (Fr.refl _ _)
   subst hAd
   have HSg := Lib.hid (fun (k : Nat) (hk : k < h.length) W (hW : Fr No w W) => show W.cell? (ad.add (k * 6)) = some (.int .i64 h[k].n.saga) ∧ W.cell? ⟨(ad.add (k * 6)).block, (ad.add (k * 6)).off + 1, none⟩ = some (.int .i64 h[k].n.cls) by
    obtain ⟨a2, e, _, c0, c1, _⟩ := Hnd.out k hk W hW
    injection e with e
    rw [e]
    exact ⟨c0, c1⟩)
   have hno := Lib.hid (Hno.out i hil)
   have hown := Lib.hid (fun l hl => Hown.out i l hil hl)
   obtain ⟨s, hse⟩ : ∃ s, s = h[i].n.saga := ⟨_, rfl⟩
   rw [← hse] at hno hown
   have Hse2 := Lib.hid hse
   clear hse
   go_wp2
   go_loopw [9, 10] (fun lv kv wx => ∃ k : Nat, k ≤ i ∧ lv = .int .i64 ((lN s k : Int) - 1) ∧ kv = .int .i64 (k : Int) ∧ Hid (ArcW w Z Gd n g B dB (sA i i 0) wx)) (fun _ kv _ => i - (intOf kv).toNat)
   case atStart => exact ⟨0, Nat.zero_le _, by rw [Hl0.out]; rfl, rfl, hA⟩
   case round =>
    obtain ⟨k, hk, rfl, rfl, hAk⟩ := hrel
    by_cases hki : k < i
    ·have hkl : k < h.length := by omega
     have hkn : ((k : Nat) : Int) < (n : Int) := by omega
     have hkii : ((k : Nat) : Int) < (i : Int) := by omega
     obtain ⟨a0, -⟩ := HSg.out k hkl wr hAk.out.fr
     obtain ⟨b0, -⟩ := HSg.out i hil wr hAk.out.fr
     rw [← Hse2.out] at b0
     have hlst := Hlst.out s k hkl
     obtain ⟨sk, hsk⟩ : ∃ sk, sk = h[k].n.saga := ⟨_, rfl⟩
     rw [← hsk] at a0 hlst
     clear hsk
     by_cases hs : sk = s
     ·have d1 : (sk == s) = true := by simp [hs]
      rw [if_pos hs] at hlst
      have Hlst2 : Hid (.int .i64 (k : Int) = (Value.int .i64 ((lN s (k + 1) : Int) - 1))) := Lib.hid (by rw [hlst]; congr 1; omega)
      clear hlst
      subst hs
      go_wp2_with fail
      go_quiet (fail)
      go_wp2
      go_roundw
      case rel => exact ⟨k + 1, by omega, Hlst2.out, by go_num, Lib.hid (hAk.out.since ((Fr.refl No wr).drewN _))⟩
      case measure => simp [intOf]; omega
     ·have d1 : (sk == s) = false := by simpa using hs
      rw [if_neg hs] at hlst
      have Hlst2 : Hid (lN s (k + 1) = lN s k) := Lib.hid hlst
      clear hlst hs
      go_wp2_with fail
      go_quiet (fail)
      go_wp2
      go_roundw
      case rel => exact ⟨k + 1, by omega, by rw [Hlst2.out], by go_num, Lib.hid (hAk.out.since ((Fr.refl No wr).drewN _))⟩
      case measure => simp [intOf]; omega
    ·obtain rfl : k = i := by omega
     have hll := Hll.out s k
     obtain ⟨v, hv⟩ : ∃ v : Int, v = (lN s k : Int) - 1 := ⟨_, rfl⟩
     rw [← hv]
     have Hv := Lib.hid hv
     clear hv hA Hlst Hl0 Hll Hno Hown
     go_upto_if 46 with fail
     go_cut [] from 45 to 52 (fun wx => Hid (ArcW w Z Gd n g B dB (sA (k + 1) k 0) wx))
     case first =>
      by_cases hl : lN s k = 0
      ·have d1 : decide (0 ≤ v) = false := decide_eq_false (by rw [Hv.out, hl]; omega)
       have hx : ¬ 0 ≤ v := by rw [Hv.out, hl]; omega
       have HA5 : Hid (ArcW w Z Gd n g B dB (sA (k + 1) k 0) wr) := Lib.hid (hAk.out.congr (fun a b m => (hno.out hl a b m).symm))
       clear hno hown hAk
       go_wp2
       go_meet
       exact HA5
      ·obtain ⟨l, hl2⟩ : ∃ l, lN s k = l + 1 := ⟨lN s k - 1, by omega⟩
       have hvl : v = (l : Int) := by rw [Hv.out, hl2]; omega
       subst hvl
       have hl100 : ((l : Nat) : Int) < 100 := by omega
       have hl3 : l < 100 := by omega
       have x0 := hAk.out.cell (a := l) (b := k) (m := 1) hl3 (by omega) (by omega)
       have x1 := hAk.out.frozen (l * 500 + k * 5 + 1)
       have HA5 : Hid (ArcW w Z Gd n g B dB (sA (k + 1) k 0) (wr.setCell ⟨B, l * 500 + k * 5 + 1, none⟩ (.bool true))) := Lib.hid ((hAk.out.put (by omega) (by omega)).congr (fun a b m => (hown.out l hl2 a b m).symm))
       generalize sA k k 0 l k 1 = z0 at *
       clear hno hown hAk Hv hl hl2
       go_wp2
       go_meet
       exact HA5
     case rest =>
      have hA6 := hcut
      clear hAk hcut Hv hno hown
      go_wp2
      go_loopw [11] (fun jv wx => ∃ j : Nat, j ≤ n ∧ jv = .int .i64 (j : Int) ∧ Hid (ArcW w Z Gd n g B dB (sA (k + 1) k j) wx)) (fun jv _ => n - (intOf jv).toNat)
      case atStart => exact ⟨0, Nat.zero_le _, rfl, hA6⟩
      case round =>
       obtain ⟨j, hj, rfl, hAj⟩ := hrel
       by_cases hjn : j < n
       ·have hjl : j < h.length := by rw [Hh.out]; exact hjn
        have hji : ((j : Nat) : Int) < (n : Int) := by omega
        have hj100 : ((j : Nat) : Int) < 100 := by omega
        obtain ⟨a0, -⟩ := HSg.out j hjl wr hAj.out.fr
        obtain ⟨b0, -⟩ := HSg.out k hil wr hAj.out.fr
        rw [← Hse2.out] at b0
        have r1 := hAj.out.mat.cellR hlt (Nat.le_refl n)
        have b1 := hAj.out.mat.cellB (k := j) hlt hjn
        have hdep := Hdep.out k j hil hjl
        rw [← Hse2.out] at hdep
        have hskp := Lib.hid (fun hd a b m => Hskp.out (k + 1) k j hd a b m)
        have hpr := Lib.hid (fun hd a b m => Hpr.out (k + 1) k j hd a b m)
        obtain ⟨sj, hsj⟩ : ∃ sj, sj = h[j].n.saga := ⟨_, rfl⟩
        rw [← hsj] at a0 hdep
        obtain ⟨dv, hdv⟩ : ∃ dv, dB k j = dv := ⟨_, rfl⟩
        rw [hdv] at b1 hdep
        clear hsj hdv
        obtain ⟨gk, hgk⟩ : ∃ gk, g k = gk := ⟨_, rfl⟩
        rw [hgk] at r1 b1
        clear hgk
        by_cases hs : sj = s
        ·have d1 : (sj == s) = true := by simp [hs]
         have hdo : dO k j = false := by rw [hdep, decide_eq_false (fun q => q hs), Bool.and_false]
         have HA7 := Lib.hid (fun V (hV : Fr No wr V) => (hAj.out.since hV).congr (fun a b m => (hskp.out hdo a b m).symm))
         clear hdo hdep hskp hpr hAj
         subst hs
         go_wp2_with fail
         go_quiet (fail)
         go_wp2
         go_roundw
         case rel => exact ⟨j + 1, by omega, by go_num, Lib.hid (HA7.out _ ((Fr.refl No wr).drewN _))⟩
         case measure => simp [intOf]; omega
        ·have d1 : (sj == s) = false := by simpa using hs
         cases dv
         ·have hdo : dO k j = false := by rw [hdep]; rfl
          have HA7 := Lib.hid (fun V (hV : Fr No wr V) => (hAj.out.since hV).congr (fun a b m => (hskp.out hdo a b m).symm))
          clear hdo hdep hskp hpr hAj hs
          go_wp2_with fail
          go_quiet (fail)
          go_wp2
          go_roundw
          case rel => exact ⟨j + 1, by omega, by go_num, Lib.hid (HA7.out _ ((Fr.refl No wr).drewN _))⟩
          case measure => simp [intOf]; omega
         ·have hdo : dO k j = true := by rw [hdep, decide_eq_true hs]; rfl
          have hpr2 := Lib.hid (hpr.out hdo)
          have hgen := Lib.hid (fun a b m => Hgen.out k j hil hjl a b m)
          obtain ⟨ck, hck⟩ : ∃ ck, ck = h[k].n.cls := ⟨_, rfl⟩
          obtain ⟨cj, hcj⟩ : ∃ cj, cj = h[j].n.cls := ⟨_, rfl⟩
          rw [← hck, ← hcj] at hgen
          have hI2 := Lib.hid (fun m (hm : m < h.length) W (hW : Fr No w W) => HIn.out j m k hjl hm hil W hW)
          have hI1 := Lib.hid (fun m (hm : m < h.length) W (hW : Fr No w W) => HIn.out k m j hil hm hjl W hW)
          have hce := Lib.hid (fun W (hW : Fr No w W) => show W.cell? ⟨(ad.add (k * 6)).block, (ad.add (k * 6)).off + 1, none⟩ = some (.int .i64 ck) ∧ W.cell? ⟨(ad.add (j * 6)).block, (ad.add (j * 6)).off + 1, none⟩ = some (.int .i64 cj) by
           rw [hck, hcj]
           exact ⟨(HSg.out k hil W hW).2, (HSg.out j hjl W hW).2⟩)
          rw [← hck] at hI2
          rw [← hcj] at hI1
          have hp2 := Hse.out j ck
          have hp1 := Hse.out k cj
          obtain ⟨p2, hp2e⟩ : ∃ p : Nat → Bool, p = fun m => iN j m ck := ⟨_, rfl⟩
          obtain ⟨p1, hp1e⟩ : ∃ p : Nat → Bool, p = fun m => iN k m cj := ⟨_, rfl⟩
          rw [← hp2e, ← hp1e] at hgen
          have hI2 : Hid (∀ m (hm : m < h.length) W, Fr No w W → Calls Tryz.prog 32 #[.agg Z, .slice (some ad) n c, .int .i64 (j : Int), .int .i64 (m : Int), .int .i64 ck] W (Has W (p2 m))) := Lib.hid (fun m hm W hW => by rw [hp2e]; exact hI2.out m hm W hW)
          have hI1 : Hid (∀ m (hm : m < h.length) W, Fr No w W → Calls Tryz.prog 32 #[.agg Z, .slice (some ad) n c, .int .i64 (k : Int), .int .i64 (m : Int), .int .i64 cj] W (Has W (p1 m))) := Lib.hid (fun m hm W hW => by rw [hp1e]; exact hI1.out m hm W hW)
          have hp2 : Hid (p2 j = true) := Lib.hid (by rw [hp2e]; exact hp2)
          have hp1 : Hid (p1 k = true) := Lib.hid (by rw [hp1e]; exact hp1)
          clear hck hcj hp2e hp1e hdo hdep hskp hpr hs
          have hj3 : j < 100 := by omega
          have hk3 : k < 100 := by omega
          have HA8 : Hid (∀ V, Fr No wr V → V.cell? ⟨B, j * 500 + k * 5 + 2, none⟩ = some (.bool (sA (k + 1) k j j k 2)) ∧ V.frozen? ⟨B, j * 500 + k * 5 + 2, none⟩ = false ∧ ArcW w Z Gd n g B dB (fun a b m => if a = j ∧ b = k ∧ m = 2 then true else sA (k + 1) k j a b m) (V.setCell ⟨B, j * 500 + k * 5 + 2, none⟩ (.bool true))) := Lib.hid (fun V hV => ⟨(hAj.out.since hV).cell hj3 hk3 (by omega), (hAj.out.since hV).frozen _, (hAj.out.since hV).put hk3 (by omega)⟩)
          clear hAj
          go_wp2_with fail
          go_quiet (fail)
          have h8 := HA8.out _ ((Fr.refl No wr).drewN nq)
          obtain ⟨y0, y1, hA9⟩ := h8
          obtain ⟨P1, hP1⟩ : ∃ P : Nat → Nat → Nat → Bool, P = fun a b m => if a = j ∧ b = k ∧ m = 2 then true else sA (k + 1) k j a b m := ⟨_, rfl⟩
          rw [← hP1] at hA9
          have HA9 := Lib.hid hA9
          have HP1 := Lib.hid hP1
          generalize sA (k + 1) k j j k 2 = z2 at *
          clear HA8 hA9 hP1 d1
          go_wp2
          clear y0 y1
          go_loopw [12, 13, 14] (fun fv ev mv wx => ∃ m : Nat, m ≤ n ∧ fv = .int .i64 (firstP p1 m) ∧ ev = .int .i64 (lastP p2 m) ∧ mv = .int .i64 (m : Int) ∧ Hid (ArcW w Z Gd n g B dB P1 wx)) (fun _ _ mv _ => n - (intOf mv).toNat)
          case atStart => exact ⟨0, Nat.zero_le _, rfl, rfl, rfl, HA9⟩
          case round =>
           obtain ⟨m, hm, rfl, rfl, rfl, hAm⟩ := hrel
           by_cases hmn : m < n
           ·have hml : m < h.length := by rw [Hh.out]; exact hmn
            have hmi : ((m : Nat) : Int) < (n : Int) := by omega
            have HsE := Lib.hid (show lastP p2 (m + 1) = if p2 m = true then (m : Int) else lastP p2 m from rfl)
            have HsF := Lib.hid (show firstP p1 (m + 1) = if 0 ≤ firstP p1 m then firstP p1 m else if p1 m = true then (m : Int) else -1 from rfl)
            have hFlt := firstP_lt p1 m
            have C2 := Lib.hid (fun V (hV : Fr No w V) => hI2.out m hml V hV)
            have C1 := Lib.hid (fun V (hV : Fr No w V) => hI1.out m hml V hV)
            obtain ⟨b2, hb2⟩ : ∃ b, p2 m = b := ⟨_, rfl⟩
            obtain ⟨b1, hb1⟩ : ∃ b, p1 m = b := ⟨_, rfl⟩
            obtain ⟨E, hE⟩ : ∃ E : Int, lastP p2 m = E := ⟨_, rfl⟩
            obtain ⟨F, hF⟩ : ∃ F : Int, firstP p1 m = F := ⟨_, rfl⟩
            rw [hb2] at HsE C2
            rw [hb1] at HsF C1
            rw [hE] at HsE ⊢
            rw [hF] at HsF hFlt ⊢
            clear hb2 hb1 hE hF hI2 hI1
            have HS24 : Hid (∀ V, ArcW w Z Gd n g B dB P1 V → (fun V => LdO V 26 ⟨w.heap.size, 0, none⟩ (.agg Z) ∧ V.cell? ⟨(ad.add (k * 6)).block, (ad.add (k * 6)).off + 1, none⟩ = some (.int .i64 ck)) V) := Lib.hid (fun V hV => ⟨HLd.out V hV.bz, (hce.out V hV.fr).1⟩)
            have HS26 : Hid (∀ V, ArcW w Z Gd n g B dB P1 V → (fun V => LdO V 26 ⟨w.heap.size, 0, none⟩ (.agg Z) ∧ V.cell? ⟨(ad.add (j * 6)).block, (ad.add (j * 6)).off + 1, none⟩ = some (.int .i64 cj)) V) := Lib.hid (fun V hV => ⟨HLd.out V hV.bz, (hce.out V hV.fr).2⟩)
            go_upto_region 24 with fail
            go_cut [97] from 88 to 98 (fun s97 wx => s97 = .bool b2 ∧ Hid (ArcW w Z Gd n g B dB P1 wx))
            case first =>
             have hAd := hAm.out.since ((Fr.refl No wr).drew)
             refine wp_region_held_drew (S := fun V => LdO V 26 ⟨w.heap.size, 0, none⟩ (.agg Z) ∧ V.cell? ⟨(ad.add (k * 6)).block, (ad.add (k * 6)).off + 1, none⟩ = some (.int .i64 ck)) (by kernel_rfl) (HS24.out _ hAd) (fun hHeld => ?_)
             refine any_tk 88 (.agg Z) (i := 0) rfl rfl (by kernel_rfl) (fun _ _ _ h => h) (by rfl) (by intro w hSw; exact exec_ld rfl hSw.1) (by assumption) ?_
             simp only [Act.put, szA, szB, szC]
             refine any_u 89 (.slice (some ad) n c) (i := 1) rfl rfl ?_
             simp only [Act.put, szA, szB, szC]
             refine any_u 90 (.int .i64 (j : Int)) (i := 2) rfl rfl ?_
             simp only [Act.put, szA, szB, szC]
             refine any_u 91 (.int .i64 (m : Int)) (i := 3) rfl rfl ?_
             simp only [Act.put, szA, szB, szC]
             refine any_u 92 (.slice (some ad) n c) (i := 4) rfl rfl ?_
             simp only [Act.put, szA, szB, szC]
             refine any_u 93 (.int .i64 (k : Int)) (i := 5) rfl rfl ?_
             simp only [Act.put, szA, szB, szC]
             refine any_u 94 (.pointer (some (ad.add (k * 6)))) (i := 6) rfl rfl ?_
             simp only [Act.put, szA, szB, szC]
             refine any_u 95 (.pointer (some ⟨(ad.add (k * 6)).block, (ad.add (k * 6)).off + 1, none⟩)) (i := 7) rfl rfl ?_
             simp only [Act.put, szA, szB, szC]
             refine any_u 96 (.int .i64 ck) (i := 8) rfl rfl ?_
             simp only [Act.put, szA, szB, szC]
             refine wpAnyH_ready (rs := [9]) (by kernel_rfl) (by simp) ?_
             refine AllReadyH.cons rfl (fun K' hK => ?_) AllReadyH.nil
             go_simp
             go_at_call 32
             refine (C2.out _ hAd.fr).mono ?_
             rintro e' v1 ⟨rfl, f1⟩
             have hA5 := hAd.since f1
             dsimp only
             refine hK.out _ _ (HS24.out _ hA5) (fun hHeld => ?_)
             clear hK
             try simp only [Act.put, szA, szB, szC]
             refine wpAnyH_done (by kernel_rfl) ?_ _
             clear hHeld
             have HA5 := Lib.hid hA5
             clear hAd hA5 f1 C1 C2 HsF HS24 HS26 hAm HsE
             go_wp2
             go_meet
             exact ⟨rfl, HA5⟩
            case rest =>
             obtain ⟨rfl, hA5⟩ := hcut
             clear hAm C2 HS24
             cases b2
             ·have HE : Hid (lastP p2 (m + 1) = E) := Lib.hid (by rw [HsE.out]; rfl)
              clear HsE
              go_wp2_with fail
              have hAd := hA5.out.since ((Fr.refl No _).drew)
              by_cases hF : F < 0
              ·have q1 : decide (F < 0) = true := decide_eq_true hF
               refine wp_region_held_drew (S := fun V => LdO V 26 ⟨w.heap.size, 0, none⟩ (.agg Z) ∧ V.cell? ⟨(ad.add (j * 6)).block, (ad.add (j * 6)).off + 1, none⟩ = some (.int .i64 cj)) (by kernel_rfl) (HS26.out _ hAd) (fun hHeld => ?_)
               refine any_u 99 (.int .i64 F) (i := 0) rfl rfl ?_
               simp only [Act.put, szA, szB, szC]
               refine any_u 100 (.bool true) (i := 1) rfl rfl ?_
               simp only [Act.put, szA, szB, szC]
               refine any_u 101 (.bool true) (i := 2) rfl rfl ?_
               simp only [Act.put, szA, szB, szC]
               refine any_tk 102 (.agg Z) (i := 3) rfl rfl (by kernel_rfl) (fun _ _ _ h => h) (by rfl) (by intro w hSw; exact exec_ld rfl hSw.1) (by assumption) ?_
               simp only [Act.put, szA, szB, szC]
               refine any_u 103 (.slice (some ad) n c) (i := 4) rfl rfl ?_
               simp only [Act.put, szA, szB, szC]
               refine any_u 104 (.int .i64 (k : Int)) (i := 5) rfl rfl ?_
               simp only [Act.put, szA, szB, szC]
               refine any_u 105 (.int .i64 (m : Int)) (i := 6) rfl rfl ?_
               simp only [Act.put, szA, szB, szC]
               refine any_u 106 (.slice (some ad) n c) (i := 7) rfl rfl ?_
               simp only [Act.put, szA, szB, szC]
               refine any_u 107 (.int .i64 (j : Int)) (i := 8) rfl rfl ?_
               simp only [Act.put, szA, szB, szC]
               refine any_u 108 (.pointer (some (ad.add (j * 6)))) (i := 9) rfl rfl ?_
               simp only [Act.put, szA, szB, szC]
               refine any_u 109 (.pointer (some ⟨(ad.add (j * 6)).block, (ad.add (j * 6)).off + 1, none⟩)) (i := 10) rfl rfl ?_
               simp only [Act.put, szA, szB, szC]
               refine any_u 110 (.int .i64 cj) (i := 11) rfl rfl ?_
               simp only [Act.put, szA, szB, szC]
               refine wpAnyH_ready (rs := [12]) (by kernel_rfl) (by simp) ?_
               refine AllReadyH.cons rfl (fun K' hK => ?_) AllReadyH.nil
               go_simp
               go_at_call 32
               refine (C1.out _ hAd.fr).mono ?_
               rintro e' v1 ⟨rfl, f1⟩
               have hA6 := hAd.since f1
               dsimp only
               refine hK.out _ _ (HS26.out _ hA6) (fun hHeld => ?_)
               clear hK
               try simp only [Act.put, szA, szB, szC]
               refine any_u 112 (.bool b1) (i := 13) rfl rfl ?_
               simp only [Act.put, szA, szB, szC]
               refine wpAnyH_done (by kernel_rfl) ?_ _
               clear hHeld
               have HA6 := Lib.hid hA6
               clear hAd hA6 f1 C1 HS26 hA5
               cases b1
               ·have HF : Hid (firstP p1 (m + 1) = F) := Lib.hid (by rw [HsF.out, if_neg (by omega)]; simp; omega)
                clear HsF
                go_wp2
                go_roundw
                case rel => exact ⟨m + 1, by omega, by rw [HF.out], by rw [HE.out], by go_num, HA6⟩
                case measure => simp [intOf]; omega
               ·have HF : Hid (firstP p1 (m + 1) = (m : Int)) := Lib.hid (by rw [HsF.out, if_neg (by omega)]; rfl)
                clear HsF
                go_wp2
                go_roundw
                case rel => exact ⟨m + 1, by omega, by rw [HF.out], by rw [HE.out], by go_num, HA6⟩
                case measure => simp [intOf]; omega
              ·have q1 : decide (F < 0) = false := decide_eq_false hF
               refine wp_region_held_drew (S := fun _ => True) (by kernel_rfl) (trivial) (fun hHeld => ?_)
               refine any_u 99 (.int .i64 F) (i := 0) rfl rfl ?_
               simp only [Act.put, szA, szB, szC]
               refine any_u 100 (.bool false) (i := 1) rfl rfl ?_
               simp only [Act.put, szA, szB, szC]
               refine any_u 101 (.bool false) (i := 2) rfl rfl ?_
               simp only [Act.put, szA, szB, szC]
               refine any_v 102 (i := 3) rfl rfl ?_
               simp only [Act.put, szA, szB, szC]
               refine any_v 103 (i := 4) rfl rfl ?_
               simp only [Act.put, szA, szB, szC]
               refine any_v 104 (i := 5) rfl rfl ?_
               simp only [Act.put, szA, szB, szC]
               refine any_v 105 (i := 6) rfl rfl ?_
               simp only [Act.put, szA, szB, szC]
               refine any_v 106 (i := 7) rfl rfl ?_
               simp only [Act.put, szA, szB, szC]
               refine any_v 107 (i := 8) rfl rfl ?_
               simp only [Act.put, szA, szB, szC]
               refine any_v 108 (i := 9) rfl rfl ?_
               simp only [Act.put, szA, szB, szC]
               refine any_v 109 (i := 10) rfl rfl ?_
               simp only [Act.put, szA, szB, szC]
               refine any_v 110 (i := 11) rfl rfl ?_
               simp only [Act.put, szA, szB, szC]
               refine any_v 111 (i := 12) rfl rfl ?_
               simp only [Act.put, szA, szB, szC]
               refine any_u 112 (.bool false) (i := 13) rfl rfl ?_
               simp only [Act.put, szA, szB, szC]
               refine wpAnyH_done (by kernel_rfl) ?_ _
               clear hHeld
               have HA6 := Lib.hid hAd
               have HF : Hid (firstP p1 (m + 1) = F) := Lib.hid (by rw [HsF.out, if_pos (by omega)])
               clear hAd C1 HS26 hA5 HsF
               go_wp2
               go_roundw
               case rel => exact ⟨m + 1, by omega, by rw [HF.out], by rw [HE.out], by go_num, HA6⟩
               case measure => simp [intOf]; omega
             ·have HE : Hid (lastP p2 (m + 1) = (m : Int)) := Lib.hid (by rw [HsE.out]; rfl)
              clear HsE
              go_wp2_with fail
              have hAd := hA5.out.since ((Fr.refl No _).drew)
              by_cases hF : F < 0
              ·have q1 : decide (F < 0) = true := decide_eq_true hF
               refine wp_region_held_drew (S := fun V => LdO V 26 ⟨w.heap.size, 0, none⟩ (.agg Z) ∧ V.cell? ⟨(ad.add (j * 6)).block, (ad.add (j * 6)).off + 1, none⟩ = some (.int .i64 cj)) (by kernel_rfl) (HS26.out _ hAd) (fun hHeld => ?_)
               refine any_u 99 (.int .i64 F) (i := 0) rfl rfl ?_
               simp only [Act.put, szA, szB, szC]
               refine any_u 100 (.bool true) (i := 1) rfl rfl ?_
               simp only [Act.put, szA, szB, szC]
               refine any_u 101 (.bool true) (i := 2) rfl rfl ?_
               simp only [Act.put, szA, szB, szC]
               refine any_tk 102 (.agg Z) (i := 3) rfl rfl (by kernel_rfl) (fun _ _ _ h => h) (by rfl) (by intro w hSw; exact exec_ld rfl hSw.1) (by assumption) ?_
               simp only [Act.put, szA, szB, szC]
               refine any_u 103 (.slice (some ad) n c) (i := 4) rfl rfl ?_
               simp only [Act.put, szA, szB, szC]
               refine any_u 104 (.int .i64 (k : Int)) (i := 5) rfl rfl ?_
               simp only [Act.put, szA, szB, szC]
               refine any_u 105 (.int .i64 (m : Int)) (i := 6) rfl rfl ?_
               simp only [Act.put, szA, szB, szC]
               refine any_u 106 (.slice (some ad) n c) (i := 7) rfl rfl ?_
               simp only [Act.put, szA, szB, szC]
               refine any_u 107 (.int .i64 (j : Int)) (i := 8) rfl rfl ?_
               simp only [Act.put, szA, szB, szC]
               refine any_u 108 (.pointer (some (ad.add (j * 6)))) (i := 9) rfl rfl ?_
               simp only [Act.put, szA, szB, szC]
               refine any_u 109 (.pointer (some ⟨(ad.add (j * 6)).block, (ad.add (j * 6)).off + 1, none⟩)) (i := 10) rfl rfl ?_
               simp only [Act.put, szA, szB, szC]
               refine any_u 110 (.int .i64 cj) (i := 11) rfl rfl ?_
               simp only [Act.put, szA, szB, szC]
               refine wpAnyH_ready (rs := [12]) (by kernel_rfl) (by simp) ?_
               refine AllReadyH.cons rfl (fun K' hK => ?_) AllReadyH.nil
               go_simp
               go_at_call 32
               refine (C1.out _ hAd.fr).mono ?_
               rintro e' v1 ⟨rfl, f1⟩
               have hA6 := hAd.since f1
               dsimp only
               refine hK.out _ _ (HS26.out _ hA6) (fun hHeld => ?_)
               clear hK
               try simp only [Act.put, szA, szB, szC]
               refine any_u 112 (.bool b1) (i := 13) rfl rfl ?_
               simp only [Act.put, szA, szB, szC]
               refine wpAnyH_done (by kernel_rfl) ?_ _
               clear hHeld
               have HA6 := Lib.hid hA6
               clear hAd hA6 f1 C1 HS26 hA5
               cases b1
               ·have HF : Hid (firstP p1 (m + 1) = F) := Lib.hid (by rw [HsF.out, if_neg (by omega)]; simp; omega)
                clear HsF
                go_wp2
                go_roundw
                case rel => exact ⟨m + 1, by omega, by rw [HF.out], by rw [HE.out], by go_num, HA6⟩
                case measure => simp [intOf]; omega
               ·have HF : Hid (firstP p1 (m + 1) = (m : Int)) := Lib.hid (by rw [HsF.out, if_neg (by omega)]; rfl)
                clear HsF
                go_wp2
                go_roundw
                case rel => exact ⟨m + 1, by omega, by rw [HF.out], by rw [HE.out], by go_num, HA6⟩
                case measure => simp [intOf]; omega
              ·have q1 : decide (F < 0) = false := decide_eq_false hF
               refine wp_region_held_drew (S := fun _ => True) (by kernel_rfl) (trivial) (fun hHeld => ?_)
               refine any_u 99 (.int .i64 F) (i := 0) rfl rfl ?_
               simp only [Act.put, szA, szB, szC]
               refine any_u 100 (.bool false) (i := 1) rfl rfl ?_
               simp only [Act.put, szA, szB, szC]
               refine any_u 101 (.bool false) (i := 2) rfl rfl ?_
               simp only [Act.put, szA, szB, szC]
               refine any_v 102 (i := 3) rfl rfl ?_
               simp only [Act.put, szA, szB, szC]
               refine any_v 103 (i := 4) rfl rfl ?_
               simp only [Act.put, szA, szB, szC]
               refine any_v 104 (i := 5) rfl rfl ?_
               simp only [Act.put, szA, szB, szC]
               refine any_v 105 (i := 6) rfl rfl ?_
               simp only [Act.put, szA, szB, szC]
               refine any_v 106 (i := 7) rfl rfl ?_
               simp only [Act.put, szA, szB, szC]
               refine any_v 107 (i := 8) rfl rfl ?_
               simp only [Act.put, szA, szB, szC]
               refine any_v 108 (i := 9) rfl rfl ?_
               simp only [Act.put, szA, szB, szC]
               refine any_v 109 (i := 10) rfl rfl ?_
               simp only [Act.put, szA, szB, szC]
               refine any_v 110 (i := 11) rfl rfl ?_
               simp only [Act.put, szA, szB, szC]
               refine any_v 111 (i := 12) rfl rfl ?_
               simp only [Act.put, szA, szB, szC]
               refine any_u 112 (.bool false) (i := 13) rfl rfl ?_
               simp only [Act.put, szA, szB, szC]
               refine wpAnyH_done (by kernel_rfl) ?_ _
               clear hHeld
               have HA6 := Lib.hid hAd
               have HF : Hid (firstP p1 (m + 1) = F) := Lib.hid (by rw [HsF.out, if_pos (by omega)])
               clear hAd C1 HS26 hA5 HsF
               go_wp2
               go_roundw
               case rel => exact ⟨m + 1, by omega, by rw [HF.out], by rw [HE.out], by go_num, HA6⟩
               case measure => simp [intOf]; omega
           ·obtain rfl : m = n := by omega
            obtain ⟨e, he1, he2, he3, -, -⟩ := lastP_is (p := p2) (n := m) (k := j) hjn hp2.out
            obtain ⟨f, hf1, hf2, -, -⟩ := firstP_is (p := p1) (n := m) (k := k) hlt hp1.out
            rw [he1, hf1]
            have hfm : f < m := by omega
            have he3' : e < 100 := by omega
            have hf3' : f < 100 := by omega
            have hei : ((e : Nat) : Int) < 100 := by omega
            have hfi : ((f : Nat) : Int) < 100 := by omega
            have HP3 : Hid (∀ a b m', (if a = j ∧ b = f ∧ m' = 4 then true else (if a = e ∧ b = k ∧ m' = 3 then true else P1 a b m')) = sA (k + 1) k (j + 1) a b m') := Lib.hid (fun a b m' => by
             rw [hpr2.out, hgen.out, he1, hf1, HP1.out]
             dsimp only
             by_cases c1 : a = j ∧ b = f ∧ m' = 4
             ·rw [if_pos c1]
              obtain ⟨rfl, rfl, rfl⟩ := c1
              simp
             ·rw [if_neg c1, decide_eq_false (show ¬ (m' = 4 ∧ a = j ∧ (f : Int) = (b : Int)) by omega), Bool.or_false]
              by_cases c2 : a = e ∧ b = k ∧ m' = 3
              ·rw [if_pos c2]
               obtain ⟨rfl, rfl, rfl⟩ := c2
               simp
              ·rw [if_neg c2, decide_eq_false (show ¬ (m' = 3 ∧ b = k ∧ (e : Int) = (a : Int)) by omega), Bool.or_false]
               by_cases c3 : a = j ∧ b = k ∧ m' = 2
               ·rw [if_pos c3, decide_eq_true (show m' = 2 ∧ a = j ∧ b = k by omega), Bool.or_true]
               ·rw [if_neg c3, decide_eq_false (show ¬ (m' = 2 ∧ a = j ∧ b = k) by omega), Bool.or_false])
            have x0 := hAm.out.cell (a := e) (b := k) (m := 3) he3' hk3 (by omega)
            have x1 := hAm.out.frozen (e * 500 + k * 5 + 3)
            obtain ⟨W6, hW6⟩ : ∃ W6, W6 = wr.setCell ⟨B, e * 500 + k * 5 + 3, none⟩ (.bool true) := ⟨_, rfl⟩
            have hA6 : ArcW w Z Gd m g B dB (fun a b m' => if a = e ∧ b = k ∧ m' = 3 then true else P1 a b m') W6 := by rw [hW6]; exact hAm.out.put hk3 (by omega)
            have y0 := hA6.cell (a := j) (b := f) (m := 4) hj3 hf3' (by omega)
            have y1 := hA6.frozen (j * 500 + f * 5 + 4)
            obtain ⟨W7, hW7⟩ : ∃ W7, W7 = W6.setCell ⟨B, j * 500 + f * 5 + 4, none⟩ (.bool true) := ⟨_, rfl⟩
            have HA7 : Hid (ArcW w Z Gd m g B dB (sA (k + 1) k (j + 1)) W7) := Lib.hid (by rw [hW7]; exact (hA6.put hf3' (by omega)).congr HP3.out)
            have hwe6 := hW6.symm
            have hwe7 := hW7.symm
            generalize P1 e k 3 = z3 at *
            obtain ⟨z4, hz4⟩ : ∃ z, (if j = e ∧ f = k ∧ 4 = 3 then true else P1 j f 4) = z := ⟨_, rfl⟩
            rw [hz4] at y0
            clear hz4 hW6 hW7 hA6 hAm HP3 he1 hf1 hI1 hI2 hce hgen hpr2 HP1 HA9 hp1 hp2
            go_wp2
            go_roundw
            case rel => exact ⟨j + 1, by omega, by go_num, HA7⟩
            case measure => simp [intOf]; omega
       ·obtain rfl : j = n := by omega
        have HA7 : Hid (ArcW w Z Gd j g B dB (sA (k + 1) (k + 1) 0) wr) := Lib.hid (hAj.out.congr (fun a b m => Hrow.out (k + 1) k a b m))
        clear hAj
        go_wp2
        go_roundw
        case rel => exact ⟨k + 1, by omega, by go_num, HA7⟩
        case measure => simp [intOf]; omega
  ·obtain rfl : i = n := by omega
   have hres := HAll.out (sA i i 0) HF0.out
   obtain ⟨q, hq⟩ : ∃ q, q = sA i i 0 := ⟨_, rfl⟩
   rw [← hq] at hA hres
   have O0 := outO_nil q i
   have OF := Lib.hid ((outO_fin q i i).trans hres)
   have OC := Lib.hid (outO_cell q i)
   have OR := Lib.hid (outO_row q i)
   have OS := Lib.hid (outO_step q i)
   clear hq hres HF0 HAll Hnd HIn Hlst Hl0 Hll Hno Hown Hdep Hskp Hpr Hrow Hlo Hgen Hse Hcl HLd Hh
   generalize outO q i = oO at *
   have Ha0 : Hid (wr.ownsRow w.heap.size 121 3 (.slice none 0 0) 0 ((oO 0 0 1).flatMap arcC)) := Lib.hid (by rw [O0]; exact World.ownsRow_nil _ _ _ _)
   have Hl0 : Hid (0 = (oO 0 0 1).length) := Lib.hid (by rw [O0]; rfl)
   clear O0
   go_wp2
   go_loopw [15, 16] (fun ov av wx => ∃ (a t : Nat) (L : Option Addr) (lc : Nat), a ≤ i ∧ av = .int .i64 (a : Int) ∧ ov = .slice L t lc ∧ t ≤ a * 400 ∧ Hid (t = (oO a 0 1).length) ∧ Hid (wx.ownsRow w.heap.size 121 3 (.slice L t lc) t ((oO a 0 1).flatMap arcC)) ∧ Hid (ArcW w Z Gd i g B dB q wx)) (fun _ av _ => i - (intOf av).toNat)
   case atStart => exact ⟨0, 0, none, 0, Nat.zero_le _, rfl, rfl, Nat.le_refl _, Hl0, Ha0, hA⟩
   case round =>
    obtain ⟨a, t, L, lc, ha, rfl, rfl, ht, HT, HO, HW⟩ := hrel
    clear hA Ha0 Hl0
    by_cases hai : a < i
    ·have hai2 : ((a : Nat) : Int) < (i : Int) := by omega
     have ha100 : ((a : Nat) : Int) < 100 := by omega
     clear OF
     go_wp2
     go_loopw [15, 17] (fun ov kv wx => ∃ (k t : Nat) (L : Option Addr) (lc : Nat), k ≤ i ∧ kv = .int .i64 (k : Int) ∧ ov = .slice L t lc ∧ t ≤ a * 400 + k * 4 ∧ Hid (t = (oO a k 1).length) ∧ Hid (wx.ownsRow w.heap.size 121 3 (.slice L t lc) t ((oO a k 1).flatMap arcC)) ∧ Hid (ArcW w Z Gd i g B dB q wx)) (fun _ kv _ => i - (intOf kv).toNat)
     case atStart => exact ⟨0, t, L, lc, Nat.zero_le _, rfl, rfl, by omega, HT, HO, HW⟩
     case round =>
      clear ht HT HO HW
      obtain ⟨k, t, L, lc, hk, rfl, rfl, ht, HT, HO, HW⟩ := hrel
      by_cases hki : k < i
      ·have hki2 : ((k : Nat) : Int) < (i : Int) := by omega
       have hk100 : ((k : Nat) : Int) < 100 := by omega
       clear OR
       go_wp2
       go_loopw [15, 18] (fun ov mv wx => ∃ (m t : Nat) (L : Option Addr) (lc : Nat), 1 ≤ m ∧ m ≤ 5 ∧ mv = .int .i64 (m : Int) ∧ ov = .slice L t lc ∧ t < a * 400 + k * 4 + m ∧ Hid (t = (oO a k m).length) ∧ Hid (wx.ownsRow w.heap.size 121 3 (.slice L t lc) t ((oO a k m).flatMap arcC)) ∧ Hid (ArcW w Z Gd i g B dB q wx)) (fun _ mv _ => 5 - (intOf mv).toNat)
       case atStart => exact ⟨1, t, L, lc, Nat.le_refl _, by omega, rfl, rfl, by omega, HT, HO, HW⟩
       case round =>
        clear ht HT HO HW
        obtain ⟨m, t, L, lc, hm1, hm, rfl, rfl, ht, HT, HO, HW⟩ := hrel
        by_cases hm5 : m < 5
        ·have hm52 : ((m : Nat) : Int) < 5 := by omega
         have hm0 : 0 ≤ ((m : Nat) : Int) := by omega
         have x0 := HW.out.cell (a := a) (b := k) (m := m) (by omega) (by omega) hm5
         have os := OS.out a k m hm1
         cases hqb : q a k m
         ·rw [hqb] at x0 os
          rw [if_neg (by decide), List.append_nil] at os
          rw [← os] at HT HO
          clear os OC OS
          go_wp2
          go_roundw
          case rel => exact ⟨m + 1, t, L, lc, by omega, by omega, by go_num, rfl, by omega, HT, HO, HW⟩
          case measure => simp [intOf]; omega
         ·rw [hqb] at x0 os
          rw [if_pos rfl] at os
          have Hos := Lib.hid os
          have hbase := HW.out.fr.size
          clear os OC OS
          go_wp2_with (at_builtin; refine wpList_append_elem rfl _ _ _ rfl w.heap.size 121 (.agg #[.int .i64 0, .int .i64 0, .int .i64 0]) 3 24 Tryz.underlying118 info_arc16 rfl (by omega) (.slice L t lc) t _ #[.int .i64 (a : Int), .int .i64 (k : Int), .int .i64 (m : Int)] rfl (by intro u hu; simp at hu; rcases hu with rfl | rfl | rfl <;> rfl) rfl wr.heap.size rfl rfl HO.out (by unfold maxLen; omega) (by omega) hbase ?r2)
          case r2 =>
           intro A1 c1 w1 hown1 hf1 hg1
           have HO2 : Hid (w1.ownsRow w.heap.size 121 3 (.slice A1 (t + 1) c1) (t + 1) ((oO a k (m + 1)).flatMap arcC)) := Lib.hid (by rw [Hos.out, arcs_snoc]; exact hown1)
           have HT2 : Hid (t + 1 = (oO a k (m + 1)).length) := Lib.hid (by rw [Hos.out, List.length_append, ← HT.out]; rfl)
           have HW2 := Lib.hid (HW.out.app HO.out hf1)
           clear hown1 hf1 hg1 HO HT HW Hos x0
           go_wp2
           go_roundw
           case rel => exact ⟨m + 1, t + 1, A1, c1, by omega, by omega, by go_num, rfl, by omega, HT2, HO2, HW2⟩
           case measure => simp [intOf]; omega
        ·obtain rfl : m = 5 := by omega
         rw [OC.out] at HT HO
         clear OC OS
         go_wp2
         go_roundw
         case rel => exact ⟨k + 1, t, L, lc, by omega, by go_num, rfl, by omega, HT, HO, HW⟩
         case measure => simp [intOf]; omega
      ·obtain rfl : k = i := by omega
       rw [OR.out] at HT HO
       clear OC OS OR
       go_wp2
       go_roundw
       case rel => exact ⟨a + 1, t, L, lc, by omega, by go_num, rfl, by omega, HT, HO, HW⟩
       case measure => simp [intOf]; omega
    ·obtain rfl : a = i := by omega
     rw [OF.out] at HT HO
     have h1 := HT.out
     subst h1
     clear OC OS OR OF
     go_wp2
     go_ret
     exact ⟨L, lc, rfl, HO.out, HW.out.fr⟩
end Go.Proofs.YtmeimhpllemjfaaGreat
