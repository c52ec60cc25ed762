/- The document's own: is an order of a history that may be fair? -/
import Derived.Test.YtmeimhpllemjfaaGreatRkp17
import Derived.Test.YtmeimhpllemjfaaGreatDoc16
namespace Go.Proofs.YtmeimhpllemjfaaGreat
open Go.RowKit

def fairQ (x : PCt) (h : List Nd) (p : Nat → Int) (o a b u : Nat) : Prop := (ndAt h a).saga ≠ (ndAt h o).saga → inN x h a b (ndAt h o).cls = true → p a ≤ p o → p o ≤ p b → inN x h a u (ndAt h o).cls = true → depB h o u = false ∧ depB h u o = false
set_option maxRecDepth 100000 in
set_option maxHeartbeats 16000000 in
theorem refFair17 (x : Ctl) (h : List Ndl) (A : Option Addr) (n c : Nat) (l : List Int) (AO : Option Addr) (m co : Nat) (w : World) (hx : Clss w x.cA x.cls) (hs : Nds w A h) (hh : h.length = n) (hf : Nds.Few h) (hmay : mayH x.p (ndsOf h) = true) (ho : Sl w w.heap.size AO (ints l)) (hl : l.length = m) (hm : m ≤ 1048576)
  (r : Bool) (hr : r = true ↔ isOrd n l = true ∧ fairP x.p (ndsOf h) (plc l)) :
  Calls Tryz.prog 13 #[x.agg, .slice A n c, .slice AO m co] w (Has w r) := by
 have h100 := mayH_len hmay
 rw [ndsOf_len] at h100
 have hlen : (ndsOf h).length = n := by rw [ndsOf_len]; exact hh
 obtain ⟨rk, hrk⟩ : ∃ rk : Bool, rk = true ↔ isOrd n l = true ∧ keepP (ndsOf h) (plc l) := by
  by_cases e : isOrd n l = true ∧ keepP (ndsOf h) (plc l)
  ·exact ⟨true, fun _ => e, fun _ => rfl⟩
  ·exact ⟨false, fun q => (by cases q), fun q => absurd q e⟩
 have HKp := Lib.hid (fun W (hW : Fr No w W) => refKeeps17 h A n c l AO m co W (hs.since hW) hh (by omega) (ho.since hW) hl hm (confD16 (hs.since hW) hf) rk hrk)
 have HPl := Lib.hid (fun W (hW : Fr No w W) => refPlaces17 n l AO m co W (ho.since hW) hl (by omega) hm)
 have HOf := Lib.hid (fun W (hW : Fr No w W) => refOf15_any h A n c W (hs.since hW) hh (by omega) (confD16 (hs.since hW) hf))
 have HIn := Lib.hid (fun (i k j : Nat) (hi : i < h.length) (hk : k < h.length) (hj : j < h.length) W (hW : Fr No w W) => show Calls Tryz.prog 32 #[x.agg, .slice A n c, .int .i64 (i : Int), .int .i64 (k : Int), .int .i64 h[j].n.cls] W (Has W (inN x.p (ndsOf h) i k h[j].n.cls)) by
  obtain ⟨d, hd, h1, h2⟩ := class16 hmay hj
  rw [hd]
  exact refIn14_any x h A n c i k d W (hx.since hW) (hs.since hW) hh hmay (by omega) (by omega) h1)
 have Hno := Lib.hid (fun (e : rk = false) => show r = false by
  cases q : r
  ·rfl
  ·have q2 := hr.1 q
   rw [hrk.2 ⟨q2.1, q2.2.1⟩] at e
   cases e)
 have HOd := Lib.hid (fun (e : rk = true) => (hrk.1 e).1)
 have Hbad := Lib.hid (fun (o a b u : Nat) (h1 : o < n) (h2 : a < n) (h3 : b < n) (h4 : u < n) (q : ¬ fairQ x.p (ndsOf h) (plc l) o a b u) => show r = false by
  cases e : r
  ·rfl
  ·exact absurd (fun p1 p2 p3 p4 p5 => (hr.1 e).2.2 o a b u (by omega) (by omega) (by omega) (by omega) p1 p2 p3 p4 p5) q)
 have Hyes := Lib.hid (fun (e : rk = true) (q : ∀ o a b u, o < n → a < n → b < n → u < n → fairQ x.p (ndsOf h) (plc l) o a b u) => show r = true from hr.2 ⟨(hrk.1 e).1, (hrk.1 e).2, fun o a b u h1 h2 h3 h4 => q o a b u (by omega) (by omega) (by omega) (by omega)⟩)
 have HQ := Lib.hid (fun (o a b u : Nat) (h1 : o < h.length) (h2 : a < h.length) => show fairQ x.p (ndsOf h) (plc l) o a b u ↔ (h[a].n.saga ≠ h[o].n.saga → inN x.p (ndsOf h) a b h[o].n.cls = true → plc l a ≤ plc l o → plc l o ≤ plc l b → inN x.p (ndsOf h) a u h[o].n.cls = true → depB (ndsOf h) o u = false ∧ depB (ndsOf h) u o = false) by
  unfold fairQ
  rw [ndsOf_at h1, ndsOf_at h2])
 have Hnd := Lib.hid (fun (k : Nat) (hk : k < h.length) W (hW : Fr No w W) => (hs.since hW).sl.nd hk)
 have Hh := Lib.hid hh
 generalize fairQ x.p (ndsOf h) (plc l) = Q at *
 unfold Ctl.agg at HIn ⊢
 obtain ⟨Z, hZ⟩ : ∃ Z, Z = x.arr := ⟨_, rfl⟩
 rw [← hZ] at HIn ⊢
 rw [Ctl.arr_eq] at hZ
 obtain ⟨W0, hW0⟩ : ∃ W0, W0 = w.alloc (.cells Z 26) := ⟨_, rfl⟩
 have bZ : Bk W0 w.heap.size 26 Z := by rw [hW0]; exact Bk.made w _ _
 have HF0 : Hid (Fr No w W0) := Lib.hid (by rw [hW0]; exact (Fr.refl _ _).alloc _)
 have HLd := Lib.hid (fun V (hV : Fr No W0 V) => show LdO V 26 ⟨w.heap.size, 0, none⟩ (.agg Z) from ld_cat hZ (bZ.fr hV (fun e => e)))
 have hwe := hW0.symm
 generalize plc l = p at *
 generalize isOrd n l = ob at *
 generalize ndsOf h = hp at *
 generalize x.p = xp at *
 clear hZ hW0 bZ hx hs hh hf hmay ho hl hm hr hrk hlen
 go_enter Tryz.func13, Tryz.ntmps13
 go_wp2_with fail
 refine (HKp.out _ HF0.out).mono ?_
 rintro e w1 ⟨rfl, f1⟩
 have HG1 := Lib.hid f1
 have HF1 := Lib.hid (HF0.out.trans' f1 (fun _ _ e => e))
 clear f1 HKp hwe
 cases rk
 ·have HRf := Hno.out rfl
  clear Hno HOd Hbad Hyes HQ HIn HOf HPl
  go_wp2
  go_ret
  exact ⟨by rw [HRf]; rfl, HF1.out⟩
 ·have hob := HOd.out rfl
  have HY := Lib.hid (fun q => Hyes.out rfl q)
  clear Hno HOd Hyes
  subst hob
  go_wp2_with fail
  refine (HPl.out _ HF1.out).mono ?_
  rintro e w2 ⟨S, rfl, hS, f2⟩
  obtain ⟨G, rfl, hG⟩ := hS (by first | rfl | trivial)
  have HF2 := Lib.hid (HF1.out.trans' f2 (fun _ _ e => e))
  have HG2 := Lib.hid (HG1.out.trans' f2 (fun _ _ e => e))
  have HB2 := Lib.hid hG
  clear hS hG f2 HPl HG1
  go_wp2_with fail
  refine (HOf.out _ HF2.out).mono ?_
  rintro e w3 ⟨Gd, gd, rfl, hMt, f3⟩
  have HF3 := Lib.hid (HF2.out.trans' f3 (fun _ _ e => e))
  have HB3 := Lib.hid (HB2.out.fr f3 (fun e => e))
  have HM3 := Lib.hid hMt
  have HL3 := Lib.hid (fun V (hV : Fr No w3 V) => HLd.out V ((HG2.out.trans' f3 (fun _ _ e => e)).trans' hV (fun _ _ e => e)))
  clear hMt f3 HOf HG2 HB2 HLd
  go_wp2
  go_loopw [11] (fun ov wr => ∃ o : Nat, o ≤ n ∧ ov = .int .i64 (o : Int) ∧ Hid (∀ o' a b u, o' < o → a < n → b < n → u < n → Q o' a b u) ∧ Hid (Fr No w3 wr)) (fun ov _ => n - (Go.RowKit.intOf ov).toNat)
  case atStart => exact ⟨0, Nat.zero_le _, rfl, Lib.hid (fun _ _ _ _ h1 => by omega), Lib.hid (Fr.refl _ _)⟩
  case round =>
   obtain ⟨o, ho, rfl, hpo, hfr⟩ := hrel
   by_cases hon : o < n
   ·have hol : o < h.length := by rw [Hh.out]; exact hon
    have honi : ((o : Nat) : Int) < (n : Int) := by omega
    go_wp2
    go_loopw [12] (fun av wv => ∃ a : Nat, a ≤ n ∧ av = .int .i64 (a : Int) ∧ Hid (∀ a' b u, a' < a → b < n → u < n → Q o a' b u) ∧ Hid (Fr No w3 wv)) (fun av _ => n - (Go.RowKit.intOf av).toNat)
    case atStart => exact ⟨0, Nat.zero_le _, rfl, Lib.hid (fun _ _ _ h1 => by omega), hfr⟩
    case round =>
     clear hfr
     obtain ⟨a, ha, rfl, hpa, hfr⟩ := hrel
     by_cases han : a < n
     ·have hal : a < h.length := by rw [Hh.out]; exact han
      have hani : ((a : Nat) : Int) < (n : Int) := by omega
      go_wp2
      go_loopw [13] (fun bv wx => ∃ b : Nat, b ≤ n ∧ bv = .int .i64 (b : Int) ∧ Hid (∀ b' u, b' < b → u < n → Q o a b' u) ∧ Hid (Fr No w3 wx)) (fun bv _ => n - (Go.RowKit.intOf bv).toNat)
      case atStart => exact ⟨0, Nat.zero_le _, rfl, Lib.hid (fun _ _ h1 => by omega), hfr⟩
      case round =>
       clear hfr
       obtain ⟨b, hb, rfl, hpb, hfr⟩ := hrel
       by_cases hbn : b < n
       ·have hbl : b < h.length := by rw [Hh.out]; exact hbn
        have hbni : ((b : Nat) : Int) < (n : Int) := by omega
        have HFw := Lib.hid (HF3.out.trans' hfr.out (fun _ _ e => e))
        obtain ⟨ad, rfl, -, -⟩ := Hnd.out a hal wr HFw.out
        have HHo := Lib.hid (fun V (hV : Fr No w3 V) => show V.cell? (ad.add (a * 6)) = some (.int .i64 h[a].n.saga) ∧ V.cell? (ad.add (o * 6)) = some (.int .i64 h[o].n.saga) ∧ V.cell? ⟨(ad.add (o * 6)).block, (ad.add (o * 6)).off + 1, none⟩ = some (.int .i64 h[o].n.cls) by
         have hV2 := HF3.out.trans' hV (fun _ _ e => e)
         obtain ⟨ad1, e1, -, a0, -⟩ := Hnd.out a hal V hV2
         obtain ⟨ad2, e2, -, b0, b1, -⟩ := Hnd.out o hol V hV2
         injection e1 with e1
         injection e2 with e2
         subst e1
         subst e2
         exact ⟨a0, b0, b1⟩)
        have HH0 := fun V (hV : Fr No wr V) => show LdO V 26 ⟨w.heap.size, 0, none⟩ (.agg Z) ∧ V.cell? (ad.add (a * 6)) = some (.int .i64 h[a].n.saga) ∧ V.cell? (ad.add (o * 6)) = some (.int .i64 h[o].n.saga) ∧ V.cell? ⟨(ad.add (o * 6)).block, (ad.add (o * 6)).off + 1, none⟩ = some (.int .i64 h[o].n.cls) ∧ V.cell? ⟨G, a, none⟩ = some (.int .i64 (p a)) ∧ V.cell? ⟨G, o, none⟩ = some (.int .i64 (p o)) ∧ V.cell? ⟨G, b, none⟩ = some (.int .i64 (p b)) by
         have hV2 := hfr.out.trans' hV (fun _ _ e => e)
         have hGV := HB3.out.fr hV2 (fun e => e)
         obtain ⟨q1, q2, q3⟩ := HHo.out V hV2
         exact ⟨HL3.out V hV2, q1, q2, q3, by rw [hGV.cell, intsA_at n _ han], by rw [hGV.cell, intsA_at n _ hon], by rw [hGV.cell, intsA_at n _ hbn]⟩
        have HH := Lib.hid HH0
        have HI := Lib.hid (fun W (hW : Fr No wr W) => HIn.out a b o hal hbl hol W (HFw.out.trans' hW (fun _ _ e => e)))
        have hNx := fun (q : ∀ u, u < n → Q o a b u) => show ∀ b' u, b' < b + 1 → u < n → Q o a b' u from fun b' u h1 h2 => by
         by_cases e : b' = b
         ·rw [e]; exact q u h2
         ·exact hpb.out b' u (by omega) h2
        have HNX := Lib.hid hNx
        have HQu := Lib.hid (fun u => HQ.out o a b u hol hal)
        have HBu := Lib.hid (fun u hu => Hbad.out o a b u hon han hbn hu)
        have HJn := Lib.hid (fun (u : Nat) (hu : u < h.length) W (hW : Fr No w3 W) => HIn.out a u o hal hu hol W (HF3.out.trans' hW (fun _ _ e => e)))
        have HKo := Lib.hid (fun (u : Nat) (hu : u < n) V (hV : Fr No w3 V) => show LdO V 26 ⟨w.heap.size, 0, none⟩ (.agg Z) ∧ V.cell? ⟨(ad.add (o * 6)).block, (ad.add (o * 6)).off + 1, none⟩ = some (.int .i64 h[o].n.cls) ∧ V.cell? ⟨Gd, o, none⟩ = some (.slice (some ⟨gd o, 0, none⟩) n n) ∧ V.cell? ⟨gd o, u, none⟩ = some (.bool (depB hp o u)) ∧ V.cell? ⟨Gd, u, none⟩ = some (.slice (some ⟨gd u, 0, none⟩) n n) ∧ V.cell? ⟨gd u, o, none⟩ = some (.bool (depB hp u o)) from by
         have hM := HM3.out.since hV
         exact ⟨HL3.out V hV, (HHo.out V hV).2.2, hM.cellR hon (Nat.le_refl _), hM.cellB hon hu, hM.cellR hu (Nat.le_refl _), hM.cellB hu hon⟩)
        clear HH0 hpb hNx HHo
        generalize h[a].n.saga = sa at *
        generalize h[o].n.saga = so at *
        generalize h[o].n.cls = co at *
        generalize p a = pa at *
        generalize p o = po at *
        generalize p b = pb at *
        obtain ⟨cf, hcf⟩ : ∃ q, q = inN xp hp a b co := ⟨_, rfl⟩
        rw [← hcf] at HI
        simp only [← hcf] at HQu
        clear hcf
        by_cases heq : sa = so
        ·have d1 : (sa == so) = true := by simp [heq]
         have HNx := Lib.hid (HNX.out (fun u _ => (HQu.out u).2 (fun q => absurd heq q)))
         clear heq HQu HBu HNX HI HKo HJn
         go_wp2_with fail
         refine wp_region_held_drew (S := fun V => LdO V 26 ⟨w.heap.size, 0, none⟩ (.agg Z) ∧ V.cell? (ad.add (a * 6)) = some (.int .i64 sa) ∧ V.cell? (ad.add (o * 6)) = some (.int .i64 so) ∧ V.cell? ⟨(ad.add (o * 6)).block, (ad.add (o * 6)).off + 1, none⟩ = some (.int .i64 co) ∧ V.cell? ⟨G, a, none⟩ = some (.int .i64 pa) ∧ V.cell? ⟨G, o, none⟩ = some (.int .i64 po) ∧ V.cell? ⟨G, b, none⟩ = some (.int .i64 pb)) (by kernel_rfl) (HH.out _ ((Fr.refl No wr).drew)) (fun hHeld => ?_)
         refine any_u 45 (.slice (some ad) n c) (i := 0) rfl rfl ?_
         simp only [Act.put, szA, szB, szC]
         refine any_u 46 (.int .i64 ((a : Nat) : Int)) (i := 1) rfl rfl ?_
         simp only [Act.put, szA, szB, szC]
         refine any_u 47 (.pointer (some (ad.add (a * 6)))) (i := 2) rfl rfl ?_
         simp only [Act.put, szA, szB, szC]
         refine any_u 48 (.pointer (some (ad.add (a * 6)))) (i := 3) rfl rfl ?_
         simp only [Act.put, szA, szB, szC]
         refine any_u 49 (.int .i64 sa) (i := 4) rfl rfl ?_
         simp only [Act.put, szA, szB, szC]
         refine any_u 50 (.slice (some ad) n c) (i := 5) rfl rfl ?_
         simp only [Act.put, szA, szB, szC]
         refine any_u 51 (.int .i64 ((o : Nat) : Int)) (i := 6) rfl rfl ?_
         simp only [Act.put, szA, szB, szC]
         refine any_u 52 (.pointer (some (ad.add (o * 6)))) (i := 7) rfl rfl ?_
         simp only [Act.put, szA, szB, szC]
         refine any_u 53 (.pointer (some (ad.add (o * 6)))) (i := 8) rfl rfl ?_
         simp only [Act.put, szA, szB, szC]
         refine any_u 54 (.int .i64 so) (i := 9) rfl rfl ?_
         simp only [Act.put, szA, szB, szC]
         refine any_u 55 (.bool true) (i := 10) rfl rfl ?_
         simp only [Act.put, szA, szB, szC]
         refine any_u 56 (.bool true) (i := 11) rfl rfl ?_
         simp only [Act.put, szA, szB, szC]
         refine any_v 57 (i := 12) rfl rfl ?_
         simp only [Act.put, szA, szB, szC]
         refine any_v 58 (i := 13) rfl rfl ?_
         simp only [Act.put, szA, szB, szC]
         refine any_v 59 (i := 14) rfl rfl ?_
         simp only [Act.put, szA, szB, szC]
         refine any_v 60 (i := 15) rfl rfl ?_
         simp only [Act.put, szA, szB, szC]
         refine any_v 61 (i := 16) rfl rfl ?_
         simp only [Act.put, szA, szB, szC]
         refine any_v 62 (i := 17) rfl rfl ?_
         simp only [Act.put, szA, szB, szC]
         refine any_v 63 (i := 18) rfl rfl ?_
         simp only [Act.put, szA, szB, szC]
         refine any_v 64 (i := 19) rfl rfl ?_
         simp only [Act.put, szA, szB, szC]
         refine any_v 65 (i := 20) rfl rfl ?_
         simp only [Act.put, szA, szB, szC]
         refine any_v 66 (i := 21) rfl rfl ?_
         simp only [Act.put, szA, szB, szC]
         refine any_v 67 (i := 22) rfl rfl ?_
         simp only [Act.put, szA, szB, szC]
         refine any_u 68 (.bool true) (i := 23) rfl rfl ?_
         simp only [Act.put, szA, szB, szC]
         refine any_u 69 (.bool true) (i := 24) rfl rfl ?_
         simp only [Act.put, szA, szB, szC]
         refine any_v 70 (i := 25) rfl rfl ?_
         simp only [Act.put, szA, szB, szC]
         refine any_v 71 (i := 26) rfl rfl ?_
         simp only [Act.put, szA, szB, szC]
         refine any_v 72 (i := 27) rfl rfl ?_
         simp only [Act.put, szA, szB, szC]
         refine any_v 73 (i := 28) rfl rfl ?_
         simp only [Act.put, szA, szB, szC]
         refine any_v 74 (i := 29) rfl rfl ?_
         simp only [Act.put, szA, szB, szC]
         refine any_v 75 (i := 30) rfl rfl ?_
         simp only [Act.put, szA, szB, szC]
         refine any_v 76 (i := 31) rfl rfl ?_
         simp only [Act.put, szA, szB, szC]
         refine any_v 77 (i := 32) rfl rfl ?_
         simp only [Act.put, szA, szB, szC]
         refine any_v 78 (i := 33) rfl rfl ?_
         simp only [Act.put, szA, szB, szC]
         refine any_u 79 (.bool true) (i := 34) rfl rfl ?_
         simp only [Act.put, szA, szB, szC]
         refine any_u 80 (.bool true) (i := 35) rfl rfl ?_
         simp only [Act.put, szA, szB, szC]
         refine any_v 81 (i := 36) rfl rfl ?_
         simp only [Act.put, szA, szB, szC]
         refine any_v 82 (i := 37) rfl rfl ?_
         simp only [Act.put, szA, szB, szC]
         refine any_v 83 (i := 38) rfl rfl ?_
         simp only [Act.put, szA, szB, szC]
         refine any_v 84 (i := 39) rfl rfl ?_
         simp only [Act.put, szA, szB, szC]
         refine any_v 85 (i := 40) rfl rfl ?_
         simp only [Act.put, szA, szB, szC]
         refine any_v 86 (i := 41) rfl rfl ?_
         simp only [Act.put, szA, szB, szC]
         refine any_v 87 (i := 42) rfl rfl ?_
         simp only [Act.put, szA, szB, szC]
         refine any_v 88 (i := 43) rfl rfl ?_
         simp only [Act.put, szA, szB, szC]
         refine any_v 89 (i := 44) rfl rfl ?_
         simp only [Act.put, szA, szB, szC]
         refine any_u 90 (.bool true) (i := 45) rfl rfl ?_
         simp only [Act.put, szA, szB, szC]
         refine wpAnyH_done (by kernel_rfl) ?_ _
         clear hHeld
         have HFx := Lib.hid (hfr.out.trans' ((Fr.refl No wr).drew) (fun _ _ e => e))
         clear hfr
         go_wp2
         go_roundw
         case rel => exact ⟨b + 1, by omega, by go_num, HNx, HFx⟩
         case measure => simp [Go.RowKit.intOf]; omega
        ·have d1 : (sa == so) = false := by simpa using heq
         cases cf
         ·have HNx := Lib.hid (HNX.out (fun u _ => (HQu.out u).2 (fun _ q => (by cases q))))
          clear HQu HBu HNX HKo HJn heq
          go_wp2_with fail
          refine wp_region_held_drew (S := fun V => LdO V 26 ⟨w.heap.size, 0, none⟩ (.agg Z) ∧ V.cell? (ad.add (a * 6)) = some (.int .i64 sa) ∧ V.cell? (ad.add (o * 6)) = some (.int .i64 so) ∧ V.cell? ⟨(ad.add (o * 6)).block, (ad.add (o * 6)).off + 1, none⟩ = some (.int .i64 co) ∧ V.cell? ⟨G, a, none⟩ = some (.int .i64 pa) ∧ V.cell? ⟨G, o, none⟩ = some (.int .i64 po) ∧ V.cell? ⟨G, b, none⟩ = some (.int .i64 pb)) (by kernel_rfl) (HH.out _ ((Fr.refl No wr).drew)) (fun hHeld => ?_)
          refine any_u 45 (.slice (some ad) n c) (i := 0) rfl rfl ?_
          simp only [Act.put, szA, szB, szC]
          refine any_u 46 (.int .i64 ((a : Nat) : Int)) (i := 1) rfl rfl ?_
          simp only [Act.put, szA, szB, szC]
          refine any_u 47 (.pointer (some (ad.add (a * 6)))) (i := 2) rfl rfl ?_
          simp only [Act.put, szA, szB, szC]
          refine any_u 48 (.pointer (some (ad.add (a * 6)))) (i := 3) rfl rfl ?_
          simp only [Act.put, szA, szB, szC]
          refine any_u 49 (.int .i64 sa) (i := 4) rfl rfl ?_
          simp only [Act.put, szA, szB, szC]
          refine any_u 50 (.slice (some ad) n c) (i := 5) rfl rfl ?_
          simp only [Act.put, szA, szB, szC]
          refine any_u 51 (.int .i64 ((o : Nat) : Int)) (i := 6) rfl rfl ?_
          simp only [Act.put, szA, szB, szC]
          refine any_u 52 (.pointer (some (ad.add (o * 6)))) (i := 7) rfl rfl ?_
          simp only [Act.put, szA, szB, szC]
          refine any_u 53 (.pointer (some (ad.add (o * 6)))) (i := 8) rfl rfl ?_
          simp only [Act.put, szA, szB, szC]
          refine any_u 54 (.int .i64 so) (i := 9) rfl rfl ?_
          simp only [Act.put, szA, szB, szC]
          refine any_u 55 (.bool false) (i := 10) rfl rfl ?_
          simp only [Act.put, szA, szB, szC]
          refine any_u 56 (.bool false) (i := 11) rfl rfl ?_
          simp only [Act.put, szA, szB, szC]
          refine any_tk 57 (.agg Z) (i := 12) rfl rfl (by kernel_rfl) (fun _ _ _ h => h) (by rfl) (by intro w hSw; exact exec_ld rfl hSw.1) (by assumption) ?_
          simp only [Act.put, szA, szB, szC]
          refine any_u 58 (.slice (some ad) n c) (i := 13) rfl rfl ?_
          simp only [Act.put, szA, szB, szC]
          refine any_u 59 (.int .i64 ((a : Nat) : Int)) (i := 14) rfl rfl ?_
          simp only [Act.put, szA, szB, szC]
          refine any_u 60 (.int .i64 ((b : Nat) : Int)) (i := 15) rfl rfl ?_
          simp only [Act.put, szA, szB, szC]
          refine any_u 61 (.slice (some ad) n c) (i := 16) rfl rfl ?_
          simp only [Act.put, szA, szB, szC]
          refine any_u 62 (.int .i64 ((o : Nat) : Int)) (i := 17) rfl rfl ?_
          simp only [Act.put, szA, szB, szC]
          refine any_u 63 (.pointer (some (ad.add (o * 6)))) (i := 18) rfl rfl ?_
          simp only [Act.put, szA, szB, szC]
          refine any_u 64 (.pointer (some ⟨(ad.add (o * 6)).block, (ad.add (o * 6)).off + 1, none⟩)) (i := 19) rfl rfl ?_
          simp only [Act.put, szA, szB, szC]
          refine any_u 65 (.int .i64 co) (i := 20) rfl rfl ?_
          simp only [Act.put, szA, szB, szC]
          refine wpAnyH_ready (rs := [21]) (by kernel_rfl) (by simp) ?_
          refine AllReadyH.cons rfl (fun K' hK => ?_) AllReadyH.nil
          go_simp
          go_at_call 32
          refine (HI.out _ ((Fr.refl No wr).drew)).mono ?_
          rintro e' V1 ⟨rfl, g1⟩
          have F1 : Fr No wr V1 := ((Fr.refl No wr).drew).trans' g1 (fun _ _ e => e)
          refine hK.out _ _ (HH.out _ F1) (fun hHeld => ?_)
          clear hK
          try simp only [Act.put, szA, szB, szC]
          refine any_u 67 (.bool true) (i := 22) rfl rfl ?_
          simp only [Act.put, szA, szB, szC]
          refine any_u 68 (.bool true) (i := 23) rfl rfl ?_
          simp only [Act.put, szA, szB, szC]
          refine any_u 69 (.bool true) (i := 24) rfl rfl ?_
          simp only [Act.put, szA, szB, szC]
          refine any_v 70 (i := 25) rfl rfl ?_
          simp only [Act.put, szA, szB, szC]
          refine any_v 71 (i := 26) rfl rfl ?_
          simp only [Act.put, szA, szB, szC]
          refine any_v 72 (i := 27) rfl rfl ?_
          simp only [Act.put, szA, szB, szC]
          refine any_v 73 (i := 28) rfl rfl ?_
          simp only [Act.put, szA, szB, szC]
          refine any_v 74 (i := 29) rfl rfl ?_
          simp only [Act.put, szA, szB, szC]
          refine any_v 75 (i := 30) rfl rfl ?_
          simp only [Act.put, szA, szB, szC]
          refine any_v 76 (i := 31) rfl rfl ?_
          simp only [Act.put, szA, szB, szC]
          refine any_v 77 (i := 32) rfl rfl ?_
          simp only [Act.put, szA, szB, szC]
          refine any_v 78 (i := 33) rfl rfl ?_
          simp only [Act.put, szA, szB, szC]
          refine any_u 79 (.bool true) (i := 34) rfl rfl ?_
          simp only [Act.put, szA, szB, szC]
          refine any_u 80 (.bool true) (i := 35) rfl rfl ?_
          simp only [Act.put, szA, szB, szC]
          refine any_v 81 (i := 36) rfl rfl ?_
          simp only [Act.put, szA, szB, szC]
          refine any_v 82 (i := 37) rfl rfl ?_
          simp only [Act.put, szA, szB, szC]
          refine any_v 83 (i := 38) rfl rfl ?_
          simp only [Act.put, szA, szB, szC]
          refine any_v 84 (i := 39) rfl rfl ?_
          simp only [Act.put, szA, szB, szC]
          refine any_v 85 (i := 40) rfl rfl ?_
          simp only [Act.put, szA, szB, szC]
          refine any_v 86 (i := 41) rfl rfl ?_
          simp only [Act.put, szA, szB, szC]
          refine any_v 87 (i := 42) rfl rfl ?_
          simp only [Act.put, szA, szB, szC]
          refine any_v 88 (i := 43) rfl rfl ?_
          simp only [Act.put, szA, szB, szC]
          refine any_v 89 (i := 44) rfl rfl ?_
          simp only [Act.put, szA, szB, szC]
          refine any_u 90 (.bool true) (i := 45) rfl rfl ?_
          simp only [Act.put, szA, szB, szC]
          refine wpAnyH_done (by kernel_rfl) ?_ _
          clear hHeld
          have HFx := Lib.hid (hfr.out.trans' F1 (fun _ _ e => e))
          clear hfr
          go_wp2
          go_roundw
          case rel => exact ⟨b + 1, by omega, by go_num, HNx, HFx⟩
          case measure => simp [Go.RowKit.intOf]; omega
         ·by_cases hgt : po < pa
          ·have HNx := Lib.hid (HNX.out (fun u _ => (HQu.out u).2 (fun _ _ q => by omega)))
           clear HQu HBu HNX HKo HJn heq
           go_wp2_with fail
           refine wp_region_held_drew (S := fun V => LdO V 26 ⟨w.heap.size, 0, none⟩ (.agg Z) ∧ V.cell? (ad.add (a * 6)) = some (.int .i64 sa) ∧ V.cell? (ad.add (o * 6)) = some (.int .i64 so) ∧ V.cell? ⟨(ad.add (o * 6)).block, (ad.add (o * 6)).off + 1, none⟩ = some (.int .i64 co) ∧ V.cell? ⟨G, a, none⟩ = some (.int .i64 pa) ∧ V.cell? ⟨G, o, none⟩ = some (.int .i64 po) ∧ V.cell? ⟨G, b, none⟩ = some (.int .i64 pb)) (by kernel_rfl) (HH.out _ ((Fr.refl No wr).drew)) (fun hHeld => ?_)
           refine any_u 45 (.slice (some ad) n c) (i := 0) rfl rfl ?_
           simp only [Act.put, szA, szB, szC]
           refine any_u 46 (.int .i64 ((a : Nat) : Int)) (i := 1) rfl rfl ?_
           simp only [Act.put, szA, szB, szC]
           refine any_u 47 (.pointer (some (ad.add (a * 6)))) (i := 2) rfl rfl ?_
           simp only [Act.put, szA, szB, szC]
           refine any_u 48 (.pointer (some (ad.add (a * 6)))) (i := 3) rfl rfl ?_
           simp only [Act.put, szA, szB, szC]
           refine any_u 49 (.int .i64 sa) (i := 4) rfl rfl ?_
           simp only [Act.put, szA, szB, szC]
           refine any_u 50 (.slice (some ad) n c) (i := 5) rfl rfl ?_
           simp only [Act.put, szA, szB, szC]
           refine any_u 51 (.int .i64 ((o : Nat) : Int)) (i := 6) rfl rfl ?_
           simp only [Act.put, szA, szB, szC]
           refine any_u 52 (.pointer (some (ad.add (o * 6)))) (i := 7) rfl rfl ?_
           simp only [Act.put, szA, szB, szC]
           refine any_u 53 (.pointer (some (ad.add (o * 6)))) (i := 8) rfl rfl ?_
           simp only [Act.put, szA, szB, szC]
           refine any_u 54 (.int .i64 so) (i := 9) rfl rfl ?_
           simp only [Act.put, szA, szB, szC]
           refine any_u 55 (.bool false) (i := 10) rfl rfl ?_
           simp only [Act.put, szA, szB, szC]
           refine any_u 56 (.bool false) (i := 11) rfl rfl ?_
           simp only [Act.put, szA, szB, szC]
           refine any_tk 57 (.agg Z) (i := 12) rfl rfl (by kernel_rfl) (fun _ _ _ h => h) (by rfl) (by intro w hSw; exact exec_ld rfl hSw.1) (by assumption) ?_
           simp only [Act.put, szA, szB, szC]
           refine any_u 58 (.slice (some ad) n c) (i := 13) rfl rfl ?_
           simp only [Act.put, szA, szB, szC]
           refine any_u 59 (.int .i64 ((a : Nat) : Int)) (i := 14) rfl rfl ?_
           simp only [Act.put, szA, szB, szC]
           refine any_u 60 (.int .i64 ((b : Nat) : Int)) (i := 15) rfl rfl ?_
           simp only [Act.put, szA, szB, szC]
           refine any_u 61 (.slice (some ad) n c) (i := 16) rfl rfl ?_
           simp only [Act.put, szA, szB, szC]
           refine any_u 62 (.int .i64 ((o : Nat) : Int)) (i := 17) rfl rfl ?_
           simp only [Act.put, szA, szB, szC]
           refine any_u 63 (.pointer (some (ad.add (o * 6)))) (i := 18) rfl rfl ?_
           simp only [Act.put, szA, szB, szC]
           refine any_u 64 (.pointer (some ⟨(ad.add (o * 6)).block, (ad.add (o * 6)).off + 1, none⟩)) (i := 19) rfl rfl ?_
           simp only [Act.put, szA, szB, szC]
           refine any_u 65 (.int .i64 co) (i := 20) rfl rfl ?_
           simp only [Act.put, szA, szB, szC]
           refine wpAnyH_ready (rs := [21]) (by kernel_rfl) (by simp) ?_
           refine AllReadyH.cons rfl (fun K' hK => ?_) AllReadyH.nil
           go_simp
           go_at_call 32
           refine (HI.out _ ((Fr.refl No wr).drew)).mono ?_
           rintro e' V1 ⟨rfl, g1⟩
           have F1 : Fr No wr V1 := ((Fr.refl No wr).drew).trans' g1 (fun _ _ e => e)
           refine hK.out _ _ (HH.out _ F1) (fun hHeld => ?_)
           clear hK
           try simp only [Act.put, szA, szB, szC]
           refine any_u 67 (.bool false) (i := 22) rfl rfl ?_
           simp only [Act.put, szA, szB, szC]
           refine any_u 68 (.bool false) (i := 23) rfl rfl ?_
           simp only [Act.put, szA, szB, szC]
           refine any_u 69 (.bool false) (i := 24) rfl rfl ?_
           simp only [Act.put, szA, szB, szC]
           refine any_u 70 (.slice (some ⟨G, 0, none⟩) n n) (i := 25) rfl rfl ?_
           simp only [Act.put, szA, szB, szC]
           refine any_u 71 (.int .i64 ((a : Nat) : Int)) (i := 26) rfl rfl ?_
           simp only [Act.put, szA, szB, szC]
           refine any_u 72 (.pointer (some ⟨G, a, none⟩)) (i := 27) rfl rfl ?_
           simp only [Act.put, szA, szB, szC]
           refine any_u 73 (.int .i64 pa) (i := 28) rfl rfl ?_
           simp only [Act.put, szA, szB, szC]
           refine any_u 74 (.slice (some ⟨G, 0, none⟩) n n) (i := 29) rfl rfl ?_
           simp only [Act.put, szA, szB, szC]
           refine any_u 75 (.int .i64 ((o : Nat) : Int)) (i := 30) rfl rfl ?_
           simp only [Act.put, szA, szB, szC]
           refine any_u 76 (.pointer (some ⟨G, o, none⟩)) (i := 31) rfl rfl ?_
           simp only [Act.put, szA, szB, szC]
           refine any_u 77 (.int .i64 po) (i := 32) rfl rfl ?_
           simp only [Act.put, szA, szB, szC]
           refine any_u 78 (.bool true) (i := 33) rfl rfl ?_
           simp only [Act.put, szA, szB, szC]
           refine any_u 79 (.bool true) (i := 34) rfl rfl ?_
           simp only [Act.put, szA, szB, szC]
           refine any_u 80 (.bool true) (i := 35) rfl rfl ?_
           simp only [Act.put, szA, szB, szC]
           refine any_v 81 (i := 36) rfl rfl ?_
           simp only [Act.put, szA, szB, szC]
           refine any_v 82 (i := 37) rfl rfl ?_
           simp only [Act.put, szA, szB, szC]
           refine any_v 83 (i := 38) rfl rfl ?_
           simp only [Act.put, szA, szB, szC]
           refine any_v 84 (i := 39) rfl rfl ?_
           simp only [Act.put, szA, szB, szC]
           refine any_v 85 (i := 40) rfl rfl ?_
           simp only [Act.put, szA, szB, szC]
           refine any_v 86 (i := 41) rfl rfl ?_
           simp only [Act.put, szA, szB, szC]
           refine any_v 87 (i := 42) rfl rfl ?_
           simp only [Act.put, szA, szB, szC]
           refine any_v 88 (i := 43) rfl rfl ?_
           simp only [Act.put, szA, szB, szC]
           refine any_v 89 (i := 44) rfl rfl ?_
           simp only [Act.put, szA, szB, szC]
           refine any_u 90 (.bool true) (i := 45) rfl rfl ?_
           simp only [Act.put, szA, szB, szC]
           refine wpAnyH_done (by kernel_rfl) ?_ _
           clear hHeld
           have HFx := Lib.hid (hfr.out.trans' F1 (fun _ _ e => e))
           clear hfr
           go_wp2
           go_roundw
           case rel => exact ⟨b + 1, by omega, by go_num, HNx, HFx⟩
           case measure => simp [Go.RowKit.intOf]; omega
          ·by_cases hlt : pb < po
           ·have HNx := Lib.hid (HNX.out (fun u _ => (HQu.out u).2 (fun _ _ _ q => by omega)))
            clear HQu HBu HNX HKo HJn heq
            go_wp2_with fail
            refine wp_region_held_drew (S := fun V => LdO V 26 ⟨w.heap.size, 0, none⟩ (.agg Z) ∧ V.cell? (ad.add (a * 6)) = some (.int .i64 sa) ∧ V.cell? (ad.add (o * 6)) = some (.int .i64 so) ∧ V.cell? ⟨(ad.add (o * 6)).block, (ad.add (o * 6)).off + 1, none⟩ = some (.int .i64 co) ∧ V.cell? ⟨G, a, none⟩ = some (.int .i64 pa) ∧ V.cell? ⟨G, o, none⟩ = some (.int .i64 po) ∧ V.cell? ⟨G, b, none⟩ = some (.int .i64 pb)) (by kernel_rfl) (HH.out _ ((Fr.refl No wr).drew)) (fun hHeld => ?_)
            refine any_u 45 (.slice (some ad) n c) (i := 0) rfl rfl ?_
            simp only [Act.put, szA, szB, szC]
            refine any_u 46 (.int .i64 ((a : Nat) : Int)) (i := 1) rfl rfl ?_
            simp only [Act.put, szA, szB, szC]
            refine any_u 47 (.pointer (some (ad.add (a * 6)))) (i := 2) rfl rfl ?_
            simp only [Act.put, szA, szB, szC]
            refine any_u 48 (.pointer (some (ad.add (a * 6)))) (i := 3) rfl rfl ?_
            simp only [Act.put, szA, szB, szC]
            refine any_u 49 (.int .i64 sa) (i := 4) rfl rfl ?_
            simp only [Act.put, szA, szB, szC]
            refine any_u 50 (.slice (some ad) n c) (i := 5) rfl rfl ?_
            simp only [Act.put, szA, szB, szC]
            refine any_u 51 (.int .i64 ((o : Nat) : Int)) (i := 6) rfl rfl ?_
            simp only [Act.put, szA, szB, szC]
            refine any_u 52 (.pointer (some (ad.add (o * 6)))) (i := 7) rfl rfl ?_
            simp only [Act.put, szA, szB, szC]
            refine any_u 53 (.pointer (some (ad.add (o * 6)))) (i := 8) rfl rfl ?_
            simp only [Act.put, szA, szB, szC]
            refine any_u 54 (.int .i64 so) (i := 9) rfl rfl ?_
            simp only [Act.put, szA, szB, szC]
            refine any_u 55 (.bool false) (i := 10) rfl rfl ?_
            simp only [Act.put, szA, szB, szC]
            refine any_u 56 (.bool false) (i := 11) rfl rfl ?_
            simp only [Act.put, szA, szB, szC]
            refine any_tk 57 (.agg Z) (i := 12) rfl rfl (by kernel_rfl) (fun _ _ _ h => h) (by rfl) (by intro w hSw; exact exec_ld rfl hSw.1) (by assumption) ?_
            simp only [Act.put, szA, szB, szC]
            refine any_u 58 (.slice (some ad) n c) (i := 13) rfl rfl ?_
            simp only [Act.put, szA, szB, szC]
            refine any_u 59 (.int .i64 ((a : Nat) : Int)) (i := 14) rfl rfl ?_
            simp only [Act.put, szA, szB, szC]
            refine any_u 60 (.int .i64 ((b : Nat) : Int)) (i := 15) rfl rfl ?_
            simp only [Act.put, szA, szB, szC]
            refine any_u 61 (.slice (some ad) n c) (i := 16) rfl rfl ?_
            simp only [Act.put, szA, szB, szC]
            refine any_u 62 (.int .i64 ((o : Nat) : Int)) (i := 17) rfl rfl ?_
            simp only [Act.put, szA, szB, szC]
            refine any_u 63 (.pointer (some (ad.add (o * 6)))) (i := 18) rfl rfl ?_
            simp only [Act.put, szA, szB, szC]
            refine any_u 64 (.pointer (some ⟨(ad.add (o * 6)).block, (ad.add (o * 6)).off + 1, none⟩)) (i := 19) rfl rfl ?_
            simp only [Act.put, szA, szB, szC]
            refine any_u 65 (.int .i64 co) (i := 20) rfl rfl ?_
            simp only [Act.put, szA, szB, szC]
            refine wpAnyH_ready (rs := [21]) (by kernel_rfl) (by simp) ?_
            refine AllReadyH.cons rfl (fun K' hK => ?_) AllReadyH.nil
            go_simp
            go_at_call 32
            refine (HI.out _ ((Fr.refl No wr).drew)).mono ?_
            rintro e' V1 ⟨rfl, g1⟩
            have F1 : Fr No wr V1 := ((Fr.refl No wr).drew).trans' g1 (fun _ _ e => e)
            refine hK.out _ _ (HH.out _ F1) (fun hHeld => ?_)
            clear hK
            try simp only [Act.put, szA, szB, szC]
            refine any_u 67 (.bool false) (i := 22) rfl rfl ?_
            simp only [Act.put, szA, szB, szC]
            refine any_u 68 (.bool false) (i := 23) rfl rfl ?_
            simp only [Act.put, szA, szB, szC]
            refine any_u 69 (.bool false) (i := 24) rfl rfl ?_
            simp only [Act.put, szA, szB, szC]
            refine any_u 70 (.slice (some ⟨G, 0, none⟩) n n) (i := 25) rfl rfl ?_
            simp only [Act.put, szA, szB, szC]
            refine any_u 71 (.int .i64 ((a : Nat) : Int)) (i := 26) rfl rfl ?_
            simp only [Act.put, szA, szB, szC]
            refine any_u 72 (.pointer (some ⟨G, a, none⟩)) (i := 27) rfl rfl ?_
            simp only [Act.put, szA, szB, szC]
            refine any_u 73 (.int .i64 pa) (i := 28) rfl rfl ?_
            simp only [Act.put, szA, szB, szC]
            refine any_u 74 (.slice (some ⟨G, 0, none⟩) n n) (i := 29) rfl rfl ?_
            simp only [Act.put, szA, szB, szC]
            refine any_u 75 (.int .i64 ((o : Nat) : Int)) (i := 30) rfl rfl ?_
            simp only [Act.put, szA, szB, szC]
            refine any_u 76 (.pointer (some ⟨G, o, none⟩)) (i := 31) rfl rfl ?_
            simp only [Act.put, szA, szB, szC]
            refine any_u 77 (.int .i64 po) (i := 32) rfl rfl ?_
            simp only [Act.put, szA, szB, szC]
            refine any_u 78 (.bool false) (i := 33) rfl rfl ?_
            simp only [Act.put, szA, szB, szC]
            refine any_u 79 (.bool false) (i := 34) rfl rfl ?_
            simp only [Act.put, szA, szB, szC]
            refine any_u 80 (.bool false) (i := 35) rfl rfl ?_
            simp only [Act.put, szA, szB, szC]
            refine any_u 81 (.slice (some ⟨G, 0, none⟩) n n) (i := 36) rfl rfl ?_
            simp only [Act.put, szA, szB, szC]
            refine any_u 82 (.int .i64 ((b : Nat) : Int)) (i := 37) rfl rfl ?_
            simp only [Act.put, szA, szB, szC]
            refine any_u 83 (.pointer (some ⟨G, b, none⟩)) (i := 38) rfl rfl ?_
            simp only [Act.put, szA, szB, szC]
            refine any_u 84 (.int .i64 pb) (i := 39) rfl rfl ?_
            simp only [Act.put, szA, szB, szC]
            refine any_u 85 (.slice (some ⟨G, 0, none⟩) n n) (i := 40) rfl rfl ?_
            simp only [Act.put, szA, szB, szC]
            refine any_u 86 (.int .i64 ((o : Nat) : Int)) (i := 41) rfl rfl ?_
            simp only [Act.put, szA, szB, szC]
            refine any_u 87 (.pointer (some ⟨G, o, none⟩)) (i := 42) rfl rfl ?_
            simp only [Act.put, szA, szB, szC]
            refine any_u 88 (.int .i64 po) (i := 43) rfl rfl ?_
            simp only [Act.put, szA, szB, szC]
            refine any_u 89 (.bool true) (i := 44) rfl rfl ?_
            simp only [Act.put, szA, szB, szC]
            refine any_u 90 (.bool true) (i := 45) rfl rfl ?_
            simp only [Act.put, szA, szB, szC]
            refine wpAnyH_done (by kernel_rfl) ?_ _
            clear hHeld
            have HFx := Lib.hid (hfr.out.trans' F1 (fun _ _ e => e))
            clear hfr
            go_wp2
            go_roundw
            case rel => exact ⟨b + 1, by omega, by go_num, HNx, HFx⟩
            case measure => simp [Go.RowKit.intOf]; omega
           ·have HQn := Lib.hid (fun u (q : inN xp hp a u co = false ∨ (depB hp o u = false ∧ depB hp u o = false)) => show Q o a b u from (HQu.out u).2 (fun _ _ _ _ e => by
             rcases q with q | q
             ·rw [q] at e; cases e
             ·exact q))
            have HRb := Lib.hid (fun u (hu : u < n) (e : inN xp hp a u co = true) (q : depB hp o u = true ∨ depB hp u o = true) => show r = false from HBu.out u hu (fun hq => by
             have := (HQu.out u).1 hq heq rfl (by omega) (by omega) e
             rcases q with q | q
             ·rw [this.1] at q; cases q
             ·rw [this.2] at q; cases q))
            clear HQu HBu heq
            go_wp2_with fail
            refine wp_region_held_drew (S := fun V => LdO V 26 ⟨w.heap.size, 0, none⟩ (.agg Z) ∧ V.cell? (ad.add (a * 6)) = some (.int .i64 sa) ∧ V.cell? (ad.add (o * 6)) = some (.int .i64 so) ∧ V.cell? ⟨(ad.add (o * 6)).block, (ad.add (o * 6)).off + 1, none⟩ = some (.int .i64 co) ∧ V.cell? ⟨G, a, none⟩ = some (.int .i64 pa) ∧ V.cell? ⟨G, o, none⟩ = some (.int .i64 po) ∧ V.cell? ⟨G, b, none⟩ = some (.int .i64 pb)) (by kernel_rfl) (HH.out _ ((Fr.refl No wr).drew)) (fun hHeld => ?_)
            refine any_u 45 (.slice (some ad) n c) (i := 0) rfl rfl ?_
            simp only [Act.put, szA, szB, szC]
            refine any_u 46 (.int .i64 ((a : Nat) : Int)) (i := 1) rfl rfl ?_
            simp only [Act.put, szA, szB, szC]
            refine any_u 47 (.pointer (some (ad.add (a * 6)))) (i := 2) rfl rfl ?_
            simp only [Act.put, szA, szB, szC]
            refine any_u 48 (.pointer (some (ad.add (a * 6)))) (i := 3) rfl rfl ?_
            simp only [Act.put, szA, szB, szC]
            refine any_u 49 (.int .i64 sa) (i := 4) rfl rfl ?_
            simp only [Act.put, szA, szB, szC]
            refine any_u 50 (.slice (some ad) n c) (i := 5) rfl rfl ?_
            simp only [Act.put, szA, szB, szC]
            refine any_u 51 (.int .i64 ((o : Nat) : Int)) (i := 6) rfl rfl ?_
            simp only [Act.put, szA, szB, szC]
            refine any_u 52 (.pointer (some (ad.add (o * 6)))) (i := 7) rfl rfl ?_
            simp only [Act.put, szA, szB, szC]
            refine any_u 53 (.pointer (some (ad.add (o * 6)))) (i := 8) rfl rfl ?_
            simp only [Act.put, szA, szB, szC]
            refine any_u 54 (.int .i64 so) (i := 9) rfl rfl ?_
            simp only [Act.put, szA, szB, szC]
            refine any_u 55 (.bool false) (i := 10) rfl rfl ?_
            simp only [Act.put, szA, szB, szC]
            refine any_u 56 (.bool false) (i := 11) rfl rfl ?_
            simp only [Act.put, szA, szB, szC]
            refine any_tk 57 (.agg Z) (i := 12) rfl rfl (by kernel_rfl) (fun _ _ _ h => h) (by rfl) (by intro w hSw; exact exec_ld rfl hSw.1) (by assumption) ?_
            simp only [Act.put, szA, szB, szC]
            refine any_u 58 (.slice (some ad) n c) (i := 13) rfl rfl ?_
            simp only [Act.put, szA, szB, szC]
            refine any_u 59 (.int .i64 ((a : Nat) : Int)) (i := 14) rfl rfl ?_
            simp only [Act.put, szA, szB, szC]
            refine any_u 60 (.int .i64 ((b : Nat) : Int)) (i := 15) rfl rfl ?_
            simp only [Act.put, szA, szB, szC]
            refine any_u 61 (.slice (some ad) n c) (i := 16) rfl rfl ?_
            simp only [Act.put, szA, szB, szC]
            refine any_u 62 (.int .i64 ((o : Nat) : Int)) (i := 17) rfl rfl ?_
            simp only [Act.put, szA, szB, szC]
            refine any_u 63 (.pointer (some (ad.add (o * 6)))) (i := 18) rfl rfl ?_
            simp only [Act.put, szA, szB, szC]
            refine any_u 64 (.pointer (some ⟨(ad.add (o * 6)).block, (ad.add (o * 6)).off + 1, none⟩)) (i := 19) rfl rfl ?_
            simp only [Act.put, szA, szB, szC]
            refine any_u 65 (.int .i64 co) (i := 20) rfl rfl ?_
            simp only [Act.put, szA, szB, szC]
            refine wpAnyH_ready (rs := [21]) (by kernel_rfl) (by simp) ?_
            refine AllReadyH.cons rfl (fun K' hK => ?_) AllReadyH.nil
            go_simp
            go_at_call 32
            refine (HI.out _ ((Fr.refl No wr).drew)).mono ?_
            rintro e' V1 ⟨rfl, g1⟩
            have F1 : Fr No wr V1 := ((Fr.refl No wr).drew).trans' g1 (fun _ _ e => e)
            refine hK.out _ _ (HH.out _ F1) (fun hHeld => ?_)
            clear hK
            try simp only [Act.put, szA, szB, szC]
            refine any_u 67 (.bool false) (i := 22) rfl rfl ?_
            simp only [Act.put, szA, szB, szC]
            refine any_u 68 (.bool false) (i := 23) rfl rfl ?_
            simp only [Act.put, szA, szB, szC]
            refine any_u 69 (.bool false) (i := 24) rfl rfl ?_
            simp only [Act.put, szA, szB, szC]
            refine any_u 70 (.slice (some ⟨G, 0, none⟩) n n) (i := 25) rfl rfl ?_
            simp only [Act.put, szA, szB, szC]
            refine any_u 71 (.int .i64 ((a : Nat) : Int)) (i := 26) rfl rfl ?_
            simp only [Act.put, szA, szB, szC]
            refine any_u 72 (.pointer (some ⟨G, a, none⟩)) (i := 27) rfl rfl ?_
            simp only [Act.put, szA, szB, szC]
            refine any_u 73 (.int .i64 pa) (i := 28) rfl rfl ?_
            simp only [Act.put, szA, szB, szC]
            refine any_u 74 (.slice (some ⟨G, 0, none⟩) n n) (i := 29) rfl rfl ?_
            simp only [Act.put, szA, szB, szC]
            refine any_u 75 (.int .i64 ((o : Nat) : Int)) (i := 30) rfl rfl ?_
            simp only [Act.put, szA, szB, szC]
            refine any_u 76 (.pointer (some ⟨G, o, none⟩)) (i := 31) rfl rfl ?_
            simp only [Act.put, szA, szB, szC]
            refine any_u 77 (.int .i64 po) (i := 32) rfl rfl ?_
            simp only [Act.put, szA, szB, szC]
            refine any_u 78 (.bool false) (i := 33) rfl rfl ?_
            simp only [Act.put, szA, szB, szC]
            refine any_u 79 (.bool false) (i := 34) rfl rfl ?_
            simp only [Act.put, szA, szB, szC]
            refine any_u 80 (.bool false) (i := 35) rfl rfl ?_
            simp only [Act.put, szA, szB, szC]
            refine any_u 81 (.slice (some ⟨G, 0, none⟩) n n) (i := 36) rfl rfl ?_
            simp only [Act.put, szA, szB, szC]
            refine any_u 82 (.int .i64 ((b : Nat) : Int)) (i := 37) rfl rfl ?_
            simp only [Act.put, szA, szB, szC]
            refine any_u 83 (.pointer (some ⟨G, b, none⟩)) (i := 38) rfl rfl ?_
            simp only [Act.put, szA, szB, szC]
            refine any_u 84 (.int .i64 pb) (i := 39) rfl rfl ?_
            simp only [Act.put, szA, szB, szC]
            refine any_u 85 (.slice (some ⟨G, 0, none⟩) n n) (i := 40) rfl rfl ?_
            simp only [Act.put, szA, szB, szC]
            refine any_u 86 (.int .i64 ((o : Nat) : Int)) (i := 41) rfl rfl ?_
            simp only [Act.put, szA, szB, szC]
            refine any_u 87 (.pointer (some ⟨G, o, none⟩)) (i := 42) rfl rfl ?_
            simp only [Act.put, szA, szB, szC]
            refine any_u 88 (.int .i64 po) (i := 43) rfl rfl ?_
            simp only [Act.put, szA, szB, szC]
            refine any_u 89 (.bool false) (i := 44) rfl rfl ?_
            simp only [Act.put, szA, szB, szC]
            refine any_u 90 (.bool false) (i := 45) rfl rfl ?_
            simp only [Act.put, szA, szB, szC]
            refine wpAnyH_done (by kernel_rfl) ?_ _
            clear hHeld
            have HFx := Lib.hid (hfr.out.trans' F1 (fun _ _ e => e))
            clear hfr HH HI HFw d1 hgt hlt F1 g1
            go_wp2
            go_loopw [14] (fun uv wu => ∃ u : Nat, u ≤ n ∧ uv = .int .i64 (u : Int) ∧ Hid (∀ u', u' < u → Q o a b u') ∧ Hid (Fr No w3 wu)) (fun uv _ => n - (Go.RowKit.intOf uv).toNat)
            case atStart => exact ⟨0, Nat.zero_le _, rfl, Lib.hid (fun _ h1 => by omega), HFx⟩
            case round =>
             clear HFx
             obtain ⟨u, hu, rfl, hpu, hfr⟩ := hrel
             by_cases hun : u < n
             ·have hul : u < h.length := by rw [Hh.out]; exact hun
              have huni : ((u : Nat) : Int) < (n : Int) := by omega
              have HJ := Lib.hid (fun W (hW : Fr No wr W) => HJn.out u hul W (hfr.out.trans' hW (fun _ _ e => e)))
              have HK := Lib.hid (fun V (hV : Fr No wr V) => HKo.out u hun V (hfr.out.trans' hV (fun _ _ e => e)))
              have hNu := fun (q : Q o a b u) => show ∀ u', u' < u + 1 → Q o a b u' from fun u' h1 => by
               by_cases e : u' = u
               ·rw [e]; exact q
               ·exact hpu.out u' (by omega)
              have hq1 := HQn.out u
              have hq2 := HRb.out u hun
              clear hpu
              generalize inN xp hp a u co = ci at *
              generalize depB hp o u = du at *
              generalize depB hp u o = dv at *
              generalize gd o = go at *
              generalize gd u = gu at *
              cases ci
              ·have HNu := Lib.hid (hNu (hq1 (.inl rfl)))
               clear hNu hq1 hq2
               go_wp2_with fail
               refine wp_region_held_drew (S := fun V => LdO V 26 ⟨w.heap.size, 0, none⟩ (.agg Z) ∧ V.cell? ⟨(ad.add (o * 6)).block, (ad.add (o * 6)).off + 1, none⟩ = some (.int .i64 co) ∧ V.cell? ⟨Gd, o, none⟩ = some (.slice (some ⟨go, 0, none⟩) n n) ∧ V.cell? ⟨go, u, none⟩ = some (.bool du) ∧ V.cell? ⟨Gd, u, none⟩ = some (.slice (some ⟨gu, 0, none⟩) n n) ∧ V.cell? ⟨gu, o, none⟩ = some (.bool dv)) (by kernel_rfl) (HK.out _ ((Fr.refl No wr).drew)) (fun hHeld => ?_)
               refine any_tk 96 (.agg Z) (i := 0) rfl rfl (by kernel_rfl) (fun _ _ _ h => h) (by rfl) (by intro w hSw; exact exec_ld rfl hSw.1) (by assumption) ?_
               simp only [Act.put, szA, szB, szC]
               refine any_u 97 (.slice (some ad) n c) (i := 1) rfl rfl ?_
               simp only [Act.put, szA, szB, szC]
               refine any_u 98 (.int .i64 ((a : Nat) : Int)) (i := 2) rfl rfl ?_
               simp only [Act.put, szA, szB, szC]
               refine any_u 99 (.int .i64 ((u : Nat) : Int)) (i := 3) rfl rfl ?_
               simp only [Act.put, szA, szB, szC]
               refine any_u 100 (.slice (some ad) n c) (i := 4) rfl rfl ?_
               simp only [Act.put, szA, szB, szC]
               refine any_u 101 (.int .i64 ((o : Nat) : Int)) (i := 5) rfl rfl ?_
               simp only [Act.put, szA, szB, szC]
               refine any_u 102 (.pointer (some (ad.add (o * 6)))) (i := 6) rfl rfl ?_
               simp only [Act.put, szA, szB, szC]
               refine any_u 103 (.pointer (some ⟨(ad.add (o * 6)).block, (ad.add (o * 6)).off + 1, none⟩)) (i := 7) rfl rfl ?_
               simp only [Act.put, szA, szB, szC]
               refine any_u 104 (.int .i64 co) (i := 8) rfl rfl ?_
               simp only [Act.put, szA, szB, szC]
               refine wpAnyH_ready (rs := [9]) (by kernel_rfl) (by simp) ?_
               refine AllReadyH.cons rfl (fun K' hK => ?_) AllReadyH.nil
               go_simp
               go_at_call 32
               refine (HJ.out _ ((Fr.refl No wr).drew)).mono ?_
               rintro e' V1 ⟨rfl, g1⟩
               have F1 : Fr No wr V1 := ((Fr.refl No wr).drew).trans' g1 (fun _ _ e => e)
               refine hK.out _ _ (HK.out _ F1) (fun hHeld => ?_)
               clear hK
               try simp only [Act.put, szA, szB, szC]
               refine any_u 106 (.bool false) (i := 10) rfl rfl ?_
               simp only [Act.put, szA, szB, szC]
               refine any_v 107 (i := 11) rfl rfl ?_
               simp only [Act.put, szA, szB, szC]
               refine any_v 108 (i := 12) rfl rfl ?_
               simp only [Act.put, szA, szB, szC]
               refine any_v 109 (i := 13) rfl rfl ?_
               simp only [Act.put, szA, szB, szC]
               refine any_v 110 (i := 14) rfl rfl ?_
               simp only [Act.put, szA, szB, szC]
               refine any_v 111 (i := 15) rfl rfl ?_
               simp only [Act.put, szA, szB, szC]
               refine any_v 112 (i := 16) rfl rfl ?_
               simp only [Act.put, szA, szB, szC]
               refine any_v 113 (i := 17) rfl rfl ?_
               simp only [Act.put, szA, szB, szC]
               refine any_v 114 (i := 18) rfl rfl ?_
               simp only [Act.put, szA, szB, szC]
               refine any_v 115 (i := 19) rfl rfl ?_
               simp only [Act.put, szA, szB, szC]
               refine any_v 116 (i := 20) rfl rfl ?_
               simp only [Act.put, szA, szB, szC]
               refine any_v 117 (i := 21) rfl rfl ?_
               simp only [Act.put, szA, szB, szC]
               refine any_v 118 (i := 22) rfl rfl ?_
               simp only [Act.put, szA, szB, szC]
               refine any_v 119 (i := 23) rfl rfl ?_
               simp only [Act.put, szA, szB, szC]
               refine any_v 120 (i := 24) rfl rfl ?_
               simp only [Act.put, szA, szB, szC]
               refine any_v 121 (i := 25) rfl rfl ?_
               simp only [Act.put, szA, szB, szC]
               refine any_v 122 (i := 26) rfl rfl ?_
               simp only [Act.put, szA, szB, szC]
               refine any_u 123 (.bool false) (i := 27) rfl rfl ?_
               simp only [Act.put, szA, szB, szC]
               refine wpAnyH_done (by kernel_rfl) ?_ _
               clear hHeld
               have HFx := Lib.hid (hfr.out.trans' F1 (fun _ _ e => e))
               clear hfr
               go_wp2
               go_roundw
               case rel => exact ⟨u + 1, by omega, by go_num, HNu, HFx⟩
               case measure => simp [Go.RowKit.intOf]; omega
              ·cases du
               ·cases dv
                ·have HNu := Lib.hid (hNu (hq1 (.inr ⟨rfl, rfl⟩)))
                 clear hNu hq1 hq2
                 go_wp2_with fail
                 refine wp_region_held_drew (S := fun V => LdO V 26 ⟨w.heap.size, 0, none⟩ (.agg Z) ∧ V.cell? ⟨(ad.add (o * 6)).block, (ad.add (o * 6)).off + 1, none⟩ = some (.int .i64 co) ∧ V.cell? ⟨Gd, o, none⟩ = some (.slice (some ⟨go, 0, none⟩) n n) ∧ V.cell? ⟨go, u, none⟩ = some (.bool false) ∧ V.cell? ⟨Gd, u, none⟩ = some (.slice (some ⟨gu, 0, none⟩) n n) ∧ V.cell? ⟨gu, o, none⟩ = some (.bool false)) (by kernel_rfl) (HK.out _ ((Fr.refl No wr).drew)) (fun hHeld => ?_)
                 refine any_tk 96 (.agg Z) (i := 0) rfl rfl (by kernel_rfl) (fun _ _ _ h => h) (by rfl) (by intro w hSw; exact exec_ld rfl hSw.1) (by assumption) ?_
                 simp only [Act.put, szA, szB, szC]
                 refine any_u 97 (.slice (some ad) n c) (i := 1) rfl rfl ?_
                 simp only [Act.put, szA, szB, szC]
                 refine any_u 98 (.int .i64 ((a : Nat) : Int)) (i := 2) rfl rfl ?_
                 simp only [Act.put, szA, szB, szC]
                 refine any_u 99 (.int .i64 ((u : Nat) : Int)) (i := 3) rfl rfl ?_
                 simp only [Act.put, szA, szB, szC]
                 refine any_u 100 (.slice (some ad) n c) (i := 4) rfl rfl ?_
                 simp only [Act.put, szA, szB, szC]
                 refine any_u 101 (.int .i64 ((o : Nat) : Int)) (i := 5) rfl rfl ?_
                 simp only [Act.put, szA, szB, szC]
                 refine any_u 102 (.pointer (some (ad.add (o * 6)))) (i := 6) rfl rfl ?_
                 simp only [Act.put, szA, szB, szC]
                 refine any_u 103 (.pointer (some ⟨(ad.add (o * 6)).block, (ad.add (o * 6)).off + 1, none⟩)) (i := 7) rfl rfl ?_
                 simp only [Act.put, szA, szB, szC]
                 refine any_u 104 (.int .i64 co) (i := 8) rfl rfl ?_
                 simp only [Act.put, szA, szB, szC]
                 refine wpAnyH_ready (rs := [9]) (by kernel_rfl) (by simp) ?_
                 refine AllReadyH.cons rfl (fun K' hK => ?_) AllReadyH.nil
                 go_simp
                 go_at_call 32
                 refine (HJ.out _ ((Fr.refl No wr).drew)).mono ?_
                 rintro e' V1 ⟨rfl, g1⟩
                 have F1 : Fr No wr V1 := ((Fr.refl No wr).drew).trans' g1 (fun _ _ e => e)
                 refine hK.out _ _ (HK.out _ F1) (fun hHeld => ?_)
                 clear hK
                 try simp only [Act.put, szA, szB, szC]
                 refine any_u 106 (.bool true) (i := 10) rfl rfl ?_
                 simp only [Act.put, szA, szB, szC]
                 refine any_u 107 (.slice (some ⟨Gd, 0, none⟩) n n) (i := 11) rfl rfl ?_
                 simp only [Act.put, szA, szB, szC]
                 refine any_u 108 (.int .i64 ((o : Nat) : Int)) (i := 12) rfl rfl ?_
                 simp only [Act.put, szA, szB, szC]
                 refine any_u 109 (.pointer (some ⟨Gd, o, none⟩)) (i := 13) rfl rfl ?_
                 simp only [Act.put, szA, szB, szC]
                 refine any_u 110 (.slice (some ⟨go, 0, none⟩) n n) (i := 14) rfl rfl ?_
                 simp only [Act.put, szA, szB, szC]
                 refine any_u 111 (.int .i64 ((u : Nat) : Int)) (i := 15) rfl rfl ?_
                 simp only [Act.put, szA, szB, szC]
                 refine any_u 112 (.pointer (some ⟨go, u, none⟩)) (i := 16) rfl rfl ?_
                 simp only [Act.put, szA, szB, szC]
                 refine any_u 113 (.bool false) (i := 17) rfl rfl ?_
                 simp only [Act.put, szA, szB, szC]
                 refine any_u 114 (.bool false) (i := 18) rfl rfl ?_
                 simp only [Act.put, szA, szB, szC]
                 refine any_u 115 (.slice (some ⟨Gd, 0, none⟩) n n) (i := 19) rfl rfl ?_
                 simp only [Act.put, szA, szB, szC]
                 refine any_u 116 (.int .i64 ((u : Nat) : Int)) (i := 20) rfl rfl ?_
                 simp only [Act.put, szA, szB, szC]
                 refine any_u 117 (.pointer (some ⟨Gd, u, none⟩)) (i := 21) rfl rfl ?_
                 simp only [Act.put, szA, szB, szC]
                 refine any_u 118 (.slice (some ⟨gu, 0, none⟩) n n) (i := 22) rfl rfl ?_
                 simp only [Act.put, szA, szB, szC]
                 refine any_u 119 (.int .i64 ((o : Nat) : Int)) (i := 23) rfl rfl ?_
                 simp only [Act.put, szA, szB, szC]
                 refine any_u 120 (.pointer (some ⟨gu, o, none⟩)) (i := 24) rfl rfl ?_
                 simp only [Act.put, szA, szB, szC]
                 refine any_u 121 (.bool false) (i := 25) rfl rfl ?_
                 simp only [Act.put, szA, szB, szC]
                 refine any_u 122 (.bool false) (i := 26) rfl rfl ?_
                 simp only [Act.put, szA, szB, szC]
                 refine any_u 123 (.bool false) (i := 27) rfl rfl ?_
                 simp only [Act.put, szA, szB, szC]
                 refine wpAnyH_done (by kernel_rfl) ?_ _
                 clear hHeld
                 have HFx := Lib.hid (hfr.out.trans' F1 (fun _ _ e => e))
                 clear hfr
                 go_wp2
                 go_roundw
                 case rel => exact ⟨u + 1, by omega, by go_num, HNu, HFx⟩
                 case measure => simp [Go.RowKit.intOf]; omega
                ·have HRf := hq2 rfl (.inr rfl)
                 clear hNu hq1 hq2
                 go_wp2_with fail
                 refine wp_region_held_drew (S := fun V => LdO V 26 ⟨w.heap.size, 0, none⟩ (.agg Z) ∧ V.cell? ⟨(ad.add (o * 6)).block, (ad.add (o * 6)).off + 1, none⟩ = some (.int .i64 co) ∧ V.cell? ⟨Gd, o, none⟩ = some (.slice (some ⟨go, 0, none⟩) n n) ∧ V.cell? ⟨go, u, none⟩ = some (.bool false) ∧ V.cell? ⟨Gd, u, none⟩ = some (.slice (some ⟨gu, 0, none⟩) n n) ∧ V.cell? ⟨gu, o, none⟩ = some (.bool true)) (by kernel_rfl) (HK.out _ ((Fr.refl No wr).drew)) (fun hHeld => ?_)
                 refine any_tk 96 (.agg Z) (i := 0) rfl rfl (by kernel_rfl) (fun _ _ _ h => h) (by rfl) (by intro w hSw; exact exec_ld rfl hSw.1) (by assumption) ?_
                 simp only [Act.put, szA, szB, szC]
                 refine any_u 97 (.slice (some ad) n c) (i := 1) rfl rfl ?_
                 simp only [Act.put, szA, szB, szC]
                 refine any_u 98 (.int .i64 ((a : Nat) : Int)) (i := 2) rfl rfl ?_
                 simp only [Act.put, szA, szB, szC]
                 refine any_u 99 (.int .i64 ((u : Nat) : Int)) (i := 3) rfl rfl ?_
                 simp only [Act.put, szA, szB, szC]
                 refine any_u 100 (.slice (some ad) n c) (i := 4) rfl rfl ?_
                 simp only [Act.put, szA, szB, szC]
                 refine any_u 101 (.int .i64 ((o : Nat) : Int)) (i := 5) rfl rfl ?_
                 simp only [Act.put, szA, szB, szC]
                 refine any_u 102 (.pointer (some (ad.add (o * 6)))) (i := 6) rfl rfl ?_
                 simp only [Act.put, szA, szB, szC]
                 refine any_u 103 (.pointer (some ⟨(ad.add (o * 6)).block, (ad.add (o * 6)).off + 1, none⟩)) (i := 7) rfl rfl ?_
                 simp only [Act.put, szA, szB, szC]
                 refine any_u 104 (.int .i64 co) (i := 8) rfl rfl ?_
                 simp only [Act.put, szA, szB, szC]
                 refine wpAnyH_ready (rs := [9]) (by kernel_rfl) (by simp) ?_
                 refine AllReadyH.cons rfl (fun K' hK => ?_) AllReadyH.nil
                 go_simp
                 go_at_call 32
                 refine (HJ.out _ ((Fr.refl No wr).drew)).mono ?_
                 rintro e' V1 ⟨rfl, g1⟩
                 have F1 : Fr No wr V1 := ((Fr.refl No wr).drew).trans' g1 (fun _ _ e => e)
                 refine hK.out _ _ (HK.out _ F1) (fun hHeld => ?_)
                 clear hK
                 try simp only [Act.put, szA, szB, szC]
                 refine any_u 106 (.bool true) (i := 10) rfl rfl ?_
                 simp only [Act.put, szA, szB, szC]
                 refine any_u 107 (.slice (some ⟨Gd, 0, none⟩) n n) (i := 11) rfl rfl ?_
                 simp only [Act.put, szA, szB, szC]
                 refine any_u 108 (.int .i64 ((o : Nat) : Int)) (i := 12) rfl rfl ?_
                 simp only [Act.put, szA, szB, szC]
                 refine any_u 109 (.pointer (some ⟨Gd, o, none⟩)) (i := 13) rfl rfl ?_
                 simp only [Act.put, szA, szB, szC]
                 refine any_u 110 (.slice (some ⟨go, 0, none⟩) n n) (i := 14) rfl rfl ?_
                 simp only [Act.put, szA, szB, szC]
                 refine any_u 111 (.int .i64 ((u : Nat) : Int)) (i := 15) rfl rfl ?_
                 simp only [Act.put, szA, szB, szC]
                 refine any_u 112 (.pointer (some ⟨go, u, none⟩)) (i := 16) rfl rfl ?_
                 simp only [Act.put, szA, szB, szC]
                 refine any_u 113 (.bool false) (i := 17) rfl rfl ?_
                 simp only [Act.put, szA, szB, szC]
                 refine any_u 114 (.bool false) (i := 18) rfl rfl ?_
                 simp only [Act.put, szA, szB, szC]
                 refine any_u 115 (.slice (some ⟨Gd, 0, none⟩) n n) (i := 19) rfl rfl ?_
                 simp only [Act.put, szA, szB, szC]
                 refine any_u 116 (.int .i64 ((u : Nat) : Int)) (i := 20) rfl rfl ?_
                 simp only [Act.put, szA, szB, szC]
                 refine any_u 117 (.pointer (some ⟨Gd, u, none⟩)) (i := 21) rfl rfl ?_
                 simp only [Act.put, szA, szB, szC]
                 refine any_u 118 (.slice (some ⟨gu, 0, none⟩) n n) (i := 22) rfl rfl ?_
                 simp only [Act.put, szA, szB, szC]
                 refine any_u 119 (.int .i64 ((o : Nat) : Int)) (i := 23) rfl rfl ?_
                 simp only [Act.put, szA, szB, szC]
                 refine any_u 120 (.pointer (some ⟨gu, o, none⟩)) (i := 24) rfl rfl ?_
                 simp only [Act.put, szA, szB, szC]
                 refine any_u 121 (.bool true) (i := 25) rfl rfl ?_
                 simp only [Act.put, szA, szB, szC]
                 refine any_u 122 (.bool true) (i := 26) rfl rfl ?_
                 simp only [Act.put, szA, szB, szC]
                 refine any_u 123 (.bool true) (i := 27) rfl rfl ?_
                 simp only [Act.put, szA, szB, szC]
                 refine wpAnyH_done (by kernel_rfl) ?_ _
                 clear hHeld
                 have HFx := Lib.hid (hfr.out.trans' F1 (fun _ _ e => e))
                 clear hfr
                 go_wp2
                 go_ret
                 exact ⟨by rw [HRf]; rfl, HF3.out.trans' HFx.out (fun _ _ e => e)⟩
               ·have HRf := hq2 rfl (.inl rfl)
                clear hNu hq1 hq2
                go_wp2_with fail
                refine wp_region_held_drew (S := fun V => LdO V 26 ⟨w.heap.size, 0, none⟩ (.agg Z) ∧ V.cell? ⟨(ad.add (o * 6)).block, (ad.add (o * 6)).off + 1, none⟩ = some (.int .i64 co) ∧ V.cell? ⟨Gd, o, none⟩ = some (.slice (some ⟨go, 0, none⟩) n n) ∧ V.cell? ⟨go, u, none⟩ = some (.bool true) ∧ V.cell? ⟨Gd, u, none⟩ = some (.slice (some ⟨gu, 0, none⟩) n n) ∧ V.cell? ⟨gu, o, none⟩ = some (.bool dv)) (by kernel_rfl) (HK.out _ ((Fr.refl No wr).drew)) (fun hHeld => ?_)
                refine any_tk 96 (.agg Z) (i := 0) rfl rfl (by kernel_rfl) (fun _ _ _ h => h) (by rfl) (by intro w hSw; exact exec_ld rfl hSw.1) (by assumption) ?_
                simp only [Act.put, szA, szB, szC]
                refine any_u 97 (.slice (some ad) n c) (i := 1) rfl rfl ?_
                simp only [Act.put, szA, szB, szC]
                refine any_u 98 (.int .i64 ((a : Nat) : Int)) (i := 2) rfl rfl ?_
                simp only [Act.put, szA, szB, szC]
                refine any_u 99 (.int .i64 ((u : Nat) : Int)) (i := 3) rfl rfl ?_
                simp only [Act.put, szA, szB, szC]
                refine any_u 100 (.slice (some ad) n c) (i := 4) rfl rfl ?_
                simp only [Act.put, szA, szB, szC]
                refine any_u 101 (.int .i64 ((o : Nat) : Int)) (i := 5) rfl rfl ?_
                simp only [Act.put, szA, szB, szC]
                refine any_u 102 (.pointer (some (ad.add (o * 6)))) (i := 6) rfl rfl ?_
                simp only [Act.put, szA, szB, szC]
                refine any_u 103 (.pointer (some ⟨(ad.add (o * 6)).block, (ad.add (o * 6)).off + 1, none⟩)) (i := 7) rfl rfl ?_
                simp only [Act.put, szA, szB, szC]
                refine any_u 104 (.int .i64 co) (i := 8) rfl rfl ?_
                simp only [Act.put, szA, szB, szC]
                refine wpAnyH_ready (rs := [9]) (by kernel_rfl) (by simp) ?_
                refine AllReadyH.cons rfl (fun K' hK => ?_) AllReadyH.nil
                go_simp
                go_at_call 32
                refine (HJ.out _ ((Fr.refl No wr).drew)).mono ?_
                rintro e' V1 ⟨rfl, g1⟩
                have F1 : Fr No wr V1 := ((Fr.refl No wr).drew).trans' g1 (fun _ _ e => e)
                refine hK.out _ _ (HK.out _ F1) (fun hHeld => ?_)
                clear hK
                try simp only [Act.put, szA, szB, szC]
                refine any_u 106 (.bool true) (i := 10) rfl rfl ?_
                simp only [Act.put, szA, szB, szC]
                refine any_u 107 (.slice (some ⟨Gd, 0, none⟩) n n) (i := 11) rfl rfl ?_
                simp only [Act.put, szA, szB, szC]
                refine any_u 108 (.int .i64 ((o : Nat) : Int)) (i := 12) rfl rfl ?_
                simp only [Act.put, szA, szB, szC]
                refine any_u 109 (.pointer (some ⟨Gd, o, none⟩)) (i := 13) rfl rfl ?_
                simp only [Act.put, szA, szB, szC]
                refine any_u 110 (.slice (some ⟨go, 0, none⟩) n n) (i := 14) rfl rfl ?_
                simp only [Act.put, szA, szB, szC]
                refine any_u 111 (.int .i64 ((u : Nat) : Int)) (i := 15) rfl rfl ?_
                simp only [Act.put, szA, szB, szC]
                refine any_u 112 (.pointer (some ⟨go, u, none⟩)) (i := 16) rfl rfl ?_
                simp only [Act.put, szA, szB, szC]
                refine any_u 113 (.bool true) (i := 17) rfl rfl ?_
                simp only [Act.put, szA, szB, szC]
                refine any_u 114 (.bool true) (i := 18) rfl rfl ?_
                simp only [Act.put, szA, szB, szC]
                refine any_v 115 (i := 19) rfl rfl ?_
                simp only [Act.put, szA, szB, szC]
                refine any_v 116 (i := 20) rfl rfl ?_
                simp only [Act.put, szA, szB, szC]
                refine any_v 117 (i := 21) rfl rfl ?_
                simp only [Act.put, szA, szB, szC]
                refine any_v 118 (i := 22) rfl rfl ?_
                simp only [Act.put, szA, szB, szC]
                refine any_v 119 (i := 23) rfl rfl ?_
                simp only [Act.put, szA, szB, szC]
                refine any_v 120 (i := 24) rfl rfl ?_
                simp only [Act.put, szA, szB, szC]
                refine any_v 121 (i := 25) rfl rfl ?_
                simp only [Act.put, szA, szB, szC]
                refine any_u 122 (.bool true) (i := 26) rfl rfl ?_
                simp only [Act.put, szA, szB, szC]
                refine any_u 123 (.bool true) (i := 27) rfl rfl ?_
                simp only [Act.put, szA, szB, szC]
                refine wpAnyH_done (by kernel_rfl) ?_ _
                clear hHeld
                have HFx := Lib.hid (hfr.out.trans' F1 (fun _ _ e => e))
                clear hfr
                go_wp2
                go_ret
                exact ⟨by rw [HRf]; rfl, HF3.out.trans' HFx.out (fun _ _ e => e)⟩
             ·obtain rfl : u = n := by omega
              have HNx := Lib.hid (HNX.out (fun u' h1 => hpu.out u' h1))
              clear hpu HQn HRb
              go_wp2
              go_roundw
              case rel => exact ⟨b + 1, by omega, by go_num, HNx, hfr⟩
              case measure => simp [Go.RowKit.intOf]; omega
       ·obtain rfl : b = n := by omega
        have HNa : Hid (∀ a' b' u, a' < a + 1 → b' < b → u < b → Q o a' b' u) := Lib.hid (fun a' b' u h1 h2 h3 => by
         by_cases e : a' = a
         ·rw [e]; exact hpb.out b' u h2 h3
         ·exact hpa.out a' b' u (by omega) h2 h3)
        clear hpb hpa
        go_wp2
        go_roundw
        case rel => exact ⟨a + 1, by omega, by go_num, HNa, hfr⟩
        case measure => simp [Go.RowKit.intOf]; omega
     ·obtain rfl : a = n := by omega
      have HNo : Hid (∀ o' a' b u, o' < o + 1 → a' < a → b < a → u < a → Q o' a' b u) := Lib.hid (fun o' a' b u h1 h2 h3 h4 => by
       by_cases e : o' = o
       ·rw [e]; exact hpa.out a' b u h2 h3 h4
       ·exact hpo.out o' a' b u (by omega) h2 h3 h4)
      clear hpa hpo
      go_wp2
      go_roundw
      case rel => exact ⟨o + 1, by omega, by go_num, HNo, hfr⟩
      case measure => simp [Go.RowKit.intOf]; omega
   ·obtain rfl : o = n := by omega
    have HR := HY.out (fun o' a b u h1 h2 h3 h4 => hpo.out o' a b u h1 h2 h3 h4)
    clear hpo HY Hbad HQ
    go_wp2
    go_ret
    exact ⟨by rw [HR]; rfl, HF3.out.trans' hfr.out (fun _ _ e => e)⟩
end Go.Proofs.YtmeimhpllemjfaaGreat
