/- The document's own: is some order that begins so fair? -/
import Derived.Test.YtmeimhpllemjfaaGreatRfr17
namespace Go.Proofs.YtmeimhpllemjfaaGreat
open Go.RowKit

theorem slLit17 (w : World) (t : TypeId) (cs : Array Value) (xs : List Value) (H : Nat) (hH : H = w.heap.size) (hl : cs.toList = xs) : Sl (w.alloc (.cells cs t)) (H + 1) (some ⟨H, 0, none⟩) xs := by
 subst hH
 subst hl
 exact Sl.made w t cs
theorem wp_ints17 {w : World} {o : Oper} {a : Act} {K : Act → World → Prop} {Q : Exit → Act → World → Prop} (s x : Operand) (d : Tmp) (hd : o.dst = some d)
  (ho : o.op = .call { callee := .builtin .append, args := #[s, x], argTypes := #[28, 28] })
  (base : Nat) (A : Option Addr) (n c : Nat) (xs : List Int) (hs : a.eval s = .slice A n c) (B : Nat) (A2 : Option Addr) (m c2 : Nat) (ys : List Int) (hx : a.eval x = .slice A2 m c2) (hm : ys.length = m) (hr : Sl w B A2 (ints ys))
  (hown : w.ownsRow base 3 1 (.slice A n c) n (ints xs)) (hlen : n + m ≤ 1048576) (hbase : base ≤ w.heap.size)
  (h : ∀ A' c' w', w'.ownsRow base 3 1 (.slice A' (n + m) c') (n + m) (ints (xs ++ ys)) → Fr (fun k => (Value.slice A n c).ownBlock = some k) w w' → K (a.put (some d) (.slice A' (n + m) c')) w') :
  Oper.wp Tryz.prog o a w K Q := by
 rw [← hd] at h
 obtain ⟨i, hi, hz, hz1, hz2⟩ := info_parts info_int16
 refine wp_append_src w s x _ ho base 3 i _ 1 8 Tryz.underlying28 hi hz hz1 hz2 rfl (by omega) (.slice A n c) n (ints xs) hs hown B A2 m c2 (ints ys) hx (by simp [ints, hm]) hr (by intro u hu; simp [ints] at hu; obtain ⟨k, _, rfl⟩ := hu; rfl) (by unfold maxLen; omega) (by omega) hbase ?_
 intro v' w' q1 q2 q3
 obtain ⟨A', c', rfl, -, -, -⟩ := own_shape q1
 rw [show ints xs ++ ints ys = ints (xs ++ ys) by simp [ints]] at q1
 exact h A' c' w' q1 ((Fr.refl _ w).grown q2 (fun k hk => .inl hk))
set_option maxRecDepth 100000 in
set_option maxHeartbeats 16000000 in
theorem refSrc17 (x : Ctl) (h : List Ndl) (A : Option Addr) (n c : Nat) (hn : h.length = n) (hf : Nds.Few h) (hmay : mayH x.p (ndsOf h) = true) : ∀ (cnt : Nat) (t : List Int) (AO : Option Addr) (m co : Nat) (w : World) (r : Bool), n - m = cnt → m ≤ n → t.length = m → okA t n m = true → Clss w x.cA x.cls → Nds w A h → Sl w w.heap.size AO (ints t) → (r = true ↔ srcS x.p (ndsOf h) t) →
  Calls Tryz.prog 37 #[x.agg, .slice A n c, .slice AO m co] w (Has w r) := by
 have hlen : (ndsOf h).length = n := by rw [ndsOf_len]; exact hn
 have h100 := mayH_len hmay
 rw [ndsOf_len, hn] at h100
 intro cnt
 induction cnt using Nat.strongRecOn with
 | _ cnt ih =>
 intro t AO m co w r hcnt hmn htl hok hx hs hso hr
 by_cases hfull : m = n
 ·have HFa := Lib.hid (fun W (hW : Fr No w W) => refFair17 x h A n c t AO m co W (hx.since hW) (hs.since hW) hn hf hmay (hso.since hW) htl (by omega) r (hr.trans ((src_full (by rw [hlen, htl]; exact hok) (by rw [htl, hfull, hlen])).trans ⟨fun q => ⟨by unfold isOrd; rw [htl, hok, hfull, decide_eq_true rfl]; rfl, q⟩, fun q => q.2⟩)))
  clear ih hr hs hso
  unfold Ctl.agg at HFa ⊢
  obtain ⟨Z, hZ⟩ : ∃ Z, Z = x.arr := ⟨_, rfl⟩
  rw [← hZ] at HFa ⊢
  rw [Ctl.arr_eq] at hZ
  obtain ⟨W0, hW0⟩ : ∃ W0, W0 = w.alloc (.cells Z 26) := ⟨_, rfl⟩
  have bZ : Bk W0 w.heap.size 26 Z := by rw [hW0]; exact Bk.made w _ _
  have HF0 : Hid (Fr No w W0) := Lib.hid (by rw [hW0]; exact (Fr.refl _ _).alloc _)
  have HL := Lib.hid (show LdO W0 26 ⟨w.heap.size, 0, none⟩ (.agg Z) from ld_cat hZ bZ)
  have hwe := hW0.symm
  have d1 : ((m : Int) == (n : Int)) = true := by simp [hfull]
  clear hZ hW0 bZ hx hok hfull hcnt htl
  go_enter Tryz.func37, Tryz.ntmps37
  go_wp2_with (first
   | ((with_reducible refine wpl_ld ?_ ?_ HL.out ?_); (· rfl); (· rfl); simp only [Act.put, szA, szB, szC]))
  refine (HFa.out _ HF0.out).mono ?_
  rintro e w1 ⟨rfl, f1⟩
  go_wp2
  go_ret
  exact ⟨rfl, HF0.out.trans' f1 (fun _ _ e => e)⟩
 ·have hmlt : m < n := by omega
  have hstep := src_step (x := x.p) (h := ndsOf h) (t := t) (by rw [hlen, htl]; exact hmlt)
  have Hyes := Lib.hid (fun (i : Nat) (hi : i < n) (hp : plc t i < 0) (q : srcS x.p (ndsOf h) (t ++ [(i : Int)])) => show r = true from hr.2 (hstep.2 ⟨i, by rw [hlen]; exact hi, hp, q⟩))
  have Hno := Lib.hid (fun (q : ∀ i : Nat, i < n → plc t i < 0 → ¬ srcS x.p (ndsOf h) (t ++ [(i : Int)])) => show r = false by
   cases e : r
   ·rfl
   ·obtain ⟨i, h1, h2, h3⟩ := hstep.1 (hr.1 e)
    exact absurd h3 (q i (by rw [← hlen]; exact h1) h2))
  have HRec := Lib.hid (fun (i : Nat) (hi : i < n) (hp : plc t i < 0) (ri : Bool) (hri : ri = true ↔ srcS x.p (ndsOf h) (t ++ [(i : Int)])) (Y : Option Addr) (yc B : Nat) V (hV : Fr No w V) (hO : V.ownsRow B 3 1 (.slice Y (m + 1) yc) (m + 1) (ints (t ++ [(i : Int)]))) => ih (n - (m + 1)) (by omega) (t ++ [(i : Int)]) Y (m + 1) yc V ri rfl (by omega) (by simp [htl]) (by
   have := okA_more t (i : Int) n
   rw [show (t ++ [(i : Int)]).length = m + 1 by simp [htl], show t.length = m from htl, hok, Int.toNat_natCast, decide_eq_true (show plc t i < 0 from hp), decide_eq_true (show (0 : Int) ≤ (i : Int) ∧ (i : Int) < (n : Int) by omega)] at this
   exact this) (hx.since hV) (hs.since hV) (Sl.ofOwn hO) hri)
  have Htl := Lib.hid htl
  have HSo := Lib.hid (fun V (hV : Fr No w V) => hso.since hV)
  have HNu := Lib.hid (fun (k : Nat) (hk : k < t.length) V (hV : Fr No w V) => sl_int17 (hso.since hV) hk)
  have HPs := Lib.hid (fun k i => plA_step t k i)
  have Hplc := Lib.hid (fun (i : Nat) => show plc t i = plA t m i by unfold plc; rw [htl])
  generalize srcS x.p (ndsOf h) = sS at *
  clear ih hr hstep hs hso hok htl hlen
  unfold Ctl.agg at HRec ⊢
  obtain ⟨Z, hZ⟩ : ∃ Z, Z = x.arr := ⟨_, rfl⟩
  rw [← hZ] at HRec ⊢
  rw [Ctl.arr_eq] at hZ
  obtain ⟨W0, hW0⟩ : ∃ W0, W0 = w.alloc (.cells Z 26) := ⟨_, rfl⟩
  have bZ : Bk W0 w.heap.size 26 Z := by rw [hW0]; exact Bk.made w _ _
  have HF0 : Hid (Fr No w W0) := Lib.hid (by rw [hW0]; exact (Fr.refl _ _).alloc _)
  have HLd := Lib.hid (fun V (hV : Fr No W0 V) => show LdO V 26 ⟨w.heap.size, 0, none⟩ (.agg Z) from ld_cat hZ (bZ.fr hV (fun e => e)))
  have hwe := hW0.symm
  have d1 : ((m : Int) == (n : Int)) = false := by simp; omega
  clear hZ hW0 bZ hx hcnt hfull hn hf hmay
  go_enter Tryz.func37, Tryz.ntmps37
  go_wp2
  clear hwe
  go_loopw [7] (fun iv wr => ∃ i : Nat, i ≤ n ∧ iv = .int .i64 (i : Int) ∧ Hid (∀ i', i' < i → plc t i' < 0 → ¬ sS (t ++ [(i' : Int)])) ∧ Hid (Fr No W0 wr)) (fun iv _ => n - (Go.RowKit.intOf iv).toNat)
  case atStart => exact ⟨0, Nat.zero_le _, rfl, Lib.hid (fun _ h1 => by omega), Lib.hid (Fr.refl _ _)⟩
  case round =>
   obtain ⟨i, hi, rfl, hpre, hfr⟩ := hrel
   by_cases hin : i < n
   ·have hini : ((i : Nat) : Int) < (n : Int) := by omega
    go_wp2
    go_loopw [8, 9] (fun fv kv wv => ∃ k : Nat, k ≤ m ∧ fv = .bool (decide (plA t k i < 0)) ∧ kv = .int .i64 (k : Int) ∧ Hid (Fr No W0 wv)) (fun _ kv _ => m - (Go.RowKit.intOf kv).toNat)
    case atStart => exact ⟨0, Nat.zero_le _, by simp [plA], rfl, hfr⟩
    case round =>
     clear hfr
     obtain ⟨k, hk, rfl, rfl, hfr⟩ := hrel
     have HFw := HF0.out.trans' hfr.out (fun _ _ e => e)
     by_cases hkm : k < m
     ·have hkmi : ((k : Nat) : Int) < (m : Int) := by omega
      obtain ⟨ao, rfl, -, a0⟩ := HNu.out k (by rw [Htl.out]; exact hkm) wr HFw
      have hp1 := HPs.out k i
      generalize t.getD k (-1) = y at *
      by_cases hy : y = (i : Int)
      ·have e1 : (y == (i : Int)) = true := by simp [hy]
       have HD : Hid (decide (plA t (k + 1) i < 0) = false) := Lib.hid (by rw [hp1, if_pos hy]; exact decide_eq_false (by omega))
       clear hp1 HFw
       cases hb : decide (plA t k i < 0)
       ·go_wp2
        go_roundw
        case rel => exact ⟨k + 1, by omega, by rw [HD.out], by go_num, hfr⟩
        case measure => simp [Go.RowKit.intOf]; omega
       ·go_wp2
        go_roundw
        case rel => exact ⟨k + 1, by omega, by first | (rw [HD.out]; done) | (rw [HD.out]; simp [hy]), by go_num, hfr⟩
        case measure => simp [Go.RowKit.intOf]; omega
      ·have e1 : (y == (i : Int)) = false := by simpa using hy
       have HD : Hid (decide (plA t (k + 1) i < 0) = decide (plA t k i < 0)) := Lib.hid (by rw [hp1, if_neg hy])
       clear hp1 HFw
       cases hb : decide (plA t k i < 0)
       ·rw [hb] at HD
        go_wp2
        go_roundw
        case rel => exact ⟨k + 1, by omega, by rw [HD.out], by go_num, hfr⟩
        case measure => simp [Go.RowKit.intOf]; omega
       ·rw [hb] at HD
        go_wp2
        go_roundw
        case rel => exact ⟨k + 1, by omega, by first | (rw [HD.out]; done) | (rw [HD.out]; simp [hy]), by go_num, hfr⟩
        case measure => simp [Go.RowKit.intOf]; omega
     ·obtain rfl : k = m := by omega
      have hpl := Hplc.out i
      by_cases hfree : plA t k i < 0
      ·rw [decide_eq_true hfree]
       have hpi : plc t i < 0 := by rw [hpl]; exact hfree
       obtain ⟨ri, hri⟩ : ∃ ri : Bool, ri = true ↔ sS (t ++ [(i : Int)]) := by
        by_cases e : sS (t ++ [(i : Int)])
        ·exact ⟨true, fun _ => e, fun _ => rfl⟩
        ·exact ⟨false, fun q => (by cases q), fun q => absurd q e⟩
       have HRi := Lib.hid (fun Y yc B V (hV : Fr No wr V) hO => HRec.out i hin hpi ri hri Y yc B V (HFw.trans' hV (fun _ _ e => e)) hO)
       have hYs := fun (e : ri = true) => Hyes.out i hin hpi (hri.1 e)
       have hNo := fun (e : ri = false) => show ∀ i', i' < i + 1 → plc t i' < 0 → ¬ sS (t ++ [(i' : Int)]) from fun i' h1 h2 h3 => by
        by_cases q : i' = i
        ·rw [q] at h3
         rw [hri.2 h3] at e
         cases e
        ·exact hpre.out i' (by omega) h2 h3
       have HLw := Lib.hid (fun V (hV : Fr No wr V) => HLd.out V (hfr.out.trans' hV (fun _ _ e => e)))
       clear hpl hpi hri hpre
       go_wp2_with fail
       refine wp_region_held_drew (S := fun V => LdO V 26 ⟨w.heap.size, 0, none⟩ (.agg Z)) (by kernel_rfl) (HLw.out _ ((Fr.refl No wr).drew)) (fun hHeld => ?_)
       refine any_u 40 (.bool true) (i := 0) rfl rfl ?_
       simp only [Act.put, szA, szB, szC]
       refine any_u 41 (.bool true) (i := 1) rfl rfl ?_
       simp only [Act.put, szA, szB, szC]
       refine any_tk 42 (.agg Z) (i := 2) rfl rfl (by kernel_rfl) (fun _ _ _ h => h) (by rfl) (by intro w hSw; exact exec_ld rfl hSw) (by assumption) ?_
       simp only [Act.put, szA, szB, szC]
       refine any_u 43 (.slice A n c) (i := 3) rfl rfl ?_
       simp only [Act.put, szA, szB, szC]
       refine any_u 45 (.slice AO k co) (i := 5) rfl rfl ?_
       simp only [Act.put, szA, szB, szC]
       refine any_u 47 (.int .i64 ((i : Nat) : Int)) (i := 7) rfl rfl ?_
       simp only [Act.put, szA, szB, szC]
       have fD : Fr No wr wr.drew := (Fr.refl No wr).drew
       refine wpAnyH_ready (rs := [4, 8]) (by kernel_rfl) (by simp) ?_
       refine AllReadyH.cons rfl (fun K' hK => ?_) (AllReadyH.cons rfl (fun K' hK => ?_) AllReadyH.nil)
       ·go_simp
        have FE1 : Fr No wr (wr.drew.alloc (.cells #[] 3)) := fD.alloc _
        have OE1 : (wr.drew.alloc (.cells #[] 3)).ownsRow wr.heap.size 3 1 (.slice (some ⟨wr.heap.size, 0, none⟩) 0 0) 0 [] := by
         have h : (wr.drew.alloc (.cells #[] 3)).ownsRow wr.heap.size 3 1 (.slice (some ⟨wr.drew.heap.size, 0, none⟩) 0 0) 0 [] := own_base (World.ownsRow_lit wr.drew #[] 0 (Nat.le_refl _) (Nat.zero_le _) rfl) fD.size
         rw [show wr.drew.heap.size = wr.heap.size by simp] at h
         exact h
        refine hK.out _ _ (HLw.out _ FE1) (fun hHeld => ?_)
        clear hK
        try simp only [Act.put, szA, szB, szC]
        refine wpAnyH_ready (rs := [6, 8]) (by kernel_rfl) (by simp) ?_
        refine AllReadyH.cons rfl (fun K' hK => ?_) (AllReadyH.cons rfl (fun K' hK => ?_) AllReadyH.nil)
        ·refine wp_ints17 _ _ _ rfl rfl wr.heap.size (some ⟨wr.heap.size, 0, none⟩) 0 0 [] rfl wr.heap.size AO k co t rfl Htl.out ((HSo.out wr HFw).fr FE1 (Nat.le_refl _) (fun _ _ _ e => e)) OE1 (by omega) FE1.size ?_
         intro X1 x1 v1 OX1 FX1
         rw [Nat.zero_add] at OX1 ⊢
         rw [List.nil_append] at OX1
         have FY1 : Fr No wr v1 := FE1.trans' FX1 (fun j hj e => by have := ((OE1).lt _ e).1; omega)
         refine hK.out _ _ (HLw.out _ FY1) (fun hHeld => ?_)
         clear hK
         try simp only [Act.put, szA, szB, szC]
         refine wpAnyH_ready (rs := [8]) (by kernel_rfl) (by simp) ?_
         refine AllReadyH.cons rfl (fun K' hK => ?_) AllReadyH.nil
         have OW1 : (v1.alloc (.cells #[.int .i64 (i : Int)] 3)).ownsRow wr.heap.size 3 1 (.slice X1 k x1) k (ints t) := OX1.alloc _
         go_simp
         have FO1 : Fr No wr (v1.alloc (.cells #[.int .i64 (i : Int)] 3)) := FY1.alloc _
         have SO1 : Sl (v1.alloc (.cells #[.int .i64 (i : Int)] 3)) (v1.heap.size + 1) (some ⟨v1.heap.size, 0, none⟩) (ints [(i : Int)]) := slLit17 _ _ _ _ _ (by simp) rfl
         refine hK.out _ _ (HLw.out _ FO1) (fun hHeld => ?_)
         clear hK
         try simp only [Act.put, szA, szB, szC]
         refine wpAnyH_ready (rs := [9]) (by kernel_rfl) (by simp) ?_
         refine AllReadyH.cons rfl (fun K' hK => ?_) AllReadyH.nil
         refine wp_ints17 _ _ _ rfl rfl wr.heap.size X1 k x1 t rfl _ (some ⟨v1.heap.size, 0, none⟩) 1 1 [(i : Int)] rfl rfl SO1 OW1 (by omega) FO1.size ?_
         intro Y yc wz OZ FX2
         have FZ0 : Fr No wr wz := FO1.trans' FX2 (fun j hj e => by have := ((OW1).lt _ e).1; omega)
         refine hK.out _ _ (HLw.out _ FZ0) (fun hHeld => ?_)
         clear hK
         try simp only [Act.put, szA, szB, szC]
         refine wpAnyH_ready (rs := [10]) (by kernel_rfl) (by simp) ?_
         refine AllReadyH.cons rfl (fun K' hK => ?_) AllReadyH.nil
         go_simp
         go_at_call 37
         refine (HRi.out Y yc _ wz FZ0 OZ).mono ?_
         rintro e' V6 ⟨rfl, g6⟩
         have F6 : Fr No wr V6 := FZ0.trans' g6 (fun _ _ e => e)
         refine hK.out _ _ (HLw.out _ F6) (fun hHeld => ?_)
         clear hK
         try simp only [Act.put, szA, szB, szC]
         refine any_u 51 (.bool ri) (i := 11) rfl rfl ?_
         simp only [Act.put, szA, szB, szC]
         refine wpAnyH_done (by kernel_rfl) ?_ _
         clear hHeld
         have HFx := Lib.hid (hfr.out.trans' F6 (fun _ _ e => e))
         cases ri
         ·have HNx := Lib.hid (hNo rfl)
          clear hYs hNo
          go_wp2
          go_roundw
          case rel => exact ⟨i + 1, by omega, by go_num, HNx, HFx⟩
          case measure => simp [Go.RowKit.intOf]; omega
         ·have HT := hYs rfl
          clear hYs hNo
          go_wp2
          go_ret
          exact ⟨by rw [HT]; rfl, HF0.out.trans' HFx.out (fun _ _ e => e)⟩
        ·go_simp
         have FO2 : Fr No wr ((wr.drew.alloc (.cells #[] 3)).alloc (.cells #[.int .i64 (i : Int)] 3)) := FE1.alloc _
         have SO2 : Sl ((wr.drew.alloc (.cells #[] 3)).alloc (.cells #[.int .i64 (i : Int)] 3)) ((wr.heap.size + 1) + 1) (some ⟨(wr.heap.size + 1), 0, none⟩) (ints [(i : Int)]) := slLit17 _ _ _ _ _ (by simp) rfl
         refine hK.out _ _ (HLw.out _ FO2) (fun hHeld => ?_)
         clear hK
         try simp only [Act.put, szA, szB, szC]
         refine wpAnyH_ready (rs := [6]) (by kernel_rfl) (by simp) ?_
         refine AllReadyH.cons rfl (fun K' hK => ?_) AllReadyH.nil
         have OW2 : ((wr.drew.alloc (.cells #[] 3)).alloc (.cells #[.int .i64 (i : Int)] 3)).ownsRow wr.heap.size 3 1 (.slice (some ⟨wr.heap.size, 0, none⟩) 0 0) 0 [] := OE1.alloc _
         refine wp_ints17 _ _ _ rfl rfl wr.heap.size (some ⟨wr.heap.size, 0, none⟩) 0 0 [] rfl wr.heap.size AO k co t rfl Htl.out ((HSo.out wr HFw).fr FO2 (Nat.le_refl _) (fun _ _ _ e => e)) OW2 (by omega) FO2.size ?_
         intro X3 x3 v3 OX3 FX3
         rw [Nat.zero_add] at OX3 ⊢
         rw [List.nil_append] at OX3
         have FY3 : Fr No wr v3 := FO2.trans' FX3 (fun j hj e => by have := ((OW2).lt _ e).1; omega)
         refine hK.out _ _ (HLw.out _ FY3) (fun hHeld => ?_)
         clear hK
         try simp only [Act.put, szA, szB, szC]
         refine wpAnyH_ready (rs := [9]) (by kernel_rfl) (by simp) ?_
         refine AllReadyH.cons rfl (fun K' hK => ?_) AllReadyH.nil
         refine wp_ints17 _ _ _ rfl rfl wr.heap.size X3 k x3 t rfl _ (some ⟨(wr.heap.size + 1), 0, none⟩) 1 1 [(i : Int)] rfl rfl (SO2.fr FX3 (by simp) (fun ad e _ h => by injection e with e; subst e; simp [Value.ownBlock] at h)) OX3 (by omega) FY3.size ?_
         intro Y yc wz OZ FX4
         have FZ0 : Fr No wr wz := FY3.trans' FX4 (fun j hj e => by have := ((OX3).lt _ e).1; omega)
         refine hK.out _ _ (HLw.out _ FZ0) (fun hHeld => ?_)
         clear hK
         try simp only [Act.put, szA, szB, szC]
         refine wpAnyH_ready (rs := [10]) (by kernel_rfl) (by simp) ?_
         refine AllReadyH.cons rfl (fun K' hK => ?_) AllReadyH.nil
         go_simp
         go_at_call 37
         refine (HRi.out Y yc _ wz FZ0 OZ).mono ?_
         rintro e' V6 ⟨rfl, g6⟩
         have F6 : Fr No wr V6 := FZ0.trans' g6 (fun _ _ e => e)
         refine hK.out _ _ (HLw.out _ F6) (fun hHeld => ?_)
         clear hK
         try simp only [Act.put, szA, szB, szC]
         refine any_u 51 (.bool ri) (i := 11) rfl rfl ?_
         simp only [Act.put, szA, szB, szC]
         refine wpAnyH_done (by kernel_rfl) ?_ _
         clear hHeld
         have HFx := Lib.hid (hfr.out.trans' F6 (fun _ _ e => e))
         cases ri
         ·have HNx := Lib.hid (hNo rfl)
          clear hYs hNo
          go_wp2
          go_roundw
          case rel => exact ⟨i + 1, by omega, by go_num, HNx, HFx⟩
          case measure => simp [Go.RowKit.intOf]; omega
         ·have HT := hYs rfl
          clear hYs hNo
          go_wp2
          go_ret
          exact ⟨by rw [HT]; rfl, HF0.out.trans' HFx.out (fun _ _ e => e)⟩
       ·go_simp
        have FO3 : Fr No wr (wr.drew.alloc (.cells #[.int .i64 (i : Int)] 3)) := fD.alloc _
        have SO3 : Sl (wr.drew.alloc (.cells #[.int .i64 (i : Int)] 3)) (wr.heap.size + 1) (some ⟨wr.heap.size, 0, none⟩) (ints [(i : Int)]) := slLit17 _ _ _ _ _ (by simp) rfl
        refine hK.out _ _ (HLw.out _ FO3) (fun hHeld => ?_)
        clear hK
        try simp only [Act.put, szA, szB, szC]
        refine wpAnyH_ready (rs := [4]) (by kernel_rfl) (by simp) ?_
        refine AllReadyH.cons rfl (fun K' hK => ?_) AllReadyH.nil
        go_simp
        have FE2 : Fr No wr ((wr.drew.alloc (.cells #[.int .i64 (i : Int)] 3)).alloc (.cells #[] 3)) := FO3.alloc _
        have OE2 : ((wr.drew.alloc (.cells #[.int .i64 (i : Int)] 3)).alloc (.cells #[] 3)).ownsRow wr.heap.size 3 1 (.slice (some ⟨(wr.heap.size + 1), 0, none⟩) 0 0) 0 [] := by
         have h : ((wr.drew.alloc (.cells #[.int .i64 (i : Int)] 3)).alloc (.cells #[] 3)).ownsRow wr.heap.size 3 1 (.slice (some ⟨(wr.drew.alloc (.cells #[.int .i64 (i : Int)] 3)).heap.size, 0, none⟩) 0 0) 0 [] := own_base (World.ownsRow_lit (wr.drew.alloc (.cells #[.int .i64 (i : Int)] 3)) #[] 0 (Nat.le_refl _) (Nat.zero_le _) rfl) FO3.size
         rw [show (wr.drew.alloc (.cells #[.int .i64 (i : Int)] 3)).heap.size = (wr.heap.size + 1) by simp] at h
         exact h
        refine hK.out _ _ (HLw.out _ FE2) (fun hHeld => ?_)
        clear hK
        try simp only [Act.put, szA, szB, szC]
        refine wpAnyH_ready (rs := [6]) (by kernel_rfl) (by simp) ?_
        refine AllReadyH.cons rfl (fun K' hK => ?_) AllReadyH.nil
        refine wp_ints17 _ _ _ rfl rfl wr.heap.size (some ⟨(wr.heap.size + 1), 0, none⟩) 0 0 [] rfl wr.heap.size AO k co t rfl Htl.out ((HSo.out wr HFw).fr FE2 (Nat.le_refl _) (fun _ _ _ e => e)) OE2 (by omega) FE2.size ?_
        intro X5 x5 v5 OX5 FX5
        rw [Nat.zero_add] at OX5 ⊢
        rw [List.nil_append] at OX5
        have FY5 : Fr No wr v5 := FE2.trans' FX5 (fun j hj e => by have := ((OE2).lt _ e).1; omega)
        refine hK.out _ _ (HLw.out _ FY5) (fun hHeld => ?_)
        clear hK
        try simp only [Act.put, szA, szB, szC]
        refine wpAnyH_ready (rs := [9]) (by kernel_rfl) (by simp) ?_
        refine AllReadyH.cons rfl (fun K' hK => ?_) AllReadyH.nil
        refine wp_ints17 _ _ _ rfl rfl wr.heap.size X5 k x5 t rfl _ (some ⟨wr.heap.size, 0, none⟩) 1 1 [(i : Int)] rfl rfl ((SO3.fr ((Fr.refl No _).alloc _) (by simp) (fun _ _ _ e => e)).fr FX5 (by simp) (fun ad e _ h => by injection e with e; subst e; simp [Value.ownBlock] at h)) OX5 (by omega) FY5.size ?_
        intro Y yc wz OZ FX6
        have FZ0 : Fr No wr wz := FY5.trans' FX6 (fun j hj e => by have := ((OX5).lt _ e).1; omega)
        refine hK.out _ _ (HLw.out _ FZ0) (fun hHeld => ?_)
        clear hK
        try simp only [Act.put, szA, szB, szC]
        refine wpAnyH_ready (rs := [10]) (by kernel_rfl) (by simp) ?_
        refine AllReadyH.cons rfl (fun K' hK => ?_) AllReadyH.nil
        go_simp
        go_at_call 37
        refine (HRi.out Y yc _ wz FZ0 OZ).mono ?_
        rintro e' V6 ⟨rfl, g6⟩
        have F6 : Fr No wr V6 := FZ0.trans' g6 (fun _ _ e => e)
        refine hK.out _ _ (HLw.out _ F6) (fun hHeld => ?_)
        clear hK
        try simp only [Act.put, szA, szB, szC]
        refine any_u 51 (.bool ri) (i := 11) rfl rfl ?_
        simp only [Act.put, szA, szB, szC]
        refine wpAnyH_done (by kernel_rfl) ?_ _
        clear hHeld
        have HFx := Lib.hid (hfr.out.trans' F6 (fun _ _ e => e))
        cases ri
        ·have HNx := Lib.hid (hNo rfl)
         clear hYs hNo
         go_wp2
         go_roundw
         case rel => exact ⟨i + 1, by omega, by go_num, HNx, HFx⟩
         case measure => simp [Go.RowKit.intOf]; omega
        ·have HT := hYs rfl
         clear hYs hNo
         go_wp2
         go_ret
         exact ⟨by rw [HT]; rfl, HF0.out.trans' HFx.out (fun _ _ e => e)⟩
      ·rw [decide_eq_false hfree]
       have HNx : Hid (∀ i', i' < i + 1 → plc t i' < 0 → ¬ sS (t ++ [(i' : Int)])) := Lib.hid (fun i' h1 h2 => by
        by_cases q : i' = i
        ·rw [q, hpl] at h2
         exact absurd h2 hfree
        ·exact hpre.out i' (by omega) h2)
       have HLw := Lib.hid (fun V (hV : Fr No wr V) => HLd.out V (hfr.out.trans' hV (fun _ _ e => e)))
       clear hpl hpre
       go_wp2_with fail
       refine wp_region_held_drew (S := fun V => LdO V 26 ⟨w.heap.size, 0, none⟩ (.agg Z)) (by kernel_rfl) (HLw.out _ ((Fr.refl No wr).drew)) (fun hHeld => ?_)
       refine any_u 40 (.bool false) (i := 0) rfl rfl ?_
       simp only [Act.put, szA, szB, szC]
       refine any_u 41 (.bool false) (i := 1) rfl rfl ?_
       simp only [Act.put, szA, szB, szC]
       refine any_v 42 (i := 2) rfl rfl ?_
       simp only [Act.put, szA, szB, szC]
       refine any_v 43 (i := 3) rfl rfl ?_
       simp only [Act.put, szA, szB, szC]
       refine any_v 44 (i := 4) rfl rfl ?_
       simp only [Act.put, szA, szB, szC]
       refine any_v 45 (i := 5) rfl rfl ?_
       simp only [Act.put, szA, szB, szC]
       refine any_v 46 (i := 6) rfl rfl ?_
       simp only [Act.put, szA, szB, szC]
       refine any_v 47 (i := 7) rfl rfl ?_
       simp only [Act.put, szA, szB, szC]
       refine any_v 48 (i := 8) rfl rfl ?_
       simp only [Act.put, szA, szB, szC]
       refine any_v 49 (i := 9) rfl rfl ?_
       simp only [Act.put, szA, szB, szC]
       refine any_v 50 (i := 10) rfl rfl ?_
       simp only [Act.put, szA, szB, szC]
       refine any_u 51 (.bool false) (i := 11) rfl rfl ?_
       simp only [Act.put, szA, szB, szC]
       refine wpAnyH_done (by kernel_rfl) ?_ _
       clear hHeld
       have HFx := Lib.hid (hfr.out.drew)
       go_wp2
       go_roundw
       case rel => exact ⟨i + 1, by omega, by go_num, HNx, HFx⟩
       case measure => simp [Go.RowKit.intOf]; omega
   ·obtain rfl : i = n := by omega
    have HR := Hno.out (fun i' h1 h2 => hpre.out i' h1 h2)
    clear hpre Hno Hyes
    go_wp2
    go_ret
    exact ⟨by rw [HR]; rfl, HF0.out.trans' hfr.out (fun _ _ e => e)⟩
end Go.Proofs.YtmeimhpllemjfaaGreat
