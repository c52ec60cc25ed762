/- The document's own: units, whether a class is there, bounds. -/
import Derived.Test.YtmeimhpllemjfaaGreatUnt14
import Derived.Test.YtmeimhpllemjfaaGreatWls12
import Derived.Test.YtmeimhpllemjfaaGreatMyp12
import Derived.Test.YtmeimhpllemjfaaGreatHand
namespace Go.Proofs.YtmeimhpllemjfaaGreat
open Go.RowKit

theorem has_eq (x : Ctl) (c : Int) : x.p.has c = decide (0 ≤ c ∧ c < (x.cls.length : Int)) := by unfold PCt.has; simp [Ctl.p]
theorem steps_eq (x : Ctl) {c : Nat} (hc : c < x.cls.length) : x.p.steps (c : Int) = x.cls[c].steps.length := by
 unfold PCt.steps
 rw [Int.toNat_natCast, pct_at x hc]
 simp [Cls.p]
set_option maxRecDepth 100000 in
set_option maxHeartbeats 1000000 in
theorem refThere14_any (x : Ctl) (c : Int) (w : World) : Calls Tryz.prog 22 #[x.agg, .int .i64 c] w (Has w (x.p.has c)) := by
 rw [has_eq]
 unfold Ctl.agg
 obtain ⟨Z, hZ⟩ : ∃ Z, Z = x.arr := ⟨_, rfl⟩
 rw [← hZ]
 rw [Ctl.arr_eq] at hZ
 obtain ⟨W0, hW0⟩ : ∃ W0, W0 = w.alloc (.cells Z 26) := ⟨_, rfl⟩
 have bZ : Bk W0 w.heap.size 26 Z := by rw [hW0]; exact Bk.made w _ _
 have HF0 : Hid (Fr No w W0) := Lib.hid (by rw [hW0]; exact (Fr.refl _ _).alloc _)
 have HLd : Hid (∀ V, Fr No W0 V → LdO V 26 ⟨w.heap.size, 0, none⟩ (.agg Z) ∧ V.cell? ⟨w.heap.size, 0, none⟩ = some (.slice x.cA x.cls.length x.cc)) := Lib.hid (fun V h => ⟨ld_cat hZ (bZ.fr h (fun e => e)), by rw [(bZ.fr h (fun e => e)).cell, hZ]; rfl⟩)
 have hwe := hW0.symm
 clear hZ hW0 bZ
 have x0 := (HLd.out W0 (Fr.refl _ _)).2
 generalize x.cls.length = n at *
 clear HLd
 by_cases h1 : 0 ≤ c
 ·by_cases h2 : c < (n : Int)
  ·rw [decide_eq_true (And.intro h1 h2)]
   go_enter Tryz.func22, Tryz.ntmps22
   go_wp2
   go_ret
   exact ⟨rfl, HF0.out⟩
  ·have e0 : decide (0 ≤ c ∧ c < (n : Int)) = false := decide_eq_false (by omega)
   rw [e0]
   clear e0
   go_enter Tryz.func22, Tryz.ntmps22
   go_wp2
   go_ret
   exact ⟨rfl, HF0.out⟩
 ·have e0 : decide (0 ≤ c ∧ c < (n : Int)) = false := decide_eq_false (by omega)
  rw [e0]
  clear e0
  go_enter Tryz.func22, Tryz.ntmps22
  go_wp2
  go_ret
  exact ⟨rfl, HF0.out⟩
theorem refBrk14_any (x : Ctl) (c d i : Nat) (w : World) (hx : Clss w x.cA x.cls) (hok : x.p.ok = true) (hc : c < x.cls.length) (hd : d < x.cls.length) (hi : i ≤ 1000) :
  Calls Tryz.prog 70 #[x.agg, .int .i64 (c : Int), .int .i64 (d : Int), .int .i64 (i : Int)] w (Has w (x.p.bks (c : Int) (d : Int) i)) := by
 have hn := (nice_of_ok hok).few.n
 have hs := (nice_of_ok hok).few.small (j := c * 4 + d) (by omega)
 have h := refBreak_any x c d i w hx hn hc hd hi (by omega)
 have e1 : x.p.cs.length = x.cls.length := by simp [Ctl.p]
 have e : x.p.bks (c : Int) (d : Int) i = (decide (i + 1 < (x.p.at c).steps.length) && bitB (x.b (c * 4 + d)) i) := by
  unfold PCt.bks PCt.brk
  rw [e1, decide_eq_true (show 0 ≤ (c : Int) ∧ (c : Int) < (x.cls.length : Int) ∧ (c : Int) < 4 by omega), decide_eq_true (show 0 ≤ (d : Int) ∧ (d : Int) < (x.cls.length : Int) ∧ (d : Int) < 4 by omega)]
  simp only [Int.toNat_natCast, Bool.true_and]
  show (_ && bitB (x.p.b (c * 4 + d)) i) = _
  congr 1
  exact decide_eq_decide.2 (by omega)
 rw [e]
 exact h
set_option maxRecDepth 100000 in
set_option maxHeartbeats 2000000 in
theorem refUnit14_any (x : Ctl) (c d i : Nat) (w : World) (hx : Clss w x.cA x.cls) (hok : x.p.ok = true) (hc : c < x.cls.length) (hd : d < x.cls.length) (hi : i ≤ 1000) :
  Calls Tryz.prog 50 #[x.agg, .int .i64 (c : Int), .int .i64 (d : Int), .int .i64 (i : Int)] w fun e w' => e = .returned (.int .i64 ((cntB (x.p.bks c d) i : Nat) : Int)) ∧ Fr No w w' := by
 have HB := Lib.hid (fun (k : Nat) (hk : k ≤ 1000) W (h : Fr No w W) => refBrk14_any x c d k W (hx.since h) hok hc hd hk)
 generalize x.p.bks (c : Int) (d : Int) = p at *
 unfold Ctl.agg at HB ⊢
 obtain ⟨Z, hZ⟩ : ∃ Z, Z = x.arr := ⟨_, rfl⟩
 rw [← hZ] at HB ⊢
 rw [Ctl.arr_eq] at hZ
 obtain ⟨W0, hW0⟩ : ∃ W0, W0 = w.alloc (.cells Z 26) := ⟨_, rfl⟩
 have bZ : Bk W0 w.heap.size 26 Z := by rw [hW0]; exact Bk.made w _ _
 have HF0 : Hid (Fr No w W0) := Lib.hid (by rw [hW0]; exact (Fr.refl _ _).alloc _)
 have HLd : Hid (∀ V, Fr No W0 V → LdO V 26 ⟨w.heap.size, 0, none⟩ (.agg Z) ∧ V.cell? ⟨w.heap.size, 0, none⟩ = some (.slice x.cA x.cls.length x.cc)) := Lib.hid (fun V h => ⟨ld_cat hZ (bZ.fr h (fun e => e)), by rw [(bZ.fr h (fun e => e)).cell, hZ]; rfl⟩)
 have hwe := hW0.symm
 clear hZ hW0 bZ
 clear hx hok hc hd
 have Hst := Lib.hid (fun k => show cntB p (k + 1) = cntB p k + (if p k = true then 1 else 0) from rfl)
 go_enter Tryz.func50, Tryz.ntmps50
 go_wp2
 go_loopw [9, 10] (fun nv iv wr => ∃ (k u : Nat), k ≤ i ∧ iv = .int .i64 (k : Int) ∧ nv = .int .i64 (u : Int) ∧ Hid (u = cntB p k) ∧ u ≤ k ∧ Hid (Fr No W0 wr)) (fun _ iv _ => i - (intOf iv).toNat)
 case atStart => exact ⟨0, 0, Nat.zero_le _, rfl, rfl, Lib.hid rfl, Nat.zero_le _, Lib.hid (Fr.refl _ _)⟩
 case round =>
  obtain ⟨k, u, hk, rfl, rfl, hu, huk, hfr⟩ := hrel
  by_cases hlt : k < i
  ·have HL := Lib.hid (HLd.out wr hfr.out).1
   have HC := Lib.hid (HB.out k (by omega) wr (HF0.out.trans' hfr.out (fun _ _ e => e)))
   have Hu1 : Hid (cntB p (k + 1) = u + (if p k = true then 1 else 0)) := Lib.hid (by rw [Hst.out, hu.out])
   generalize p k = b at *
   clear hu hwe
   cases b
   ·go_wp2_with (first
     | ((with_reducible refine wpl_ld ?_ ?_ HL.out ?_); (· rfl); (· rfl); simp only [Act.put, szA, szB, szC]))
    refine (HC.out).mono ?_
    rintro e w1 ⟨rfl, f1⟩
    have F1 := Lib.hid (hfr.out.trans' f1 (fun _ _ e => e))
    clear f1 HL HC hfr
    go_wp2
    go_roundw
    case rel => exact ⟨k + 1, u, by omega, by go_num, rfl, Lib.hid (by rw [Hu1.out]; rfl), by omega, F1⟩
    case measure => simp [intOf]; omega
   ·go_wp2_with (first
     | ((with_reducible refine wpl_ld ?_ ?_ HL.out ?_); (· rfl); (· rfl); simp only [Act.put, szA, szB, szC]))
    refine (HC.out).mono ?_
    rintro e w1 ⟨rfl, f1⟩
    have F1 := Lib.hid (hfr.out.trans' f1 (fun _ _ e => e))
    clear f1 HL HC hfr
    go_wp2
    go_roundw
    case rel => exact ⟨k + 1, u + 1, by omega, by go_num, by go_num, Lib.hid (by rw [Hu1.out]; rfl), by omega, F1⟩
    case measure => simp [intOf]; omega
  ·obtain rfl : k = i := by omega
   go_wp2
   go_ret
   exact ⟨by rw [hu.out]; rfl, HF0.out.trans' hfr.out (fun _ _ e => e)⟩
end Go.Proofs.YtmeimhpllemjfaaGreat
/- The document's own: the bounds of a unit. -/
namespace Go.Proofs.YtmeimhpllemjfaaGreat
open Go.RowKit

end Go.Proofs.YtmeimhpllemjfaaGreat
