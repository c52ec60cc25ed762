/- The document's own: units, whether a class is there, bounds. -/
import Derived.Test.YtkihbjgmmaklaaaUnt14
import Derived.Test.YtkihbjgmmaklaaaWls12
import Derived.Test.YtkihbjgmmaklaaaAlv12
import Derived.Test.YtkihbjgmmaklaaaHand
namespace Go.Proofs.Ytkihbjgmmaklaaa
open Go.RowKit

theorem has_eq (x : Ctl) (c : Int) : x.p.has c = decide (0 ≤ c ∧ c < (x.cls.length : Int)) := by unfold PCt.has; simp [Ctl.p]
theorem steps_eq (x : Ctl) {c : Nat} (hc : c < x.cls.length) : x.p.steps (c : Int) = x.cls[c].steps.length := by
  unfold PCt.steps
  rw [Int.toNat_natCast, pct_at x hc]
  simp [Cls.p]
set_option maxRecDepth 100000 in
set_option maxHeartbeats 1000000 in
theorem refThere14_any (x : Ctl) (c : Int) (w : World) : Calls Try.prog 18 #[x.agg, .int .i64 c] w (Has w (x.p.has c)) := by
  rw [has_eq]
  unfold Ctl.agg
  obtain ⟨Z, hZ⟩ : ∃ Z, Z = x.arr := ⟨_, rfl⟩
  rw [← hZ]
  rw [Ctl.arr_eq] at hZ
  obtain ⟨W0, hW0⟩ : ∃ W0, W0 = w.alloc (.cells Z 26) := ⟨_, rfl⟩
  have bZ : Bk W0 w.heap.size 26 Z := by rw [hW0]; exact Bk.made w _ _
  have HF0 : Hid (Fr No w W0) := Lib.hid (by rw [hW0]; exact (Fr.refl _ _).alloc _)
  have HLd : Hid (∀ V, Fr No W0 V → LdO V 26 ⟨w.heap.size, 0, none⟩ (.agg Z) ∧ V.cell? ⟨w.heap.size, 0, none⟩ = some (.slice x.cA x.cls.length x.cc)) := Lib.hid (fun V h => ⟨ld_cat hZ (bZ.fr h (fun e => e)), by rw [(bZ.fr h (fun e => e)).cell, hZ]; rfl⟩)
  have hwe := hW0.symm
  clear hZ hW0 bZ
  have x0 := (HLd.out W0 (Fr.refl _ _)).2
  generalize x.cls.length = n at *
  clear HLd
  by_cases h1 : 0 ≤ c
  · by_cases h2 : c < (n : Int)
    · rw [decide_eq_true (And.intro h1 h2)]
      go_enter Try.func18, Try.ntmps18
      go_wp2
      go_ret
      exact ⟨rfl, HF0.out⟩
    · have e0 : decide (0 ≤ c ∧ c < (n : Int)) = false := decide_eq_false (by omega)
      rw [e0]
      clear e0
      go_enter Try.func18, Try.ntmps18
      go_wp2
      go_ret
      exact ⟨rfl, HF0.out⟩
  · have e0 : decide (0 ≤ c ∧ c < (n : Int)) = false := decide_eq_false (by omega)
    rw [e0]
    clear e0
    go_enter Try.func18, Try.ntmps18
    go_wp2
    go_ret
    exact ⟨rfl, HF0.out⟩
theorem refBrk14_any (x : Ctl) (c d i : Nat) (w : World) (hx : Clss w x.cA x.cls) (hok : x.p.ok = true) (hc : c < x.cls.length) (hd : d < x.cls.length) (hi : i ≤ 1000) :
    Calls Try.prog 51 #[x.agg, .int .i64 (c : Int), .int .i64 (d : Int), .int .i64 (i : Int)] w (Has w (x.p.bks (c : Int) (d : Int) i)) := by
  have hn := (nice_of_ok hok).few.n
  have hs := (nice_of_ok hok).few.small (j := c * 4 + d) (by omega)
  have h := refBreak_any x c d i w hx hn hc hd hi (by omega)
  have e1 : x.p.cs.length = x.cls.length := by simp [Ctl.p]
  have e : x.p.bks (c : Int) (d : Int) i = (decide (i + 1 < (x.p.at c).steps.length) && bitB (x.b (c * 4 + d)) i) := by
    unfold PCt.bks PCt.brk
    rw [e1, decide_eq_true (show 0 ≤ (c : Int) ∧ (c : Int) < (x.cls.length : Int) ∧ (c : Int) < 4 by omega), decide_eq_true (show 0 ≤ (d : Int) ∧ (d : Int) < (x.cls.length : Int) ∧ (d : Int) < 4 by omega)]
    simp only [Int.toNat_natCast, Bool.true_and]
    show (_ && bitB (x.p.b (c * 4 + d)) i) = _
    congr 1
    exact decide_eq_decide.2 (by omega)
  rw [e]
  exact h
set_option maxRecDepth 100000 in
set_option maxHeartbeats 2000000 in
theorem refUnit14_any (x : Ctl) (c d i : Nat) (w : World) (hx : Clss w x.cA x.cls) (hok : x.p.ok = true) (hc : c < x.cls.length) (hd : d < x.cls.length) (hi : i ≤ 1000) :
    Calls Try.prog 29 #[x.agg, .int .i64 (c : Int), .int .i64 (d : Int), .int .i64 (i : Int)] w fun e w' => e = .returned (.int .i64 ((cntB (x.p.bks c d) i : Nat) : Int)) ∧ Fr No w w' := by
  have HB := Lib.hid (fun (k : Nat) (hk : k ≤ 1000) W (h : Fr No w W) => refBrk14_any x c d k W (hx.since h) hok hc hd hk)
  generalize x.p.bks (c : Int) (d : Int) = p at *
  unfold Ctl.agg at HB ⊢
  obtain ⟨Z, hZ⟩ : ∃ Z, Z = x.arr := ⟨_, rfl⟩
  rw [← hZ] at HB ⊢
  rw [Ctl.arr_eq] at hZ
  obtain ⟨W0, hW0⟩ : ∃ W0, W0 = w.alloc (.cells Z 26) := ⟨_, rfl⟩
  have bZ : Bk W0 w.heap.size 26 Z := by rw [hW0]; exact Bk.made w _ _
  have HF0 : Hid (Fr No w W0) := Lib.hid (by rw [hW0]; exact (Fr.refl _ _).alloc _)
  have HLd : Hid (∀ V, Fr No W0 V → LdO V 26 ⟨w.heap.size, 0, none⟩ (.agg Z) ∧ V.cell? ⟨w.heap.size, 0, none⟩ = some (.slice x.cA x.cls.length x.cc)) := Lib.hid (fun V h => ⟨ld_cat hZ (bZ.fr h (fun e => e)), by rw [(bZ.fr h (fun e => e)).cell, hZ]; rfl⟩)
  have hwe := hW0.symm
  clear hZ hW0 bZ
  clear hx hok hc hd
  have Hst := Lib.hid (fun k => show cntB p (k + 1) = cntB p k + (if p k = true then 1 else 0) from rfl)
  go_enter Try.func29, Try.ntmps29
  go_wp2
  go_loopw [9, 10] (fun nv iv wr => ∃ (k u : Nat), k ≤ i ∧ iv = .int .i64 (k : Int) ∧ nv = .int .i64 (u : Int) ∧ Hid (u = cntB p k) ∧ u ≤ k ∧ Hid (Fr No W0 wr)) (fun _ iv _ => i - (intOf iv).toNat)
  case atStart => exact ⟨0, 0, Nat.zero_le _, rfl, rfl, Lib.hid rfl, Nat.zero_le _, Lib.hid (Fr.refl _ _)⟩
  case round =>
    obtain ⟨k, u, hk, rfl, rfl, hu, huk, hfr⟩ := hrel
    by_cases hlt : k < i
    · have HL := Lib.hid (HLd.out wr hfr.out).1
      have HC := Lib.hid (HB.out k (by omega) wr (HF0.out.trans' hfr.out (fun _ _ e => e)))
      have Hu1 : Hid (cntB p (k + 1) = u + (if p k = true then 1 else 0)) := Lib.hid (by rw [Hst.out, hu.out])
      generalize p k = b at *
      clear hu hwe
      cases b
      · go_wp2_with (first
          | ((with_reducible refine wpl_ld ?_ ?_ HL.out ?_); (· rfl); (· rfl); simp only [Act.put, List.setIfInBounds_toArray, List.set_cons_zero, List.set_cons_succ]))
        refine (HC.out).mono ?_
        rintro e w1 ⟨rfl, f1⟩
        have F1 := Lib.hid (hfr.out.trans' f1 (fun _ _ e => e))
        clear f1 HL HC hfr
        go_wp2
        go_roundw
        case rel => exact ⟨k + 1, u, by omega, by go_num, rfl, Lib.hid (by rw [Hu1.out]; rfl), by omega, F1⟩
        case measure => simp [intOf]; omega
      · go_wp2_with (first
          | ((with_reducible refine wpl_ld ?_ ?_ HL.out ?_); (· rfl); (· rfl); simp only [Act.put, List.setIfInBounds_toArray, List.set_cons_zero, List.set_cons_succ]))
        refine (HC.out).mono ?_
        rintro e w1 ⟨rfl, f1⟩
        have F1 := Lib.hid (hfr.out.trans' f1 (fun _ _ e => e))
        clear f1 HL HC hfr
        go_wp2
        go_roundw
        case rel => exact ⟨k + 1, u + 1, by omega, by go_num, by go_num, Lib.hid (by rw [Hu1.out]; rfl), by omega, F1⟩
        case measure => simp [intOf]; omega
    · obtain rfl : k = i := by omega
      go_wp2
      go_ret
      exact ⟨by rw [hu.out]; rfl, HF0.out.trans' hfr.out (fun _ _ e => e)⟩
/-- The bounds, as the document finds them: the first and the last step of a unit's number. -/
def unitQ (p : Nat → Bool) (i k : Nat) : Bool := decide (cntB p k = cntB p i)
theorem firstQ_is {p : Nat → Bool} {n i : Nat} (hi : i < n) : firstP (unitQ p i) n = (loP p i : Nat) := by
  have l1 := loP_le p i
  have h1 := hiP_ge p n i
  refine firstP_at (by omega) (decide_eq_true ((unit_iff hi (by omega)).2 ⟨Nat.le_refl _, by omega⟩)) (fun j hj => decide_eq_false (fun e => ?_))
  have := (unit_iff hi (show j < n by omega)).1 e
  omega
theorem lastQ_is {p : Nat → Bool} {n i : Nat} (hi : i < n) : lastP (unitQ p i) n = (hiP p n i : Nat) := by
  have l1 := loP_le p i
  have h1 := hiP_ge p n i
  have h2 := hiP_lt p hi
  refine lastP_at h2 (decide_eq_true ((unit_iff hi h2).2 ⟨by omega, Nat.le_refl _⟩)) (fun j hj hn => decide_eq_false (fun e => ?_))
  have := (unit_iff hi hn).1 e
  omega
end Go.Proofs.Ytkihbjgmmaklaaa
/- The document's own: the bounds of a unit. -/
namespace Go.Proofs.Ytkihbjgmmaklaaa
open Go.RowKit

def Unit0 (w : World) (e : Ending) (w' : World) : Prop := e = .returned (.tuple #[.int .i64 0, .int .i64 0, .bool false]) ∧ Fr No w w'
set_option maxRecDepth 100000 in
set_option maxHeartbeats 2000000 in
theorem refBounds14_no (x : Ctl) (c d i : Int) (w : World) (hx : Clss w x.cA x.cls) (hno : x.p.isU c d i = false) : Calls Try.prog 11 #[x.agg, .int .i64 c, .int .i64 d, .int .i64 i] w (Unit0 w) := by
  have HT1 := Lib.hid (fun W => refThere14_any x c W)
  have HT2 := Lib.hid (fun W => refThere14_any x d W)
  unfold PCt.isU at hno
  have Hsl := Lib.hid (fun (k : Nat) (hk : k < x.cls.length) W (h : Fr No w W) => (hx.since h).sl.cls hk)
  have Hst := Lib.hid (fun (k : Nat) (hk : k < x.cls.length) => steps_eq x hk)
  have He := Lib.hid (has_eq x c)
  unfold Ctl.agg at HT1 HT2 ⊢
  obtain ⟨Z, hZ⟩ : ∃ Z, Z = x.arr := ⟨_, rfl⟩
  rw [← hZ] at HT1 HT2 ⊢
  rw [Ctl.arr_eq] at hZ
  obtain ⟨W0, hW0⟩ : ∃ W0, W0 = w.alloc (.cells Z 26) := ⟨_, rfl⟩
  have bZ : Bk W0 w.heap.size 26 Z := by rw [hW0]; exact Bk.made w _ _
  have HF0 : Hid (Fr No w W0) := Lib.hid (by rw [hW0]; exact (Fr.refl _ _).alloc _)
  have HLd : Hid (∀ V, Fr No W0 V → LdO V 26 ⟨w.heap.size, 0, none⟩ (.agg Z) ∧ V.cell? ⟨w.heap.size, 0, none⟩ = some (.slice x.cA x.cls.length x.cc)) := Lib.hid (fun V h => ⟨ld_cat hZ (bZ.fr h (fun e => e)), by rw [(bZ.fr h (fun e => e)).cell, hZ]; rfl⟩)
  have hwe := hW0.symm
  clear hZ hW0 bZ
  clear hx
  cases h1 : x.p.has c
  · rw [h1] at HT1
    clear hno He Hst Hsl h1
    go_enter Try.func11, Try.ntmps11
    have HL := Lib.hid (HLd.out W0 (Fr.refl _ _)).1
    go_wp2_with (first
      | ((with_reducible refine wpl_ld ?_ ?_ HL.out ?_); (· rfl); (· rfl); simp only [Act.put, List.setIfInBounds_toArray, List.set_cons_zero, List.set_cons_succ]))
    refine (HT1.out _).mono ?_
    rintro e w1 ⟨rfl, f1⟩
    go_wp2
    refine bodyPost_ret (results_tmp3 rfl _ _ _) rfl ?_
    exact ⟨rfl, HF0.out.trans' f1 (fun _ _ e => e)⟩
  rw [h1] at HT1 hno
  cases h2 : x.p.has d
  · rw [h2] at HT2
    clear hno He Hst Hsl h2
    go_enter Try.func11, Try.ntmps11
    have HL := Lib.hid (HLd.out W0 (Fr.refl _ _)).1
    go_wp2_with (first
      | ((with_reducible refine wpl_ld ?_ ?_ HL.out ?_); (· rfl); (· rfl); simp only [Act.put, List.setIfInBounds_toArray, List.set_cons_zero, List.set_cons_succ]))
    refine (HT1.out _).mono ?_
    rintro e w1 ⟨rfl, f1⟩
    have HL1 := Lib.hid (HLd.out w1 f1).1
    go_wp2_with (first
      | ((with_reducible refine wpl_ldg ?_ ?_ HL1.out ?_); (· rfl); (· rfl); simp only [Act.put, List.setIfInBounds_toArray, List.set_cons_zero, List.set_cons_succ]))
    refine (HT2.out _).mono ?_
    rintro e w2 ⟨rfl, f2⟩
    go_wp2
    refine bodyPost_ret (results_tmp3 rfl _ _ _) rfl ?_
    exact ⟨rfl, HF0.out.trans' (f1.trans' f2 (fun _ _ e => e)) (fun _ _ e => e)⟩
  rw [h2] at HT2 hno
  simp only [Bool.true_and, decide_eq_false_iff_not] at hno
  have h1' := h1
  rw [He.out, decide_eq_true_eq] at h1'
  obtain ⟨k, rfl⟩ := Int.eq_ofNat_of_zero_le h1'.1
  have hk : k < x.cls.length := by omega
  rw [Hst.out k hk] at hno
  have hkn : ((k : Nat) : Int) < (x.cls.length : Int) := by omega
  clear He Hst h1 h2 h1'
  go_enter Try.func11, Try.ntmps11
  have HL := Lib.hid (HLd.out W0 (Fr.refl _ _)).1
  go_wp2_with (first
    | ((with_reducible refine wpl_ld ?_ ?_ HL.out ?_); (· rfl); (· rfl); simp only [Act.put, List.setIfInBounds_toArray, List.set_cons_zero, List.set_cons_succ]))
  refine (HT1.out _).mono ?_
  rintro e w1 ⟨rfl, f1⟩
  have HL1 := Lib.hid (HLd.out w1 f1).1
  go_wp2_with (first
    | ((with_reducible refine wpl_ldg ?_ ?_ HL1.out ?_); (· rfl); (· rfl); simp only [Act.put, List.setIfInBounds_toArray, List.set_cons_zero, List.set_cons_succ]))
  refine (HT2.out _).mono ?_
  rintro e w2 ⟨rfl, f2⟩
  have f2' := f1.trans' f2 (fun _ _ e => e)
  have HF2 := Lib.hid (HF0.out.trans' f2' (fun _ _ e => e))
  have y0 := (HLd.out w2 f2').2
  obtain ⟨ad, e1, hab, c0, c1, c2, c3, c4⟩ := Hsl.out k hk w2 HF2.out
  clear f1 f2 f2' HL HL1 hwe c0 c1 c3 c4 Hsl
  generalize x.cls[k].steps.length = L at *
  generalize x.cls[k].sA = sA at *
  generalize x.cls[k].sc = sc at *
  generalize x.cls.length = n at *
  by_cases hi0 : i < 0
  · go_wp2
    refine bodyPost_ret (results_tmp3 rfl _ _ _) rfl ?_
    exact ⟨rfl, HF2.out⟩
  · have hi1 : (L : Int) ≤ i := by omega
    rw [e1] at y0
    clear hno
    go_wp2
    refine bodyPost_ret (results_tmp3 rfl _ _ _) rfl ?_
    exact ⟨rfl, HF2.out⟩

set_option maxRecDepth 100000 in
set_option maxHeartbeats 4000000 in
theorem refBounds14_in (x : Ctl) (c d i : Nat) (w : World) (hx : Clss w x.cA x.cls) (hok : x.p.ok = true) (hc : c < x.cls.length) (hd : d < x.cls.length) (hi : i < x.cls[c].steps.length) :
    Calls Try.prog 11 #[x.agg, .int .i64 (c : Int), .int .i64 (d : Int), .int .i64 (i : Int)] w
      fun e w' => e = .returned (.tuple #[.int .i64 ((loP (x.p.bks c d) i : Nat) : Int), .int .i64 ((hiP (x.p.bks c d) x.cls[c].steps.length i : Nat) : Int), .bool true]) ∧ Fr No w w' := by
  have hL4 : x.cls[c].steps.length ≤ 4 := (nice_of_ok hok).few.st _ (List.getElem_mem hc)
  have HT1 := Lib.hid (fun W => refThere14_any x c W)
  have HT2 := Lib.hid (fun W => refThere14_any x d W)
  rw [has_eq, decide_eq_true (by omega)] at HT1
  rw [has_eq, decide_eq_true (by omega)] at HT2
  have HU := Lib.hid (fun (k : Nat) (hk : k ≤ 1000) W (h : Fr No w W) => refUnit14_any x c d k W (hx.since h) hok hc hd hk)
  have Hsl := Lib.hid (fun W (h : Fr No w W) => (hx.since h).sl.cls hc)
  generalize x.p.bks (c : Int) (d : Int) = p at *
  unfold Ctl.agg at HT1 HT2 HU ⊢
  obtain ⟨Z, hZ⟩ : ∃ Z, Z = x.arr := ⟨_, rfl⟩
  rw [← hZ] at HT1 HT2 HU ⊢
  rw [Ctl.arr_eq] at hZ
  obtain ⟨W0, hW0⟩ : ∃ W0, W0 = w.alloc (.cells Z 26) := ⟨_, rfl⟩
  have bZ : Bk W0 w.heap.size 26 Z := by rw [hW0]; exact Bk.made w _ _
  have HF0 : Hid (Fr No w W0) := Lib.hid (by rw [hW0]; exact (Fr.refl _ _).alloc _)
  have HLd : Hid (∀ V, Fr No W0 V → LdO V 26 ⟨w.heap.size, 0, none⟩ (.agg Z) ∧ V.cell? ⟨w.heap.size, 0, none⟩ = some (.slice x.cA x.cls.length x.cc)) := Lib.hid (fun V h => ⟨ld_cat hZ (bZ.fr h (fun e => e)), by rw [(bZ.fr h (fun e => e)).cell, hZ]; rfl⟩)
  have hwe := hW0.symm
  clear hZ hW0 bZ
  clear hx hok
  generalize x.cls[c].steps.length = L at *
  generalize x.cls[c].comps.length = M at *
  generalize x.cls[c].name = nm at *
  generalize x.cls[c].args = ar at *
  generalize x.cls[c].sA = sA at *
  generalize x.cls[c].sc = sc at *
  generalize x.cls[c].uA = uA at *
  generalize x.cls[c].uc = uc at *
  generalize x.cls[c].res = re at *
  have hcn : ((c : Nat) : Int) < (x.cls.length : Int) := by omega
  generalize x.cA = cA at *
  have Hlo : Hid (firstP (unitQ p i) L = (loP p i : Nat)) := Lib.hid (firstQ_is hi)
  have Hhi : Hid (lastP (unitQ p i) L = (hiP p L i : Nat)) := Lib.hid (lastQ_is hi)
  rw [← Hlo.out, ← Hhi.out]
  clear Hlo Hhi
  have d0 : decide ((i : Int) < 0) = false := decide_eq_false (by omega)
  have d1 : decide (L ≤ i) = false := decide_eq_false (by omega)
  go_enter Try.func11, Try.ntmps11
  have HL := Lib.hid (HLd.out W0 (Fr.refl _ _)).1
  go_wp2_with (first
    | ((with_reducible refine wpl_ld ?_ ?_ HL.out ?_); (· rfl); (· rfl); simp only [Act.put, List.setIfInBounds_toArray, List.set_cons_zero, List.set_cons_succ]))
  refine (HT1.out _).mono ?_
  rintro e w1 ⟨rfl, f1⟩
  have HL1 := Lib.hid (HLd.out w1 f1).1
  go_wp2_with (first
    | ((with_reducible refine wpl_ldg ?_ ?_ HL1.out ?_); (· rfl); (· rfl); simp only [Act.put, List.setIfInBounds_toArray, List.set_cons_zero, List.set_cons_succ]))
  refine (HT2.out _).mono ?_
  rintro e w2 ⟨rfl, f2⟩
  have F2 := Lib.hid (f1.trans' f2 (fun _ _ e => e))
  obtain ⟨ad, e1, hab, c0, c1, c2, c3, c4⟩ := Hsl.out w2 (HF0.out.trans' F2.out (fun _ _ e => e))
  subst e1
  have y0 := (HLd.out w2 F2.out).2
  clear c0 c1 c3 c4 f1 f2 HL HL1 hwe
  go_wp2
  clear y0 c2
  go_loopw [11, 12, 13] (fun lov hiv kv wr => ∃ (k : Nat) (lo hi : Int), k ≤ L ∧ lov = .int .i64 lo ∧ hiv = .int .i64 hi ∧ kv = .int .i64 (k : Int) ∧ Hid (lo = firstP (unitQ p i) k) ∧ Hid (hi = lastP (unitQ p i) k) ∧ -1 ≤ lo ∧ lo < k ∧ -1 ≤ hi ∧ hi < k ∧ Hid (Fr No W0 wr)) (fun _ _ kv _ => L - (intOf kv).toNat)
  case atStart => exact ⟨0, -1, -1, Nat.zero_le _, rfl, rfl, rfl, Lib.hid rfl, Lib.hid rfl, by omega, by omega, by omega, by omega, F2⟩
  case round =>
    obtain ⟨k, lo, hi2, hk, rfl, rfl, rfl, hlo, hhi, hlo1, hlo2, hhi1, hhi2, hfr⟩ := hrel
    obtain ⟨ad', e1, -, c0, c1, c2, c3, c4⟩ := Hsl.out wr (HF0.out.trans' hfr.out (fun _ _ e => e))
    obtain rfl : ad = ad' := by injection e1
    have y0 := (HLd.out wr hfr.out).2
    clear c0 c1 c3 c4 e1
    by_cases hlt : k < L
    · have HU1 := Lib.hid (fun W (h : Fr No W0 W) => HU.out k (by omega) W (HF0.out.trans' h (fun _ _ e => e)))
      have HU2 := Lib.hid (fun W (h : Fr No W0 W) => HU.out i (by omega) W (HF0.out.trans' h (fun _ _ e => e)))
      have Hfs : Hid (firstP (unitQ p i) (k + 1) = if 0 ≤ lo then lo else if unitQ p i k = true then (k : Int) else -1) := Lib.hid (by rw [hlo.out]; rfl)
      have Hls : Hid (lastP (unitQ p i) (k + 1) = if unitQ p i k = true then (k : Int) else hi2) := Lib.hid (by rw [hhi.out]; rfl)
      have HQ : Hid (unitQ p i k = decide (cntB p k = cntB p i)) := Lib.hid rfl
      generalize cntB p k = u at *
      generalize cntB p i = v at *
      have hLS := Lib.hid (fun V (h : Fr No W0 V) => (HLd.out V h).1)
      have Hfr := Lib.hid hfr.out.drew
      clear hlo hhi
      go_wp2_with fail
      clear y0 c2
      go_cut [60] from 50 to 60 (fun s wx => s = .bool (decide (u = v)) ∧ Hid (Fr No W0 wx))
      case first =>
        refine wp_region_held_drew (S := fun V => LdO V 26 ⟨w.heap.size, 0, none⟩ (.agg Z)) (by kernel_rfl) (hLS.out _ Hfr.out) (fun hHeld => ?_)
        refine any_take 50 (.agg Z) (i := 0) rfl rfl (by kernel_rfl) (by kernel_rfl) (by kernel_rfl) (fun _ _ _ h => h) (by rfl) (by intro w hSw; exact exec_ld rfl hSw) (by assumption) ?_
        simp only [Act.put, List.setIfInBounds_toArray, List.set_cons_zero, List.set_cons_succ]
        refine any_take 51 (.int .i64 (c : Int)) (i := 1) rfl rfl (by kernel_rfl) (by kernel_rfl) (by kernel_rfl) (fun _ _ _ h => h) (by rfl) (by intro w hSw; (try dsimp only at hSw); go_simp; try with_reducible rfl) (by assumption) ?_
        simp only [Act.put, List.setIfInBounds_toArray, List.set_cons_zero, List.set_cons_succ]
        refine any_take 52 (.int .i64 (d : Int)) (i := 2) rfl rfl (by kernel_rfl) (by kernel_rfl) (by kernel_rfl) (fun _ _ _ h => h) (by rfl) (by intro w hSw; (try dsimp only at hSw); go_simp; try with_reducible rfl) (by assumption) ?_
        simp only [Act.put, List.setIfInBounds_toArray, List.set_cons_zero, List.set_cons_succ]
        refine any_take 53 (.int .i64 (k : Int)) (i := 3) rfl rfl (by kernel_rfl) (by kernel_rfl) (by kernel_rfl) (fun _ _ _ h => h) (by rfl) (by intro w hSw; (try dsimp only at hSw); go_simp; try with_reducible rfl) (by assumption) ?_
        simp only [Act.put, List.setIfInBounds_toArray, List.set_cons_zero, List.set_cons_succ]
        refine any_take 55 (.agg Z) (i := 5) rfl rfl (by kernel_rfl) (by kernel_rfl) (by kernel_rfl) (fun _ _ _ h => h) (by rfl) (by intro w hSw; exact exec_ld rfl hSw) (by assumption) ?_
        simp only [Act.put, List.setIfInBounds_toArray, List.set_cons_zero, List.set_cons_succ]
        refine any_take 56 (.int .i64 (c : Int)) (i := 6) rfl rfl (by kernel_rfl) (by kernel_rfl) (by kernel_rfl) (fun _ _ _ h => h) (by rfl) (by intro w hSw; (try dsimp only at hSw); go_simp; try with_reducible rfl) (by assumption) ?_
        simp only [Act.put, List.setIfInBounds_toArray, List.set_cons_zero, List.set_cons_succ]
        refine any_take 57 (.int .i64 (d : Int)) (i := 7) rfl rfl (by kernel_rfl) (by kernel_rfl) (by kernel_rfl) (fun _ _ _ h => h) (by rfl) (by intro w hSw; (try dsimp only at hSw); go_simp; try with_reducible rfl) (by assumption) ?_
        simp only [Act.put, List.setIfInBounds_toArray, List.set_cons_zero, List.set_cons_succ]
        refine any_take 58 (.int .i64 (i : Int)) (i := 8) rfl rfl (by kernel_rfl) (by kernel_rfl) (by kernel_rfl) (fun _ _ _ h => h) (by rfl) (by intro w hSw; (try dsimp only at hSw); go_simp; try with_reducible rfl) (by assumption) ?_
        simp only [Act.put, List.setIfInBounds_toArray, List.set_cons_zero, List.set_cons_succ]
        refine wpAnyH_ready (rs := [4]) (by kernel_rfl) (by simp) ?_
        refine AllReadyH.cons rfl (fun K' hK => ?_) AllReadyH.nil
        go_simp
        go_at_call 29
        refine (HU1.out _ Hfr.out).mono ?_
        rintro e' w4 ⟨rfl, f4⟩
        have F4 := Lib.hid (Hfr.out.trans' f4 (fun _ _ e => e))
        clear f4
        dsimp only
        refine hK.out _ _ (hLS.out _ F4.out) (fun hHeld => ?_)
        clear hK
        try simp only [Act.put, List.setIfInBounds_toArray, List.set_cons_zero, List.set_cons_succ]
        refine wpAnyH_ready (rs := [9]) (by kernel_rfl) (by simp) ?_
        refine AllReadyH.cons rfl (fun K' hK => ?_) AllReadyH.nil
        go_simp
        go_at_call 29
        refine (HU2.out _ F4.out).mono ?_
        rintro e' w5 ⟨rfl, f5⟩
        have F5 := Lib.hid (F4.out.trans' f5 (fun _ _ e => e))
        clear f5
        dsimp only
        refine hK.out _ _ (hLS.out _ F5.out) (fun hHeld => ?_)
        clear hK
        try simp only [Act.put, List.setIfInBounds_toArray, List.set_cons_zero, List.set_cons_succ]
        refine any_take 60 (.bool (decide (u = v))) (i := 10) rfl rfl (by kernel_rfl) (by kernel_rfl) (by kernel_rfl) (fun _ _ _ h => h) (by rfl) (by intro w hSw; (try dsimp only at hSw); go_simp; first | with_reducible rfl | (congr 3; exact decide_eq_decide.2 (by omega)) | (simp; done)) (by assumption) ?_
        simp only [Act.put, List.setIfInBounds_toArray, List.set_cons_zero, List.set_cons_succ]
        refine wpAnyH_done (by kernel_rfl) ?_ _
        clear hHeld
        go_wp2
        go_meet
        exact ⟨rfl, F5⟩
      case rest =>
        obtain ⟨rfl, F5⟩ := hcut
        rw [HQ.out] at Hfs Hls
        by_cases huv : u = v
        · rw [decide_eq_true huv] at Hfs Hls ⊢
          clear HU1 HU2 HQ huv
          by_cases h0 : lo < 0
          · go_wp2
            go_roundw
            case rel => exact ⟨k + 1, k, k, by omega, rfl, rfl, by go_num, Lib.hid (by rw [Hfs.out, if_neg (by omega)]; rfl), Lib.hid (by rw [Hls.out]; rfl), by omega, by omega, by omega, by omega, F5⟩
            case measure => simp [intOf]; omega
          · go_wp2
            go_roundw
            case rel => exact ⟨k + 1, lo, k, by omega, rfl, rfl, by go_num, Lib.hid (by rw [Hfs.out, if_pos (by omega)]), Lib.hid (by rw [Hls.out]; rfl), by omega, by omega, by omega, by omega, F5⟩
            case measure => simp [intOf]; omega
        · rw [decide_eq_false huv] at Hfs Hls ⊢
          clear HU1 HU2 HQ huv
          go_wp2
          go_roundw
          case rel =>
            refine ⟨k + 1, lo, hi2, by omega, rfl, rfl, by go_num, Lib.hid ?_, Lib.hid (by rw [Hls.out]; rfl), by omega, by omega, by omega, by omega, F5⟩
            rw [Hfs.out]
            by_cases h0 : 0 ≤ lo
            · rw [if_pos h0]
            · rw [if_neg h0]
              show lo = -1
              omega
          case measure => simp [intOf]; omega
    · obtain rfl : k = L := by omega
      go_wp2
      refine bodyPost_ret (results_tmp3 rfl _ _ _) rfl ?_
      exact ⟨by rw [hlo.out, hhi.out]; rfl, HF0.out.trans' hfr.out (fun _ _ e => e)⟩
/-- The bounds of a unit, or that there is none. -/
theorem refBounds14_any (x : Ctl) (c d i : Int) (w : World) (hx : Clss w x.cA x.cls) (hok : x.p.ok = true) :
    Calls Try.prog 11 #[x.agg, .int .i64 c, .int .i64 d, .int .i64 i] w fun e w' => e = .returned (.tuple #[.int .i64 (x.p.uLo c d i), .int .i64 (x.p.uHi c d i), .bool (x.p.isU c d i)]) ∧ Fr No w w' := by
  cases h : x.p.isU c d i
  · have e1 : x.p.uLo c d i = 0 := by unfold PCt.uLo; rw [h]; rfl
    have e2 : x.p.uHi c d i = 0 := by unfold PCt.uHi; rw [h]; rfl
    rw [e1, e2]
    exact refBounds14_no x c d i w hx h
  · have e1 : x.p.uLo c d i = (loP (x.p.bks c d) i.toNat : Nat) := by unfold PCt.uLo; rw [if_pos h]
    have e2 : x.p.uHi c d i = (hiP (x.p.bks c d) (x.p.steps c) i.toNat : Nat) := by unfold PCt.uHi; rw [if_pos h]
    rw [e1, e2]
    obtain ⟨hc, hd, hi0, hi1⟩ := isU_parts h
    rw [has_eq, decide_eq_true_eq] at hc hd
    obtain ⟨c, rfl⟩ := Int.eq_ofNat_of_zero_le hc.1
    obtain ⟨d, rfl⟩ := Int.eq_ofNat_of_zero_le hd.1
    obtain ⟨i, rfl⟩ := Int.eq_ofNat_of_zero_le hi0
    have hc' : c < x.cls.length := by omega
    rw [steps_eq x hc'] at hi1 ⊢
    rw [Int.toNat_natCast]
    exact refBounds14_in x c d i w hx hok hc' (by omega) (by omega)
end Go.Proofs.Ytkihbjgmmaklaaa
