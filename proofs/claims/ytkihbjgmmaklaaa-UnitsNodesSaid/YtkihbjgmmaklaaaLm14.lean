/- The law's own: is a history, or its catalogue, more than it looks at? -/
import Derived.Test.YtkihbjgmmaklaaaUnt14
import Derived.Test.YtkihbjgmmaklaaaGrt11
import Derived.Test.YtkihbjgmmaklaaaMyp14
import Derived.Test.YtkihbjgmmaklaaaRfm14
import Derived.Test.YtkihbjgmmaklaaaBds14
namespace Go.Proofs.Ytkihbjgmmaklaaa
open Go.RowKit

def great12 (l : List Cls) : Bool := l.any greatB || decide (12 < l.length)
def bigN (a : Ndl) : Bool := decide (60 < a.n.rd.length) || decide (60 < a.n.wt.length)
def great14 (l : List Cls) (h : List Ndl) : Bool := h.any bigN || (great12 l || decide (110 < h.length))
theorem any_step15 {α : Type} (p : α → Bool) (l : List α) (k : Nat) (hk : k < l.length) (h : (l.take k).any p = false) : (l.take (k + 1)).any p = p l[k] := by
  rw [List.take_succ_eq_append_getElem hk, List.any_append, h]
  simp
theorem any_found15 {α : Type} (p : α → Bool) (l : List α) (k : Nat) (hk : k < l.length) (h : p l[k] = true) : l.any p = true := List.any_eq_true.2 ⟨_, List.getElem_mem hk, h⟩
set_option maxRecDepth 100000 in
set_option maxHeartbeats 4000000 in
theorem great12_any (x : Ctl) (w : World) (hx : Clss w x.cA x.cls) (hnc : x.cls.length ≤ 9223372036854775807) : Calls Try.prog 34 #[x.agg] w (Has w (great12 x.cls)) := by
  have Hg := Lib.hid (fun (k : Nat) (hk : k < x.cls.length) W (h : Fr No w W) => great11_any x.cls[k] W ((hx.since h).all _ (List.getElem_mem hk)))
  have Hsl := Lib.hid (fun (k : Nat) (hk : k < x.cls.length) W (h : Fr No w W) => (hx.since h).sl.cls hk)
  have Hst := Lib.hid (fun (k : Nat) (hk : k < x.cls.length) (h : (x.cls.take k).any greatB = false) => any_step15 greatB x.cls k hk h)
  have Hfd := Lib.hid (fun (k : Nat) (hk : k < x.cls.length) (h : greatB x.cls[k] = true) => show great12 x.cls = true by unfold great12; rw [any_found15 greatB x.cls k hk h]; rfl)
  have Hend := Lib.hid (fun (h : x.cls.any greatB = false) => show great12 x.cls = decide (12 < (x.cls.length : Int)) by unfold great12; rw [h, Bool.false_or]; exact decide_eq_decide.2 (by omega))
  have H0 : Hid ((x.cls.take 0).any greatB = false) := Lib.hid (by simp)
  have Htk := Lib.hid (fun (k : Nat) (hk : k = x.cls.length) (h : (x.cls.take k).any greatB = false) => show x.cls.any greatB = false by rwa [hk, List.take_length] at h)
  generalize great12 x.cls = r at *
  unfold Ctl.agg
  obtain ⟨Z, hZ⟩ : ∃ Z, Z = x.arr := ⟨_, rfl⟩
  rw [← hZ]
  rw [Ctl.arr_eq] at hZ
  obtain ⟨W0, hW0⟩ : ∃ W0, W0 = w.alloc (.cells Z 26) := ⟨_, rfl⟩
  have bZ : Bk W0 w.heap.size 26 Z := by rw [hW0]; exact Bk.made w _ _
  have HF0 : Hid (Fr No w W0) := Lib.hid (by rw [hW0]; exact (Fr.refl _ _).alloc _)
  have HLd : Hid (∀ V, Fr No W0 V → LdO V 26 ⟨w.heap.size, 0, none⟩ (.agg Z) ∧ V.cell? ⟨w.heap.size, 0, none⟩ = some (.slice x.cA x.cls.length x.cc)) := Lib.hid (fun V h => ⟨ld_cat hZ (bZ.fr h (fun e => e)), by rw [(bZ.fr h (fun e => e)).cell, hZ]; rfl⟩)
  have hwe := hW0.symm
  clear hZ hW0 bZ
  obtain ⟨n, hn⟩ : ∃ n, x.cls.length = n := ⟨_, rfl⟩
  have Hn := Lib.hid hn
  rw [hn] at HLd hnc
  obtain ⟨cA, cls, cc, b⟩ := x
  dsimp only at *
  clear hx hn
  go_enter Try.func34, Try.ntmps34
  go_wp2
  clear hwe
  go_loopw [3] (fun iv wr => ∃ k : Nat, k ≤ n ∧ iv = .int .i64 (k : Int) ∧ Hid ((cls.take k).any greatB = false) ∧ Hid (Fr No W0 wr)) (fun iv _ => n - (intOf iv).toNat)
  case atStart => exact ⟨0, Nat.zero_le _, rfl, H0, Lib.hid (Fr.refl _ _)⟩
  case round =>
    obtain ⟨k, hk, rfl, hpre, hfr⟩ := hrel
    have y0 := (HLd.out wr hfr.out).2
    by_cases hlt : k < n
    · have hkl : k < cls.length := by rw [Hn.out]; exact hlt
      have hkn : ((k : Nat) : Int) < (n : Int) := by omega
      obtain ⟨ad, rfl, hab, c0, c1, c2, c3, c4⟩ := Hsl.out k hkl wr (HF0.out.trans' hfr.out (fun _ _ e => e))
      have hC := Lib.hid (Hg.out k hkl wr (HF0.out.trans' hfr.out (fun _ _ e => e)))
      have hs := Lib.hid (Hst.out k hkl hpre.out)
      have hf := Lib.hid (Hfd.out k hkl)
      unfold Cls.agg at hC
      generalize greatB cls[k] = g at *
      generalize cls[k].steps.length = L at *
      generalize cls[k].comps.length = M at *
      generalize cls[k].name = nm at *
      generalize cls[k].args = ar at *
      generalize cls[k].sA = sA at *
      generalize cls[k].sc = sc at *
      generalize cls[k].uA = uA at *
      generalize cls[k].uc = uc at *
      generalize cls[k].res = re at *
      clear hpre Hg Hsl Hst Hfd Hend Htk H0
      cases g
      · go_wp2_with fail
        refine (hC.out).mono ?_
        rintro e w1 ⟨rfl, f1⟩
        have F1 := Lib.hid (hfr.out.trans' f1 (fun _ _ e => e))
        clear f1 y0
        go_wp2
        go_roundw
        case rel => exact ⟨k + 1, by omega, by go_num, hs, F1⟩
        case measure => simp [intOf]; omega
      · go_wp2_with fail
        refine (hC.out).mono ?_
        rintro e w1 ⟨rfl, f1⟩
        have F1 := Lib.hid (hfr.out.trans' f1 (fun _ _ e => e))
        clear f1 y0
        go_wp2
        go_ret
        exact ⟨by rw [hf.out (by first | rfl | trivial)]; rfl, HF0.out.trans' F1.out (fun _ _ e => e)⟩
    · obtain rfl : k = n := by omega
      have HE := Lib.hid (Hend.out (Htk.out k Hn.out.symm hpre.out))
      rw [Hn.out] at HE
      clear hpre Hg Hsl Hst Hfd Hend Htk H0
      go_wp2
      go_ret
      exact ⟨by rw [HE.out]; rfl, HF0.out.trans' hfr.out (fun _ _ e => e)⟩
set_option maxRecDepth 100000 in
set_option maxHeartbeats 4000000 in
theorem great14_any (x : Ctl) (h : List Ndl) (A : Option Addr) (N c : Nat) (w : World) (hx : Clss w x.cA x.cls) (hh : Nds w A h) (hN : h.length = N) (hNm : N ≤ 9223372036854775807) (hnc : x.cls.length ≤ 9223372036854775807) :
    Calls Try.prog 15 #[x.agg, .slice A N c] w (Has w (great14 x.cls h)) := by
  have HG := Lib.hid (fun W (hW : Fr No w W) => great12_any x W (hx.since hW) hnc)
  have Hnd := Lib.hid (fun (k : Nat) (hk : k < h.length) W (hW : Fr No w W) => (hh.since hW).sl.nd hk)
  have Hst := Lib.hid (fun (k : Nat) (hk : k < h.length) (hp : (h.take k).any bigN = false) => any_step15 bigN h k hk hp)
  have Hfd := Lib.hid (fun (k : Nat) (hk : k < h.length) (hp : bigN h[k] = true) => show great14 x.cls h = true by unfold great14; rw [any_found15 bigN h k hk hp]; rfl)
  have Hend := Lib.hid (fun (hp : h.any bigN = false) => show great14 x.cls h = (great12 x.cls || decide (110 < (N : Int))) by unfold great14; rw [hp, Bool.false_or]; congr 1; exact decide_eq_decide.2 (by omega))
  have Htk := Lib.hid (fun (k : Nat) (hk : k = h.length) (hp : (h.take k).any bigN = false) => show h.any bigN = false by rwa [hk, List.take_length] at hp)
  have Hb := Lib.hid (fun (k : Nat) (hk : k < h.length) => show bigN h[k] = (decide (60 < h[k].n.rd.length) || decide (60 < h[k].n.wt.length)) from rfl)
  generalize great14 x.cls h = r at *
  generalize great12 x.cls = g at *
  unfold Ctl.agg at HG ⊢
  obtain ⟨Z, hZ⟩ : ∃ Z, Z = x.arr := ⟨_, rfl⟩
  rw [← hZ] at HG ⊢
  rw [Ctl.arr_eq] at hZ
  obtain ⟨W0, hW0⟩ : ∃ W0, W0 = w.alloc (.cells Z 26) := ⟨_, rfl⟩
  have bZ : Bk W0 w.heap.size 26 Z := by rw [hW0]; exact Bk.made w _ _
  have HF0 : Hid (Fr No w W0) := Lib.hid (by rw [hW0]; exact (Fr.refl _ _).alloc _)
  have HLd : Hid (∀ V, Fr No W0 V → LdO V 26 ⟨w.heap.size, 0, none⟩ (.agg Z) ∧ V.cell? ⟨w.heap.size, 0, none⟩ = some (.slice x.cA x.cls.length x.cc)) := Lib.hid (fun V h => ⟨ld_cat hZ (bZ.fr h (fun e => e)), by rw [(bZ.fr h (fun e => e)).cell, hZ]; rfl⟩)
  have hwe := hW0.symm
  clear hZ hW0 bZ
  have HL := Lib.hid (fun V (hV : Fr No W0 V) => (HLd.out V hV).1)
  have Hn := Lib.hid hN
  clear hx hh hN HLd hnc
  go_enter Try.func15, Try.ntmps15
  go_wp2
  clear hwe
  go_loopw [5] (fun iv wr => ∃ k : Nat, k ≤ N ∧ iv = .int .i64 (k : Int) ∧ Hid ((h.take k).any bigN = false) ∧ Hid (Fr No W0 wr)) (fun iv _ => N - (intOf iv).toNat)
  case atStart => exact ⟨0, Nat.zero_le _, rfl, Lib.hid (by simp), Lib.hid (Fr.refl _ _)⟩
  case round =>
    obtain ⟨k, hk, rfl, hpre, hfr⟩ := hrel
    by_cases hlt : k < N
    · have hkl : k < h.length := by rw [Hn.out]; exact hlt
      have hkn : ((k : Nat) : Int) < (N : Int) := by omega
      obtain ⟨ad, rfl, hab, a0, a1, a2, a3, a4, a5⟩ := Hnd.out k hkl wr (HF0.out.trans' hfr.out (fun _ _ e => e))
      have hs := Lib.hid (Hst.out k hkl hpre.out)
      have hf := Lib.hid (Hfd.out k hkl)
      have hb := Lib.hid (Hb.out k hkl)
      generalize bigN h[k] = bb at *
      generalize h[k].n.rd.length = m1 at *
      generalize h[k].n.wt.length = m2 at *
      generalize h[k].rA = R1 at *
      generalize h[k].rc = C1 at *
      generalize h[k].wA = R2 at *
      generalize h[k].wc = C2 at *
      clear hpre Hnd Hst Hfd Hend Htk Hb HG a0 a1 a2 a3
      by_cases g1 : 60 < m1
      · have d1 : decide (60 < (m1 : Int)) = true := decide_eq_true (by omega)
        have HT : Hid (r = true) := Lib.hid (hf.out (by rw [hb.out]; simp [g1]))
        clear hs hf hb g1
        go_wp2
        go_ret
        exact ⟨by rw [HT.out]; rfl, HF0.out.trans' hfr.out (fun _ _ e => e)⟩
      have d1 : decide (60 < (m1 : Int)) = false := decide_eq_false (by omega)
      by_cases g2 : 60 < m2
      · have d2 : decide (60 < (m2 : Int)) = true := decide_eq_true (by omega)
        have HT : Hid (r = true) := Lib.hid (hf.out (by rw [hb.out]; simp [g2]))
        clear hs hf hb g1 g2
        go_wp2
        go_ret
        exact ⟨by rw [HT.out]; rfl, HF0.out.trans' hfr.out (fun _ _ e => e)⟩
      have d2 : decide (60 < (m2 : Int)) = false := decide_eq_false (by omega)
      have hs2 : Hid ((h.take (k + 1)).any bigN = false) := Lib.hid (by rw [hs.out, hb.out]; simp [g1, g2])
      clear hs hf hb g1 g2
      go_wp2
      go_roundw
      case rel => exact ⟨k + 1, by omega, by go_num, hs2, hfr⟩
      case measure => simp [intOf]; omega
    · obtain rfl : k = N := by omega
      have HE := Lib.hid (Hend.out (Htk.out k Hn.out.symm hpre.out))
      have HLw := Lib.hid (HL.out _ hfr.out)
      have HGw := Lib.hid (HG.out _ (HF0.out.trans' hfr.out (fun _ _ e => e)))
      clear hpre Hnd Hst Hfd Hend Htk Hb HG
      go_wp2_with (first
        | ((with_reducible refine wpl_ld ?_ ?_ HLw.out ?_); (· rfl); (· rfl); simp only [Act.put, List.setIfInBounds_toArray, List.set_cons_zero, List.set_cons_succ]))
      refine (HGw.out).mono ?_
      rintro e w1 ⟨rfl, f1⟩
      have F1 := Lib.hid (HF0.out.trans' (hfr.out.trans' f1 (fun _ _ e => e)) (fun _ _ e => e))
      clear f1 HGw HLw
      cases g
      · go_wp2
        go_ret
        exact ⟨by rw [HE.out]; rfl, F1.out⟩
      · go_wp2
        go_ret
        exact ⟨by rw [HE.out]; rfl, F1.out⟩
/-- What is not great is few. -/
theorem few_of_great {c : Cls} (h : greatB c = false) : c.Few := by
  unfold greatB at h
  simp only [Bool.or_eq_false_iff, decide_eq_false_iff_not, List.any_eq_false] at h
  obtain ⟨-, h2, h3, h4⟩ := h
  have hall : ∀ s ∈ c.steps ++ c.comps, s.code.length ≤ 40 ∧ s.foot.length ≤ 40 := fun s hs => by
    have := h4 s hs
    unfold bigS at this
    simp only [Bool.or_eq_true, decide_eq_true_eq, not_or] at this
    omega
  exact ⟨by omega, by omega, fun s hs => by have := hall s (List.mem_append_left _ hs); omega, fun s hs => by have := hall s (List.mem_append_right _ hs); omega⟩
theorem big_of_great {x : Ctl} {h : List Ndl} (hg : great14 x.cls h = false) : x.Big ∧ h.length ≤ 110 ∧ ∀ a ∈ h, a.n.rd.length ≤ 60 ∧ a.n.wt.length ≤ 60 := by
  unfold great14 great12 at hg
  simp only [Bool.or_eq_false_iff, decide_eq_false_iff_not, List.any_eq_false] at hg
  obtain ⟨h1, ⟨h2, h3⟩, h4⟩ := hg
  refine ⟨⟨by omega, fun c hc => few_of_great (by have := h2 c hc; simpa using this)⟩, by omega, fun a ha => ?_⟩
  have := h1 a ha
  unfold bigN at this
  simp only [Bool.or_eq_true, decide_eq_true_eq, not_or] at this
  omega
end Go.Proofs.Ytkihbjgmmaklaaa
/- The law: whether any history may be is the document's. -/
namespace Go.Proofs.Ytkihbjgmmaklaaa
open Go.RowKit

set_option maxRecDepth 100000 in
set_option maxHeartbeats 8000000 in
theorem unitsMay_any (x : Ctl) (h : List Ndl) (A : Option Addr) (N c : Nat) (w : World) (hx : Clss w x.cA x.cls) (hh : Nds w A h) (hN : h.length = N) (hNc : N ≤ c) (hNm : N ≤ 9223372036854775807) (hxm : x.cls.length ≤ 9223372036854775807) : Calls Try.prog 4 #[x.agg, .slice A N c] w (Has w true) := by
  have Hal := Lib.hid (fun (W : World) => alive14 W)
  have HG := Lib.hid (fun W (hW : Fr No w W) => great14_any x h A N c W (hx.since hW) (hh.since hW) hN hNm hxm)
  have HU := Lib.hid (fun (hg : great14 x.cls h = false) W (hW : Fr No w W) => mayU_any x h A N c W (hx.since hW) (big_of_great hg).1 (hh.since hW) hN (by have := (big_of_great hg).2.1; omega) hNc ⟨fun a ha => by have := (big_of_great hg).2.2 a ha; omega⟩)
  have HR := Lib.hid (fun (hg : great14 x.cls h = false) W (hW : Fr No w W) => refMayH14_any x h A N c W (hx.since hW) (hh.since hW) hN (by have := (big_of_great hg).2.1; omega) ⟨fun a ha => by have := (big_of_great hg).2.2 a ha; omega⟩)
  generalize great14 x.cls h = g at *
  generalize mayH x.p (ndsOf h) = r at *
  unfold Ctl.agg at HG HU HR ⊢
  obtain ⟨Z, hZ⟩ : ∃ Z, Z = x.arr := ⟨_, rfl⟩
  rw [← hZ] at HG HU HR ⊢
  rw [Ctl.arr_eq] at hZ
  obtain ⟨W0, hW0⟩ : ∃ W0, W0 = w.alloc (.cells Z 26) := ⟨_, rfl⟩
  have bZ : Bk W0 w.heap.size 26 Z := by rw [hW0]; exact Bk.made w _ _
  have HF0 : Hid (Fr No w W0) := Lib.hid (by rw [hW0]; exact (Fr.refl _ _).alloc _)
  have HLd : Hid (∀ V, Fr No W0 V → LdO V 26 ⟨w.heap.size, 0, none⟩ (.agg Z) ∧ V.cell? ⟨w.heap.size, 0, none⟩ = some (.slice x.cA x.cls.length x.cc)) := Lib.hid (fun V h => ⟨ld_cat hZ (bZ.fr h (fun e => e)), by rw [(bZ.fr h (fun e => e)).cell, hZ]; rfl⟩)
  have hwe := hW0.symm
  clear hZ hW0 bZ
  have HL := Lib.hid (fun V (hV : Fr No W0 V) => (HLd.out V hV).1)
  clear hx hh hN HLd
  go_enter Try.func4, Try.ntmps4
  go_wp2_with fail
  refine (Hal.out _).mono ?_
  rintro e w1 ⟨rfl, f1⟩
  have D0 : Hid (Fr No W0 w1.drew) := Lib.hid f1.drew
  clear f1 hwe
  go_wp2_with fail
  cases g
  · refine wp_region_held_drew (S := fun V => LdO V 26 ⟨w.heap.size, 0, none⟩ (.agg Z)) (by kernel_rfl) (HL.out _ D0.out) (fun hHeld => ?_)
    refine any_take 7 (.agg Z) (i := 0) rfl rfl (by kernel_rfl) (by kernel_rfl) (by kernel_rfl) (fun _ _ _ h => h) (by rfl) (by intro w hSw; exact exec_ld rfl hSw) (by assumption) ?_
    simp only [Act.put, List.setIfInBounds_toArray, List.set_cons_zero, List.set_cons_succ]
    refine any_take 8 (.slice A N c) (i := 1) rfl rfl (by kernel_rfl) (by kernel_rfl) (by kernel_rfl) (fun _ _ _ h => h) (by rfl) (by intro w hSw; (try dsimp only at hSw); go_simp; try with_reducible rfl) (by assumption) ?_
    simp only [Act.put, List.setIfInBounds_toArray, List.set_cons_zero, List.set_cons_succ]
    refine wpAnyH_ready (rs := [2]) (by kernel_rfl) (by simp) ?_
    refine AllReadyH.cons rfl (fun K' hK => ?_) AllReadyH.nil
    go_simp
    go_at_call 15
    refine (HG.out _ (HF0.out.trans' D0.out (fun _ _ e => e))).mono ?_
    rintro e' w2 ⟨rfl, f2⟩
    have D2 := Lib.hid (D0.out.trans' f2 (fun _ _ e => e))
    clear f2
    dsimp only
    refine hK.out _ _ (HL.out _ D2.out) (fun hHeld => ?_)
    clear hK
    try simp only [Act.put, List.setIfInBounds_toArray, List.set_cons_zero, List.set_cons_succ]
    refine any_take 10 (.bool false) (i := 3) rfl rfl (by kernel_rfl) (by kernel_rfl) (by kernel_rfl) (fun _ _ _ h => h) (by rfl) (by intro w hSw; (try dsimp only at hSw); go_simp; try with_reducible rfl) (by assumption) ?_
    simp only [Act.put, List.setIfInBounds_toArray, List.set_cons_zero, List.set_cons_succ]
    refine any_take 11 (.agg Z) (i := 4) rfl rfl (by kernel_rfl) (by kernel_rfl) (by kernel_rfl) (fun _ _ _ h => h) (by rfl) (by intro w hSw; exact exec_ld rfl hSw) (by assumption) ?_
    simp only [Act.put, List.setIfInBounds_toArray, List.set_cons_zero, List.set_cons_succ]
    refine any_take 12 (.slice A N c) (i := 5) rfl rfl (by kernel_rfl) (by kernel_rfl) (by kernel_rfl) (fun _ _ _ h => h) (by rfl) (by intro w hSw; (try dsimp only at hSw); go_simp; try with_reducible rfl) (by assumption) ?_
    simp only [Act.put, List.setIfInBounds_toArray, List.set_cons_zero, List.set_cons_succ]
    refine any_take 14 (.agg Z) (i := 7) rfl rfl (by kernel_rfl) (by kernel_rfl) (by kernel_rfl) (fun _ _ _ h => h) (by rfl) (by intro w hSw; exact exec_ld rfl hSw) (by assumption) ?_
    simp only [Act.put, List.setIfInBounds_toArray, List.set_cons_zero, List.set_cons_succ]
    refine any_take 15 (.slice A N c) (i := 8) rfl rfl (by kernel_rfl) (by kernel_rfl) (by kernel_rfl) (fun _ _ _ h => h) (by rfl) (by intro w hSw; (try dsimp only at hSw); go_simp; try with_reducible rfl) (by assumption) ?_
    simp only [Act.put, List.setIfInBounds_toArray, List.set_cons_zero, List.set_cons_succ]
    refine wpAnyH_ready (rs := [6]) (by kernel_rfl) (by simp) ?_
    refine AllReadyH.cons rfl (fun K' hK => ?_) AllReadyH.nil
    go_simp
    go_at_call 16
    refine (HU.out rfl _ (HF0.out.trans' D2.out (fun _ _ e => e))).mono ?_
    rintro e' w3 ⟨rfl, f3⟩
    have D3 := Lib.hid (D2.out.trans' f3 (fun _ _ e => e))
    clear f3
    dsimp only
    refine hK.out _ _ (HL.out _ D3.out) (fun hHeld => ?_)
    clear hK
    try simp only [Act.put, List.setIfInBounds_toArray, List.set_cons_zero, List.set_cons_succ]
    refine wpAnyH_ready (rs := [9]) (by kernel_rfl) (by simp) ?_
    refine AllReadyH.cons rfl (fun K' hK => ?_) AllReadyH.nil
    go_simp
    go_at_call 17
    refine (HR.out rfl _ (HF0.out.trans' D3.out (fun _ _ e => e))).mono ?_
    rintro e' w4 ⟨rfl, f4⟩
    have D4 := Lib.hid (D3.out.trans' f4 (fun _ _ e => e))
    clear f4
    dsimp only
    refine hK.out _ _ (HL.out _ D4.out) (fun hHeld => ?_)
    clear hK
    try simp only [Act.put, List.setIfInBounds_toArray, List.set_cons_zero, List.set_cons_succ]
    refine any_take 17 (.bool true) (i := 10) rfl rfl (by kernel_rfl) (by kernel_rfl) (by kernel_rfl) (fun _ _ _ h => h) (by rfl) (by intro w hSw; (try dsimp only at hSw); go_simp; try (first | with_reducible rfl | (simp; done) | (cases r <;> rfl))) (by assumption) ?_
    simp only [Act.put, List.setIfInBounds_toArray, List.set_cons_zero, List.set_cons_succ]
    refine any_take 18 (.bool true) (i := 11) rfl rfl (by kernel_rfl) (by kernel_rfl) (by kernel_rfl) (fun _ _ _ h => h) (by rfl) (by intro w hSw; (try dsimp only at hSw); go_simp; try with_reducible rfl) (by assumption) ?_
    simp only [Act.put, List.setIfInBounds_toArray, List.set_cons_zero, List.set_cons_succ]
    refine any_take 4 (.bool true) (i := 12) rfl rfl (by kernel_rfl) (by kernel_rfl) (by kernel_rfl) (fun _ _ _ h => h) (by rfl) (by intro w hSw; (try dsimp only at hSw); go_simp; try with_reducible rfl) (by assumption) ?_
    simp only [Act.put, List.setIfInBounds_toArray, List.set_cons_zero, List.set_cons_succ]
    refine wpAnyH_done (by kernel_rfl) ?_ _
    clear hHeld
    go_wp2
    go_ret
    exact ⟨rfl, HF0.out.trans' D4.out (fun _ _ e => e)⟩
  · refine wp_region_held_drew (S := fun V => LdO V 26 ⟨w.heap.size, 0, none⟩ (.agg Z)) (by kernel_rfl) (HL.out _ D0.out) (fun hHeld => ?_)
    refine any_take 7 (.agg Z) (i := 0) rfl rfl (by kernel_rfl) (by kernel_rfl) (by kernel_rfl) (fun _ _ _ h => h) (by rfl) (by intro w hSw; exact exec_ld rfl hSw) (by assumption) ?_
    simp only [Act.put, List.setIfInBounds_toArray, List.set_cons_zero, List.set_cons_succ]
    refine any_take 8 (.slice A N c) (i := 1) rfl rfl (by kernel_rfl) (by kernel_rfl) (by kernel_rfl) (fun _ _ _ h => h) (by rfl) (by intro w hSw; (try dsimp only at hSw); go_simp; try with_reducible rfl) (by assumption) ?_
    simp only [Act.put, List.setIfInBounds_toArray, List.set_cons_zero, List.set_cons_succ]
    refine wpAnyH_ready (rs := [2]) (by kernel_rfl) (by simp) ?_
    refine AllReadyH.cons rfl (fun K' hK => ?_) AllReadyH.nil
    go_simp
    go_at_call 15
    refine (HG.out _ (HF0.out.trans' D0.out (fun _ _ e => e))).mono ?_
    rintro e' w2 ⟨rfl, f2⟩
    have D2 := Lib.hid (D0.out.trans' f2 (fun _ _ e => e))
    clear f2
    dsimp only
    refine hK.out _ _ (HL.out _ D2.out) (fun hHeld => ?_)
    clear hK
    try simp only [Act.put, List.setIfInBounds_toArray, List.set_cons_zero, List.set_cons_succ]
    refine any_take 10 (.bool true) (i := 3) rfl rfl (by kernel_rfl) (by kernel_rfl) (by kernel_rfl) (fun _ _ _ h => h) (by rfl) (by intro w hSw; (try dsimp only at hSw); go_simp; try with_reducible rfl) (by assumption) ?_
    simp only [Act.put, List.setIfInBounds_toArray, List.set_cons_zero, List.set_cons_succ]
    refine any_skip 11 (i := 4) rfl rfl (by kernel_rfl) (by kernel_rfl) (by kernel_rfl) (fun _ _ _ h => h) (by rfl) (by assumption) ?_
    simp only [Act.put, List.setIfInBounds_toArray, List.set_cons_zero, List.set_cons_succ]
    refine any_skip 12 (i := 5) rfl rfl (by kernel_rfl) (by kernel_rfl) (by kernel_rfl) (fun _ _ _ h => h) (by rfl) (by assumption) ?_
    simp only [Act.put, List.setIfInBounds_toArray, List.set_cons_zero, List.set_cons_succ]
    refine any_skip 13 (i := 6) rfl rfl (by kernel_rfl) (by kernel_rfl) (by kernel_rfl) (fun _ _ _ h => h) (by rfl) (by assumption) ?_
    simp only [Act.put, List.setIfInBounds_toArray, List.set_cons_zero, List.set_cons_succ]
    refine any_skip 14 (i := 7) rfl rfl (by kernel_rfl) (by kernel_rfl) (by kernel_rfl) (fun _ _ _ h => h) (by rfl) (by assumption) ?_
    simp only [Act.put, List.setIfInBounds_toArray, List.set_cons_zero, List.set_cons_succ]
    refine any_skip 15 (i := 8) rfl rfl (by kernel_rfl) (by kernel_rfl) (by kernel_rfl) (fun _ _ _ h => h) (by rfl) (by assumption) ?_
    simp only [Act.put, List.setIfInBounds_toArray, List.set_cons_zero, List.set_cons_succ]
    refine any_skip 16 (i := 9) rfl rfl (by kernel_rfl) (by kernel_rfl) (by kernel_rfl) (fun _ _ _ h => h) (by rfl) (by assumption) ?_
    simp only [Act.put, List.setIfInBounds_toArray, List.set_cons_zero, List.set_cons_succ]
    refine any_skip 17 (i := 10) rfl rfl (by kernel_rfl) (by kernel_rfl) (by kernel_rfl) (fun _ _ _ h => h) (by rfl) (by assumption) ?_
    simp only [Act.put, List.setIfInBounds_toArray, List.set_cons_zero, List.set_cons_succ]
    refine any_take 18 (.bool true) (i := 11) rfl rfl (by kernel_rfl) (by kernel_rfl) (by kernel_rfl) (fun _ _ _ h => h) (by rfl) (by intro w hSw; (try dsimp only at hSw); go_simp; try with_reducible rfl) (by assumption) ?_
    simp only [Act.put, List.setIfInBounds_toArray, List.set_cons_zero, List.set_cons_succ]
    refine any_take 4 (.bool true) (i := 12) rfl rfl (by kernel_rfl) (by kernel_rfl) (by kernel_rfl) (fun _ _ _ h => h) (by rfl) (by intro w hSw; (try dsimp only at hSw); go_simp; try with_reducible rfl) (by assumption) ?_
    simp only [Act.put, List.setIfInBounds_toArray, List.set_cons_zero, List.set_cons_succ]
    refine wpAnyH_done (by kernel_rfl) ?_ _
    clear hHeld
    go_wp2
    go_ret
    exact ⟨rfl, HF0.out.trans' D2.out (fun _ _ e => e)⟩
end Go.Proofs.Ytkihbjgmmaklaaa
