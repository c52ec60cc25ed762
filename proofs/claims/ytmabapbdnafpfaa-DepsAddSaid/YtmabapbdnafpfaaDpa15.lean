/- Package deps: does a node depend on another one; are two apart. -/
import Derived.Test.YtmabapbdnafpfaaOf15
namespace Go.Proofs.Ytmabapbdnafpfaa
open Go.RowKit

set_option maxRecDepth 100000 in
set_option maxHeartbeats 8000000 in
theorem depends15 (h : List Ndl) (A : Option Addr) (n c : Nat) (w : World) (i k : Int) (hs : Nds w A h) (hh : h.length = n) (hnm : n ≤ 1048576) (hnc : n ≤ c)
    (hC : ∀ (a b : Nat) (ha : a < h.length) (hb : b < h.length) W, Fr No w W → Calls Try.prog 29 #[h[a].agg, h[b].agg] W (Has W (confN h[a].n h[b].n))) :
    Calls Try.prog 14 #[.slice A n c, .int .i64 i, .int .i64 k] w (Has w (depI (ndsOf h) i k)) := by
  have hlen : (ndsOf h).length = n := by simp [ndsOf, hh]
  have Ha := Lib.hid (fun W => ahead15 A n c k i W)
  by_cases hin : 0 ≤ k ∧ k < i ∧ i < n
  · rw [decide_eq_true hin] at Ha
    obtain ⟨a, rfl⟩ := Int.eq_ofNat_of_zero_le (show 0 ≤ i by omega)
    obtain ⟨b, rfl⟩ := Int.eq_ofNat_of_zero_le hin.1
    have han : a < h.length := by omega
    have hba : b < a := by omega
    have a1 : ((a : Nat) : Int) < (n : Int) := by omega
    have a2 : ((a : Int) + 1) ≤ (c : Int) := by omega
    have a3 : (0 : Int) ≤ (a : Int) + 1 := by omega
    have htl : (h.take (a + 1)).length = a + 1 := by rw [List.length_take]; omega
    have hI : depI (ndsOf h) a b = hasK (depL (ndsOf (h.take (a + 1))) a) b := by
      rw [hasK_depL, ndsOf_take15, depB_take (by rw [hlen]; omega) (by omega)]
      unfold depI
      rw [decide_eq_true (show (0 : Int) ≤ a ∧ (0 : Int) ≤ b by omega), Bool.true_and, Int.toNat_natCast, Int.toNat_natCast]
    rw [hI]
    have HO := Lib.hid (fun W (hW : Fr No w W) => of15 (h.take (a + 1)) A (a + 1) c W ((hs.since hW).take15 _) htl (by omega) (by omega) (fun x y hx hy V hV => by
      have e1 : (h.take (a + 1))[x] = h[x]'(by omega) := List.getElem_take
      have e2 : (h.take (a + 1))[y] = h[y]'(by omega) := List.getElem_take
      rw [e1, e2]
      exact hC x y _ _ V (hW.trans' hV (fun _ _ e => e))))
    have HL := Lib.hid (fun (ls : List IL) (hO : OfL (ndsOf (h.take (a + 1))) ls) => show ls.length = a + 1 by rw [hO.len, ndsOf_len, htl])
    have Hlt := Lib.hid (depL_len (ndsOf (h.take (a + 1))) a)
    obtain ⟨ad, rfl⟩ : ∃ ad, A = some ad := by
      obtain ⟨ad, e, -⟩ := hs.sl.nd han
      exact ⟨ad, e⟩
    generalize ndsOf (h.take (a + 1)) = h1 at *
    obtain ⟨r, hr⟩ : ∃ r, hasK (depL h1 a) (b : Int) = r := ⟨_, rfl⟩
    rw [hr]
    have HRe := Lib.hid hr
    clear hI hC hs hin hlen htl han hr
    go_enter Try.func14, Try.ntmps14
    go_wp2_with fail
    refine (Ha.out _).mono ?_
    rintro e w1 ⟨rfl, f1⟩
    have F1 := Lib.hid f1
    have hw1 : wrap64 ((a : Int) + 1) = (a : Int) + 1 := by unfold wrap64; omega
    have hw2 : ((a : Int) + 1).toNat = a + 1 := by omega
    clear f1 Ha
    go_wp2_with fail
    refine (HO.out _ F1.out).mono ?_
    rintro e w2 ⟨L, ls, lc, rfl, hOw, hOf, f2⟩
    have hll := HL.out ls hOf
    have hal : a < ls.length := by omega
    have hal2 : ((a : Nat) : Int) < (ls.length : Int) := by omega
    have hil := hOw.ils
    obtain ⟨ad2, rfl, hab, c0⟩ := hil.sl.il hal
    have hla := hOf.at hal
    have Csl := Lib.hid (hil.all _ (List.getElem_mem hal))
    have F2 := Lib.hid (F1.out.trans' f2 (fun _ _ e => e))
    rw [← hla] at Hlt HRe
    have hle : ls[a].l.length ≤ 1048576 := by have := Hlt.out; omega
    have C1 := Lib.hid (contains15 ls[a].l ls[a].A ls[a].l.length ls[a].c (b : Int) w2 Csl.out rfl hle)
    rw [HRe.out] at C1
    generalize ls[a].l.length = m at *
    generalize ls[a].A = A3 at *
    generalize ls[a].c = c3 at *
    clear hOw hOf hil hla hab f2 HO HL Hlt Csl hll HRe
    go_wp2_with fail
    refine (C1.out).mono ?_
    rintro e w3 ⟨rfl, f3⟩
    go_wp2
    go_ret
    exact ⟨rfl, F2.out.trans' f3 (fun _ _ e => e)⟩
  · rw [decide_eq_false hin] at Ha
    have hI : depI (ndsOf h) i k = false := by
      unfold depI
      by_cases e : 0 ≤ i ∧ 0 ≤ k
      · rw [decide_eq_true e, Bool.true_and]
        cases q : depB (ndsOf h) i.toNat k.toNat
        · rfl
        · have := depB_lt q
          omega
      · rw [decide_eq_false e]
        rfl
    rw [hI]
    clear hin hI hlen hC hs hh
    go_enter Try.func14, Try.ntmps14
    go_wp2_with fail
    refine (Ha.out _).mono ?_
    rintro e w1 ⟨rfl, f1⟩
    go_wp2
    go_ret
    exact ⟨rfl, f1⟩
set_option maxRecDepth 100000 in
set_option maxHeartbeats 8000000 in
theorem apart15 (h : List Ndl) (A : Option Addr) (n c : Nat) (w : World) (i k : Int) (hs : Nds w A h) (hh : h.length = n) (hnm : n ≤ 1048576) (hnc : n ≤ c)
    (hC : ∀ (a b : Nat) (ha : a < h.length) (hb : b < h.length) W, Fr No w W → Calls Try.prog 29 #[h[a].agg, h[b].agg] W (Has W (confN h[a].n h[b].n))) :
    Calls Try.prog 15 #[.slice A n c, .int .i64 i, .int .i64 k] w (Has w (apartI (ndsOf h) i k)) := by
  have hlen : (ndsOf h).length = n := by simp [ndsOf, hh]
  have H1 := Lib.hid (fun W => has15 A n c i W)
  have H2 := Lib.hid (fun W => has15 A n c k W)
  have D1 := Lib.hid (fun W (hW : Fr No w W) => depends15 h A n c W i k (hs.since hW) hh hnm hnc (fun a b ha hb V hV => hC a b ha hb V (hW.trans' hV (fun _ _ e => e))))
  have D2 := Lib.hid (fun W (hW : Fr No w W) => depends15 h A n c W k i (hs.since hW) hh hnm hnc (fun a b ha hb V hV => hC a b ha hb V (hW.trans' hV (fun _ _ e => e))))
  have hR : apartI (ndsOf h) i k = (decide (0 ≤ i ∧ i < n) && (decide (0 ≤ k ∧ k < n) && (!depI (ndsOf h) i k && !depI (ndsOf h) k i))) := by
    unfold apartI apartB depI
    rw [hlen]
    by_cases e : 0 ≤ i ∧ 0 ≤ k
    · rw [decide_eq_true e, decide_eq_true (show 0 ≤ k ∧ 0 ≤ i from ⟨e.2, e.1⟩), Bool.true_and, Bool.true_and, Bool.true_and]
      have e2 : decide (i.toNat < n ∧ k.toNat < n) = (decide (0 ≤ i ∧ i < (n : Int)) && decide (0 ≤ k ∧ k < (n : Int))) := by
        rw [Bool.eq_iff_iff, Bool.and_eq_true, decide_eq_true_eq, decide_eq_true_eq, decide_eq_true_eq]
        omega
      rw [e2, Bool.and_assoc]
    · rw [decide_eq_false e, Bool.false_and]
      by_cases e1 : 0 ≤ i
      · rw [decide_eq_false (show ¬ (0 ≤ k ∧ k < n) by omega), Bool.false_and, Bool.and_false]
      · rw [decide_eq_false (show ¬ (0 ≤ i ∧ i < n) by omega), Bool.false_and]
  rw [hR]
  generalize depI (ndsOf h) i k = p at *
  generalize depI (ndsOf h) k i = q at *
  generalize decide (0 ≤ i ∧ i < (n : Int)) = u at *
  generalize decide (0 ≤ k ∧ k < (n : Int)) = v at *
  clear hs hh hC hR hlen
  cases u
  · go_enter Try.func15, Try.ntmps15
    go_wp2_with fail
    refine (H1.out _).mono ?_
    rintro e w1 ⟨rfl, f1⟩
    go_wp2
    go_ret
    exact ⟨rfl, f1⟩
  cases v
  · go_enter Try.func15, Try.ntmps15
    go_wp2_with fail
    refine (H1.out _).mono ?_
    rintro e w1 ⟨rfl, f1⟩
    have F1 := Lib.hid f1
    clear f1
    go_wp2_with fail
    refine (H2.out _).mono ?_
    rintro e w2 ⟨rfl, f2⟩
    go_wp2
    go_ret
    exact ⟨rfl, F1.out.trans' f2 (fun _ _ e => e)⟩
  cases p
  · go_enter Try.func15, Try.ntmps15
    go_wp2_with fail
    refine (H1.out _).mono ?_
    rintro e w1 ⟨rfl, f1⟩
    have F1 := Lib.hid f1
    clear f1
    go_wp2_with fail
    refine (H2.out _).mono ?_
    rintro e w2 ⟨rfl, f2⟩
    have F2 := Lib.hid (F1.out.trans' f2 (fun _ _ e => e))
    clear f2
    go_wp2_with fail
    refine (D1.out _ F2.out).mono ?_
    rintro e w3 ⟨rfl, f3⟩
    have F3 := Lib.hid (F2.out.trans' f3 (fun _ _ e => e))
    clear f3
    go_wp2_with fail
    refine (D2.out _ F3.out).mono ?_
    rintro e w4 ⟨rfl, f4⟩
    go_wp2
    go_ret
    exact ⟨by first | rfl | (cases q <;> rfl), F3.out.trans' f4 (fun _ _ e => e)⟩
  · go_enter Try.func15, Try.ntmps15
    go_wp2_with fail
    refine (H1.out _).mono ?_
    rintro e w1 ⟨rfl, f1⟩
    have F1 := Lib.hid f1
    clear f1
    go_wp2_with fail
    refine (H2.out _).mono ?_
    rintro e w2 ⟨rfl, f2⟩
    have F2 := Lib.hid (F1.out.trans' f2 (fun _ _ e => e))
    clear f2
    go_wp2_with fail
    refine (D1.out _ F2.out).mono ?_
    rintro e w3 ⟨rfl, f3⟩
    go_wp2
    go_ret
    exact ⟨rfl, F2.out.trans' f3 (fun _ _ e => e)⟩
end Go.Proofs.Ytmabapbdnafpfaa
