/- The law: whether any order keeps any history, and is fair, is the document's. -/
import Derived.Test.YtmeimhpllemjfaaGreatDoc16
import Derived.Test.YtmeimhpllemjfaaGreatOrd17
import Derived.BigQuiet
import Derived.Test.YtmeimhpllemjfaaGreatRsr17
import Derived.Test.YtmeimhpllemjfaaGreatRkp17
import Derived.Test.YtmeimhpllemjfaaGreatAlv17
namespace Go.Proofs.YtmeimhpllemjfaaGreat
open Go.RowKit

set_option maxRecDepth 100000 in
set_option maxHeartbeats 8000000 in
theorem witnessFair17_any (x : Ctl) (h : List Ndl) (A : Option Addr) (N c : Nat) (AO : Option Addr) (m co : Nat) (w : World) (hx : Clss w x.cA x.cls) (hs : Nds w A h) (hN : h.length = N) (hNm : N ≤ 9223372036854775807) (hnc : x.cls.length ≤ 9223372036854775807) (hm : m ≤ 9223372036854775807)
    (hal : ∀ W, Fr No w W → Calls Tryz.prog 7 #[] W (Has W true)) (r1 r2 : Bool)
    (hdk : great16 x.cls h = false → mayH x.p (ndsOf h) = true → m ≤ 40 → ∀ W, Fr No w W → Calls Tryz.prog 11 #[.slice A N c, .slice AO m co] W (Has W r1))
    (hdf : great16 x.cls h = false → mayH x.p (ndsOf h) = true → m ≤ 40 → ∀ W, Fr No w W → Calls Tryz.prog 13 #[x.agg, .slice A N c, .slice AO m co] W (Has W r2))
    (hpk : great16 x.cls h = false → N ≤ 14 → m ≤ 40 → ∀ W, Fr No w W → Calls Tryz.prog 10 #[x.agg, .slice A N c, .slice AO m co] W (Has W (mayH x.p (ndsOf h) && r1)))
    (hpf : great16 x.cls h = false → N ≤ 14 → m ≤ 40 → ∀ W, Fr No w W → Calls Tryz.prog 12 #[x.agg, .slice A N c, .slice AO m co] W (Has W (mayH x.p (ndsOf h) && r2))) :
    Calls Tryz.prog 3 #[x.agg, .slice A N c, .slice AO m co] w (Has w true) := by
  have Hal := Lib.hid hal
  have HG := Lib.hid (fun W (hW : Fr No w W) => great16_any x h A N c W (hx.since hW) (hs.since hW) hN hNm hnc)
  have HM := Lib.hid (fun (hg : great16 x.cls h = false) W (hW : Fr No w W) => mayD16 x h A N c W (hx.since hW) (hs.since hW) hN (by have := (few_of_great16 hg).2.1; omega) (few_of_great16 hg).2.2)
  have HDk := Lib.hid hdk
  have HDf := Lib.hid hdf
  have HPk := Lib.hid hpk
  have HPf := Lib.hid hpf
  clear hal hdk hdf hpk hpf
  generalize great16 x.cls h = g at *
  generalize mayH x.p (ndsOf h) = r at *
  unfold Ctl.agg at HG HM HDf HPk HPf ⊢
  obtain ⟨Z, hZ⟩ : ∃ Z, Z = x.arr := ⟨_, rfl⟩
  rw [← hZ] at HG HM HDf HPk HPf ⊢
  rw [Ctl.arr_eq] at hZ
  obtain ⟨W0, hW0⟩ : ∃ W0, W0 = w.alloc (.cells Z 26) := ⟨_, rfl⟩
  have bZ : Bk W0 w.heap.size 26 Z := by rw [hW0]; exact Bk.made w _ _
  have HF0 : Hid (Fr No w W0) := Lib.hid (by rw [hW0]; exact (Fr.refl _ _).alloc _)
  have HL := Lib.hid (fun V (hV : Fr No w V) (h0 : Fr No W0 V) => show LdO V 26 ⟨w.heap.size, 0, none⟩ (.agg Z) from ld_cat hZ (bZ.fr h0 (fun e => e)))
  have hwe := hW0.symm
  clear hZ hW0 bZ hx hs hN
  go_enter Tryz.func3, Tryz.ntmps3
  go_wp2_with fail
  refine (Hal.out _ HF0.out).mono ?_
  rintro e w1 ⟨rfl, f1⟩
  have D1 : Hid (Fr No W0 w1) := Lib.hid f1
  have F1 := Lib.hid (HF0.out.trans' f1 (fun _ _ e => e))
  have HLw := Lib.hid (HL.out _ F1.out D1.out)
  clear f1 hwe Hal
  go_wp2_with (first
    | ((with_reducible refine wpl_ld ?_ ?_ HLw.out ?_); (· rfl); (· rfl); simp only [Act.put, szA, szB, szC])
    | ((with_reducible refine wpl_ldg ?_ ?_ HLw.out ?_); (· rfl); (· rfl); simp only [Act.put, szA, szB, szC]))
  refine (HG.out _ F1.out).mono ?_
  rintro e w2 ⟨rfl, f2⟩
  have D2 := Lib.hid (D1.out.trans' f2 (fun _ _ e => e))
  have F2 := Lib.hid (F1.out.trans' f2 (fun _ _ e => e))
  clear f2 HLw HG D1 F1
  cases g
  · have HLw := Lib.hid (HL.out _ F2.out D2.out)
    by_cases hn : N ≤ 14
    · have d1 : decide ((N : Int) > 14) = false := by simp; omega
      by_cases hmm : m ≤ 40
      · have d2 : decide ((m : Int) > 40) = false := by simp; omega
        go_wp2_with (first
          | ((with_reducible refine wpl_ld ?_ ?_ HLw.out ?_); (· rfl); (· rfl); simp only [Act.put, szA, szB, szC])
          | ((with_reducible refine wpl_ldg ?_ ?_ HLw.out ?_); (· rfl); (· rfl); simp only [Act.put, szA, szB, szC]))
        refine (HM.out (by first | rfl | trivial) _ F2.out).mono ?_
        rintro e w3 ⟨rfl, f3⟩
        have D3 := Lib.hid (D2.out.trans' f3 (fun _ _ e => e))
        have F3 := Lib.hid (F2.out.trans' f3 (fun _ _ e => e))
        clear f3 HLw D2 F2 HM
        have HLw := Lib.hid (HL.out _ F3.out D3.out)
        go_wp2_with (first
          | ((with_reducible refine wpl_ld ?_ ?_ HLw.out ?_); (· rfl); (· rfl); simp only [Act.put, szA, szB, szC])
          | ((with_reducible refine wpl_ldg ?_ ?_ HLw.out ?_); (· rfl); (· rfl); simp only [Act.put, szA, szB, szC]))
        refine (HPk.out (by first | rfl | trivial) hn hmm _ F3.out).mono ?_
        rintro e w4 ⟨rfl, f4⟩
        have D4 := Lib.hid (D3.out.trans' f4 (fun _ _ e => e))
        have F4 := Lib.hid (F3.out.trans' f4 (fun _ _ e => e))
        clear f4 HLw D3 F3 HPk
        have HLw := Lib.hid (HL.out _ F4.out D4.out)
        cases r
        · go_wp2_with (first
            | ((with_reducible refine wpl_ld ?_ ?_ HLw.out ?_); (· rfl); (· rfl); simp only [Act.put, szA, szB, szC])
            | ((with_reducible refine wpl_ldg ?_ ?_ HLw.out ?_); (· rfl); (· rfl); simp only [Act.put, szA, szB, szC]))
          refine (HPf.out (by first | rfl | trivial) hn hmm _ F4.out).mono ?_
          rintro e w5 ⟨rfl, f5⟩
          have F5 := Lib.hid (F4.out.trans' f5 (fun _ _ e => e))
          clear f5
          go_wp2
          go_ret
          exact ⟨rfl, F5.out⟩
        · go_wp2_with (first
            | ((with_reducible refine wpl_ld ?_ ?_ HLw.out ?_); (· rfl); (· rfl); simp only [Act.put, szA, szB, szC])
            | ((with_reducible refine wpl_ldg ?_ ?_ HLw.out ?_); (· rfl); (· rfl); simp only [Act.put, szA, szB, szC]))
          refine (HDk.out (by first | rfl | trivial) (by first | rfl | trivial) hmm _ F4.out).mono ?_
          rintro e w5 ⟨rfl, f5⟩
          have D5 := Lib.hid (D4.out.trans' f5 (fun _ _ e => e))
          have F5 := Lib.hid (F4.out.trans' f5 (fun _ _ e => e))
          clear f5 HLw D4 F4 HDk
          have HLw := Lib.hid (HL.out _ F5.out D5.out)
          have e1 : ((true && r1) == r1) = true := by cases r1 <;> rfl
          go_wp2_with (first
            | ((with_reducible refine wpl_ld ?_ ?_ HLw.out ?_); (· rfl); (· rfl); simp only [Act.put, szA, szB, szC])
            | ((with_reducible refine wpl_ldg ?_ ?_ HLw.out ?_); (· rfl); (· rfl); simp only [Act.put, szA, szB, szC]))
          refine (HPf.out (by first | rfl | trivial) hn hmm _ F5.out).mono ?_
          rintro e w6 ⟨rfl, f6⟩
          have D6 := Lib.hid (D5.out.trans' f6 (fun _ _ e => e))
          have F6 := Lib.hid (F5.out.trans' f6 (fun _ _ e => e))
          clear f6 HLw D5 F5 HPf
          have HLw := Lib.hid (HL.out _ F6.out D6.out)
          go_wp2_with (first
            | ((with_reducible refine wpl_ld ?_ ?_ HLw.out ?_); (· rfl); (· rfl); simp only [Act.put, szA, szB, szC])
            | ((with_reducible refine wpl_ldg ?_ ?_ HLw.out ?_); (· rfl); (· rfl); simp only [Act.put, szA, szB, szC]))
          refine (HDf.out (by first | rfl | trivial) (by first | rfl | trivial) hmm _ F6.out).mono ?_
          rintro e w7 ⟨rfl, f7⟩
          have F7 := Lib.hid (F6.out.trans' f7 (fun _ _ e => e))
          clear f7
          have e2 : ((true && r2) == r2) = true := by cases r2 <;> rfl
          go_wp2
          go_ret
          exact ⟨rfl, F7.out⟩
      · have d2 : decide ((m : Int) > 40) = true := by simp; omega
        go_wp2
        go_ret
        exact ⟨rfl, F2.out⟩
    · have d1 : decide ((N : Int) > 14) = true := by simp; omega
      go_wp2
      go_ret
      exact ⟨rfl, F2.out⟩
  · go_wp2
    go_ret
    exact ⟨rfl, F2.out⟩
end Go.Proofs.YtmeimhpllemjfaaGreat
/- The law: whether any order of a short history is fair is the document's. -/
namespace Go.Proofs.YtmeimhpllemjfaaGreat
open Go.RowKit

set_option maxRecDepth 100000 in
set_option maxHeartbeats 8000000 in
theorem witnessSearch17_any (x : Ctl) (h : List Ndl) (A : Option Addr) (N c : Nat) (w : World) (hx : Clss w x.cA x.cls) (hs : Nds w A h) (hN : h.length = N) (hNm : N ≤ 9223372036854775807) (hnc : x.cls.length ≤ 9223372036854775807)
    (hal : ∀ W, Fr No w W → Calls Tryz.prog 7 #[] W (Has W true))
    (hps : great16 x.cls h = false → ∀ W, Fr No w W → Calls Tryz.prog 14 #[x.agg, .slice A N c] W (Has W (goodH x.p (ndsOf h) && decide (N ≤ 7))))
    (hds : great16 x.cls h = false → mayH x.p (ndsOf h) = true → N ≤ 6 → ∀ W, Fr No w W → Calls Tryz.prog 16 #[x.agg, .slice A N c] W (Has W (goodH x.p (ndsOf h)))) :
    Calls Tryz.prog 4 #[x.agg, .slice A N c] w (Has w true) := by
  have Hal := Lib.hid hal
  have HG := Lib.hid (fun W (hW : Fr No w W) => great16_any x h A N c W (hx.since hW) (hs.since hW) hN hNm hnc)
  have HD := Lib.hid (fun (hg : great16 x.cls h = false) W (hW : Fr No w W) => goodD16 x h A N c W (hx.since hW) (hs.since hW) hN (by have := (few_of_great16 hg).2.1; omega) (few_of_great16 hg).2.2)
  have HM := Lib.hid (fun (hg : great16 x.cls h = false) W (hW : Fr No w W) => mayD16 x h A N c W (hx.since hW) (hs.since hW) hN (by have := (few_of_great16 hg).2.1; omega) (few_of_great16 hg).2.2)
  have HPs := Lib.hid hps
  have HDs := Lib.hid hds
  have hgm : mayH x.p (ndsOf h) = false → goodH x.p (ndsOf h) = false := fun e => by unfold goodH; rw [e]; rfl
  clear hal hps hds
  generalize great16 x.cls h = g at *
  generalize mayH x.p (ndsOf h) = r at *
  generalize goodH x.p (ndsOf h) = q at *
  unfold Ctl.agg at HG HM HD HPs HDs ⊢
  obtain ⟨Z, hZ⟩ : ∃ Z, Z = x.arr := ⟨_, rfl⟩
  rw [← hZ] at HG HM HD HPs HDs ⊢
  rw [Ctl.arr_eq] at hZ
  obtain ⟨W0, hW0⟩ : ∃ W0, W0 = w.alloc (.cells Z 26) := ⟨_, rfl⟩
  have bZ : Bk W0 w.heap.size 26 Z := by rw [hW0]; exact Bk.made w _ _
  have HF0 : Hid (Fr No w W0) := Lib.hid (by rw [hW0]; exact (Fr.refl _ _).alloc _)
  have HL := Lib.hid (fun V (hV : Fr No w V) (h0 : Fr No W0 V) => show LdO V 26 ⟨w.heap.size, 0, none⟩ (.agg Z) from ld_cat hZ (bZ.fr h0 (fun e => e)))
  have hwe := hW0.symm
  clear hZ hW0 bZ hx hs hN
  go_enter Tryz.func4, Tryz.ntmps4
  go_wp2_with fail
  refine (Hal.out _ HF0.out).mono ?_
  rintro e w1 ⟨rfl, f1⟩
  have D1 : Hid (Fr No W0 w1) := Lib.hid f1
  have F1 := Lib.hid (HF0.out.trans' f1 (fun _ _ e => e))
  clear f1 hwe Hal
  have HLw := Lib.hid (HL.out _ F1.out D1.out)
  go_wp2_with (first
    | ((with_reducible refine wpl_ld ?_ ?_ HLw.out ?_); (· rfl); (· rfl); simp only [Act.put, szA, szB, szC])
    | ((with_reducible refine wpl_ldg ?_ ?_ HLw.out ?_); (· rfl); (· rfl); simp only [Act.put, szA, szB, szC]))
  refine (HG.out _ F1.out).mono ?_
  rintro e w2 ⟨rfl, f2⟩
  have D2 := Lib.hid (D1.out.trans' f2 (fun _ _ e => e))
  have F2 := Lib.hid (F1.out.trans' f2 (fun _ _ e => e))
  clear f2 HLw
  clear HG
  cases g
  · have HLw := Lib.hid (HL.out _ F2.out D2.out)
    go_wp2_with (first
      | ((with_reducible refine wpl_ld ?_ ?_ HLw.out ?_); (· rfl); (· rfl); simp only [Act.put, szA, szB, szC])
      | ((with_reducible refine wpl_ldg ?_ ?_ HLw.out ?_); (· rfl); (· rfl); simp only [Act.put, szA, szB, szC]))
    refine (HM.out (by first | rfl | trivial) _ F2.out).mono ?_
    rintro e w3 ⟨rfl, f3⟩
    have D3 := Lib.hid (D2.out.trans' f3 (fun _ _ e => e))
    have F3 := Lib.hid (F2.out.trans' f3 (fun _ _ e => e))
    clear f3 HLw
    cases r
    · obtain rfl := hgm rfl
      have HLw := Lib.hid (HL.out _ F3.out D3.out)
      go_wp2_with (first
        | ((with_reducible refine wpl_ld ?_ ?_ HLw.out ?_); (· rfl); (· rfl); simp only [Act.put, szA, szB, szC])
        | ((with_reducible refine wpl_ldg ?_ ?_ HLw.out ?_); (· rfl); (· rfl); simp only [Act.put, szA, szB, szC]))
      refine (HPs.out (by first | rfl | trivial) _ F3.out).mono ?_
      rintro e w4 ⟨rfl, f4⟩
      have D4 := Lib.hid (D3.out.trans' f4 (fun _ _ e => e))
      have F4 := Lib.hid (F3.out.trans' f4 (fun _ _ e => e))
      clear f4 HLw
      go_wp2
      go_ret
      exact ⟨rfl, F4.out⟩
    · by_cases hn : N ≤ 7
      · have d1 : decide ((N : Int) > 7) = false := by simp; omega
        rw [decide_eq_true hn] at HPs
        have HLw := Lib.hid (HL.out _ F3.out D3.out)
        go_wp2_with (first
          | ((with_reducible refine wpl_ld ?_ ?_ HLw.out ?_); (· rfl); (· rfl); simp only [Act.put, szA, szB, szC])
          | ((with_reducible refine wpl_ldg ?_ ?_ HLw.out ?_); (· rfl); (· rfl); simp only [Act.put, szA, szB, szC]))
        refine (HD.out (by first | rfl | trivial) _ F3.out).mono ?_
        rintro e w4 ⟨rfl, f4⟩
        have D4 := Lib.hid (D3.out.trans' f4 (fun _ _ e => e))
        have F4 := Lib.hid (F3.out.trans' f4 (fun _ _ e => e))
        clear f4 HLw
        have HLw := Lib.hid (HL.out _ F4.out D4.out)
        go_wp2_with (first
          | ((with_reducible refine wpl_ld ?_ ?_ HLw.out ?_); (· rfl); (· rfl); simp only [Act.put, szA, szB, szC])
          | ((with_reducible refine wpl_ldg ?_ ?_ HLw.out ?_); (· rfl); (· rfl); simp only [Act.put, szA, szB, szC]))
        refine (HPs.out (by first | rfl | trivial) _ F4.out).mono ?_
        rintro e w5 ⟨rfl, f5⟩
        have D5 := Lib.hid (D4.out.trans' f5 (fun _ _ e => e))
        have F5 := Lib.hid (F4.out.trans' f5 (fun _ _ e => e))
        clear f5 HLw
        have e1 : ((q && true) != q) = false := by cases q <;> rfl
        have e2 : (q == q) = true := by cases q <;> rfl
        by_cases h6 : N ≤ 6
        · have d2 : decide ((N : Int) > 6) = false := by simp; omega
          have HLw := Lib.hid (HL.out _ F5.out D5.out)
          go_wp2_with (first
            | ((with_reducible refine wpl_ld ?_ ?_ HLw.out ?_); (· rfl); (· rfl); simp only [Act.put, szA, szB, szC])
            | ((with_reducible refine wpl_ldg ?_ ?_ HLw.out ?_); (· rfl); (· rfl); simp only [Act.put, szA, szB, szC]))
          refine (HDs.out (by first | rfl | trivial) (by first | rfl | trivial) h6 _ F5.out).mono ?_
          rintro e w6 ⟨rfl, f6⟩
          have D6 := Lib.hid (D5.out.trans' f6 (fun _ _ e => e))
          have F6 := Lib.hid (F5.out.trans' f6 (fun _ _ e => e))
          clear f6 HLw
          go_wp2
          go_ret
          exact ⟨rfl, F6.out⟩
        · have d2 : decide ((N : Int) > 6) = true := by simp; omega
          go_wp2
          go_ret
          exact ⟨rfl, F5.out⟩
      · have d1 : decide ((N : Int) > 7) = true := by simp; omega
        rw [decide_eq_false hn] at HPs
        have e1 : (!(q && false)) = true := by cases q <;> rfl
        have HLw := Lib.hid (HL.out _ F3.out D3.out)
        go_wp2_with (first
          | ((with_reducible refine wpl_ld ?_ ?_ HLw.out ?_); (· rfl); (· rfl); simp only [Act.put, szA, szB, szC])
          | ((with_reducible refine wpl_ldg ?_ ?_ HLw.out ?_); (· rfl); (· rfl); simp only [Act.put, szA, szB, szC]))
        refine (HPs.out (by first | rfl | trivial) _ F3.out).mono ?_
        rintro e w4 ⟨rfl, f4⟩
        have D4 := Lib.hid (D3.out.trans' f4 (fun _ _ e => e))
        have F4 := Lib.hid (F3.out.trans' f4 (fun _ _ e => e))
        clear f4 HLw
        go_wp2
        go_ret
        exact ⟨rfl, F4.out⟩
  · go_wp2
    go_ret
    exact ⟨rfl, F2.out⟩
end Go.Proofs.YtmeimhpllemjfaaGreat
/- The law: a history has a fair order, that is told, just if its graph is good. -/
namespace Go.Proofs.YtmeimhpllemjfaaGreat
open Go.RowKit

end Go.Proofs.YtmeimhpllemjfaaGreat
/- An order saga by saga: purely. -/
namespace Go.Proofs.YtmeimhpllemjfaaGreat
open Go.RowKit

def SerL (sg : Nat → Int) (N T t s : Nat) (l : List Int) : Prop :=
  ∃ key : Nat → Nat, (∀ i, i < l.length → key i ≤ s ∧ key i < T ∧ ∃ k : Nat, l.getD i (-1) = (k : Int) ∧ k < N ∧ sg k = (((key i + t) % T : Nat) : Int)) ∧ ∀ i j, i ≤ j → j < l.length → key i ≤ key j
theorem ser_nil (sg : Nat → Int) (N T t s : Nat) : SerL sg N T t s [] := ⟨fun _ => 0, fun i hi => by simp at hi, fun i j _ hj => by simp at hj⟩
theorem ser_up {sg : Nat → Int} {N T t s : Nat} {l : List Int} (h : SerL sg N T t s l) : SerL sg N T t (s + 1) l := by
  obtain ⟨key, h1, h2⟩ := h
  exact ⟨key, fun i hi => ⟨Nat.le_succ_of_le (h1 i hi).1, (h1 i hi).2⟩, h2⟩
theorem ser_more {sg : Nat → Int} {N T t s k : Nat} {l : List Int} (h : SerL sg N T t s l) (hs : s < T) (hk : k < N) (e : sg k = (((s + t) % T : Nat) : Int)) : SerL sg N T t s (l ++ [(k : Int)]) := by
  obtain ⟨key, h1, h2⟩ := h
  refine ⟨fun i => if i < l.length then key i else s, fun i hi => ?_, fun i j hij hj => ?_⟩
  · rw [List.length_append, List.length_singleton] at hi
    by_cases hl : i < l.length
    · obtain ⟨a, b, k', c1, c2, c3⟩ := h1 i hl
      simp only [hl, if_true]
      refine ⟨a, b, k', ?_, c2, c3⟩
      rw [← c1, List.getD_eq_getElem?_getD, List.getD_eq_getElem?_getD, List.getElem?_append_left hl]
    · simp only [hl, if_false]
      refine ⟨Nat.le_refl _, hs, k, ?_, hk, e⟩
      have : i = l.length := by omega
      subst this
      rw [List.getD_eq_getElem?_getD, List.getElem?_append_right (Nat.le_refl _)]
      simp
  · rw [List.length_append, List.length_singleton] at hj
    show (if i < l.length then key i else s) ≤ (if j < l.length then key j else s)
    by_cases hl : j < l.length
    · rw [if_pos hl, if_pos (Nat.lt_of_le_of_lt hij hl)]
      exact h2 i j hij hl
    · rw [if_neg hl]
      by_cases hi : i < l.length
      · rw [if_pos hi]
        exact (h1 i hi).1
      · rw [if_neg hi]
        exact Nat.le_refl _
theorem ser_mod {T t a b : Nat} (ha : a < T) (hb : b < T) (e : (a + t) % T = (b + t) % T) : a = b := by
  have h1 := Nat.sub_mod_eq_zero_of_mod_eq e
  have h2 := Nat.sub_mod_eq_zero_of_mod_eq e.symm
  rw [Nat.add_sub_add_right, Nat.mod_eq_of_lt (by omega)] at h1
  rw [Nat.add_sub_add_right, Nat.mod_eq_of_lt (by omega)] at h2
  omega
theorem ser_fair {x : PCt} {h : List Nd} {N T t s : Nat} {l : List Int} (hN : h.length = N) (hl : SerL (fun k => (ndAt h k).saga) N T t s l) (ho : isOrd N l = true) (hk : keepP h (plc l)) : fairP x h (plc l) := by
  obtain ⟨key, h1, h2⟩ := hl
  have at' : ∀ i, i < N → plc l i < (l.length : Int) ∧ 0 ≤ plc l i ∧ l.getD (plc l i).toNat (-1) = (i : Int) := fun i hi =>
    ⟨(plA_rng l i l.length).2, ord_all ho hi, plA_get (l := l) (m := l.length) (ord_all ho hi)⟩
  have kf : ∀ i, i < N → key (plc l i).toNat < T ∧ (ndAt h i).saga = (((key (plc l i).toNat + t) % T : Nat) : Int) := fun i hi => by
    obtain ⟨a1, a2, a3⟩ := at' i hi
    obtain ⟨-, b2, k, b3, -, b5⟩ := h1 (plc l i).toNat (by omega)
    rw [a3] at b3
    have : i = k := by omega
    subst this
    exact ⟨b2, b5⟩
  refine saga_fair hk fun a o b ha ho' hb e p1 p2 => ?_
  rw [hN] at ha ho' hb
  obtain ⟨a1, a2⟩ := kf a ha
  obtain ⟨b1, b2⟩ := kf b hb
  obtain ⟨o1, o2⟩ := kf o ho'
  have e2 : (key (plc l a).toNat + t) % T = (key (plc l b).toNat + t) % T := by rw [a2, b2] at e; omega
  have e3 := ser_mod a1 b1 e2
  have la := at' a ha
  have lo := at' o ho'
  have lb := at' b hb
  have q1 := h2 (plc l a).toNat (plc l o).toNat (by omega) (by omega)
  have q2 := h2 (plc l o).toNat (plc l b).toNat (by omega) (by omega)
  rw [o2, a2]
  have : key (plc l o).toNat = key (plc l a).toNat := by omega
  rw [this]
end Go.Proofs.YtmeimhpllemjfaaGreat
/- The law: an order saga by saga that keeps a history is fair. -/
namespace Go.Proofs.YtmeimhpllemjfaaGreat
open Go.RowKit

set_option maxRecDepth 100000 in
set_option maxHeartbeats 16000000 in
theorem witnessSerial17_any (x : Ctl) (h : List Ndl) (A : Option Addr) (N c : Nat) (t : Nat) (w : World) (hx : Clss w x.cA x.cls) (hs : Nds w A h) (hN : h.length = N) (hNm : N ≤ 9223372036854775807) (hnc : x.cls.length ≤ 9223372036854775807) (ht : t < 256)
    (hal : ∀ W, Fr No w W → Calls Tryz.prog 7 #[] W (Has W true))
    (hpk : great16 x.cls h = false → mayH x.p (ndsOf h) = true → ∀ l L m lc W, l.length = m → m ≤ 1048576 → Fr No w W → Sl W W.heap.size L (ints l) → ∃ rk, (rk = true → isOrd N l = true ∧ keepP (ndsOf h) (plc l)) ∧ Calls Tryz.prog 10 #[x.agg, .slice A N c, .slice L m lc] W (Has W rk))
    (hpf : great16 x.cls h = false → mayH x.p (ndsOf h) = true → ∀ l L m lc W, l.length = m → m ≤ 1048576 → Fr No w W → Sl W W.heap.size L (ints l) → isOrd N l = true → fairP x.p (ndsOf h) (plc l) → Calls Tryz.prog 12 #[x.agg, .slice A N c, .slice L m lc] W (Has W true)) :
    Calls Tryz.prog 6 #[x.agg, .slice A N c, .int .u8 t] w (Has w true) := by
  obtain ⟨i0, hi0, hz0, hz1, hz2⟩ := info_parts info_int16
  have Hal := Lib.hid hal
  have HG := Lib.hid (fun W (hW : Fr No w W) => great16_any x h A N c W (hx.since hW) (hs.since hW) hN hNm hnc)
  have HM := Lib.hid (fun (hg : great16 x.cls h = false) W (hW : Fr No w W) => mayD16 x h A N c W (hx.since hW) (hs.since hW) hN (by have := (few_of_great16 hg).2.1; omega) (few_of_great16 hg).2.2)
  have HPk := Lib.hid hpk
  have HPf := Lib.hid hpf
  have Hfa := Lib.hid (fun (l : List Int) (T s : Nat) (q : SerL (fun k => (ndAt (ndsOf h) k).saga) N T t s l) => fun ho hk => ser_fair (x := x.p) (by rw [ndsOf_len]; exact hN) q ho hk)
  have Hc := Lib.hid (fun (k : Nat) (hk : k < N) W (hW : Fr No w W) => show ∃ ad, A = some ad ∧ W.cell? (ad.add (k * 6)) = some (.int .i64 ((fun k => (ndAt (ndsOf h) k).saga) k)) by
    obtain ⟨ad, e, -, a0, -⟩ := (hs.since hW).sl.nd (show k < h.length by omega)
    exact ⟨ad, e, by show _ = some (Value.int .i64 (ndAt (ndsOf h) k).saga); rw [ndsOf_at (show k < h.length by omega)]; exact a0⟩)
  clear hal hpk hpf
  generalize great16 x.cls h = g at *
  generalize mayH x.p (ndsOf h) = r at *
  generalize (fun k => (ndAt (ndsOf h) k).saga) = sg at *
  unfold Ctl.agg at HG HM HPk HPf ⊢
  obtain ⟨Z, hZ⟩ : ∃ Z, Z = x.arr := ⟨_, rfl⟩
  rw [← hZ] at HG HM HPk HPf ⊢
  rw [Ctl.arr_eq] at hZ
  obtain ⟨W0, hW0⟩ : ∃ W0, W0 = w.alloc (.cells Z 26) := ⟨_, rfl⟩
  have bZ : Bk W0 w.heap.size 26 Z := by rw [hW0]; exact Bk.made w _ _
  have HF0 : Hid (Fr No w W0) := Lib.hid (by rw [hW0]; exact (Fr.refl _ _).alloc _)
  have HL := Lib.hid (fun V (h0 : Fr No W0 V) => show LdO V 26 ⟨w.heap.size, 0, none⟩ (.agg Z) from ld_cat hZ (bZ.fr h0 (fun e => e)))
  have hwe := hW0.symm
  clear hZ hW0 bZ hx hs hN
  go_enter Tryz.func6, Tryz.ntmps6
  go_wp2_with fail
  refine (Hal.out _ HF0.out).mono ?_
  rintro e w1 ⟨rfl, f1⟩
  have D1 : Hid (Fr No W0 w1) := Lib.hid f1
  have F1 := Lib.hid (HF0.out.trans' f1 (fun _ _ e => e))
  have HLw := Lib.hid (HL.out _ D1.out)
  clear f1 hwe Hal
  go_wp2_with (first
    | ((with_reducible refine wpl_ld ?_ ?_ HLw.out ?_); (· rfl); (· rfl); simp only [Act.put, szA, szB, szC])
    | ((with_reducible refine wpl_ldg ?_ ?_ HLw.out ?_); (· rfl); (· rfl); simp only [Act.put, szA, szB, szC]))
  refine (HG.out _ F1.out).mono ?_
  rintro e w2 ⟨rfl, f2⟩
  have D2 := Lib.hid (D1.out.trans' f2 (fun _ _ e => e))
  have F2 := Lib.hid (HF0.out.trans' D2.out (fun _ _ e => e))
  clear f2 HLw HG D1 F1
  cases g
  · have HLw := Lib.hid (HL.out _ D2.out)
    by_cases hn : N ≤ 14
    · have d1 : decide ((N : Int) > 14) = false := by simp; omega
      go_wp2_with (first
        | ((with_reducible refine wpl_ld ?_ ?_ HLw.out ?_); (· rfl); (· rfl); simp only [Act.put, szA, szB, szC])
        | ((with_reducible refine wpl_ldg ?_ ?_ HLw.out ?_); (· rfl); (· rfl); simp only [Act.put, szA, szB, szC]))
      refine (HM.out (by first | rfl | trivial) _ F2.out).mono ?_
      rintro e w3 ⟨rfl, f3⟩
      have D3 := Lib.hid (D2.out.trans' f3 (fun _ _ e => e))
      clear f3 HLw D2 F2 HM d1
      cases r
      · have F3 := Lib.hid (HF0.out.trans' D3.out (fun _ _ e => e))
        go_wp2
        go_ret
        exact ⟨rfl, F3.out⟩
      · go_wp2
        go_loopw [8, 9] (fun tv iv wr => ∃ T i : Nat, i ≤ N ∧ T ≤ 21 ∧ tv = .int .i64 (T : Int) ∧ iv = .int .i64 (i : Int) ∧ Hid (Fr No W0 wr)) (fun _ iv _ => N - (Go.RowKit.intOf iv).toNat)
        case atStart => exact ⟨0, 0, Nat.zero_le _, Nat.zero_le _, rfl, rfl, D3⟩
        case round =>
          clear D3
          obtain ⟨T, i, hi, hT, rfl, rfl, hfr⟩ := hrel
          have HFw := Lib.hid (HF0.out.trans' hfr.out (fun _ _ e => e))
          by_cases hlt : i < N
          · have hin : ((i : Nat) : Int) < (N : Int) := by omega
            obtain ⟨ad, rfl, hcell⟩ := Hc.out i hlt wr HFw.out
            generalize sg i = si at hcell
            by_cases h20 : si > 20
            · go_wp2
              go_ret
              exact ⟨rfl, HFw.out⟩
            · by_cases hge : si ≥ (T : Int)
              · obtain ⟨u, rfl⟩ := Int.eq_ofNat_of_zero_le (show 0 ≤ si by omega)
                go_wp2
                go_roundw
                case rel => exact ⟨u + 1, i + 1, by omega, by omega, by go_num, by go_num, hfr⟩
                case measure => simp [Go.RowKit.intOf]; omega
              · go_wp2
                go_roundw
                case rel => exact ⟨T, i + 1, by omega, by omega, rfl, by go_num, hfr⟩
                case measure => simp [Go.RowKit.intOf]; omega
          · obtain rfl : i = N := by omega
            clear hlt
            go_wp2
            go_loopw [7, 10] (fun lv sv wv => ∃ (s m : Nat) (l : List Int) (L : Option Addr) (lc : Nat), s ≤ T ∧ l.length = m ∧ m ≤ s * 14 ∧ lv = .slice L m lc ∧ sv = .int .i64 (s : Int) ∧ Hid (SerL sg i T t s l) ∧ Hid (wv.ownsRow W0.heap.size 3 1 (.slice L m lc) m (ints l)) ∧ Hid (Fr No W0 wv)) (fun _ sv _ => T - (Go.RowKit.intOf sv).toNat)
            case atStart => exact ⟨0, 0, [], none, 0, Nat.zero_le _, rfl, Nat.zero_le _, rfl, rfl, Lib.hid (ser_nil _ _ _ _ _), Lib.hid (World.ownsRow_nil _ _ _ _), hfr⟩
            case round =>
              clear hfr HFw
              obtain ⟨s, m, l, L, lc, hsT, hlm, hm, rfl, rfl, hS, hO, hfr⟩ := hrel
              by_cases hlt : s < T
              · have hin : ((s : Nat) : Int) < (T : Int) := by omega
                go_wp2
                go_loopw [7, 11] (fun lv kv wu => ∃ (k m : Nat) (l : List Int) (L : Option Addr) (lc : Nat), k ≤ i ∧ l.length = m ∧ m ≤ s * 14 + k ∧ lv = .slice L m lc ∧ kv = .int .i64 (k : Int) ∧ Hid (SerL sg i T t s l) ∧ Hid (wu.ownsRow W0.heap.size 3 1 (.slice L m lc) m (ints l)) ∧ Hid (Fr No W0 wu)) (fun _ kv _ => i - (Go.RowKit.intOf kv).toNat)
                case atStart => exact ⟨0, m, l, L, lc, Nat.zero_le _, hlm, hm, rfl, rfl, hS, hO, hfr⟩
                case round =>
                  clear hfr hS hO hlm hm
                  obtain ⟨k, m, l, L, lc, hk, hlm, hm, rfl, rfl, hS, hO, hfr⟩ := hrel
                  have HFw := Lib.hid (HF0.out.trans' hfr.out (fun _ _ e => e))
                  by_cases hki : k < i
                  · have hkn : ((k : Nat) : Int) < (i : Int) := by omega
                    obtain ⟨ad, rfl, -⟩ := Hc.out k hki wr HFw.out
                    have Hcl := Lib.hid (fun V (hV : Fr No wr V) => show V.cell? (ad.add (k * 6)) = some (.int .i64 (sg k)) by
                      obtain ⟨ad2, e2, q⟩ := Hc.out k hki V (HFw.out.trans' hV (fun _ _ e => e))
                      injection e2 with e2
                      subst e2
                      exact q)
                    have Hmo := Lib.hid (fun q => ser_more hS.out hlt hki q)
                    have Hrem : Hid (Int.tmod ((s : Int) + (t : Int)) (T : Int) = (((s + t) % T : Nat) : Int)) := Lib.hid (by rw [← Int.natCast_add]; exact (Int.ofNat_tmod _ _).symm)
                    obtain ⟨si, hsi⟩ : ∃ si, sg k = si := ⟨_, rfl⟩
                    rw [hsi] at Hcl Hmo
                    have Hst := Lib.hid (show (s : Int) + (t : Int) = (((s + t : Nat)) : Int) by simp)
                    have hbs : s + t < 300 := by omega
                    go_wp2_with fail
                    refine wp_region_held_drew (S := fun V => V.cell? (ad.add (k * 6)) = some (.int .i64 si)) (by kernel_rfl) (Hcl.out _ ((Fr.refl No wr).drew)) (fun hHeld => ?_)
                    refine any_u 64 (.slice (some ad) i c) (i := 0) rfl rfl ?_
                    simp only [Act.put, szA, szB, szC]
                    refine any_u 65 (.int .i64 ((k : Nat) : Int)) (i := 1) rfl rfl ?_
                    simp only [Act.put, szA, szB, szC]
                    refine any_u 66 (.pointer (some (ad.add (k * 6)))) (i := 2) rfl rfl ?_
                    simp only [Act.put, szA, szB, szC]
                    refine any_u 67 (.pointer (some (ad.add (k * 6)))) (i := 3) rfl rfl ?_
                    simp only [Act.put, szA, szB, szC]
                    refine any_u 68 (.int .i64 si) (i := 4) rfl rfl ?_
                    simp only [Act.put, szA, szB, szC]
                    refine any_u 69 (.int .i64 ((s : Nat) : Int)) (i := 5) rfl rfl ?_
                    simp only [Act.put, szA, szB, szC]
                    refine any_u 70 (.int .u8 ((t : Nat) : Int)) (i := 6) rfl rfl ?_
                    simp only [Act.put, szA, szB, szC]
                    refine any_tk 71 (.int .i64 ((t : Nat) : Int)) (i := 7) rfl rfl (by kernel_rfl) (fun _ _ _ h => h) (by rfl) (by intro w hSw; (try dsimp only at hSw); go_simp; rw [IntKind.wrap_i64]; omega) (by assumption) ?_
                    simp only [Act.put, szA, szB, szC]
                    refine any_tk 72 (.int .i64 ((s : Int) + (t : Int))) (i := 8) rfl rfl (by kernel_rfl) (fun _ _ _ h => h) (by rfl) (by intro w hSw; (try dsimp only at hSw); go_simp; rw [IntKind.wrap_i64]; omega) (by assumption) ?_
                    simp only [Act.put, szA, szB, szC]
                    refine any_u 73 (.int .i64 ((T : Nat) : Int)) (i := 9) rfl rfl ?_
                    simp only [Act.put, szA, szB, szC]
                    refine any_tk 74 (.int .i64 (((s + t) % T : Nat) : Int)) (i := 10) rfl rfl (by kernel_rfl) (fun _ _ _ h => h) (by rfl) (by intro w hSw; (try dsimp only at hSw); go_simp; rw [if_neg (by omega), Int.tmod_eq_emod_of_nonneg (by omega)]) (by assumption) ?_
                    simp only [Act.put, szA, szB, szC]
                    refine any_tk 75 (.bool (decide (si = (((s + t) % T : Nat) : Int)))) (i := 11) rfl rfl (by kernel_rfl) (fun _ _ _ h => h) (by rfl) (by intro w hSw; (try dsimp only at hSw); go_simp; try rfl) (by assumption) ?_
                    simp only [Act.put, szA, szB, szC]
                    refine wpAnyH_done (by kernel_rfl) ?_ _
                    clear hHeld
                    have D4 : Hid (Fr No W0 wr.drew) := Lib.hid (hfr.out.trans' ((Fr.refl No wr).drew) (fun _ _ e => e))
                    have HO4 : Hid (wr.drew.ownsRow W0.heap.size 3 1 (.slice L m lc) m (ints l)) := Lib.hid (hO.out.drew)
                    obtain ⟨wd, hwd⟩ : ∃ wd, wr.drew = wd := ⟨_, rfl⟩
                    rw [hwd] at D4 HO4 ⊢
                    clear hwd Hcl hO hfr HFw Hrem Hst
                    by_cases he : si = (((s + t) % T : Nat) : Int)
                    · have HS2 := Lib.hid (Hmo.out he)
                      have hdt : decide (si = (((s + t) % T : Nat) : Int)) = true := decide_eq_true he
                      rw [hdt]
                      clear hdt he Hmo hS
                      go_wp2_with (at_builtin; refine wpList_append_src _ rfl _ _ 28 rfl W0.heap.size 3 i0 _ 1 8 Tryz.underlying28 hi0 hz0 hz1 hz2 rfl (by decide) (.slice L m lc) m (ints l) rfl (HO4.out.alloc _) (wd.heap.size + 1) (some ⟨wd.heap.size, 0, none⟩) 1 1 [.int .i64 (k : Int)] rfl rfl (Sl.made wd _ #[.int .i64 (k : Int)]) (by intro u hu; simp at hu; subst hu; rfl) (by unfold maxLen; omega) (by omega) (by have := D4.out.size; simp; omega) ?_
                                   intro v' w5 q1 q2 q3
                                   obtain ⟨A', c', rfl, -, -, -⟩ := own_shape q1
                                   have f5 : Fr (fun k => (Value.slice L m lc).ownBlock = some k) wd w5 := ((Fr.refl _ wd).alloc _).grown q2 (fun k hk => .inl hk)
                                   have HO5 : Hid (w5.ownsRow W0.heap.size 3 1 (.slice A' (m + 1) c') (m + 1) (ints (l ++ [(k : Int)]))) := Lib.hid (by rw [show ints (l ++ [(k : Int)]) = ints l ++ [.int .i64 (k : Int)] by simp [ints]]; exact q1)
                                   have D5 : Hid (Fr No W0 w5) := Lib.hid (D4.out.trans' f5 (fun k hk e => by have := (HO4.out.lt k e).1; omega))
                                   clear q1 q2 q3 f5 HO4 D4)
                      go_roundw
                      case rel => exact ⟨k + 1, m + 1, l ++ [(k : Int)], A', c', by omega, by simp [hlm], by omega, rfl, by go_num, HS2, HO5, D5⟩
                      case measure => simp [Go.RowKit.intOf]; omega
                    · have hdt : decide (si = (((s + t) % T : Nat) : Int)) = false := decide_eq_false he
                      rw [hdt]
                      clear hdt he Hmo
                      go_wp2
                      go_roundw
                      case rel => exact ⟨k + 1, m, l, L, lc, by omega, hlm, by omega, rfl, by go_num, hS, HO4, D4⟩
                      case measure => simp [Go.RowKit.intOf]; omega
                  · obtain rfl : k = i := by omega
                    go_wp2
                    go_roundw
                    case rel => exact ⟨s + 1, m, l, L, lc, by omega, hlm, by omega, rfl, by go_num, Lib.hid (ser_up hS.out), hO, hfr⟩
                    case measure => simp [Go.RowKit.intOf]; omega
              · obtain rfl : s = T := by omega
                have HLw := Lib.hid (HL.out _ hfr.out)
                have HFw := Lib.hid (HF0.out.trans' hfr.out (fun _ _ e => e))
                have HSl := Lib.hid (Sl.ofOwn hO.out)
                obtain ⟨rk, hrk, hcK⟩ := HPk.out (by first | rfl | trivial) (by first | rfl | trivial) l L m lc wr hlm (by omega) HFw.out HSl.out
                have HK := Lib.hid hcK
                have Hrk := Lib.hid hrk
                clear hcK hrk HPk hO
                go_wp2_with (first
                  | ((with_reducible refine wpl_ld ?_ ?_ HLw.out ?_); (· rfl); (· rfl); simp only [Act.put, szA, szB, szC])
                  | ((with_reducible refine wpl_ldg ?_ ?_ HLw.out ?_); (· rfl); (· rfl); simp only [Act.put, szA, szB, szC]))
                refine HK.out.mono ?_
                rintro e w5 ⟨rfl, f5⟩
                have D5 := Lib.hid (hfr.out.trans' f5 (fun _ _ e => e))
                have F5 := Lib.hid (HF0.out.trans' D5.out (fun _ _ e => e))
                have HSl5 := Lib.hid (HSl.out.since f5)
                clear f5 HLw HK HSl HFw
                have HLw := Lib.hid (HL.out _ D5.out)
                cases rk
                · clear Hrk
                  go_wp2
                  go_ret
                  exact ⟨rfl, F5.out⟩
                · have HF := Lib.hid (HPf.out (by first | rfl | trivial) (by first | rfl | trivial) l L m lc w5 hlm (by omega) F5.out HSl5.out (Hrk.out rfl).1 (Hfa.out l s s hS.out (Hrk.out rfl).1 (Hrk.out rfl).2))
                  clear Hrk HPf Hfa
                  go_wp2_with (first
                    | ((with_reducible refine wpl_ld ?_ ?_ HLw.out ?_); (· rfl); (· rfl); simp only [Act.put, szA, szB, szC])
                    | ((with_reducible refine wpl_ldg ?_ ?_ HLw.out ?_); (· rfl); (· rfl); simp only [Act.put, szA, szB, szC]))
                  refine HF.out.mono ?_
                  rintro e w6 ⟨rfl, f6⟩
                  have F6 := Lib.hid (F5.out.trans' f6 (fun _ _ e => e))
                  clear f6
                  go_wp2
                  go_ret
                  exact ⟨rfl, F6.out⟩
    · have d1 : decide ((N : Int) > 14) = true := by simp; omega
      go_wp2
      go_ret
      exact ⟨rfl, F2.out⟩
  · go_wp2
    go_ret
    exact ⟨rfl, F2.out⟩
end Go.Proofs.YtmeimhpllemjfaaGreat
/- The document's search, and the laws, of what package witness should do. -/
namespace Go.Proofs.YtmeimhpllemjfaaGreat
open Go.RowKit

theorem refSearch17 (x : Ctl) (h : List Ndl) (A : Option Addr) (n c : Nat) (w : World) (hx : Clss w x.cA x.cls) (hs : Nds w A h) (hn : h.length = n) (hf : Nds.Few h) (hmay : mayH x.p (ndsOf h) = true) :
    Calls Tryz.prog 16 #[x.agg, .slice A n c] w (Has w (goodH x.p (ndsOf h))) := by
  have HS := Lib.hid (fun W (hW : Fr No w W) => refSrc17 x h A n c hn hf hmay n [] none 0 0 W (goodH x.p (ndsOf h)) rfl (Nat.zero_le _) rfl rfl (hx.since hW) (hs.since hW) (fun e => absurd rfl e) (by
    rw [src_good hmay]
    unfold goodH
    rw [hmay, Bool.true_and]))
  clear hx hs
  generalize goodH x.p (ndsOf h) = r at *
  unfold Ctl.agg at HS ⊢
  obtain ⟨Z, hZ⟩ : ∃ Z, Z = x.arr := ⟨_, rfl⟩
  rw [← hZ] at HS ⊢
  rw [Ctl.arr_eq] at hZ
  obtain ⟨W0, hW0⟩ : ∃ W0, W0 = w.alloc (.cells Z 26) := ⟨_, rfl⟩
  have bZ : Bk W0 w.heap.size 26 Z := by rw [hW0]; exact Bk.made w _ _
  have HF0 : Hid (Fr No w W0) := Lib.hid (by rw [hW0]; exact (Fr.refl _ _).alloc _)
  have HL := Lib.hid (show LdO W0 26 ⟨w.heap.size, 0, none⟩ (.agg Z) from ld_cat hZ bZ)
  have hwe := hW0.symm
  clear hZ hW0 bZ
  go_enter Tryz.func16, Tryz.ntmps16
  go_wp2_with (first
    | ((with_reducible refine wpl_ld ?_ ?_ HL.out ?_); (· rfl); (· rfl); simp only [Act.put, szA, szB, szC]))
  refine (HS.out _ HF0.out).mono ?_
  rintro e w1 ⟨rfl, f1⟩
  go_wp2
  go_ret
  exact ⟨rfl, HF0.out.trans' f1 (fun _ _ e => e)⟩
theorem in17 {x : Ctl} {h : List Ndl} {A : Option Addr} {n c : Nat} {w : World} (hx : Clss w x.cA x.cls) (hs : Nds w A h) (hn : h.length = n) (hnc : n ≤ c) (hg : great16 x.cls h = false) : ∀ W, Fr No w W → In16 x h A n c W :=
  fun W hW => ⟨hx.since hW, hs.since hW, hn, by have := (few_of_great16 hg).2.1; omega, hnc, (few_of_great16 hg).1, (few_of_great16 hg).2.2⟩
theorem lawFair17 (hK : KeepsC17) (hF : FairC17) (x : Ctl) (h : List Ndl) (A : Option Addr) (n c : Nat) (l : List Int) (L : Option Addr) (m lc : Nat) (w : World) (hx : Clss w x.cA x.cls) (hs : Nds w A h) (hn : h.length = n) (hnc : n ≤ c) (hnm : n ≤ 9223372036854775807) (hncl : x.cls.length ≤ 9223372036854775807) (hl : Sl w w.heap.size L (ints l)) (hm : l.length = m) (hmm : m ≤ 9223372036854775807) :
    Calls Tryz.prog 3 #[x.agg, .slice A n c, .slice L m lc] w (Has w true) := by
  obtain ⟨r1, h1⟩ : ∃ r : Bool, r = true ↔ isOrd n l = true ∧ keepP (ndsOf h) (plc l) := by classical exact ⟨decide _, decide_eq_true_iff⟩
  obtain ⟨r2, h2⟩ : ∃ r : Bool, r = true ↔ isOrd n l = true ∧ fairP x.p (ndsOf h) (plc l) := by classical exact ⟨decide _, decide_eq_true_iff⟩
  refine witnessFair17_any x h A n c L m lc w hx hs hn hnm hncl hmm (fun W _ => aliveF17 hF W) r1 r2 (fun hg hy hm4 W hW => ?_) (fun hg hy hm4 W hW => ?_) (fun hg hn4 hm4 W hW => ?_) (fun hg hn4 hm4 W hW => ?_)
  · exact refKeeps17 h A n c l L m lc W (hs.since hW) hn (by have := (few_of_great16 hg).2.1; omega) (hl.since hW) hm (by omega) (confD16 (hs.since hW) (few_of_great16 hg).2.2) r1 h1
  · exact refFair17 x h A n c l L m lc W (hx.since hW) (hs.since hW) hn (few_of_great16 hg).2.2 hy (hl.since hW) hm (by omega) r2 h2
  · exact hK x h A n c l L m lc W (in17 hx hs hn hnc hg W hW) (hl.since hW) hm (by omega) _ (by rw [Bool.and_eq_true, h1])
  · exact hF x h A n c l L m lc W (in17 hx hs hn hnc hg W hW) (hl.since hW) hm (by omega) _ (by rw [Bool.and_eq_true, h2])
theorem lawSearch17 (hF : FairC17) (hS : SearchC17) (x : Ctl) (h : List Ndl) (A : Option Addr) (n c : Nat) (w : World) (hx : Clss w x.cA x.cls) (hs : Nds w A h) (hn : h.length = n) (hnc : n ≤ c) (hnm : n ≤ 9223372036854775807) (hncl : x.cls.length ≤ 9223372036854775807) :
    Calls Tryz.prog 4 #[x.agg, .slice A n c] w (Has w true) :=
  witnessSearch17_any x h A n c w hx hs hn hnm hncl (fun W _ => aliveF17 hF W) (fun hg W hW => hS x h A n c W (in17 hx hs hn hnc hg W hW)) (fun hg hy _ W hW => refSearch17 x h A n c W (hx.since hW) (hs.since hW) hn (few_of_great16 hg).2.2 hy)
theorem lawSerial17 (hK : KeepsC17) (hF : FairC17) (x : Ctl) (h : List Ndl) (A : Option Addr) (n c : Nat) (t : Nat) (w : World) (hx : Clss w x.cA x.cls) (hs : Nds w A h) (hn : h.length = n) (hnc : n ≤ c) (hnm : n ≤ 9223372036854775807) (hncl : x.cls.length ≤ 9223372036854775807) (ht : t < 256) :
    Calls Tryz.prog 6 #[x.agg, .slice A n c, .int .u8 t] w (Has w true) :=
  witnessSerial17_any x h A n c t w hx hs hn hnm hncl ht (fun W _ => aliveF17 hF W) (fun hg hy l L m lc W hm hmm hW hsl => by
    obtain ⟨r1, h1⟩ : ∃ r : Bool, r = true ↔ isOrd n l = true ∧ keepP (ndsOf h) (plc l) := by classical exact ⟨decide _, decide_eq_true_iff⟩
    exact ⟨r1, h1.1, hK x h A n c l L m lc W (in17 hx hs hn hnc hg W hW) hsl hm hmm r1 (h1.trans ⟨fun q => ⟨hy, q⟩, fun q => q.2⟩)⟩)
    (fun hg hy l L m lc W hm hmm hW hsl ho hf => hF x h A n c l L m lc W (in17 hx hs hn hnc hg W hW) hsl hm hmm true ⟨fun _ => ⟨hy, ho, hf⟩, fun _ => rfl⟩)
end Go.Proofs.YtmeimhpllemjfaaGreat
