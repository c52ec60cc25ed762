/- The law: changes that are made leave the store that the document says. -/
import Derived.Test.YthenadijiepmnaaGreatAlv13
import Derived.Test.YthenadijiepmnaaGreatApp13
namespace Go.Proofs.YthenadijiepmnaaGreat
open Go.RowKit

theorem ofP_fold (l : List (Int × Int)) : ∀ (P : List Pg) (m : Mp), InvP P → valP P.flatten = m → InvP (l.foldl (fun P x => if 0 ≤ x.1 ∧ x.1 ≤ 999 then putP P x.1.toNat x.2 else P) P) ∧ valP (l.foldl (fun P x => if 0 ≤ x.1 ∧ x.1 ≤ 999 then putP P x.1.toNat x.2 else P) P).flatten = l.foldl putM m := by
  induction l with
  | nil => intro P m h e; exact ⟨h, e⟩
  | cons x l ih =>
    intro P m h e
    rw [List.foldl_cons, List.foldl_cons]
    by_cases hx : 0 ≤ x.1 ∧ x.1 ≤ 999
    · refine ih _ _ (by rw [if_pos hx]; exact putP_inv h (by omega) _) ?_
      rw [if_pos hx, putP_pairs h]
      funext j
      rw [valP_ins h.rise, e]
      unfold putM
      rw [if_pos hx]
      rfl
    · refine ih _ _ (by rw [if_neg hx]; exact h) ?_
      rw [if_neg hx, e]
      unfold putM
      rw [if_neg hx]
theorem ofP_all (l : List (Int × Int)) : InvP (ofP l) ∧ valP (ofP l).flatten = mapOf l := ofP_fold l [] _ InvP.nil rfl
theorem pairsM_eq {P : List Pg} (hi : InvP P) {m : Mp} (h : ∀ k, k < 1000 → m k = valP P.flatten k) : pairsM m = P.flatten := pairsTo_eq hi.rise hi.key h
set_option maxRecDepth 100000 in
set_option maxHeartbeats 4000000 in
theorem stepApplies_any (l : List (Int × Int)) (A1 : Option Addr) (n1 c1 : Nat) (cs : List Chg) (A2 : Option Addr) (n2 c2 : Nat) (w : World) (hl : Sl w w.heap.size A1 (prs2 l)) (hn1 : l.length = n1) (hv : ∀ x ∈ l, -9223372036854775808 ≤ x.2 ∧ x.2 < 9223372036854775808) (hc : Sl w w.heap.size A2 (cs.flatMap Chg.cells)) (hn2 : cs.length = n2) :
    Calls Tryz.prog 4 #[.slice A1 n1 c1, .slice A2 n2 c2] w (Has w true) := by
  have Hal := Lib.hid (alive13 w)
  by_cases h1 : n1 ≤ 100
  · by_cases h2 : n2 ≤ 100
    · have HOf := Lib.hid (fun W (hW : Fr No w W) => pOf_any l A1 n1 c1 W (hl.since hW) hn1 (by omega) hv)
      have HRf := Lib.hid (fun W (hW : Fr No w W) => refOf13_any l A1 n1 c1 W (hl.since hW) hn1 (by omega))
      obtain ⟨hinv, hval⟩ := ofP_all l
      have HAp := Lib.hid (fun W S s (hW : Fr No w W) (hp : PS W S s (ofP l)) (hS : ∀ k, S k → w.heap.size ≤ k) => sApply_any cs A2 n2 c2 W hinv hp (hc.since hW) (fun ad e hne => by
        have hne2 : cs.flatMap Chg.cells ≠ [] := fun e2 => hne (by
          cases cs with
          | nil => rfl
          | cons a b => simp [Chg.cells] at e2)
        obtain ⟨ad', e', hb, -⟩ := hc hne2
        rw [e] at e'
        injection e' with e'
        subst e'
        intro hS2
        have := hS _ hS2
        omega) hn2 (by omega))
      have HRa := Lib.hid (fun W g m (hsl : Sl W W.heap.size A2 (cs.flatMap Chg.cells)) (hR : RM W g m) (hg : w.heap.size ≤ g) => refApply13_any g m cs A2 n2 c2 W hR hsl (fun ad e hne => by
        have hne2 : cs.flatMap Chg.cells ≠ [] := fun e2 => hne (by
          cases cs with
          | nil => rfl
          | cons a b => simp [Chg.cells] at e2)
        obtain ⟨ad', e', hb, -⟩ := hc hne2
        rw [e] at e'
        injection e' with e'
        subst e'
        omega) hn2 (by omega))
      have HCs := Lib.hid (fun W S (hW : Fr S w W) (hS : ∀ k, S k → w.heap.size ≤ k) => (hc.fr hW (Nat.le_refl _) (fun ad e hne hs => by
        obtain ⟨ad', e', hb, -⟩ := hc hne
        rw [e] at e'
        injection e' with e'
        subst e'
        have := hS _ hs
        omega)).more hW.size)
      have Hinv2 := Lib.hid (applyQ_inv hinv cs)
      have Hpm : Hid (pairsM (applyM (mapOf l) cs) = (applyQ (ofP l) cs).flatten) := Lib.hid (pairsM_eq (applyQ_inv hinv cs) (fun k _ => by rw [applyQ_val hinv, hval]))
      have Hlen := Lib.hid ((applyQ_inv hinv cs).len.1)
      generalize applyQ (ofP l) cs = P' at *
      have g1 : decide ((n1 : Int) > 100) = false := decide_eq_false (by omega)
      have g2 : decide ((n2 : Int) > 100) = false := decide_eq_false (by omega)
      clear hl hn1 hv hc hn2 hinv hval h1 h2
      go_enter Tryz.func4, Tryz.ntmps4
      go_wp2_with fail
      refine (Hal.out).mono ?_
      rintro e w1 ⟨rfl, f1⟩
      have F1 := Lib.hid f1
      go_wp2_with fail
      refine (HOf.out _ F1.out).mono ?_
      rintro e w2 ⟨s, S, rfl, hps, hS, f2⟩
      have F2 := Lib.hid (F1.out.trans' f2 (fun _ _ e => e))
      have HS : Hid (∀ k, S k → w.heap.size ≤ k) := Lib.hid (fun k hk => Nat.le_trans F1.out.size (hS k hk))
      have Hps := Lib.hid hps
      clear f1 f2 hps hS
      go_wp2_with fail
      refine (HRf.out _ F2.out).mono ?_
      rintro e w3 ⟨g, rfl, hR, hg, f3⟩
      have F3 := Lib.hid (F2.out.trans' f3 (fun _ _ e => e))
      have Hg0 := Lib.hid (Nat.le_trans F2.out.size hg)
      have HnS : Hid (¬ S g) := Lib.hid (fun h => by have := Hps.out.lt g h; omega)
      have Hps3 := Lib.hid (Hps.out.fr f3 (fun _ _ e => e))
      have Hgl := Lib.hid hR.lt
      have HR3 := Lib.hid hR
      clear f3 hR hg Hps
      go_wp2_with fail
      refine (HAp.out _ S s F3.out Hps3.out HS.out).mono ?_
      rintro e w4 ⟨rfl, S', hps', f4, hS'⟩
      have HR4 := Lib.hid (HR3.out.fr f4 HnS.out)
      have HF4 : Hid (Fr S w w4) := Lib.hid ((F3.out.weak (fun _ _ e => e.elim)).trans' f4 (fun _ _ e => e))
      have Hsl4 := Lib.hid (HCs.out _ S HF4.out HS.out)
      have HnS' : Hid (¬ S' g) := Lib.hid (fun h => (hS' g h).elim HnS.out (fun e => by have := Hgl.out; omega))
      have Hps4 := Lib.hid hps'
      clear f4 hps' hS' HR3
      go_wp2_with fail
      refine (HRa.out _ g _ Hsl4.out HR4.out Hg0.out).mono ?_
      rintro e w5 ⟨rfl, hR5, f5⟩
      have Hps5 := Lib.hid (Hps4.out.fr f5 (fun k hk e => HnS'.out (by rw [← e]; exact hk)))
      have HR5 := Lib.hid hR5
      have HF5 : Hid (Fr No w w5) := Lib.hid ((HF4.out.weak (S' := fun k => w.heap.size ≤ k) (fun k _ hk => HS.out k hk)).trans' f5 (fun k hk e => by have e : k = g := e; have := Hg0.out; omega) |>.trans' (Fr.refl No _) (fun _ _ e => e.elim) |> fun h => ⟨h.same, h.size, fun i hi hn => h.block i hi (fun e => by have e : w.heap.size ≤ i := e; omega)⟩)
      clear f5 hR5 Hps4 HR4
      go_wp2_with fail
      refine (scan_all Hinv2.out Hps5.out _ (Fr.refl _ _)).mono ?_
      rintro e w6 ⟨B1, d1, rfl, hs6, f6⟩
      have F6 := Lib.hid (HF5.out.trans' f6 (fun _ _ e => e))
      have HR6 := Lib.hid (HR5.out.fr f6 (fun e => e))
      have Hs6 := Lib.hid hs6
      clear f6 hs6
      generalize hnp : P'.flatten.length = np at *
      have Hnp := Lib.hid hnp
      go_wp2_with fail
      refine (refPairs13_any g _ _ HR6.out).mono ?_
      rintro e w7 ⟨B2, d2, rfl, hs7, f7⟩
      rw [Hpm.out] at hs7 ⊢
      try rw [Hnp.out]
      have F7 := Lib.hid (F6.out.trans' f7 (fun _ _ e => e))
      have Hs6' := Lib.hid (Hs6.out.since f7)
      have Hs7 := Lib.hid hs7
      clear f7 hs7 hnp
      have hq := refSame5_any P'.flatten P'.flatten B1 B2 np np d1 d2 w7 Hs6'.out Hs7.out Hnp.out Hnp.out (by have := Hlen.out; have := Hnp.out; omega) (by have := Hlen.out; have := Hnp.out; omega)
      rw [decide_eq_true rfl] at hq
      have HQ := Lib.hid hq
      clear hq
      go_wp2_with fail
      refine (HQ.out).mono ?_
      rintro e w8 ⟨rfl, f8⟩
      have F8 := Lib.hid (F7.out.trans' f8 (fun _ _ e => e))
      clear f8
      go_wp2
      go_ret
      exact ⟨rfl, F8.out⟩
    · have g1 : decide ((n1 : Int) > 100) = false := decide_eq_false (by omega)
      have g2 : decide ((n2 : Int) > 100) = true := decide_eq_true (by omega)
      clear hl hn1 hv hc hn2 h2 h1
      go_enter Tryz.func4, Tryz.ntmps4
      go_wp2_with fail
      refine (Hal.out).mono ?_
      rintro e w1 ⟨rfl, f1⟩
      go_wp2
      go_ret
      exact ⟨rfl, f1⟩
  · have g1 : decide ((n1 : Int) > 100) = true := decide_eq_true (by omega)
    clear hl hn1 hv hc hn2 h1
    go_enter Tryz.func4, Tryz.ntmps4
    go_wp2_with fail
    refine (Hal.out).mono ?_
    rintro e w1 ⟨rfl, f1⟩
    go_wp2
    go_ret
    exact ⟨rfl, f1⟩
end Go.Proofs.YthenadijiepmnaaGreat
