/- Package cat: Get. -/
import Derived.Test.YtbemfomiiikpoaaGreatGtp12
namespace Go.Proofs.YtbemfomiiikpoaaGreat
open Go.RowKit

variable {G : Nat → Prop}
/-- A catalogue that was read. -/
def GotQC (G : Nat → Prop) (w : World) (q : Nat) (st : Option (List Nat)) (e : Ending) (w' : World) : Prop :=
  ∃ x : Ctl, e = .returned (.tuple #[x.agg, .bool (ctR st).isSome]) ∧ x.p = ((ctR st).map (·.1)).getD PCt.zero ∧ (∀ V, Fr (fun i => i < w.heap.size) w' V → Clss V x.cA x.cls) ∧ x.Nice ∧ Rdq G w' q ((ctR st).map (·.2)) ∧ Fr (Only q) w w'
theorem few_zero12 {c : Cls} (h : c.p = PC.zero) : c.Few := by
  have h1 : c.steps.map Stp.p = [] := congrArg PC.steps h
  have h2 : c.comps.map Stp.p = [] := congrArg PC.comps h
  have e1 : c.steps = [] := by simpa using h1
  have e2 : c.comps = [] := by simpa using h2
  exact ⟨by rw [e1]; simp, by rw [e2]; simp, fun s hs => by rw [e1] at hs; simp at hs, fun s hs => by rw [e2] at hs; simp at hs⟩
theorem nice_of_xc {x : Ctl} {st : Option (List Nat)} (h : x.p = xcP st) : x.Nice := by
  have hc : x.cls.map Cls.p = lsQ (ctN st) (cS 4 st) := congrArg PCt.cs h
  have hn : x.cls.length = ctN st := by have := congrArg List.length hc; rwa [List.length_map, lsQ_len] at this
  have hb : x.b = (xcP st).b := congrArg PCt.b h
  have hm : x.p.most = (xcP st).most := by rw [h]
  refine ⟨⟨by rw [hn]; exact ctN_le st, fun c hc' => stC4_lsQ _ _ hc hc', fun j hj => by rw [hb, hm]; exact xcP_br st j⟩, fun c hc' => ?_⟩
  rcases lsQ_few _ _ c.p (by rw [← hc]; exact List.mem_map_of_mem hc') with h1 | h1
  · exact (few_of_ok12 h1).1
  · exact few_zero12 h1
theorem zero_nice12 : (⟨none, [], 0, fun _ => 0⟩ : Ctl).Nice := ⟨⟨by simp, fun c h => by simp at h, fun j hj => by
  rw [Ctl.most_not _ (by simp)]
  dsimp only
  decide⟩, fun c h => by simp at h⟩
theorem catZ_fin {w W : World} {q : Nat} {st : Option (List Nat)} {Z0 : Array Value} (_ : Bk W w.heap.size 26 Z0) (hr : Rdq G W q none) (hf : Fr (Only q) w W) (hno : ctR st = none) (hq : q < w.heap.size) (hG : ∀ k, G k → k < w.heap.size) :
    GotQC G w q st (.returned (.tuple #[.agg (brA (.slice none 0 0) fun _ => 0), .bool false])) (W.setRow w.heap.size (brA (.slice none 0 0) fun _ => 0)) := by
  have hX : Fr (Only w.heap.size) W (W.setRow w.heap.size (brA (.slice none 0 0) fun _ => 0)) := fr_row12 (Fr.refl (Only w.heap.size) W) (.inl rfl) _
  refine ⟨⟨none, [], 0, fun _ => 0⟩, by rw [hno]; rfl, by rw [hno]; rfl, fun V _ => ⟨Sl.nil _ _ _, fun s h => by simp at h⟩, zero_nice12, ?_, hf.trans' hX (fun i hi e => by have e : i = w.heap.size := e; omega)⟩
  rw [hno]
  exact hr.frG hX (fun e => by have e : q = w.heap.size := e; omega) (fun i hi e => by have e : i = w.heap.size := e; have := hG i hi; omega)

set_option maxRecDepth 100000 in
set_option maxHeartbeats 8000000 in
theorem get12_any (q : Nat) (st : Option (List Nat)) (w : World) (hr : Rdq G w q st) (hG : ∀ k, G k → k < w.heap.size) : Calls Tryz.prog 10 #[.pointer (some ⟨q, 0, none⟩)] w (GotQC G w q st) := by
  have hql := hr.lt
  have f0 : Fr No w (w.alloc (.cells (brA (.slice none 0 0) fun _ => 0) 26)) := (Fr.refl _ _).alloc _
  have b0 := Bk.made w 26 (brA (.slice none 0 0) fun _ => 0)
  have C1 := Lib.hid (getCat_any q st _ (hr.frG f0 (fun e => e) (fun _ _ e => e)) (fun k hk => by have := hG k hk; simp; omega))
  obtain ⟨W0, hW0⟩ : ∃ W0, W0 = w.alloc (.cells (brA (.slice none 0 0) fun _ => 0) 26) := ⟨_, rfl⟩
  rw [← hW0] at f0 b0 C1
  have hwe : w.alloc (.cells #[.slice none 0 0, .int .i64 0, .int .i64 0, .int .i64 0, .int .i64 0, .int .i64 0, .int .i64 0, .int .i64 0, .int .i64 0, .int .i64 0, .int .i64 0, .int .i64 0, .int .i64 0, .int .i64 0, .int .i64 0, .int .i64 0, .int .i64 0] 26) = W0 := hW0.symm
  have HB0 := Lib.hid b0
  have HF0 := Lib.hid f0
  have HG := Lib.hid hG
  have HD := Lib.hid (xc_ct st)
  have hsz0 : Hid (W0.heap.size = w.heap.size + 1) := Lib.hid (by rw [hW0]; simp)
  clear hr hG f0 b0 hW0
  go_enter Tryz.func10, Tryz.ntmps10
  go_wp2_with fail
  refine (C1.out).mono ?_
  rintro e w1 ⟨y, rfl, hy, hyc, r1, f1⟩
  obtain ⟨s1, hs1⟩ : ∃ z, xcS st = z := ⟨_, rfl⟩
  rw [hs1] at r1 HD
  obtain ⟨Y, hY⟩ : ∃ Y, Y = y.arr := ⟨_, rfl⟩
  have hY2 := hY.trans (Ctl.arr_eq y)
  have bY0 := Bk.made w1 26 (brA (.slice none 0 0) fun _ => 0)
  have hst := Lib.hid (st_cat (v' := .slice y.cA y.cls.length y.cc) (b' := y.b) rfl hY2 rfl bY0)
  obtain ⟨WF, hWF⟩ : ∃ WF, Hid (WF = (w1.alloc (.cells (brA (.slice none 0 0) fun _ => 0) 26)).setRow w1.heap.size Y) := ⟨_, Lib.hid rfl⟩
  rw [← hWF.out] at hst
  have bF : Bk WF w1.heap.size 26 Y := by rw [hWF.out]; exact bk_row12 bY0 _
  have fY : Fr No w1 WF := by rw [hWF.out]; exact fr_row12 ((Fr.refl _ _).alloc _) (.inr (Nat.le_refl _)) _
  have HN := Lib.hid (nice_of_xc hy)
  have bH1 := HB0.out.fr f1 (fun e => by have e : w.heap.size = q := e; omega)
  have BH := Lib.hid (bH1.fr fY (fun e => e))
  have RF := Lib.hid (r1.frG fY (fun e => e) (fun _ _ e => e))
  have FF := Lib.hid (((HF0.out.weak (S' := Only q) (fun _ _ e => e.elim)).trans' f1 (fun _ _ e => e)).trans' fY (fun _ _ e => e.elim))
  have HYc := Lib.hid (fun V (hV : Fr (fun i => i < W0.heap.size) WF V) => hyc V ((fY.weak (fun _ _ e => e.elim)).trans' hV (fun _ _ e => e)))
  have HM := Lib.hid (fun V (h : Fr No WF V) => may12_any y V (HYc.out V (h.weak (fun _ _ e => e.elim))) HN.out)
  rw [hy] at HM
  have HYp := Lib.hid hy
  have HYa := Lib.hid hY
  have hLY := Lib.hid (fun V (h : Fr No WF V) => ld_cat hY2 (bF.fr h (fun e => e)))
  have COk := Lib.hid (qok_any q s1 WF RF.out)
  unfold Ctl.agg at HM ⊢
  rw [← hY] at HM ⊢
  unfold brA at hst
  clear hyc r1 f1 hY2 bY0 bF fY bH1 hwe C1 hy hs1 hY HB0 HF0
  go_wp2_with (first
    | ((with_reducible refine wpl_st ?_ ?_ ?_ hst.out ?_); (· rfl); (· rfl); (· rfl); simp only [Act.put]))
  refine (COk.out).mono ?_
  rintro e w2 ⟨rfl, hw2⟩
  subst hw2
  clear COk hst
  cases s1 with
  | none =>
    have Hno : Hid (ctR st = none) := Lib.hid (by rw [HD.out]; split <;> rfl)
    have C3 := Lib.hid (count9 q (-1) none WF RF.out (by omega))
    go_wp2_with fail
    refine (C3.out).mono ?_
    rintro e w3 ⟨rfl, r3, f3⟩
    rw [cS_less] at r3
    have b3 := BH.out.fr f3 (fun e => by have e : w.heap.size = q := e; omega)
    have HZ := Lib.hid (catZ_fin b3 r3 (FF.out.trans' f3 (fun _ _ e => e)) Hno.out hql HG.out)
    have hst3 := Lib.hid (st_cat (v' := .slice none 0 0) (b' := fun _ => 0) rfl rfl rfl b3)
    obtain ⟨W4, hW4⟩ : ∃ V, Hid (V = w3.setRow w.heap.size (brA (.slice none 0 0) fun _ => 0)) := ⟨_, Lib.hid rfl⟩
    have b4 : Hid (Bk W4 w.heap.size 26 (brA (.slice none 0 0) fun _ => 0)) := Lib.hid (by rw [hW4.out]; exact bk_row12 b3 _)
    rw [← hW4.out] at hst3 HZ
    clear r3 f3 b3
    go_wp2_with (first
      | ((with_reducible refine wpl_st ?_ ?_ ?_ hst3.out ?_); (· rfl); (· rfl); (· rfl); simp only [Act.put]))
    exact bodyPost_ret (cat_results Tryz.results10 (v := (.slice none 0 0)) (b := fun _ => 0) (f := .bool false) b4.out rfl rfl) rfl HZ.out
  | some xs =>
    have HL0 := Lib.hid (hLY.out _ (Fr.refl _ _))
    have HM0 := Lib.hid (HM.out _ (Fr.refl _ _))
    obtain ⟨ok, hok⟩ : ∃ b, (xcP st).ok = b := ⟨_, rfl⟩
    rw [hok] at HM0 HD
    go_wp2_with (first
      | ((with_reducible refine wpl_ldg ?_ ?_ HL0.out ?_); (· rfl); (· rfl); simp only [Act.put, List.setIfInBounds_toArray, List.set_cons_zero, List.set_cons_succ]))
    refine (HM0.out).mono ?_
    rintro e w3 ⟨rfl, f3⟩
    have B3 := Lib.hid (BH.out.fr f3 (fun e => e))
    have R3 := Lib.hid (RF.out.frG f3 (fun e => e) (fun _ _ e => e))
    have F3 := Lib.hid (FF.out.trans' f3 (fun _ _ e => e.elim))
    have HL3 := Lib.hid (hLY.out _ f3)
    have HF3 := Lib.hid f3
    clear f3 HM0 HL0
    cases ok
    · have Hno : Hid (ctR st = none) := Lib.hid (by rw [HD.out]; rfl)
      have C3 := Lib.hid (count9 q (-1) (some xs) _ R3.out (by omega))
      go_wp2_with fail
      refine (C3.out).mono ?_
      rintro e w4 ⟨rfl, r4, f4⟩
      rw [cS_less] at r4
      have b4 := B3.out.fr f4 (fun e => by have e : w.heap.size = q := e; omega)
      have HZ := Lib.hid (catZ_fin b4 r4 (F3.out.trans' f4 (fun _ _ e => e)) Hno.out hql HG.out)
      have hst3 := Lib.hid (st_cat (v' := .slice none 0 0) (b' := fun _ => 0) rfl rfl rfl b4)
      obtain ⟨W4, hW4⟩ : ∃ V, Hid (V = w4.setRow w.heap.size (brA (.slice none 0 0) fun _ => 0)) := ⟨_, Lib.hid rfl⟩
      have b5 : Hid (Bk W4 w.heap.size 26 (brA (.slice none 0 0) fun _ => 0)) := Lib.hid (by rw [hW4.out]; exact bk_row12 b4 _)
      rw [← hW4.out] at hst3 HZ
      clear r4 f4 b4
      go_wp2_with (first
        | ((with_reducible refine wpl_st ?_ ?_ ?_ hst3.out ?_); (· rfl); (· rfl); (· rfl); simp only [Act.put]))
      exact bodyPost_ret (cat_results Tryz.results10 (v := (.slice none 0 0)) (b := fun _ => 0) (f := .bool false) b5.out rfl rfl) rfl HZ.out
    · have Hyes : Hid (ctR st = some (xcP st, xs)) := Lib.hid (by rw [HD.out]; rfl)
      have b3 := B3.out
      have hY3 := HYa.out.trans (Ctl.arr_eq y)
      have hst3 := Lib.hid (st_cat (v' := .slice y.cA y.cls.length y.cc) (b' := y.b) rfl hY3 rfl b3)
      obtain ⟨W4, hW4⟩ : ∃ V, Hid (V = w3.setRow w.heap.size Y) := ⟨_, Lib.hid rfl⟩
      rw [← hW4.out] at hst3
      have b5 : Hid (Bk W4 w.heap.size 26 (brA (.slice y.cA y.cls.length y.cc) y.b)) := Lib.hid (by rw [hW4.out, ← hY3]; exact bk_row12 b3 _)
      have f5 : Fr (Only w.heap.size) w3 W4 := by rw [hW4.out]; exact fr_row12 (Fr.refl (Only w.heap.size) w3) (.inl rfl) _
      have HFin : Hid (GotQC G w q st (.returned (.tuple #[.agg Y, .bool true])) W4) := Lib.hid ⟨y, by rw [Hyes.out, HYa.out]; rfl, by rw [Hyes.out]; exact HYp.out, fun V hV => HYc.out V (((HF3.out.weak (S' := fun i => i < W0.heap.size) (fun _ _ e => e.elim)).trans' f5 (fun i _ e => by have e : i = w.heap.size := e; have := hsz0.out; show i < W0.heap.size; omega)).trans' hV (fun i _ e => by have e : i < w.heap.size := e; have := hsz0.out; show i < W0.heap.size; omega)), HN.out, by rw [Hyes.out]; exact R3.out.frG f5 (fun e => by have e : q = w.heap.size := e; omega) (fun i hi e => by have e : i = w.heap.size := e; have := HG.out i hi; omega), F3.out.trans' f5 (fun i hi e => by have e : i = w.heap.size := e; omega)⟩
      have HFY : Hid (Y = brA (.slice y.cA y.cls.length y.cc) y.b) := Lib.hid hY3
      rw [HFY.out] at HFin
      clear f5 b3
      clear hY3
      go_wp2_with (first
        | ((with_reducible refine wpl_ld ?_ ?_ HL3.out ?_); (· rfl); (· rfl); simp only [Act.put, List.setIfInBounds_toArray, List.set_cons_zero, List.set_cons_succ])
        | ((with_reducible refine wpl_st ?_ ?_ ?_ hst3.out ?_); (· rfl); (· rfl); (· rfl); simp only [Act.put]))
      exact bodyPost_ret (cat_results Tryz.results10 (v := (.slice y.cA y.cls.length y.cc)) (b := y.b) (f := .bool true) b5.out rfl rfl) rfl HFin.out
end Go.Proofs.YtbemfomiiikpoaaGreat
