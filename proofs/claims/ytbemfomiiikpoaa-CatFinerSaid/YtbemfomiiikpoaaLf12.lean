/- The law: an open catalogue has all that any of the same classes has, a closed one none of them. -/
import Derived.Test.YtbemfomiiikpoaaAlv12
import Derived.Test.YtbemfomiiikpoaaRmy12
import Derived.Test.YtbemfomiiikpoaaRsm12
import Derived.Test.YtbemfomiiikpoaaRead12
import Derived.Deep.CutRange
namespace Go.Proofs.Ytbemfomiiikpoaa
open Go.RowKit

/-- What an open, a closed catalogue is told as. -/
def CopR (w : World) (p : PCt) (v : Value) (w' : World) : Prop := ∃ y : Ctl, v = y.agg ∧ y.p = p ∧ (∀ V, Fr (fun i => i < w.heap.size) w' V → Clss V y.cA y.cls) ∧ Fr No w w'
theorem copR {w : World} {f : Nat} {args : Array Value} {p : PCt} (h : Calls Try.prog f args w (CopW w p)) : Calls Try.prog f args w (fun e w' => ∃ v, e = .returned v ∧ CopR w p v w') := h.mono (fun e w' h => by
  obtain ⟨y, rfl, h⟩ := h
  exact ⟨_, rfl, y, rfl, h⟩)
theorem exec_alloc_cat (ρ : Operand → Value) (W : World) {dst : Option Tmp} {ty : TypeId} {pos : String} {after : Array Edge} {g : Option (Tmp × Bool)} : (execOp ρ { dst := dst, op := .alloc 26, type := ty, pos := pos, after := after, guard := g }).run Try.prog W = .ok (.value (.pointer (some ⟨W.heap.size, 0, none⟩))) (W.alloc (.cells (brA (.slice none 0 0) fun _ => 0) 26)) := by kernel_rfl
/-- The open one and the closed one, in boxes of their own. -/
structure AB12 (Z : Array Value) (w wx : World) (p : PCt) (P9 P10 : Nat) (a b : Ctl) : Prop where
  ap : a.p = p.opened
  bp : b.p = p.closed
  ac : Clss wx a.cA a.cls
  bc : Clss wx b.cA b.cls
  ba : Bk wx P9 26 a.arr
  bb : Bk wx P10 26 b.arr
  fr : Fr No w wx
  ld : ∀ V, Fr No wx V → LdO V 26 ⟨w.heap.size, 0, none⟩ (.agg Z) ∧ LdO V 26 ⟨P9, 0, none⟩ a.agg ∧ LdO V 26 ⟨P10, 0, none⟩ b.agg
theorem cat_apart {W : World} {P H : Nat} (h : P ≥ W.heap.size) (hH : H < W.heap.size) : ¬ P = H := by omega

set_option maxRecDepth 100000 in
set_option maxHeartbeats 8000000 in
theorem catFiner_any (x : Ctl) (c d i : Int) (w : World) (hx : Clss w x.cA x.cls) : Calls Try.prog 4 #[x.agg, .int .i64 c, .int .i64 d, .int .i64 i] w (Has w true) := by
  have Hal := Lib.hid (fun (W : World) => alive12 W)
  have HM := Lib.hid (fun W (h : Fr No w W) => refMay12_any x W (hx.since h))
  have HO := Lib.hid (fun W (h : Fr No w W) (hok : x.p.ok = true) => open_any x W (hx.since h) (nice_of_ok hok))
  have HC := Lib.hid (fun W (h : Fr No w W) (hok : x.p.ok = true) => closed_any x W (hx.since h) (nice_of_ok hok))
  have HBr := Lib.hid (fun W (h : Fr No w W) (hok : x.p.ok = true) => break_any x c d i W (hx.since h) (nice_of_ok hok).few)
  have HBs := Lib.hid (fun W (h : Fr No w W) (hok : x.p.ok = true) => breaks_any x W (hx.since h) (nice_of_ok hok).few)
  unfold Ctl.agg at HM HO HC HBr HBs ⊢
  obtain ⟨Z, hZ⟩ : ∃ Z, Z = x.arr := ⟨_, rfl⟩
  rw [← hZ] at HM HO HC HBr HBs ⊢
  rw [Ctl.arr_eq] at hZ
  have bZ := Bk.made w 26 Z
  have f0 : Fr No w (w.alloc (.cells Z 26)) := (Fr.refl _ _).alloc _
  have HLdX : Hid (∀ V, Fr (fun i => ¬ i = w.heap.size) (w.alloc (.cells Z 26)) V → LdO V 26 ⟨w.heap.size, 0, none⟩ (.agg Z)) := Lib.hid (fun V hV => ld_cat hZ (bZ.fr hV (fun e => e rfl)))
  have HF0 := Lib.hid f0
  generalize x.p = p at *
  clear hx hZ bZ f0
  go_enter Try.func4, Try.ntmps4
  go_wp2_with fail
  refine (Hal.out _).mono ?_
  rintro e w1 ⟨rfl, f1⟩
  have HL1 := Lib.hid (HLdX.out _ (f1.weak (fun _ _ e => e.elim)))
  have F1 := Lib.hid f1
  have HM1 := Lib.hid (HM.out _ (HF0.out.trans' f1 (fun _ _ e => e)))
  clear f1
  go_wp2_with (first
    | ((with_reducible refine wpl_ld ?_ ?_ HL1.out ?_); (· rfl); (· rfl); simp only [Act.put, List.setIfInBounds_toArray, List.set_cons_zero, List.set_cons_succ]))
  refine (HM1.out).mono ?_
  rintro e w2 ⟨rfl, f2⟩
  have F2 := Lib.hid (F1.out.trans' f2 (fun _ _ e => e))
  obtain ⟨ok, hok⟩ : ∃ b, p.ok = b := ⟨_, rfl⟩
  rw [hok]
  clear f2 HM1 HL1
  cases ok
  · go_wp2
    go_ret
    exact ⟨rfl, HF0.out.trans' F2.out (fun _ _ e => e)⟩
  go_wp2_with fail
  go_cut [9, 10] from 16 to 19 (fun s9 s10 wx => ∃ (P9 P10 : Nat) (a b : Ctl), s9 = .pointer (some ⟨P9, 0, none⟩) ∧ s10 = .pointer (some ⟨P10, 0, none⟩) ∧ Hid (AB12 Z w wx p P9 P10 a b))
  case first =>
    have G0 : Hid (Fr No (w.alloc (.cells Z 26)) w2.drew) := Lib.hid F2.out.drew
    have Hz0 : Hid (w.heap.size < w2.drew.heap.size) := Lib.hid (by have h := G0.out.size; rw [World.size_alloc] at h; omega)
    refine wp_region_held_drew (S := fun W => LdO W 26 ⟨w.heap.size, 0, none⟩ (.agg Z)) (by kernel_rfl) (HLdX.out _ (G0.out.weak (fun _ _ e => e.elim))) (fun hHeld => ?_)
    refine any_take 16 (.agg Z) (i := 0) rfl rfl (by kernel_rfl) (by kernel_rfl) (by kernel_rfl) (fun _ _ _ h => h) (by rfl) (by intro w hSw; exact exec_ld rfl hSw) (by assumption) ?_
    simp only [Act.put, List.setIfInBounds_toArray, List.set_cons_zero, List.set_cons_succ]
    refine any_take 18 (.agg Z) (i := 2) rfl rfl (by kernel_rfl) (by kernel_rfl) (by kernel_rfl) (fun _ _ _ h => h) (by rfl) (by intro w hSw; exact exec_ld rfl hSw) (by assumption) ?_
    simp only [Act.put, List.setIfInBounds_toArray, List.set_cons_zero, List.set_cons_succ]
    refine wpAnyH_ready (rs := [1, 4, 5]) (by kernel_rfl) (by simp) ?_
    refine AllReadyH.cons rfl (fun K' hK => ?_) (AllReadyH.cons rfl (fun K' hK => ?_) (AllReadyH.cons rfl (fun K' hK => ?_) AllReadyH.nil))
    · refine oneH_call 17 (f := 7) (args := #[.agg Z]) rfl (by rfl) (by go_simp) (copR (HO.out w2.drew (HF0.out.trans' G0.out (fun _ _ e => e)) hok)) ?_
      rintro _ v1 ⟨ya, rfl, hyap, hyac, hyaf⟩
      simp only [Act.put, List.setIfInBounds_toArray, List.set_cons_zero, List.set_cons_succ]
      have g1 : Hid (Fr No w2.drew v1) := Lib.hid hyaf
      have n1 : Hid (w2.drew.heap.size ≤ v1.heap.size) := Lib.hid hyaf.size
      have Hya := Lib.hid (And.intro hyap hyac)
      clear hyap hyac hyaf
      have G1 := Lib.hid (G0.out.trans' g1.out (fun _ _ e => e))
      refine hK.out _ _ (HLdX.out _ (G1.out.weak (fun _ _ e => e.elim))) (fun hHeld => ?_)
      clear hK
      refine wpAnyH_ready (rs := [3, 4, 5]) (by kernel_rfl) (by simp) ?_
      refine AllReadyH.cons rfl (fun K' hK => ?_) (AllReadyH.cons rfl (fun K' hK => ?_) (AllReadyH.cons rfl (fun K' hK => ?_) AllReadyH.nil))
      · refine oneH_call 19 (f := 8) (args := #[.agg Z]) rfl (by rfl) (by go_simp) (copR (HC.out v1 (HF0.out.trans' G1.out (fun _ _ e => e)) hok)) ?_
        rintro _ v2 ⟨yb, rfl, hybp, hybc, hybf⟩
        simp only [Act.put, List.setIfInBounds_toArray, List.set_cons_zero, List.set_cons_succ]
        have g2 : Hid (Fr No v1 v2) := Lib.hid hybf
        have n2 : Hid (v1.heap.size ≤ v2.heap.size) := Lib.hid hybf.size
        have Hyb := Lib.hid (And.intro hybp hybc)
        clear hybp hybc hybf
        have G2 := Lib.hid (G1.out.trans' g2.out (fun _ _ e => e))
        refine hK.out _ _ (HLdX.out _ (G2.out.weak (fun _ _ e => e.elim))) (fun hHeld => ?_)
        clear hK
        refine wpAnyH_ready (rs := [4, 5]) (by kernel_rfl) (by simp) ?_
        refine AllReadyH.cons rfl (fun K' hK => ?_) (AllReadyH.cons rfl (fun K' hK => ?_) AllReadyH.nil)
        · refine oneH_val 9 rfl (by rfl) (exec_alloc_cat _ v2) ?_
          simp only [Act.put, List.setIfInBounds_toArray, List.set_cons_zero, List.set_cons_succ]
          obtain ⟨v3, e3⟩ : ∃ v3, Hid (v3 = v2.alloc (.cells (brA (.slice none 0 0) fun _ => 0) 26)) := ⟨_, Lib.hid rfl⟩
          rw [← e3.out]
          have g3 : Hid (Fr No v2 v3) := Lib.hid (by rw [e3.out]; exact (Fr.refl _ _).alloc _)
          have q4 : Hid (Bk v3 v2.heap.size 26 (brA (.slice none 0 0) fun _ => 0)) := Lib.hid (by rw [e3.out]; exact Bk.made v2 _ _)
          have n3 : Hid (v3.heap.size = v2.heap.size + 1) := Lib.hid (by rw [e3.out]; simp)
          have G3 := Lib.hid (G2.out.trans' g3.out (fun _ _ e => e))
          refine hK.out _ _ (HLdX.out _ (G3.out.weak (fun _ _ e => e.elim))) (fun hHeld => ?_)
          clear hK
          refine wpAnyH_ready (rs := [5]) (by kernel_rfl) (by simp) ?_
          refine AllReadyH.cons rfl (fun K' hK => ?_) AllReadyH.nil
          refine oneH_val 10 rfl (by rfl) (exec_alloc_cat _ v3) ?_
          simp only [Act.put, List.setIfInBounds_toArray, List.set_cons_zero, List.set_cons_succ]
          obtain ⟨v4, e4⟩ : ∃ v4, Hid (v4 = v3.alloc (.cells (brA (.slice none 0 0) fun _ => 0) 26)) := ⟨_, Lib.hid rfl⟩
          rw [← e4.out]
          have g4 : Hid (Fr No v3 v4) := Lib.hid (by rw [e4.out]; exact (Fr.refl _ _).alloc _)
          have q5 : Hid (Bk v4 v3.heap.size 26 (brA (.slice none 0 0) fun _ => 0)) := Lib.hid (by rw [e4.out]; exact Bk.made v3 _ _)
          have n4 : Hid (v4.heap.size = v3.heap.size + 1) := Lib.hid (by rw [e4.out]; simp)
          have G4 := Lib.hid (G3.out.trans' g4.out (fun _ _ e => e))
          refine hK.out _ _ (HLdX.out _ (G4.out.weak (fun _ _ e => e.elim))) (fun hHeld => ?_)
          clear hK
          have b9 := q4.out.fr (g4.out) (fun e => e)
          have b10 := q5.out.fr (Fr.refl No _) (fun e => e)
          have hne : ¬ v2.heap.size = v3.heap.size := by have m1 := n1.out; have m2 := n2.out; have m3 := n3.out; have m4 := n4.out; omega
          have hz9 : ¬ v2.heap.size = w.heap.size := by have m0 := Hz0.out; have m1 := n1.out; have m2 := n2.out; have m3 := n3.out; have m4 := n4.out; omega
          have hz10 : ¬ v3.heap.size = w.heap.size := by have m0 := Hz0.out; have m1 := n1.out; have m2 := n2.out; have m3 := n3.out; have m4 := n4.out; omega
          have st6 := st_cat (Z' := ya.arr) rfl (Ctl.arr_eq ya) rfl b9
          have x1 : Fr (Only v2.heap.size) v4 (v4.setRow v2.heap.size ya.arr) := fr_row12 (Fr.refl (Only v2.heap.size) v4) (.inl rfl) _
          have c10 := b10.fr x1 (fun e => hne (show v3.heap.size = v2.heap.size from e).symm)
          have st7 := st_cat (Z' := yb.arr) rfl (Ctl.arr_eq yb) rfl c10
          have x2 : Fr (Only v3.heap.size) (v4.setRow v2.heap.size ya.arr) ((v4.setRow v2.heap.size ya.arr).setRow v3.heap.size yb.arr) := fr_row12 (Fr.refl (Only v3.heap.size) _) (.inl rfl) _
          have x12 : Fr (fun i => i = v2.heap.size ∨ i = v3.heap.size) v4 ((v4.setRow v2.heap.size ya.arr).setRow v3.heap.size yb.arr) := (x1.weak (fun i _ e => .inl e)).trans' x2 (fun i _ e => .inr e)
          have HAB : Hid (AB12 Z w ((v4.setRow v2.heap.size ya.arr).setRow v3.heap.size yb.arr) p v2.heap.size v3.heap.size ya yb) := Lib.hid (by
            refine ⟨Hya.out.1, Hyb.out.1, ?_, ?_, (bk_row12 b9 ya.arr).fr x2 (fun e => hne e), bk_row12 c10 yb.arr, ?_, ?_⟩
            · refine Hya.out.2 _ (((((g2.out).trans' g3.out (fun _ _ e => e)).trans' g4.out (fun _ _ e => e)).weak (S' := fun i => i < w2.drew.heap.size) (fun _ _ e => e.elim)).trans' x12 (fun i hi e => ?_))
              show i < w2.drew.heap.size
              have m1 := n1.out; have m2 := n2.out; have m3 := n3.out; have m4 := n4.out; omega
            · refine Hyb.out.2 _ ((((g3.out).trans' g4.out (fun _ _ e => e)).weak (S' := fun i => i < v1.heap.size) (fun _ _ e => e.elim)).trans' x12 (fun i hi e => ?_))
              show i < v1.heap.size
              have m1 := n1.out; have m2 := n2.out; have m3 := n3.out; have m4 := n4.out; omega
            · exact ((HF0.out.trans' G4.out (fun _ _ e => e)).weak (fun _ _ e => e)).trans' x12 (fun i hi e => by have m0 := Hz0.out; have m1 := n1.out; have m2 := n2.out; have m3 := n3.out; have m4 := n4.out; omega)
            · exact fun V hV => ⟨HLdX.out V (((G4.out.weak (fun _ _ e => e.elim)).trans' x12 (fun i _ e => by rcases e with e | e <;> rw [e] <;> assumption)).trans' hV (fun _ _ e => e.elim)), ld_cat (Ctl.arr_eq ya) (((bk_row12 b9 ya.arr).fr x2 (fun e => hne e)).fr hV (fun e => e)), ld_cat (Ctl.arr_eq yb) ((bk_row12 c10 yb.arr).fr hV (fun e => e))⟩)
          have s6 := HLdX.out (v4.setRow v2.heap.size ya.arr) ((G4.out.weak (fun _ _ e => e.elim)).trans' x1 (fun i _ e => by have e : i = v2.heap.size := e; rw [e]; exact hz9))
          have s7 := HLdX.out ((v4.setRow v2.heap.size ya.arr).setRow v3.heap.size yb.arr) ((G4.out.weak (fun _ _ e => e.elim)).trans' x12 (fun i _ e => by rcases e with e | e <;> rw [e] <;> assumption))
          refine any_store12 (i := 6) (by kernel_rfl) rfl rfl (by rfl) (exec_st rfl rfl st6) s6 ?_
          refine any_store12 (i := 7) (by kernel_rfl) rfl rfl (by rfl) (exec_st rfl rfl st7) s7 ?_
          refine wpAnyH_done (by kernel_rfl) ?_ _
          clear b9 b10 hne hz9 hz10 st6 st7 x1 x2 x12 c10 s6 s7
          go_wp2
          go_meet
          exact ⟨_, _, ya, yb, rfl, rfl, HAB⟩
        · refine oneH_val 10 rfl (by rfl) (exec_alloc_cat _ v2) ?_
          simp only [Act.put, List.setIfInBounds_toArray, List.set_cons_zero, List.set_cons_succ]
          obtain ⟨v3, e3⟩ : ∃ v3, Hid (v3 = v2.alloc (.cells (brA (.slice none 0 0) fun _ => 0) 26)) := ⟨_, Lib.hid rfl⟩
          rw [← e3.out]
          have g3 : Hid (Fr No v2 v3) := Lib.hid (by rw [e3.out]; exact (Fr.refl _ _).alloc _)
          have q5 : Hid (Bk v3 v2.heap.size 26 (brA (.slice none 0 0) fun _ => 0)) := Lib.hid (by rw [e3.out]; exact Bk.made v2 _ _)
          have n3 : Hid (v3.heap.size = v2.heap.size + 1) := Lib.hid (by rw [e3.out]; simp)
          have G3 := Lib.hid (G2.out.trans' g3.out (fun _ _ e => e))
          refine hK.out _ _ (HLdX.out _ (G3.out.weak (fun _ _ e => e.elim))) (fun hHeld => ?_)
          clear hK
          refine wpAnyH_ready (rs := [4]) (by kernel_rfl) (by simp) ?_
          refine AllReadyH.cons rfl (fun K' hK => ?_) AllReadyH.nil
          refine oneH_val 9 rfl (by rfl) (exec_alloc_cat _ v3) ?_
          simp only [Act.put, List.setIfInBounds_toArray, List.set_cons_zero, List.set_cons_succ]
          obtain ⟨v4, e4⟩ : ∃ v4, Hid (v4 = v3.alloc (.cells (brA (.slice none 0 0) fun _ => 0) 26)) := ⟨_, Lib.hid rfl⟩
          rw [← e4.out]
          have g4 : Hid (Fr No v3 v4) := Lib.hid (by rw [e4.out]; exact (Fr.refl _ _).alloc _)
          have q4 : Hid (Bk v4 v3.heap.size 26 (brA (.slice none 0 0) fun _ => 0)) := Lib.hid (by rw [e4.out]; exact Bk.made v3 _ _)
          have n4 : Hid (v4.heap.size = v3.heap.size + 1) := Lib.hid (by rw [e4.out]; simp)
          have G4 := Lib.hid (G3.out.trans' g4.out (fun _ _ e => e))
          refine hK.out _ _ (HLdX.out _ (G4.out.weak (fun _ _ e => e.elim))) (fun hHeld => ?_)
          clear hK
          have b9 := q4.out.fr (Fr.refl No _) (fun e => e)
          have b10 := q5.out.fr (g4.out) (fun e => e)
          have hne : ¬ v3.heap.size = v2.heap.size := by have m1 := n1.out; have m2 := n2.out; have m3 := n3.out; have m4 := n4.out; omega
          have hz9 : ¬ v3.heap.size = w.heap.size := by have m0 := Hz0.out; have m1 := n1.out; have m2 := n2.out; have m3 := n3.out; have m4 := n4.out; omega
          have hz10 : ¬ v2.heap.size = w.heap.size := by have m0 := Hz0.out; have m1 := n1.out; have m2 := n2.out; have m3 := n3.out; have m4 := n4.out; omega
          have st6 := st_cat (Z' := ya.arr) rfl (Ctl.arr_eq ya) rfl b9
          have x1 : Fr (Only v3.heap.size) v4 (v4.setRow v3.heap.size ya.arr) := fr_row12 (Fr.refl (Only v3.heap.size) v4) (.inl rfl) _
          have c10 := b10.fr x1 (fun e => hne (show v2.heap.size = v3.heap.size from e).symm)
          have st7 := st_cat (Z' := yb.arr) rfl (Ctl.arr_eq yb) rfl c10
          have x2 : Fr (Only v2.heap.size) (v4.setRow v3.heap.size ya.arr) ((v4.setRow v3.heap.size ya.arr).setRow v2.heap.size yb.arr) := fr_row12 (Fr.refl (Only v2.heap.size) _) (.inl rfl) _
          have x12 : Fr (fun i => i = v3.heap.size ∨ i = v2.heap.size) v4 ((v4.setRow v3.heap.size ya.arr).setRow v2.heap.size yb.arr) := (x1.weak (fun i _ e => .inl e)).trans' x2 (fun i _ e => .inr e)
          have HAB : Hid (AB12 Z w ((v4.setRow v3.heap.size ya.arr).setRow v2.heap.size yb.arr) p v3.heap.size v2.heap.size ya yb) := Lib.hid (by
            refine ⟨Hya.out.1, Hyb.out.1, ?_, ?_, (bk_row12 b9 ya.arr).fr x2 (fun e => hne e), bk_row12 c10 yb.arr, ?_, ?_⟩
            · refine Hya.out.2 _ (((((g2.out).trans' g3.out (fun _ _ e => e)).trans' g4.out (fun _ _ e => e)).weak (S' := fun i => i < w2.drew.heap.size) (fun _ _ e => e.elim)).trans' x12 (fun i hi e => ?_))
              show i < w2.drew.heap.size
              have m1 := n1.out; have m2 := n2.out; have m3 := n3.out; have m4 := n4.out; omega
            · refine Hyb.out.2 _ ((((g3.out).trans' g4.out (fun _ _ e => e)).weak (S' := fun i => i < v1.heap.size) (fun _ _ e => e.elim)).trans' x12 (fun i hi e => ?_))
              show i < v1.heap.size
              have m1 := n1.out; have m2 := n2.out; have m3 := n3.out; have m4 := n4.out; omega
            · exact ((HF0.out.trans' G4.out (fun _ _ e => e)).weak (fun _ _ e => e)).trans' x12 (fun i hi e => by have m0 := Hz0.out; have m1 := n1.out; have m2 := n2.out; have m3 := n3.out; have m4 := n4.out; omega)
            · exact fun V hV => ⟨HLdX.out V (((G4.out.weak (fun _ _ e => e.elim)).trans' x12 (fun i _ e => by rcases e with e | e <;> rw [e] <;> assumption)).trans' hV (fun _ _ e => e.elim)), ld_cat (Ctl.arr_eq ya) (((bk_row12 b9 ya.arr).fr x2 (fun e => hne e)).fr hV (fun e => e)), ld_cat (Ctl.arr_eq yb) ((bk_row12 c10 yb.arr).fr hV (fun e => e))⟩)
          have s6 := HLdX.out (v4.setRow v3.heap.size ya.arr) ((G4.out.weak (fun _ _ e => e.elim)).trans' x1 (fun i _ e => by have e : i = v3.heap.size := e; rw [e]; exact hz9))
          have s7 := HLdX.out ((v4.setRow v3.heap.size ya.arr).setRow v2.heap.size yb.arr) ((G4.out.weak (fun _ _ e => e.elim)).trans' x12 (fun i _ e => by rcases e with e | e <;> rw [e] <;> assumption))
          refine any_store12 (i := 6) (by kernel_rfl) rfl rfl (by rfl) (exec_st rfl rfl st6) s6 ?_
          refine any_store12 (i := 7) (by kernel_rfl) rfl rfl (by rfl) (exec_st rfl rfl st7) s7 ?_
          refine wpAnyH_done (by kernel_rfl) ?_ _
          clear b9 b10 hne hz9 hz10 st6 st7 x1 x2 x12 c10 s6 s7
          go_wp2
          go_meet
          exact ⟨_, _, ya, yb, rfl, rfl, HAB⟩
      · refine oneH_val 9 rfl (by rfl) (exec_alloc_cat _ v1) ?_
        simp only [Act.put, List.setIfInBounds_toArray, List.set_cons_zero, List.set_cons_succ]
        obtain ⟨v2, e2⟩ : ∃ v2, Hid (v2 = v1.alloc (.cells (brA (.slice none 0 0) fun _ => 0) 26)) := ⟨_, Lib.hid rfl⟩
        rw [← e2.out]
        have g2 : Hid (Fr No v1 v2) := Lib.hid (by rw [e2.out]; exact (Fr.refl _ _).alloc _)
        have q4 : Hid (Bk v2 v1.heap.size 26 (brA (.slice none 0 0) fun _ => 0)) := Lib.hid (by rw [e2.out]; exact Bk.made v1 _ _)
        have n2 : Hid (v2.heap.size = v1.heap.size + 1) := Lib.hid (by rw [e2.out]; simp)
        have G2 := Lib.hid (G1.out.trans' g2.out (fun _ _ e => e))
        refine hK.out _ _ (HLdX.out _ (G2.out.weak (fun _ _ e => e.elim))) (fun hHeld => ?_)
        clear hK
        refine wpAnyH_ready (rs := [3, 5]) (by kernel_rfl) (by simp) ?_
        refine AllReadyH.cons rfl (fun K' hK => ?_) (AllReadyH.cons rfl (fun K' hK => ?_) AllReadyH.nil)
        · refine oneH_call 19 (f := 8) (args := #[.agg Z]) rfl (by rfl) (by go_simp) (copR (HC.out v2 (HF0.out.trans' G2.out (fun _ _ e => e)) hok)) ?_
          rintro _ v3 ⟨yb, rfl, hybp, hybc, hybf⟩
          simp only [Act.put, List.setIfInBounds_toArray, List.set_cons_zero, List.set_cons_succ]
          have g3 : Hid (Fr No v2 v3) := Lib.hid hybf
          have n3 : Hid (v2.heap.size ≤ v3.heap.size) := Lib.hid hybf.size
          have Hyb := Lib.hid (And.intro hybp hybc)
          clear hybp hybc hybf
          have G3 := Lib.hid (G2.out.trans' g3.out (fun _ _ e => e))
          refine hK.out _ _ (HLdX.out _ (G3.out.weak (fun _ _ e => e.elim))) (fun hHeld => ?_)
          clear hK
          refine wpAnyH_ready (rs := [5]) (by kernel_rfl) (by simp) ?_
          refine AllReadyH.cons rfl (fun K' hK => ?_) AllReadyH.nil
          refine oneH_val 10 rfl (by rfl) (exec_alloc_cat _ v3) ?_
          simp only [Act.put, List.setIfInBounds_toArray, List.set_cons_zero, List.set_cons_succ]
          obtain ⟨v4, e4⟩ : ∃ v4, Hid (v4 = v3.alloc (.cells (brA (.slice none 0 0) fun _ => 0) 26)) := ⟨_, Lib.hid rfl⟩
          rw [← e4.out]
          have g4 : Hid (Fr No v3 v4) := Lib.hid (by rw [e4.out]; exact (Fr.refl _ _).alloc _)
          have q5 : Hid (Bk v4 v3.heap.size 26 (brA (.slice none 0 0) fun _ => 0)) := Lib.hid (by rw [e4.out]; exact Bk.made v3 _ _)
          have n4 : Hid (v4.heap.size = v3.heap.size + 1) := Lib.hid (by rw [e4.out]; simp)
          have G4 := Lib.hid (G3.out.trans' g4.out (fun _ _ e => e))
          refine hK.out _ _ (HLdX.out _ (G4.out.weak (fun _ _ e => e.elim))) (fun hHeld => ?_)
          clear hK
          have b9 := q4.out.fr ((g3.out).trans' g4.out (fun _ _ e => e)) (fun e => e)
          have b10 := q5.out.fr (Fr.refl No _) (fun e => e)
          have hne : ¬ v1.heap.size = v3.heap.size := by have m1 := n1.out; have m2 := n2.out; have m3 := n3.out; have m4 := n4.out; omega
          have hz9 : ¬ v1.heap.size = w.heap.size := by have m0 := Hz0.out; have m1 := n1.out; have m2 := n2.out; have m3 := n3.out; have m4 := n4.out; omega
          have hz10 : ¬ v3.heap.size = w.heap.size := by have m0 := Hz0.out; have m1 := n1.out; have m2 := n2.out; have m3 := n3.out; have m4 := n4.out; omega
          have st6 := st_cat (Z' := ya.arr) rfl (Ctl.arr_eq ya) rfl b9
          have x1 : Fr (Only v1.heap.size) v4 (v4.setRow v1.heap.size ya.arr) := fr_row12 (Fr.refl (Only v1.heap.size) v4) (.inl rfl) _
          have c10 := b10.fr x1 (fun e => hne (show v3.heap.size = v1.heap.size from e).symm)
          have st7 := st_cat (Z' := yb.arr) rfl (Ctl.arr_eq yb) rfl c10
          have x2 : Fr (Only v3.heap.size) (v4.setRow v1.heap.size ya.arr) ((v4.setRow v1.heap.size ya.arr).setRow v3.heap.size yb.arr) := fr_row12 (Fr.refl (Only v3.heap.size) _) (.inl rfl) _
          have x12 : Fr (fun i => i = v1.heap.size ∨ i = v3.heap.size) v4 ((v4.setRow v1.heap.size ya.arr).setRow v3.heap.size yb.arr) := (x1.weak (fun i _ e => .inl e)).trans' x2 (fun i _ e => .inr e)
          have HAB : Hid (AB12 Z w ((v4.setRow v1.heap.size ya.arr).setRow v3.heap.size yb.arr) p v1.heap.size v3.heap.size ya yb) := Lib.hid (by
            refine ⟨Hya.out.1, Hyb.out.1, ?_, ?_, (bk_row12 b9 ya.arr).fr x2 (fun e => hne e), bk_row12 c10 yb.arr, ?_, ?_⟩
            · refine Hya.out.2 _ (((((g2.out).trans' g3.out (fun _ _ e => e)).trans' g4.out (fun _ _ e => e)).weak (S' := fun i => i < w2.drew.heap.size) (fun _ _ e => e.elim)).trans' x12 (fun i hi e => ?_))
              show i < w2.drew.heap.size
              have m1 := n1.out; have m2 := n2.out; have m3 := n3.out; have m4 := n4.out; omega
            · refine Hyb.out.2 _ (((g4.out).weak (S' := fun i => i < v2.heap.size) (fun _ _ e => e.elim)).trans' x12 (fun i hi e => ?_))
              show i < v2.heap.size
              have m1 := n1.out; have m2 := n2.out; have m3 := n3.out; have m4 := n4.out; omega
            · exact ((HF0.out.trans' G4.out (fun _ _ e => e)).weak (fun _ _ e => e)).trans' x12 (fun i hi e => by have m0 := Hz0.out; have m1 := n1.out; have m2 := n2.out; have m3 := n3.out; have m4 := n4.out; omega)
            · exact fun V hV => ⟨HLdX.out V (((G4.out.weak (fun _ _ e => e.elim)).trans' x12 (fun i _ e => by rcases e with e | e <;> rw [e] <;> assumption)).trans' hV (fun _ _ e => e.elim)), ld_cat (Ctl.arr_eq ya) (((bk_row12 b9 ya.arr).fr x2 (fun e => hne e)).fr hV (fun e => e)), ld_cat (Ctl.arr_eq yb) ((bk_row12 c10 yb.arr).fr hV (fun e => e))⟩)
          have s6 := HLdX.out (v4.setRow v1.heap.size ya.arr) ((G4.out.weak (fun _ _ e => e.elim)).trans' x1 (fun i _ e => by have e : i = v1.heap.size := e; rw [e]; exact hz9))
          have s7 := HLdX.out ((v4.setRow v1.heap.size ya.arr).setRow v3.heap.size yb.arr) ((G4.out.weak (fun _ _ e => e.elim)).trans' x12 (fun i _ e => by rcases e with e | e <;> rw [e] <;> assumption))
          refine any_store12 (i := 6) (by kernel_rfl) rfl rfl (by rfl) (exec_st rfl rfl st6) s6 ?_
          refine any_store12 (i := 7) (by kernel_rfl) rfl rfl (by rfl) (exec_st rfl rfl st7) s7 ?_
          refine wpAnyH_done (by kernel_rfl) ?_ _
          clear b9 b10 hne hz9 hz10 st6 st7 x1 x2 x12 c10 s6 s7
          go_wp2
          go_meet
          exact ⟨_, _, ya, yb, rfl, rfl, HAB⟩
        · refine oneH_val 10 rfl (by rfl) (exec_alloc_cat _ v2) ?_
          simp only [Act.put, List.setIfInBounds_toArray, List.set_cons_zero, List.set_cons_succ]
          obtain ⟨v3, e3⟩ : ∃ v3, Hid (v3 = v2.alloc (.cells (brA (.slice none 0 0) fun _ => 0) 26)) := ⟨_, Lib.hid rfl⟩
          rw [← e3.out]
          have g3 : Hid (Fr No v2 v3) := Lib.hid (by rw [e3.out]; exact (Fr.refl _ _).alloc _)
          have q5 : Hid (Bk v3 v2.heap.size 26 (brA (.slice none 0 0) fun _ => 0)) := Lib.hid (by rw [e3.out]; exact Bk.made v2 _ _)
          have n3 : Hid (v3.heap.size = v2.heap.size + 1) := Lib.hid (by rw [e3.out]; simp)
          have G3 := Lib.hid (G2.out.trans' g3.out (fun _ _ e => e))
          refine hK.out _ _ (HLdX.out _ (G3.out.weak (fun _ _ e => e.elim))) (fun hHeld => ?_)
          clear hK
          refine wpAnyH_ready (rs := [3]) (by kernel_rfl) (by simp) ?_
          refine AllReadyH.cons rfl (fun K' hK => ?_) AllReadyH.nil
          refine oneH_call 19 (f := 8) (args := #[.agg Z]) rfl (by rfl) (by go_simp) (copR (HC.out v3 (HF0.out.trans' G3.out (fun _ _ e => e)) hok)) ?_
          rintro _ v4 ⟨yb, rfl, hybp, hybc, hybf⟩
          simp only [Act.put, List.setIfInBounds_toArray, List.set_cons_zero, List.set_cons_succ]
          have g4 : Hid (Fr No v3 v4) := Lib.hid hybf
          have n4 : Hid (v3.heap.size ≤ v4.heap.size) := Lib.hid hybf.size
          have Hyb := Lib.hid (And.intro hybp hybc)
          clear hybp hybc hybf
          have G4 := Lib.hid (G3.out.trans' g4.out (fun _ _ e => e))
          refine hK.out _ _ (HLdX.out _ (G4.out.weak (fun _ _ e => e.elim))) (fun hHeld => ?_)
          clear hK
          have b9 := q4.out.fr ((g3.out).trans' g4.out (fun _ _ e => e)) (fun e => e)
          have b10 := q5.out.fr (g4.out) (fun e => e)
          have hne : ¬ v1.heap.size = v2.heap.size := by have m1 := n1.out; have m2 := n2.out; have m3 := n3.out; have m4 := n4.out; omega
          have hz9 : ¬ v1.heap.size = w.heap.size := by have m0 := Hz0.out; have m1 := n1.out; have m2 := n2.out; have m3 := n3.out; have m4 := n4.out; omega
          have hz10 : ¬ v2.heap.size = w.heap.size := by have m0 := Hz0.out; have m1 := n1.out; have m2 := n2.out; have m3 := n3.out; have m4 := n4.out; omega
          have st6 := st_cat (Z' := ya.arr) rfl (Ctl.arr_eq ya) rfl b9
          have x1 : Fr (Only v1.heap.size) v4 (v4.setRow v1.heap.size ya.arr) := fr_row12 (Fr.refl (Only v1.heap.size) v4) (.inl rfl) _
          have c10 := b10.fr x1 (fun e => hne (show v2.heap.size = v1.heap.size from e).symm)
          have st7 := st_cat (Z' := yb.arr) rfl (Ctl.arr_eq yb) rfl c10
          have x2 : Fr (Only v2.heap.size) (v4.setRow v1.heap.size ya.arr) ((v4.setRow v1.heap.size ya.arr).setRow v2.heap.size yb.arr) := fr_row12 (Fr.refl (Only v2.heap.size) _) (.inl rfl) _
          have x12 : Fr (fun i => i = v1.heap.size ∨ i = v2.heap.size) v4 ((v4.setRow v1.heap.size ya.arr).setRow v2.heap.size yb.arr) := (x1.weak (fun i _ e => .inl e)).trans' x2 (fun i _ e => .inr e)
          have HAB : Hid (AB12 Z w ((v4.setRow v1.heap.size ya.arr).setRow v2.heap.size yb.arr) p v1.heap.size v2.heap.size ya yb) := Lib.hid (by
            refine ⟨Hya.out.1, Hyb.out.1, ?_, ?_, (bk_row12 b9 ya.arr).fr x2 (fun e => hne e), bk_row12 c10 yb.arr, ?_, ?_⟩
            · refine Hya.out.2 _ (((((g2.out).trans' g3.out (fun _ _ e => e)).trans' g4.out (fun _ _ e => e)).weak (S' := fun i => i < w2.drew.heap.size) (fun _ _ e => e.elim)).trans' x12 (fun i hi e => ?_))
              show i < w2.drew.heap.size
              have m1 := n1.out; have m2 := n2.out; have m3 := n3.out; have m4 := n4.out; omega
            · refine Hyb.out.2 _ (((Fr.refl No _).weak (S' := fun i => i < v3.heap.size) (fun _ _ e => e.elim)).trans' x12 (fun i hi e => ?_))
              show i < v3.heap.size
              have m1 := n1.out; have m2 := n2.out; have m3 := n3.out; have m4 := n4.out; omega
            · exact ((HF0.out.trans' G4.out (fun _ _ e => e)).weak (fun _ _ e => e)).trans' x12 (fun i hi e => by have m0 := Hz0.out; have m1 := n1.out; have m2 := n2.out; have m3 := n3.out; have m4 := n4.out; omega)
            · exact fun V hV => ⟨HLdX.out V (((G4.out.weak (fun _ _ e => e.elim)).trans' x12 (fun i _ e => by rcases e with e | e <;> rw [e] <;> assumption)).trans' hV (fun _ _ e => e.elim)), ld_cat (Ctl.arr_eq ya) (((bk_row12 b9 ya.arr).fr x2 (fun e => hne e)).fr hV (fun e => e)), ld_cat (Ctl.arr_eq yb) ((bk_row12 c10 yb.arr).fr hV (fun e => e))⟩)
          have s6 := HLdX.out (v4.setRow v1.heap.size ya.arr) ((G4.out.weak (fun _ _ e => e.elim)).trans' x1 (fun i _ e => by have e : i = v1.heap.size := e; rw [e]; exact hz9))
          have s7 := HLdX.out ((v4.setRow v1.heap.size ya.arr).setRow v2.heap.size yb.arr) ((G4.out.weak (fun _ _ e => e.elim)).trans' x12 (fun i _ e => by rcases e with e | e <;> rw [e] <;> assumption))
          refine any_store12 (i := 6) (by kernel_rfl) rfl rfl (by rfl) (exec_st rfl rfl st6) s6 ?_
          refine any_store12 (i := 7) (by kernel_rfl) rfl rfl (by rfl) (exec_st rfl rfl st7) s7 ?_
          refine wpAnyH_done (by kernel_rfl) ?_ _
          clear b9 b10 hne hz9 hz10 st6 st7 x1 x2 x12 c10 s6 s7
          go_wp2
          go_meet
          exact ⟨_, _, ya, yb, rfl, rfl, HAB⟩
      · refine oneH_val 10 rfl (by rfl) (exec_alloc_cat _ v1) ?_
        simp only [Act.put, List.setIfInBounds_toArray, List.set_cons_zero, List.set_cons_succ]
        obtain ⟨v2, e2⟩ : ∃ v2, Hid (v2 = v1.alloc (.cells (brA (.slice none 0 0) fun _ => 0) 26)) := ⟨_, Lib.hid rfl⟩
        rw [← e2.out]
        have g2 : Hid (Fr No v1 v2) := Lib.hid (by rw [e2.out]; exact (Fr.refl _ _).alloc _)
        have q5 : Hid (Bk v2 v1.heap.size 26 (brA (.slice none 0 0) fun _ => 0)) := Lib.hid (by rw [e2.out]; exact Bk.made v1 _ _)
        have n2 : Hid (v2.heap.size = v1.heap.size + 1) := Lib.hid (by rw [e2.out]; simp)
        have G2 := Lib.hid (G1.out.trans' g2.out (fun _ _ e => e))
        refine hK.out _ _ (HLdX.out _ (G2.out.weak (fun _ _ e => e.elim))) (fun hHeld => ?_)
        clear hK
        refine wpAnyH_ready (rs := [3, 4]) (by kernel_rfl) (by simp) ?_
        refine AllReadyH.cons rfl (fun K' hK => ?_) (AllReadyH.cons rfl (fun K' hK => ?_) AllReadyH.nil)
        · refine oneH_call 19 (f := 8) (args := #[.agg Z]) rfl (by rfl) (by go_simp) (copR (HC.out v2 (HF0.out.trans' G2.out (fun _ _ e => e)) hok)) ?_
          rintro _ v3 ⟨yb, rfl, hybp, hybc, hybf⟩
          simp only [Act.put, List.setIfInBounds_toArray, List.set_cons_zero, List.set_cons_succ]
          have g3 : Hid (Fr No v2 v3) := Lib.hid hybf
          have n3 : Hid (v2.heap.size ≤ v3.heap.size) := Lib.hid hybf.size
          have Hyb := Lib.hid (And.intro hybp hybc)
          clear hybp hybc hybf
          have G3 := Lib.hid (G2.out.trans' g3.out (fun _ _ e => e))
          refine hK.out _ _ (HLdX.out _ (G3.out.weak (fun _ _ e => e.elim))) (fun hHeld => ?_)
          clear hK
          refine wpAnyH_ready (rs := [4]) (by kernel_rfl) (by simp) ?_
          refine AllReadyH.cons rfl (fun K' hK => ?_) AllReadyH.nil
          refine oneH_val 9 rfl (by rfl) (exec_alloc_cat _ v3) ?_
          simp only [Act.put, List.setIfInBounds_toArray, List.set_cons_zero, List.set_cons_succ]
          obtain ⟨v4, e4⟩ : ∃ v4, Hid (v4 = v3.alloc (.cells (brA (.slice none 0 0) fun _ => 0) 26)) := ⟨_, Lib.hid rfl⟩
          rw [← e4.out]
          have g4 : Hid (Fr No v3 v4) := Lib.hid (by rw [e4.out]; exact (Fr.refl _ _).alloc _)
          have q4 : Hid (Bk v4 v3.heap.size 26 (brA (.slice none 0 0) fun _ => 0)) := Lib.hid (by rw [e4.out]; exact Bk.made v3 _ _)
          have n4 : Hid (v4.heap.size = v3.heap.size + 1) := Lib.hid (by rw [e4.out]; simp)
          have G4 := Lib.hid (G3.out.trans' g4.out (fun _ _ e => e))
          refine hK.out _ _ (HLdX.out _ (G4.out.weak (fun _ _ e => e.elim))) (fun hHeld => ?_)
          clear hK
          have b9 := q4.out.fr (Fr.refl No _) (fun e => e)
          have b10 := q5.out.fr ((g3.out).trans' g4.out (fun _ _ e => e)) (fun e => e)
          have hne : ¬ v3.heap.size = v1.heap.size := by have m1 := n1.out; have m2 := n2.out; have m3 := n3.out; have m4 := n4.out; omega
          have hz9 : ¬ v3.heap.size = w.heap.size := by have m0 := Hz0.out; have m1 := n1.out; have m2 := n2.out; have m3 := n3.out; have m4 := n4.out; omega
          have hz10 : ¬ v1.heap.size = w.heap.size := by have m0 := Hz0.out; have m1 := n1.out; have m2 := n2.out; have m3 := n3.out; have m4 := n4.out; omega
          have st6 := st_cat (Z' := ya.arr) rfl (Ctl.arr_eq ya) rfl b9
          have x1 : Fr (Only v3.heap.size) v4 (v4.setRow v3.heap.size ya.arr) := fr_row12 (Fr.refl (Only v3.heap.size) v4) (.inl rfl) _
          have c10 := b10.fr x1 (fun e => hne (show v1.heap.size = v3.heap.size from e).symm)
          have st7 := st_cat (Z' := yb.arr) rfl (Ctl.arr_eq yb) rfl c10
          have x2 : Fr (Only v1.heap.size) (v4.setRow v3.heap.size ya.arr) ((v4.setRow v3.heap.size ya.arr).setRow v1.heap.size yb.arr) := fr_row12 (Fr.refl (Only v1.heap.size) _) (.inl rfl) _
          have x12 : Fr (fun i => i = v3.heap.size ∨ i = v1.heap.size) v4 ((v4.setRow v3.heap.size ya.arr).setRow v1.heap.size yb.arr) := (x1.weak (fun i _ e => .inl e)).trans' x2 (fun i _ e => .inr e)
          have HAB : Hid (AB12 Z w ((v4.setRow v3.heap.size ya.arr).setRow v1.heap.size yb.arr) p v3.heap.size v1.heap.size ya yb) := Lib.hid (by
            refine ⟨Hya.out.1, Hyb.out.1, ?_, ?_, (bk_row12 b9 ya.arr).fr x2 (fun e => hne e), bk_row12 c10 yb.arr, ?_, ?_⟩
            · refine Hya.out.2 _ (((((g2.out).trans' g3.out (fun _ _ e => e)).trans' g4.out (fun _ _ e => e)).weak (S' := fun i => i < w2.drew.heap.size) (fun _ _ e => e.elim)).trans' x12 (fun i hi e => ?_))
              show i < w2.drew.heap.size
              have m1 := n1.out; have m2 := n2.out; have m3 := n3.out; have m4 := n4.out; omega
            · refine Hyb.out.2 _ (((g4.out).weak (S' := fun i => i < v2.heap.size) (fun _ _ e => e.elim)).trans' x12 (fun i hi e => ?_))
              show i < v2.heap.size
              have m1 := n1.out; have m2 := n2.out; have m3 := n3.out; have m4 := n4.out; omega
            · exact ((HF0.out.trans' G4.out (fun _ _ e => e)).weak (fun _ _ e => e)).trans' x12 (fun i hi e => by have m0 := Hz0.out; have m1 := n1.out; have m2 := n2.out; have m3 := n3.out; have m4 := n4.out; omega)
            · exact fun V hV => ⟨HLdX.out V (((G4.out.weak (fun _ _ e => e.elim)).trans' x12 (fun i _ e => by rcases e with e | e <;> rw [e] <;> assumption)).trans' hV (fun _ _ e => e.elim)), ld_cat (Ctl.arr_eq ya) (((bk_row12 b9 ya.arr).fr x2 (fun e => hne e)).fr hV (fun e => e)), ld_cat (Ctl.arr_eq yb) ((bk_row12 c10 yb.arr).fr hV (fun e => e))⟩)
          have s6 := HLdX.out (v4.setRow v3.heap.size ya.arr) ((G4.out.weak (fun _ _ e => e.elim)).trans' x1 (fun i _ e => by have e : i = v3.heap.size := e; rw [e]; exact hz9))
          have s7 := HLdX.out ((v4.setRow v3.heap.size ya.arr).setRow v1.heap.size yb.arr) ((G4.out.weak (fun _ _ e => e.elim)).trans' x12 (fun i _ e => by rcases e with e | e <;> rw [e] <;> assumption))
          refine any_store12 (i := 6) (by kernel_rfl) rfl rfl (by rfl) (exec_st rfl rfl st6) s6 ?_
          refine any_store12 (i := 7) (by kernel_rfl) rfl rfl (by rfl) (exec_st rfl rfl st7) s7 ?_
          refine wpAnyH_done (by kernel_rfl) ?_ _
          clear b9 b10 hne hz9 hz10 st6 st7 x1 x2 x12 c10 s6 s7
          go_wp2
          go_meet
          exact ⟨_, _, ya, yb, rfl, rfl, HAB⟩
        · refine oneH_val 9 rfl (by rfl) (exec_alloc_cat _ v2) ?_
          simp only [Act.put, List.setIfInBounds_toArray, List.set_cons_zero, List.set_cons_succ]
          obtain ⟨v3, e3⟩ : ∃ v3, Hid (v3 = v2.alloc (.cells (brA (.slice none 0 0) fun _ => 0) 26)) := ⟨_, Lib.hid rfl⟩
          rw [← e3.out]
          have g3 : Hid (Fr No v2 v3) := Lib.hid (by rw [e3.out]; exact (Fr.refl _ _).alloc _)
          have q4 : Hid (Bk v3 v2.heap.size 26 (brA (.slice none 0 0) fun _ => 0)) := Lib.hid (by rw [e3.out]; exact Bk.made v2 _ _)
          have n3 : Hid (v3.heap.size = v2.heap.size + 1) := Lib.hid (by rw [e3.out]; simp)
          have G3 := Lib.hid (G2.out.trans' g3.out (fun _ _ e => e))
          refine hK.out _ _ (HLdX.out _ (G3.out.weak (fun _ _ e => e.elim))) (fun hHeld => ?_)
          clear hK
          refine wpAnyH_ready (rs := [3]) (by kernel_rfl) (by simp) ?_
          refine AllReadyH.cons rfl (fun K' hK => ?_) AllReadyH.nil
          refine oneH_call 19 (f := 8) (args := #[.agg Z]) rfl (by rfl) (by go_simp) (copR (HC.out v3 (HF0.out.trans' G3.out (fun _ _ e => e)) hok)) ?_
          rintro _ v4 ⟨yb, rfl, hybp, hybc, hybf⟩
          simp only [Act.put, List.setIfInBounds_toArray, List.set_cons_zero, List.set_cons_succ]
          have g4 : Hid (Fr No v3 v4) := Lib.hid hybf
          have n4 : Hid (v3.heap.size ≤ v4.heap.size) := Lib.hid hybf.size
          have Hyb := Lib.hid (And.intro hybp hybc)
          clear hybp hybc hybf
          have G4 := Lib.hid (G3.out.trans' g4.out (fun _ _ e => e))
          refine hK.out _ _ (HLdX.out _ (G4.out.weak (fun _ _ e => e.elim))) (fun hHeld => ?_)
          clear hK
          have b9 := q4.out.fr (g4.out) (fun e => e)
          have b10 := q5.out.fr ((g3.out).trans' g4.out (fun _ _ e => e)) (fun e => e)
          have hne : ¬ v2.heap.size = v1.heap.size := by have m1 := n1.out; have m2 := n2.out; have m3 := n3.out; have m4 := n4.out; omega
          have hz9 : ¬ v2.heap.size = w.heap.size := by have m0 := Hz0.out; have m1 := n1.out; have m2 := n2.out; have m3 := n3.out; have m4 := n4.out; omega
          have hz10 : ¬ v1.heap.size = w.heap.size := by have m0 := Hz0.out; have m1 := n1.out; have m2 := n2.out; have m3 := n3.out; have m4 := n4.out; omega
          have st6 := st_cat (Z' := ya.arr) rfl (Ctl.arr_eq ya) rfl b9
          have x1 : Fr (Only v2.heap.size) v4 (v4.setRow v2.heap.size ya.arr) := fr_row12 (Fr.refl (Only v2.heap.size) v4) (.inl rfl) _
          have c10 := b10.fr x1 (fun e => hne (show v1.heap.size = v2.heap.size from e).symm)
          have st7 := st_cat (Z' := yb.arr) rfl (Ctl.arr_eq yb) rfl c10
          have x2 : Fr (Only v1.heap.size) (v4.setRow v2.heap.size ya.arr) ((v4.setRow v2.heap.size ya.arr).setRow v1.heap.size yb.arr) := fr_row12 (Fr.refl (Only v1.heap.size) _) (.inl rfl) _
          have x12 : Fr (fun i => i = v2.heap.size ∨ i = v1.heap.size) v4 ((v4.setRow v2.heap.size ya.arr).setRow v1.heap.size yb.arr) := (x1.weak (fun i _ e => .inl e)).trans' x2 (fun i _ e => .inr e)
          have HAB : Hid (AB12 Z w ((v4.setRow v2.heap.size ya.arr).setRow v1.heap.size yb.arr) p v2.heap.size v1.heap.size ya yb) := Lib.hid (by
            refine ⟨Hya.out.1, Hyb.out.1, ?_, ?_, (bk_row12 b9 ya.arr).fr x2 (fun e => hne e), bk_row12 c10 yb.arr, ?_, ?_⟩
            · refine Hya.out.2 _ (((((g2.out).trans' g3.out (fun _ _ e => e)).trans' g4.out (fun _ _ e => e)).weak (S' := fun i => i < w2.drew.heap.size) (fun _ _ e => e.elim)).trans' x12 (fun i hi e => ?_))
              show i < w2.drew.heap.size
              have m1 := n1.out; have m2 := n2.out; have m3 := n3.out; have m4 := n4.out; omega
            · refine Hyb.out.2 _ (((Fr.refl No _).weak (S' := fun i => i < v3.heap.size) (fun _ _ e => e.elim)).trans' x12 (fun i hi e => ?_))
              show i < v3.heap.size
              have m1 := n1.out; have m2 := n2.out; have m3 := n3.out; have m4 := n4.out; omega
            · exact ((HF0.out.trans' G4.out (fun _ _ e => e)).weak (fun _ _ e => e)).trans' x12 (fun i hi e => by have m0 := Hz0.out; have m1 := n1.out; have m2 := n2.out; have m3 := n3.out; have m4 := n4.out; omega)
            · exact fun V hV => ⟨HLdX.out V (((G4.out.weak (fun _ _ e => e.elim)).trans' x12 (fun i _ e => by rcases e with e | e <;> rw [e] <;> assumption)).trans' hV (fun _ _ e => e.elim)), ld_cat (Ctl.arr_eq ya) (((bk_row12 b9 ya.arr).fr x2 (fun e => hne e)).fr hV (fun e => e)), ld_cat (Ctl.arr_eq yb) ((bk_row12 c10 yb.arr).fr hV (fun e => e))⟩)
          have s6 := HLdX.out (v4.setRow v2.heap.size ya.arr) ((G4.out.weak (fun _ _ e => e.elim)).trans' x1 (fun i _ e => by have e : i = v2.heap.size := e; rw [e]; exact hz9))
          have s7 := HLdX.out ((v4.setRow v2.heap.size ya.arr).setRow v1.heap.size yb.arr) ((G4.out.weak (fun _ _ e => e.elim)).trans' x12 (fun i _ e => by rcases e with e | e <;> rw [e] <;> assumption))
          refine any_store12 (i := 6) (by kernel_rfl) rfl rfl (by rfl) (exec_st rfl rfl st6) s6 ?_
          refine any_store12 (i := 7) (by kernel_rfl) rfl rfl (by rfl) (exec_st rfl rfl st7) s7 ?_
          refine wpAnyH_done (by kernel_rfl) ?_ _
          clear b9 b10 hne hz9 hz10 st6 st7 x1 x2 x12 c10 s6 s7
          go_wp2
          go_meet
          exact ⟨_, _, ya, yb, rfl, rfl, HAB⟩
    · refine oneH_val 9 rfl (by rfl) (exec_alloc_cat _ w2.drew) ?_
      simp only [Act.put, List.setIfInBounds_toArray, List.set_cons_zero, List.set_cons_succ]
      obtain ⟨v1, e1⟩ : ∃ v1, Hid (v1 = w2.drew.alloc (.cells (brA (.slice none 0 0) fun _ => 0) 26)) := ⟨_, Lib.hid rfl⟩
      rw [← e1.out]
      have g1 : Hid (Fr No w2.drew v1) := Lib.hid (by rw [e1.out]; exact (Fr.refl _ _).alloc _)
      have q4 : Hid (Bk v1 w2.drew.heap.size 26 (brA (.slice none 0 0) fun _ => 0)) := Lib.hid (by rw [e1.out]; exact Bk.made w2.drew _ _)
      have n1 : Hid (v1.heap.size = w2.drew.heap.size + 1) := Lib.hid (by rw [e1.out]; simp)
      have G1 := Lib.hid (G0.out.trans' g1.out (fun _ _ e => e))
      refine hK.out _ _ (HLdX.out _ (G1.out.weak (fun _ _ e => e.elim))) (fun hHeld => ?_)
      clear hK
      refine wpAnyH_ready (rs := [1, 5]) (by kernel_rfl) (by simp) ?_
      refine AllReadyH.cons rfl (fun K' hK => ?_) (AllReadyH.cons rfl (fun K' hK => ?_) AllReadyH.nil)
      · refine oneH_call 17 (f := 7) (args := #[.agg Z]) rfl (by rfl) (by go_simp) (copR (HO.out v1 (HF0.out.trans' G1.out (fun _ _ e => e)) hok)) ?_
        rintro _ v2 ⟨ya, rfl, hyap, hyac, hyaf⟩
        simp only [Act.put, List.setIfInBounds_toArray, List.set_cons_zero, List.set_cons_succ]
        have g2 : Hid (Fr No v1 v2) := Lib.hid hyaf
        have n2 : Hid (v1.heap.size ≤ v2.heap.size) := Lib.hid hyaf.size
        have Hya := Lib.hid (And.intro hyap hyac)
        clear hyap hyac hyaf
        have G2 := Lib.hid (G1.out.trans' g2.out (fun _ _ e => e))
        refine hK.out _ _ (HLdX.out _ (G2.out.weak (fun _ _ e => e.elim))) (fun hHeld => ?_)
        clear hK
        refine wpAnyH_ready (rs := [3, 5]) (by kernel_rfl) (by simp) ?_
        refine AllReadyH.cons rfl (fun K' hK => ?_) (AllReadyH.cons rfl (fun K' hK => ?_) AllReadyH.nil)
        · refine oneH_call 19 (f := 8) (args := #[.agg Z]) rfl (by rfl) (by go_simp) (copR (HC.out v2 (HF0.out.trans' G2.out (fun _ _ e => e)) hok)) ?_
          rintro _ v3 ⟨yb, rfl, hybp, hybc, hybf⟩
          simp only [Act.put, List.setIfInBounds_toArray, List.set_cons_zero, List.set_cons_succ]
          have g3 : Hid (Fr No v2 v3) := Lib.hid hybf
          have n3 : Hid (v2.heap.size ≤ v3.heap.size) := Lib.hid hybf.size
          have Hyb := Lib.hid (And.intro hybp hybc)
          clear hybp hybc hybf
          have G3 := Lib.hid (G2.out.trans' g3.out (fun _ _ e => e))
          refine hK.out _ _ (HLdX.out _ (G3.out.weak (fun _ _ e => e.elim))) (fun hHeld => ?_)
          clear hK
          refine wpAnyH_ready (rs := [5]) (by kernel_rfl) (by simp) ?_
          refine AllReadyH.cons rfl (fun K' hK => ?_) AllReadyH.nil
          refine oneH_val 10 rfl (by rfl) (exec_alloc_cat _ v3) ?_
          simp only [Act.put, List.setIfInBounds_toArray, List.set_cons_zero, List.set_cons_succ]
          obtain ⟨v4, e4⟩ : ∃ v4, Hid (v4 = v3.alloc (.cells (brA (.slice none 0 0) fun _ => 0) 26)) := ⟨_, Lib.hid rfl⟩
          rw [← e4.out]
          have g4 : Hid (Fr No v3 v4) := Lib.hid (by rw [e4.out]; exact (Fr.refl _ _).alloc _)
          have q5 : Hid (Bk v4 v3.heap.size 26 (brA (.slice none 0 0) fun _ => 0)) := Lib.hid (by rw [e4.out]; exact Bk.made v3 _ _)
          have n4 : Hid (v4.heap.size = v3.heap.size + 1) := Lib.hid (by rw [e4.out]; simp)
          have G4 := Lib.hid (G3.out.trans' g4.out (fun _ _ e => e))
          refine hK.out _ _ (HLdX.out _ (G4.out.weak (fun _ _ e => e.elim))) (fun hHeld => ?_)
          clear hK
          have b9 := q4.out.fr (((g2.out).trans' g3.out (fun _ _ e => e)).trans' g4.out (fun _ _ e => e)) (fun e => e)
          have b10 := q5.out.fr (Fr.refl No _) (fun e => e)
          have hne : ¬ w2.drew.heap.size = v3.heap.size := by have m1 := n1.out; have m2 := n2.out; have m3 := n3.out; have m4 := n4.out; omega
          have hz9 : ¬ w2.drew.heap.size = w.heap.size := by have m0 := Hz0.out; have m1 := n1.out; have m2 := n2.out; have m3 := n3.out; have m4 := n4.out; omega
          have hz10 : ¬ v3.heap.size = w.heap.size := by have m0 := Hz0.out; have m1 := n1.out; have m2 := n2.out; have m3 := n3.out; have m4 := n4.out; omega
          have st6 := st_cat (Z' := ya.arr) rfl (Ctl.arr_eq ya) rfl b9
          have x1 : Fr (Only w2.drew.heap.size) v4 (v4.setRow w2.drew.heap.size ya.arr) := fr_row12 (Fr.refl (Only w2.drew.heap.size) v4) (.inl rfl) _
          have c10 := b10.fr x1 (fun e => hne (show v3.heap.size = w2.drew.heap.size from e).symm)
          have st7 := st_cat (Z' := yb.arr) rfl (Ctl.arr_eq yb) rfl c10
          have x2 : Fr (Only v3.heap.size) (v4.setRow w2.drew.heap.size ya.arr) ((v4.setRow w2.drew.heap.size ya.arr).setRow v3.heap.size yb.arr) := fr_row12 (Fr.refl (Only v3.heap.size) _) (.inl rfl) _
          have x12 : Fr (fun i => i = w2.drew.heap.size ∨ i = v3.heap.size) v4 ((v4.setRow w2.drew.heap.size ya.arr).setRow v3.heap.size yb.arr) := (x1.weak (fun i _ e => .inl e)).trans' x2 (fun i _ e => .inr e)
          have HAB : Hid (AB12 Z w ((v4.setRow w2.drew.heap.size ya.arr).setRow v3.heap.size yb.arr) p w2.drew.heap.size v3.heap.size ya yb) := Lib.hid (by
            refine ⟨Hya.out.1, Hyb.out.1, ?_, ?_, (bk_row12 b9 ya.arr).fr x2 (fun e => hne e), bk_row12 c10 yb.arr, ?_, ?_⟩
            · refine Hya.out.2 _ ((((g3.out).trans' g4.out (fun _ _ e => e)).weak (S' := fun i => i < v1.heap.size) (fun _ _ e => e.elim)).trans' x12 (fun i hi e => ?_))
              show i < v1.heap.size
              have m1 := n1.out; have m2 := n2.out; have m3 := n3.out; have m4 := n4.out; omega
            · refine Hyb.out.2 _ (((g4.out).weak (S' := fun i => i < v2.heap.size) (fun _ _ e => e.elim)).trans' x12 (fun i hi e => ?_))
              show i < v2.heap.size
              have m1 := n1.out; have m2 := n2.out; have m3 := n3.out; have m4 := n4.out; omega
            · exact ((HF0.out.trans' G4.out (fun _ _ e => e)).weak (fun _ _ e => e)).trans' x12 (fun i hi e => by have m0 := Hz0.out; have m1 := n1.out; have m2 := n2.out; have m3 := n3.out; have m4 := n4.out; omega)
            · exact fun V hV => ⟨HLdX.out V (((G4.out.weak (fun _ _ e => e.elim)).trans' x12 (fun i _ e => by rcases e with e | e <;> rw [e] <;> assumption)).trans' hV (fun _ _ e => e.elim)), ld_cat (Ctl.arr_eq ya) (((bk_row12 b9 ya.arr).fr x2 (fun e => hne e)).fr hV (fun e => e)), ld_cat (Ctl.arr_eq yb) ((bk_row12 c10 yb.arr).fr hV (fun e => e))⟩)
          have s6 := HLdX.out (v4.setRow w2.drew.heap.size ya.arr) ((G4.out.weak (fun _ _ e => e.elim)).trans' x1 (fun i _ e => by have e : i = w2.drew.heap.size := e; rw [e]; exact hz9))
          have s7 := HLdX.out ((v4.setRow w2.drew.heap.size ya.arr).setRow v3.heap.size yb.arr) ((G4.out.weak (fun _ _ e => e.elim)).trans' x12 (fun i _ e => by rcases e with e | e <;> rw [e] <;> assumption))
          refine any_store12 (i := 6) (by kernel_rfl) rfl rfl (by rfl) (exec_st rfl rfl st6) s6 ?_
          refine any_store12 (i := 7) (by kernel_rfl) rfl rfl (by rfl) (exec_st rfl rfl st7) s7 ?_
          refine wpAnyH_done (by kernel_rfl) ?_ _
          clear b9 b10 hne hz9 hz10 st6 st7 x1 x2 x12 c10 s6 s7
          go_wp2
          go_meet
          exact ⟨_, _, ya, yb, rfl, rfl, HAB⟩
        · refine oneH_val 10 rfl (by rfl) (exec_alloc_cat _ v2) ?_
          simp only [Act.put, List.setIfInBounds_toArray, List.set_cons_zero, List.set_cons_succ]
          obtain ⟨v3, e3⟩ : ∃ v3, Hid (v3 = v2.alloc (.cells (brA (.slice none 0 0) fun _ => 0) 26)) := ⟨_, Lib.hid rfl⟩
          rw [← e3.out]
          have g3 : Hid (Fr No v2 v3) := Lib.hid (by rw [e3.out]; exact (Fr.refl _ _).alloc _)
          have q5 : Hid (Bk v3 v2.heap.size 26 (brA (.slice none 0 0) fun _ => 0)) := Lib.hid (by rw [e3.out]; exact Bk.made v2 _ _)
          have n3 : Hid (v3.heap.size = v2.heap.size + 1) := Lib.hid (by rw [e3.out]; simp)
          have G3 := Lib.hid (G2.out.trans' g3.out (fun _ _ e => e))
          refine hK.out _ _ (HLdX.out _ (G3.out.weak (fun _ _ e => e.elim))) (fun hHeld => ?_)
          clear hK
          refine wpAnyH_ready (rs := [3]) (by kernel_rfl) (by simp) ?_
          refine AllReadyH.cons rfl (fun K' hK => ?_) AllReadyH.nil
          refine oneH_call 19 (f := 8) (args := #[.agg Z]) rfl (by rfl) (by go_simp) (copR (HC.out v3 (HF0.out.trans' G3.out (fun _ _ e => e)) hok)) ?_
          rintro _ v4 ⟨yb, rfl, hybp, hybc, hybf⟩
          simp only [Act.put, List.setIfInBounds_toArray, List.set_cons_zero, List.set_cons_succ]
          have g4 : Hid (Fr No v3 v4) := Lib.hid hybf
          have n4 : Hid (v3.heap.size ≤ v4.heap.size) := Lib.hid hybf.size
          have Hyb := Lib.hid (And.intro hybp hybc)
          clear hybp hybc hybf
          have G4 := Lib.hid (G3.out.trans' g4.out (fun _ _ e => e))
          refine hK.out _ _ (HLdX.out _ (G4.out.weak (fun _ _ e => e.elim))) (fun hHeld => ?_)
          clear hK
          have b9 := q4.out.fr (((g2.out).trans' g3.out (fun _ _ e => e)).trans' g4.out (fun _ _ e => e)) (fun e => e)
          have b10 := q5.out.fr (g4.out) (fun e => e)
          have hne : ¬ w2.drew.heap.size = v2.heap.size := by have m1 := n1.out; have m2 := n2.out; have m3 := n3.out; have m4 := n4.out; omega
          have hz9 : ¬ w2.drew.heap.size = w.heap.size := by have m0 := Hz0.out; have m1 := n1.out; have m2 := n2.out; have m3 := n3.out; have m4 := n4.out; omega
          have hz10 : ¬ v2.heap.size = w.heap.size := by have m0 := Hz0.out; have m1 := n1.out; have m2 := n2.out; have m3 := n3.out; have m4 := n4.out; omega
          have st6 := st_cat (Z' := ya.arr) rfl (Ctl.arr_eq ya) rfl b9
          have x1 : Fr (Only w2.drew.heap.size) v4 (v4.setRow w2.drew.heap.size ya.arr) := fr_row12 (Fr.refl (Only w2.drew.heap.size) v4) (.inl rfl) _
          have c10 := b10.fr x1 (fun e => hne (show v2.heap.size = w2.drew.heap.size from e).symm)
          have st7 := st_cat (Z' := yb.arr) rfl (Ctl.arr_eq yb) rfl c10
          have x2 : Fr (Only v2.heap.size) (v4.setRow w2.drew.heap.size ya.arr) ((v4.setRow w2.drew.heap.size ya.arr).setRow v2.heap.size yb.arr) := fr_row12 (Fr.refl (Only v2.heap.size) _) (.inl rfl) _
          have x12 : Fr (fun i => i = w2.drew.heap.size ∨ i = v2.heap.size) v4 ((v4.setRow w2.drew.heap.size ya.arr).setRow v2.heap.size yb.arr) := (x1.weak (fun i _ e => .inl e)).trans' x2 (fun i _ e => .inr e)
          have HAB : Hid (AB12 Z w ((v4.setRow w2.drew.heap.size ya.arr).setRow v2.heap.size yb.arr) p w2.drew.heap.size v2.heap.size ya yb) := Lib.hid (by
            refine ⟨Hya.out.1, Hyb.out.1, ?_, ?_, (bk_row12 b9 ya.arr).fr x2 (fun e => hne e), bk_row12 c10 yb.arr, ?_, ?_⟩
            · refine Hya.out.2 _ ((((g3.out).trans' g4.out (fun _ _ e => e)).weak (S' := fun i => i < v1.heap.size) (fun _ _ e => e.elim)).trans' x12 (fun i hi e => ?_))
              show i < v1.heap.size
              have m1 := n1.out; have m2 := n2.out; have m3 := n3.out; have m4 := n4.out; omega
            · refine Hyb.out.2 _ (((Fr.refl No _).weak (S' := fun i => i < v3.heap.size) (fun _ _ e => e.elim)).trans' x12 (fun i hi e => ?_))
              show i < v3.heap.size
              have m1 := n1.out; have m2 := n2.out; have m3 := n3.out; have m4 := n4.out; omega
            · exact ((HF0.out.trans' G4.out (fun _ _ e => e)).weak (fun _ _ e => e)).trans' x12 (fun i hi e => by have m0 := Hz0.out; have m1 := n1.out; have m2 := n2.out; have m3 := n3.out; have m4 := n4.out; omega)
            · exact fun V hV => ⟨HLdX.out V (((G4.out.weak (fun _ _ e => e.elim)).trans' x12 (fun i _ e => by rcases e with e | e <;> rw [e] <;> assumption)).trans' hV (fun _ _ e => e.elim)), ld_cat (Ctl.arr_eq ya) (((bk_row12 b9 ya.arr).fr x2 (fun e => hne e)).fr hV (fun e => e)), ld_cat (Ctl.arr_eq yb) ((bk_row12 c10 yb.arr).fr hV (fun e => e))⟩)
          have s6 := HLdX.out (v4.setRow w2.drew.heap.size ya.arr) ((G4.out.weak (fun _ _ e => e.elim)).trans' x1 (fun i _ e => by have e : i = w2.drew.heap.size := e; rw [e]; exact hz9))
          have s7 := HLdX.out ((v4.setRow w2.drew.heap.size ya.arr).setRow v2.heap.size yb.arr) ((G4.out.weak (fun _ _ e => e.elim)).trans' x12 (fun i _ e => by rcases e with e | e <;> rw [e] <;> assumption))
          refine any_store12 (i := 6) (by kernel_rfl) rfl rfl (by rfl) (exec_st rfl rfl st6) s6 ?_
          refine any_store12 (i := 7) (by kernel_rfl) rfl rfl (by rfl) (exec_st rfl rfl st7) s7 ?_
          refine wpAnyH_done (by kernel_rfl) ?_ _
          clear b9 b10 hne hz9 hz10 st6 st7 x1 x2 x12 c10 s6 s7
          go_wp2
          go_meet
          exact ⟨_, _, ya, yb, rfl, rfl, HAB⟩
      · refine oneH_val 10 rfl (by rfl) (exec_alloc_cat _ v1) ?_
        simp only [Act.put, List.setIfInBounds_toArray, List.set_cons_zero, List.set_cons_succ]
        obtain ⟨v2, e2⟩ : ∃ v2, Hid (v2 = v1.alloc (.cells (brA (.slice none 0 0) fun _ => 0) 26)) := ⟨_, Lib.hid rfl⟩
        rw [← e2.out]
        have g2 : Hid (Fr No v1 v2) := Lib.hid (by rw [e2.out]; exact (Fr.refl _ _).alloc _)
        have q5 : Hid (Bk v2 v1.heap.size 26 (brA (.slice none 0 0) fun _ => 0)) := Lib.hid (by rw [e2.out]; exact Bk.made v1 _ _)
        have n2 : Hid (v2.heap.size = v1.heap.size + 1) := Lib.hid (by rw [e2.out]; simp)
        have G2 := Lib.hid (G1.out.trans' g2.out (fun _ _ e => e))
        refine hK.out _ _ (HLdX.out _ (G2.out.weak (fun _ _ e => e.elim))) (fun hHeld => ?_)
        clear hK
        refine wpAnyH_ready (rs := [1]) (by kernel_rfl) (by simp) ?_
        refine AllReadyH.cons rfl (fun K' hK => ?_) AllReadyH.nil
        refine oneH_call 17 (f := 7) (args := #[.agg Z]) rfl (by rfl) (by go_simp) (copR (HO.out v2 (HF0.out.trans' G2.out (fun _ _ e => e)) hok)) ?_
        rintro _ v3 ⟨ya, rfl, hyap, hyac, hyaf⟩
        simp only [Act.put, List.setIfInBounds_toArray, List.set_cons_zero, List.set_cons_succ]
        have g3 : Hid (Fr No v2 v3) := Lib.hid hyaf
        have n3 : Hid (v2.heap.size ≤ v3.heap.size) := Lib.hid hyaf.size
        have Hya := Lib.hid (And.intro hyap hyac)
        clear hyap hyac hyaf
        have G3 := Lib.hid (G2.out.trans' g3.out (fun _ _ e => e))
        refine hK.out _ _ (HLdX.out _ (G3.out.weak (fun _ _ e => e.elim))) (fun hHeld => ?_)
        clear hK
        refine wpAnyH_ready (rs := [3]) (by kernel_rfl) (by simp) ?_
        refine AllReadyH.cons rfl (fun K' hK => ?_) AllReadyH.nil
        refine oneH_call 19 (f := 8) (args := #[.agg Z]) rfl (by rfl) (by go_simp) (copR (HC.out v3 (HF0.out.trans' G3.out (fun _ _ e => e)) hok)) ?_
        rintro _ v4 ⟨yb, rfl, hybp, hybc, hybf⟩
        simp only [Act.put, List.setIfInBounds_toArray, List.set_cons_zero, List.set_cons_succ]
        have g4 : Hid (Fr No v3 v4) := Lib.hid hybf
        have n4 : Hid (v3.heap.size ≤ v4.heap.size) := Lib.hid hybf.size
        have Hyb := Lib.hid (And.intro hybp hybc)
        clear hybp hybc hybf
        have G4 := Lib.hid (G3.out.trans' g4.out (fun _ _ e => e))
        refine hK.out _ _ (HLdX.out _ (G4.out.weak (fun _ _ e => e.elim))) (fun hHeld => ?_)
        clear hK
        have b9 := q4.out.fr (((g2.out).trans' g3.out (fun _ _ e => e)).trans' g4.out (fun _ _ e => e)) (fun e => e)
        have b10 := q5.out.fr ((g3.out).trans' g4.out (fun _ _ e => e)) (fun e => e)
        have hne : ¬ w2.drew.heap.size = v1.heap.size := by have m1 := n1.out; have m2 := n2.out; have m3 := n3.out; have m4 := n4.out; omega
        have hz9 : ¬ w2.drew.heap.size = w.heap.size := by have m0 := Hz0.out; have m1 := n1.out; have m2 := n2.out; have m3 := n3.out; have m4 := n4.out; omega
        have hz10 : ¬ v1.heap.size = w.heap.size := by have m0 := Hz0.out; have m1 := n1.out; have m2 := n2.out; have m3 := n3.out; have m4 := n4.out; omega
        have st6 := st_cat (Z' := ya.arr) rfl (Ctl.arr_eq ya) rfl b9
        have x1 : Fr (Only w2.drew.heap.size) v4 (v4.setRow w2.drew.heap.size ya.arr) := fr_row12 (Fr.refl (Only w2.drew.heap.size) v4) (.inl rfl) _
        have c10 := b10.fr x1 (fun e => hne (show v1.heap.size = w2.drew.heap.size from e).symm)
        have st7 := st_cat (Z' := yb.arr) rfl (Ctl.arr_eq yb) rfl c10
        have x2 : Fr (Only v1.heap.size) (v4.setRow w2.drew.heap.size ya.arr) ((v4.setRow w2.drew.heap.size ya.arr).setRow v1.heap.size yb.arr) := fr_row12 (Fr.refl (Only v1.heap.size) _) (.inl rfl) _
        have x12 : Fr (fun i => i = w2.drew.heap.size ∨ i = v1.heap.size) v4 ((v4.setRow w2.drew.heap.size ya.arr).setRow v1.heap.size yb.arr) := (x1.weak (fun i _ e => .inl e)).trans' x2 (fun i _ e => .inr e)
        have HAB : Hid (AB12 Z w ((v4.setRow w2.drew.heap.size ya.arr).setRow v1.heap.size yb.arr) p w2.drew.heap.size v1.heap.size ya yb) := Lib.hid (by
          refine ⟨Hya.out.1, Hyb.out.1, ?_, ?_, (bk_row12 b9 ya.arr).fr x2 (fun e => hne e), bk_row12 c10 yb.arr, ?_, ?_⟩
          · refine Hya.out.2 _ (((g4.out).weak (S' := fun i => i < v2.heap.size) (fun _ _ e => e.elim)).trans' x12 (fun i hi e => ?_))
            show i < v2.heap.size
            have m1 := n1.out; have m2 := n2.out; have m3 := n3.out; have m4 := n4.out; omega
          · refine Hyb.out.2 _ (((Fr.refl No _).weak (S' := fun i => i < v3.heap.size) (fun _ _ e => e.elim)).trans' x12 (fun i hi e => ?_))
            show i < v3.heap.size
            have m1 := n1.out; have m2 := n2.out; have m3 := n3.out; have m4 := n4.out; omega
          · exact ((HF0.out.trans' G4.out (fun _ _ e => e)).weak (fun _ _ e => e)).trans' x12 (fun i hi e => by have m0 := Hz0.out; have m1 := n1.out; have m2 := n2.out; have m3 := n3.out; have m4 := n4.out; omega)
          · exact fun V hV => ⟨HLdX.out V (((G4.out.weak (fun _ _ e => e.elim)).trans' x12 (fun i _ e => by rcases e with e | e <;> rw [e] <;> assumption)).trans' hV (fun _ _ e => e.elim)), ld_cat (Ctl.arr_eq ya) (((bk_row12 b9 ya.arr).fr x2 (fun e => hne e)).fr hV (fun e => e)), ld_cat (Ctl.arr_eq yb) ((bk_row12 c10 yb.arr).fr hV (fun e => e))⟩)
        have s6 := HLdX.out (v4.setRow w2.drew.heap.size ya.arr) ((G4.out.weak (fun _ _ e => e.elim)).trans' x1 (fun i _ e => by have e : i = w2.drew.heap.size := e; rw [e]; exact hz9))
        have s7 := HLdX.out ((v4.setRow w2.drew.heap.size ya.arr).setRow v1.heap.size yb.arr) ((G4.out.weak (fun _ _ e => e.elim)).trans' x12 (fun i _ e => by rcases e with e | e <;> rw [e] <;> assumption))
        refine any_store12 (i := 6) (by kernel_rfl) rfl rfl (by rfl) (exec_st rfl rfl st6) s6 ?_
        refine any_store12 (i := 7) (by kernel_rfl) rfl rfl (by rfl) (exec_st rfl rfl st7) s7 ?_
        refine wpAnyH_done (by kernel_rfl) ?_ _
        clear b9 b10 hne hz9 hz10 st6 st7 x1 x2 x12 c10 s6 s7
        go_wp2
        go_meet
        exact ⟨_, _, ya, yb, rfl, rfl, HAB⟩
    · refine oneH_val 10 rfl (by rfl) (exec_alloc_cat _ w2.drew) ?_
      simp only [Act.put, List.setIfInBounds_toArray, List.set_cons_zero, List.set_cons_succ]
      obtain ⟨v1, e1⟩ : ∃ v1, Hid (v1 = w2.drew.alloc (.cells (brA (.slice none 0 0) fun _ => 0) 26)) := ⟨_, Lib.hid rfl⟩
      rw [← e1.out]
      have g1 : Hid (Fr No w2.drew v1) := Lib.hid (by rw [e1.out]; exact (Fr.refl _ _).alloc _)
      have q5 : Hid (Bk v1 w2.drew.heap.size 26 (brA (.slice none 0 0) fun _ => 0)) := Lib.hid (by rw [e1.out]; exact Bk.made w2.drew _ _)
      have n1 : Hid (v1.heap.size = w2.drew.heap.size + 1) := Lib.hid (by rw [e1.out]; simp)
      have G1 := Lib.hid (G0.out.trans' g1.out (fun _ _ e => e))
      refine hK.out _ _ (HLdX.out _ (G1.out.weak (fun _ _ e => e.elim))) (fun hHeld => ?_)
      clear hK
      refine wpAnyH_ready (rs := [1, 4]) (by kernel_rfl) (by simp) ?_
      refine AllReadyH.cons rfl (fun K' hK => ?_) (AllReadyH.cons rfl (fun K' hK => ?_) AllReadyH.nil)
      · refine oneH_call 17 (f := 7) (args := #[.agg Z]) rfl (by rfl) (by go_simp) (copR (HO.out v1 (HF0.out.trans' G1.out (fun _ _ e => e)) hok)) ?_
        rintro _ v2 ⟨ya, rfl, hyap, hyac, hyaf⟩
        simp only [Act.put, List.setIfInBounds_toArray, List.set_cons_zero, List.set_cons_succ]
        have g2 : Hid (Fr No v1 v2) := Lib.hid hyaf
        have n2 : Hid (v1.heap.size ≤ v2.heap.size) := Lib.hid hyaf.size
        have Hya := Lib.hid (And.intro hyap hyac)
        clear hyap hyac hyaf
        have G2 := Lib.hid (G1.out.trans' g2.out (fun _ _ e => e))
        refine hK.out _ _ (HLdX.out _ (G2.out.weak (fun _ _ e => e.elim))) (fun hHeld => ?_)
        clear hK
        refine wpAnyH_ready (rs := [3, 4]) (by kernel_rfl) (by simp) ?_
        refine AllReadyH.cons rfl (fun K' hK => ?_) (AllReadyH.cons rfl (fun K' hK => ?_) AllReadyH.nil)
        · refine oneH_call 19 (f := 8) (args := #[.agg Z]) rfl (by rfl) (by go_simp) (copR (HC.out v2 (HF0.out.trans' G2.out (fun _ _ e => e)) hok)) ?_
          rintro _ v3 ⟨yb, rfl, hybp, hybc, hybf⟩
          simp only [Act.put, List.setIfInBounds_toArray, List.set_cons_zero, List.set_cons_succ]
          have g3 : Hid (Fr No v2 v3) := Lib.hid hybf
          have n3 : Hid (v2.heap.size ≤ v3.heap.size) := Lib.hid hybf.size
          have Hyb := Lib.hid (And.intro hybp hybc)
          clear hybp hybc hybf
          have G3 := Lib.hid (G2.out.trans' g3.out (fun _ _ e => e))
          refine hK.out _ _ (HLdX.out _ (G3.out.weak (fun _ _ e => e.elim))) (fun hHeld => ?_)
          clear hK
          refine wpAnyH_ready (rs := [4]) (by kernel_rfl) (by simp) ?_
          refine AllReadyH.cons rfl (fun K' hK => ?_) AllReadyH.nil
          refine oneH_val 9 rfl (by rfl) (exec_alloc_cat _ v3) ?_
          simp only [Act.put, List.setIfInBounds_toArray, List.set_cons_zero, List.set_cons_succ]
          obtain ⟨v4, e4⟩ : ∃ v4, Hid (v4 = v3.alloc (.cells (brA (.slice none 0 0) fun _ => 0) 26)) := ⟨_, Lib.hid rfl⟩
          rw [← e4.out]
          have g4 : Hid (Fr No v3 v4) := Lib.hid (by rw [e4.out]; exact (Fr.refl _ _).alloc _)
          have q4 : Hid (Bk v4 v3.heap.size 26 (brA (.slice none 0 0) fun _ => 0)) := Lib.hid (by rw [e4.out]; exact Bk.made v3 _ _)
          have n4 : Hid (v4.heap.size = v3.heap.size + 1) := Lib.hid (by rw [e4.out]; simp)
          have G4 := Lib.hid (G3.out.trans' g4.out (fun _ _ e => e))
          refine hK.out _ _ (HLdX.out _ (G4.out.weak (fun _ _ e => e.elim))) (fun hHeld => ?_)
          clear hK
          have b9 := q4.out.fr (Fr.refl No _) (fun e => e)
          have b10 := q5.out.fr (((g2.out).trans' g3.out (fun _ _ e => e)).trans' g4.out (fun _ _ e => e)) (fun e => e)
          have hne : ¬ v3.heap.size = w2.drew.heap.size := by have m1 := n1.out; have m2 := n2.out; have m3 := n3.out; have m4 := n4.out; omega
          have hz9 : ¬ v3.heap.size = w.heap.size := by have m0 := Hz0.out; have m1 := n1.out; have m2 := n2.out; have m3 := n3.out; have m4 := n4.out; omega
          have hz10 : ¬ w2.drew.heap.size = w.heap.size := by have m0 := Hz0.out; have m1 := n1.out; have m2 := n2.out; have m3 := n3.out; have m4 := n4.out; omega
          have st6 := st_cat (Z' := ya.arr) rfl (Ctl.arr_eq ya) rfl b9
          have x1 : Fr (Only v3.heap.size) v4 (v4.setRow v3.heap.size ya.arr) := fr_row12 (Fr.refl (Only v3.heap.size) v4) (.inl rfl) _
          have c10 := b10.fr x1 (fun e => hne (show w2.drew.heap.size = v3.heap.size from e).symm)
          have st7 := st_cat (Z' := yb.arr) rfl (Ctl.arr_eq yb) rfl c10
          have x2 : Fr (Only w2.drew.heap.size) (v4.setRow v3.heap.size ya.arr) ((v4.setRow v3.heap.size ya.arr).setRow w2.drew.heap.size yb.arr) := fr_row12 (Fr.refl (Only w2.drew.heap.size) _) (.inl rfl) _
          have x12 : Fr (fun i => i = v3.heap.size ∨ i = w2.drew.heap.size) v4 ((v4.setRow v3.heap.size ya.arr).setRow w2.drew.heap.size yb.arr) := (x1.weak (fun i _ e => .inl e)).trans' x2 (fun i _ e => .inr e)
          have HAB : Hid (AB12 Z w ((v4.setRow v3.heap.size ya.arr).setRow w2.drew.heap.size yb.arr) p v3.heap.size w2.drew.heap.size ya yb) := Lib.hid (by
            refine ⟨Hya.out.1, Hyb.out.1, ?_, ?_, (bk_row12 b9 ya.arr).fr x2 (fun e => hne e), bk_row12 c10 yb.arr, ?_, ?_⟩
            · refine Hya.out.2 _ ((((g3.out).trans' g4.out (fun _ _ e => e)).weak (S' := fun i => i < v1.heap.size) (fun _ _ e => e.elim)).trans' x12 (fun i hi e => ?_))
              show i < v1.heap.size
              have m1 := n1.out; have m2 := n2.out; have m3 := n3.out; have m4 := n4.out; omega
            · refine Hyb.out.2 _ (((g4.out).weak (S' := fun i => i < v2.heap.size) (fun _ _ e => e.elim)).trans' x12 (fun i hi e => ?_))
              show i < v2.heap.size
              have m1 := n1.out; have m2 := n2.out; have m3 := n3.out; have m4 := n4.out; omega
            · exact ((HF0.out.trans' G4.out (fun _ _ e => e)).weak (fun _ _ e => e)).trans' x12 (fun i hi e => by have m0 := Hz0.out; have m1 := n1.out; have m2 := n2.out; have m3 := n3.out; have m4 := n4.out; omega)
            · exact fun V hV => ⟨HLdX.out V (((G4.out.weak (fun _ _ e => e.elim)).trans' x12 (fun i _ e => by rcases e with e | e <;> rw [e] <;> assumption)).trans' hV (fun _ _ e => e.elim)), ld_cat (Ctl.arr_eq ya) (((bk_row12 b9 ya.arr).fr x2 (fun e => hne e)).fr hV (fun e => e)), ld_cat (Ctl.arr_eq yb) ((bk_row12 c10 yb.arr).fr hV (fun e => e))⟩)
          have s6 := HLdX.out (v4.setRow v3.heap.size ya.arr) ((G4.out.weak (fun _ _ e => e.elim)).trans' x1 (fun i _ e => by have e : i = v3.heap.size := e; rw [e]; exact hz9))
          have s7 := HLdX.out ((v4.setRow v3.heap.size ya.arr).setRow w2.drew.heap.size yb.arr) ((G4.out.weak (fun _ _ e => e.elim)).trans' x12 (fun i _ e => by rcases e with e | e <;> rw [e] <;> assumption))
          refine any_store12 (i := 6) (by kernel_rfl) rfl rfl (by rfl) (exec_st rfl rfl st6) s6 ?_
          refine any_store12 (i := 7) (by kernel_rfl) rfl rfl (by rfl) (exec_st rfl rfl st7) s7 ?_
          refine wpAnyH_done (by kernel_rfl) ?_ _
          clear b9 b10 hne hz9 hz10 st6 st7 x1 x2 x12 c10 s6 s7
          go_wp2
          go_meet
          exact ⟨_, _, ya, yb, rfl, rfl, HAB⟩
        · refine oneH_val 9 rfl (by rfl) (exec_alloc_cat _ v2) ?_
          simp only [Act.put, List.setIfInBounds_toArray, List.set_cons_zero, List.set_cons_succ]
          obtain ⟨v3, e3⟩ : ∃ v3, Hid (v3 = v2.alloc (.cells (brA (.slice none 0 0) fun _ => 0) 26)) := ⟨_, Lib.hid rfl⟩
          rw [← e3.out]
          have g3 : Hid (Fr No v2 v3) := Lib.hid (by rw [e3.out]; exact (Fr.refl _ _).alloc _)
          have q4 : Hid (Bk v3 v2.heap.size 26 (brA (.slice none 0 0) fun _ => 0)) := Lib.hid (by rw [e3.out]; exact Bk.made v2 _ _)
          have n3 : Hid (v3.heap.size = v2.heap.size + 1) := Lib.hid (by rw [e3.out]; simp)
          have G3 := Lib.hid (G2.out.trans' g3.out (fun _ _ e => e))
          refine hK.out _ _ (HLdX.out _ (G3.out.weak (fun _ _ e => e.elim))) (fun hHeld => ?_)
          clear hK
          refine wpAnyH_ready (rs := [3]) (by kernel_rfl) (by simp) ?_
          refine AllReadyH.cons rfl (fun K' hK => ?_) AllReadyH.nil
          refine oneH_call 19 (f := 8) (args := #[.agg Z]) rfl (by rfl) (by go_simp) (copR (HC.out v3 (HF0.out.trans' G3.out (fun _ _ e => e)) hok)) ?_
          rintro _ v4 ⟨yb, rfl, hybp, hybc, hybf⟩
          simp only [Act.put, List.setIfInBounds_toArray, List.set_cons_zero, List.set_cons_succ]
          have g4 : Hid (Fr No v3 v4) := Lib.hid hybf
          have n4 : Hid (v3.heap.size ≤ v4.heap.size) := Lib.hid hybf.size
          have Hyb := Lib.hid (And.intro hybp hybc)
          clear hybp hybc hybf
          have G4 := Lib.hid (G3.out.trans' g4.out (fun _ _ e => e))
          refine hK.out _ _ (HLdX.out _ (G4.out.weak (fun _ _ e => e.elim))) (fun hHeld => ?_)
          clear hK
          have b9 := q4.out.fr (g4.out) (fun e => e)
          have b10 := q5.out.fr (((g2.out).trans' g3.out (fun _ _ e => e)).trans' g4.out (fun _ _ e => e)) (fun e => e)
          have hne : ¬ v2.heap.size = w2.drew.heap.size := by have m1 := n1.out; have m2 := n2.out; have m3 := n3.out; have m4 := n4.out; omega
          have hz9 : ¬ v2.heap.size = w.heap.size := by have m0 := Hz0.out; have m1 := n1.out; have m2 := n2.out; have m3 := n3.out; have m4 := n4.out; omega
          have hz10 : ¬ w2.drew.heap.size = w.heap.size := by have m0 := Hz0.out; have m1 := n1.out; have m2 := n2.out; have m3 := n3.out; have m4 := n4.out; omega
          have st6 := st_cat (Z' := ya.arr) rfl (Ctl.arr_eq ya) rfl b9
          have x1 : Fr (Only v2.heap.size) v4 (v4.setRow v2.heap.size ya.arr) := fr_row12 (Fr.refl (Only v2.heap.size) v4) (.inl rfl) _
          have c10 := b10.fr x1 (fun e => hne (show w2.drew.heap.size = v2.heap.size from e).symm)
          have st7 := st_cat (Z' := yb.arr) rfl (Ctl.arr_eq yb) rfl c10
          have x2 : Fr (Only w2.drew.heap.size) (v4.setRow v2.heap.size ya.arr) ((v4.setRow v2.heap.size ya.arr).setRow w2.drew.heap.size yb.arr) := fr_row12 (Fr.refl (Only w2.drew.heap.size) _) (.inl rfl) _
          have x12 : Fr (fun i => i = v2.heap.size ∨ i = w2.drew.heap.size) v4 ((v4.setRow v2.heap.size ya.arr).setRow w2.drew.heap.size yb.arr) := (x1.weak (fun i _ e => .inl e)).trans' x2 (fun i _ e => .inr e)
          have HAB : Hid (AB12 Z w ((v4.setRow v2.heap.size ya.arr).setRow w2.drew.heap.size yb.arr) p v2.heap.size w2.drew.heap.size ya yb) := Lib.hid (by
            refine ⟨Hya.out.1, Hyb.out.1, ?_, ?_, (bk_row12 b9 ya.arr).fr x2 (fun e => hne e), bk_row12 c10 yb.arr, ?_, ?_⟩
            · refine Hya.out.2 _ ((((g3.out).trans' g4.out (fun _ _ e => e)).weak (S' := fun i => i < v1.heap.size) (fun _ _ e => e.elim)).trans' x12 (fun i hi e => ?_))
              show i < v1.heap.size
              have m1 := n1.out; have m2 := n2.out; have m3 := n3.out; have m4 := n4.out; omega
            · refine Hyb.out.2 _ (((Fr.refl No _).weak (S' := fun i => i < v3.heap.size) (fun _ _ e => e.elim)).trans' x12 (fun i hi e => ?_))
              show i < v3.heap.size
              have m1 := n1.out; have m2 := n2.out; have m3 := n3.out; have m4 := n4.out; omega
            · exact ((HF0.out.trans' G4.out (fun _ _ e => e)).weak (fun _ _ e => e)).trans' x12 (fun i hi e => by have m0 := Hz0.out; have m1 := n1.out; have m2 := n2.out; have m3 := n3.out; have m4 := n4.out; omega)
            · exact fun V hV => ⟨HLdX.out V (((G4.out.weak (fun _ _ e => e.elim)).trans' x12 (fun i _ e => by rcases e with e | e <;> rw [e] <;> assumption)).trans' hV (fun _ _ e => e.elim)), ld_cat (Ctl.arr_eq ya) (((bk_row12 b9 ya.arr).fr x2 (fun e => hne e)).fr hV (fun e => e)), ld_cat (Ctl.arr_eq yb) ((bk_row12 c10 yb.arr).fr hV (fun e => e))⟩)
          have s6 := HLdX.out (v4.setRow v2.heap.size ya.arr) ((G4.out.weak (fun _ _ e => e.elim)).trans' x1 (fun i _ e => by have e : i = v2.heap.size := e; rw [e]; exact hz9))
          have s7 := HLdX.out ((v4.setRow v2.heap.size ya.arr).setRow w2.drew.heap.size yb.arr) ((G4.out.weak (fun _ _ e => e.elim)).trans' x12 (fun i _ e => by rcases e with e | e <;> rw [e] <;> assumption))
          refine any_store12 (i := 6) (by kernel_rfl) rfl rfl (by rfl) (exec_st rfl rfl st6) s6 ?_
          refine any_store12 (i := 7) (by kernel_rfl) rfl rfl (by rfl) (exec_st rfl rfl st7) s7 ?_
          refine wpAnyH_done (by kernel_rfl) ?_ _
          clear b9 b10 hne hz9 hz10 st6 st7 x1 x2 x12 c10 s6 s7
          go_wp2
          go_meet
          exact ⟨_, _, ya, yb, rfl, rfl, HAB⟩
      · refine oneH_val 9 rfl (by rfl) (exec_alloc_cat _ v1) ?_
        simp only [Act.put, List.setIfInBounds_toArray, List.set_cons_zero, List.set_cons_succ]
        obtain ⟨v2, e2⟩ : ∃ v2, Hid (v2 = v1.alloc (.cells (brA (.slice none 0 0) fun _ => 0) 26)) := ⟨_, Lib.hid rfl⟩
        rw [← e2.out]
        have g2 : Hid (Fr No v1 v2) := Lib.hid (by rw [e2.out]; exact (Fr.refl _ _).alloc _)
        have q4 : Hid (Bk v2 v1.heap.size 26 (brA (.slice none 0 0) fun _ => 0)) := Lib.hid (by rw [e2.out]; exact Bk.made v1 _ _)
        have n2 : Hid (v2.heap.size = v1.heap.size + 1) := Lib.hid (by rw [e2.out]; simp)
        have G2 := Lib.hid (G1.out.trans' g2.out (fun _ _ e => e))
        refine hK.out _ _ (HLdX.out _ (G2.out.weak (fun _ _ e => e.elim))) (fun hHeld => ?_)
        clear hK
        refine wpAnyH_ready (rs := [1]) (by kernel_rfl) (by simp) ?_
        refine AllReadyH.cons rfl (fun K' hK => ?_) AllReadyH.nil
        refine oneH_call 17 (f := 7) (args := #[.agg Z]) rfl (by rfl) (by go_simp) (copR (HO.out v2 (HF0.out.trans' G2.out (fun _ _ e => e)) hok)) ?_
        rintro _ v3 ⟨ya, rfl, hyap, hyac, hyaf⟩
        simp only [Act.put, List.setIfInBounds_toArray, List.set_cons_zero, List.set_cons_succ]
        have g3 : Hid (Fr No v2 v3) := Lib.hid hyaf
        have n3 : Hid (v2.heap.size ≤ v3.heap.size) := Lib.hid hyaf.size
        have Hya := Lib.hid (And.intro hyap hyac)
        clear hyap hyac hyaf
        have G3 := Lib.hid (G2.out.trans' g3.out (fun _ _ e => e))
        refine hK.out _ _ (HLdX.out _ (G3.out.weak (fun _ _ e => e.elim))) (fun hHeld => ?_)
        clear hK
        refine wpAnyH_ready (rs := [3]) (by kernel_rfl) (by simp) ?_
        refine AllReadyH.cons rfl (fun K' hK => ?_) AllReadyH.nil
        refine oneH_call 19 (f := 8) (args := #[.agg Z]) rfl (by rfl) (by go_simp) (copR (HC.out v3 (HF0.out.trans' G3.out (fun _ _ e => e)) hok)) ?_
        rintro _ v4 ⟨yb, rfl, hybp, hybc, hybf⟩
        simp only [Act.put, List.setIfInBounds_toArray, List.set_cons_zero, List.set_cons_succ]
        have g4 : Hid (Fr No v3 v4) := Lib.hid hybf
        have n4 : Hid (v3.heap.size ≤ v4.heap.size) := Lib.hid hybf.size
        have Hyb := Lib.hid (And.intro hybp hybc)
        clear hybp hybc hybf
        have G4 := Lib.hid (G3.out.trans' g4.out (fun _ _ e => e))
        refine hK.out _ _ (HLdX.out _ (G4.out.weak (fun _ _ e => e.elim))) (fun hHeld => ?_)
        clear hK
        have b9 := q4.out.fr ((g3.out).trans' g4.out (fun _ _ e => e)) (fun e => e)
        have b10 := q5.out.fr (((g2.out).trans' g3.out (fun _ _ e => e)).trans' g4.out (fun _ _ e => e)) (fun e => e)
        have hne : ¬ v1.heap.size = w2.drew.heap.size := by have m1 := n1.out; have m2 := n2.out; have m3 := n3.out; have m4 := n4.out; omega
        have hz9 : ¬ v1.heap.size = w.heap.size := by have m0 := Hz0.out; have m1 := n1.out; have m2 := n2.out; have m3 := n3.out; have m4 := n4.out; omega
        have hz10 : ¬ w2.drew.heap.size = w.heap.size := by have m0 := Hz0.out; have m1 := n1.out; have m2 := n2.out; have m3 := n3.out; have m4 := n4.out; omega
        have st6 := st_cat (Z' := ya.arr) rfl (Ctl.arr_eq ya) rfl b9
        have x1 : Fr (Only v1.heap.size) v4 (v4.setRow v1.heap.size ya.arr) := fr_row12 (Fr.refl (Only v1.heap.size) v4) (.inl rfl) _
        have c10 := b10.fr x1 (fun e => hne (show w2.drew.heap.size = v1.heap.size from e).symm)
        have st7 := st_cat (Z' := yb.arr) rfl (Ctl.arr_eq yb) rfl c10
        have x2 : Fr (Only w2.drew.heap.size) (v4.setRow v1.heap.size ya.arr) ((v4.setRow v1.heap.size ya.arr).setRow w2.drew.heap.size yb.arr) := fr_row12 (Fr.refl (Only w2.drew.heap.size) _) (.inl rfl) _
        have x12 : Fr (fun i => i = v1.heap.size ∨ i = w2.drew.heap.size) v4 ((v4.setRow v1.heap.size ya.arr).setRow w2.drew.heap.size yb.arr) := (x1.weak (fun i _ e => .inl e)).trans' x2 (fun i _ e => .inr e)
        have HAB : Hid (AB12 Z w ((v4.setRow v1.heap.size ya.arr).setRow w2.drew.heap.size yb.arr) p v1.heap.size w2.drew.heap.size ya yb) := Lib.hid (by
          refine ⟨Hya.out.1, Hyb.out.1, ?_, ?_, (bk_row12 b9 ya.arr).fr x2 (fun e => hne e), bk_row12 c10 yb.arr, ?_, ?_⟩
          · refine Hya.out.2 _ (((g4.out).weak (S' := fun i => i < v2.heap.size) (fun _ _ e => e.elim)).trans' x12 (fun i hi e => ?_))
            show i < v2.heap.size
            have m1 := n1.out; have m2 := n2.out; have m3 := n3.out; have m4 := n4.out; omega
          · refine Hyb.out.2 _ (((Fr.refl No _).weak (S' := fun i => i < v3.heap.size) (fun _ _ e => e.elim)).trans' x12 (fun i hi e => ?_))
            show i < v3.heap.size
            have m1 := n1.out; have m2 := n2.out; have m3 := n3.out; have m4 := n4.out; omega
          · exact ((HF0.out.trans' G4.out (fun _ _ e => e)).weak (fun _ _ e => e)).trans' x12 (fun i hi e => by have m0 := Hz0.out; have m1 := n1.out; have m2 := n2.out; have m3 := n3.out; have m4 := n4.out; omega)
          · exact fun V hV => ⟨HLdX.out V (((G4.out.weak (fun _ _ e => e.elim)).trans' x12 (fun i _ e => by rcases e with e | e <;> rw [e] <;> assumption)).trans' hV (fun _ _ e => e.elim)), ld_cat (Ctl.arr_eq ya) (((bk_row12 b9 ya.arr).fr x2 (fun e => hne e)).fr hV (fun e => e)), ld_cat (Ctl.arr_eq yb) ((bk_row12 c10 yb.arr).fr hV (fun e => e))⟩)
        have s6 := HLdX.out (v4.setRow v1.heap.size ya.arr) ((G4.out.weak (fun _ _ e => e.elim)).trans' x1 (fun i _ e => by have e : i = v1.heap.size := e; rw [e]; exact hz9))
        have s7 := HLdX.out ((v4.setRow v1.heap.size ya.arr).setRow w2.drew.heap.size yb.arr) ((G4.out.weak (fun _ _ e => e.elim)).trans' x12 (fun i _ e => by rcases e with e | e <;> rw [e] <;> assumption))
        refine any_store12 (i := 6) (by kernel_rfl) rfl rfl (by rfl) (exec_st rfl rfl st6) s6 ?_
        refine any_store12 (i := 7) (by kernel_rfl) rfl rfl (by rfl) (exec_st rfl rfl st7) s7 ?_
        refine wpAnyH_done (by kernel_rfl) ?_ _
        clear b9 b10 hne hz9 hz10 st6 st7 x1 x2 x12 c10 s6 s7
        go_wp2
        go_meet
        exact ⟨_, _, ya, yb, rfl, rfl, HAB⟩
  case rest =>
    obtain ⟨P9, P10, a, b, rfl, rfl, hAB⟩ := hcut
    have hab := hAB.out
    have Hoka : Hid (a.p.ok = true) := Lib.hid (by rw [hab.ap]; exact opened_ok hok)
    have Hokb : Hid (b.p.ok = true) := Lib.hid (by rw [hab.bp]; exact closed_ok hok)
    have HBra := Lib.hid (fun W (h : Fr No wc W) => break_any a c d i W (hab.ac.since h) (nice_of_ok Hoka.out).few)
    have HBrb := Lib.hid (fun W (h : Fr No wc W) => break_any b c d i W (hab.bc.since h) (nice_of_ok Hokb.out).few)
    have HBsa := Lib.hid (fun W (h : Fr No wc W) => breaks_any a W (hab.ac.since h) (nice_of_ok Hoka.out).few)
    have HBsb := Lib.hid (fun W (h : Fr No wc W) => breaks_any b W (hab.bc.since h) (nice_of_ok Hokb.out).few)
    have HOb := Lib.hid (fun W (h : Fr No wc W) => open_any b W (hab.bc.since h) (nice_of_ok Hokb.out))
    have HCa := Lib.hid (fun W (h : Fr No wc W) => closed_any a W (hab.ac.since h) (nice_of_ok Hoka.out))
    have HSa := Lib.hid (fun (y : Ctl) W (h : Fr No wc W) (hy : Clss W y.cA y.cls) (hp : y.p = p.closed.opened) => refSame12_any y a W hy (hab.ac.since h) (nice_of_ok (by rw [hp]; exact opened_ok (closed_ok hok))).cls (nice_of_ok (by rw [hp]; exact opened_ok (closed_ok hok))).cap)
    have HSb := Lib.hid (fun (y : Ctl) W (h : Fr No wc W) (hy : Clss W y.cA y.cls) (hp : y.p = p.opened.closed) => refSame12_any y b W hy (hab.bc.since h) (nice_of_ok (by rw [hp]; exact closed_ok (opened_ok hok))).cls (nice_of_ok (by rw [hp]; exact closed_ok (opened_ok hok))).cap)
    rw [hab.ap] at HBra HBsa HCa
    rw [hab.bp] at HBrb HBsb HOb
    rw [closed_brk] at HBrb
    rw [closed_brks] at HBsb
    have HFw := Lib.hid hab.fr
    have HLd3 := Lib.hid hab.ld
    have Hap := Lib.hid hab.ap
    have Hbp := Lib.hid hab.bp
    have hle := brks_le hok
    have hmore := fun h => opened_more (c := c) (d := d) (i := i) hok h
    have hfew1 := brks_few (x := p) (by have h := hok; unfold PCt.ok at h; simp only [Bool.and_eq_true, decide_eq_true_eq] at h; exact h.1.2)
    have hfew2 := brks_few (x := p.opened) (by have h := hok; unfold PCt.ok at h; simp only [Bool.and_eq_true, decide_eq_true_eq] at h; exact h.1.2)
    have HBx := Lib.hid (fun W (h : Fr No wc W) => HBr.out W (HFw.out.trans' h (fun _ _ e => e)) hok)
    have HBsx := Lib.hid (fun W (h : Fr No wc W) => HBs.out W (HFw.out.trans' h (fun _ _ e => e)) hok)
    obtain ⟨ea, hea⟩ : ∃ v, v = a.agg := ⟨_, rfl⟩
    obtain ⟨eb, heb⟩ : ∃ v, v = b.agg := ⟨_, rfl⟩
    rw [← hea] at HBra HBsa HCa HSa HLd3
    rw [← heb] at HBrb HBsb HOb HSb HLd3
    have Hs1 : Hid (∀ y : Ctl, y.p = p.closed.opened → y.p.same a.p = true) := Lib.hid (fun y hy => PCt.same_of (by rw [hy, Hap.out]; rfl) (fun j _ => by rw [hy, Hap.out]; rfl))
    have Hs2 : Hid (∀ y : Ctl, y.p = p.opened.closed → y.p.same b.p = true) := Lib.hid (fun y hy => PCt.same_of (by rw [hy, Hbp.out]; rfl) (fun j _ => by rw [hy, Hbp.out]; rfl))
    generalize p.opened.brk c d i = bo at *
    generalize p.brk c d i = bx at *
    generalize p.opened.brks = no at *
    generalize p.brks = nx at *
    have HL0 := Lib.hid (HLd3.out _ (Fr.refl _ _))
    have HB0 := Lib.hid (HBx.out _ (Fr.refl _ _))
    clear hea heb hab hAB HM HO HC HBr HBs F1 F2 HF0 HLdX Hal
    go_upto_region 6 with fail
    go_cut [39] from 20 to 39 (fun s39 wx => s39 = .bool false ∧ Hid (Fr No wc wx))
    case first =>
      cases bx
      · go_wp2_with (first
          | ((with_reducible refine wpl_ld ?_ ?_ HL0.out.1 ?_); (· rfl); (· rfl); simp only [Act.put, List.setIfInBounds_toArray, List.set_cons_zero, List.set_cons_succ]))
        refine (HB0.out).mono ?_
        rintro e w3 ⟨rfl, f3⟩
        have F3 := Lib.hid f3
        have HL3 := Lib.hid (HLd3.out _ f3)
        have HB3 := Lib.hid (HBrb.out _ f3)
        clear f3
        go_wp2_with (first
          | ((with_reducible refine wpl_ldg ?_ ?_ HL3.out.2.2 ?_); (· rfl); (· rfl); simp only [Act.put, List.setIfInBounds_toArray, List.set_cons_zero, List.set_cons_succ]))
        refine (HB3.out).mono ?_
        rintro e w4 ⟨rfl, f4⟩
        have F4 := Lib.hid (F3.out.trans' f4 (fun _ _ e => e))
        clear f4
        go_wp2
        go_meet
        exact ⟨rfl, F4⟩
      · obtain rfl : bo = true := hmore rfl
        go_wp2_with (first
          | ((with_reducible refine wpl_ld ?_ ?_ HL0.out.1 ?_); (· rfl); (· rfl); simp only [Act.put, List.setIfInBounds_toArray, List.set_cons_zero, List.set_cons_succ]))
        refine (HB0.out).mono ?_
        rintro e w3 ⟨rfl, f3⟩
        have F3 := Lib.hid f3
        have HL3 := Lib.hid (HLd3.out _ f3)
        have HB3 := Lib.hid (HBra.out _ f3)
        clear f3
        go_wp2_with (first
          | ((with_reducible refine wpl_ldg ?_ ?_ HL3.out.2.1 ?_); (· rfl); (· rfl); simp only [Act.put, List.setIfInBounds_toArray, List.set_cons_zero, List.set_cons_succ]))
        refine (HB3.out).mono ?_
        rintro e w4 ⟨rfl, f4⟩
        have F4 := Lib.hid (F3.out.trans' f4 (fun _ _ e => e))
        have HL4 := Lib.hid (HLd3.out _ F4.out)
        have HB4 := Lib.hid (HBrb.out _ F4.out)
        clear f4
        go_wp2_with (first
          | ((with_reducible refine wpl_ldg ?_ ?_ HL4.out.2.2 ?_); (· rfl); (· rfl); simp only [Act.put, List.setIfInBounds_toArray, List.set_cons_zero, List.set_cons_succ]))
        refine (HB4.out).mono ?_
        rintro e w5 ⟨rfl, f5⟩
        have F5 := Lib.hid (F4.out.trans' f5 (fun _ _ e => e))
        clear f5
        go_wp2
        go_meet
        exact ⟨rfl, F5⟩
    case rest =>
      obtain ⟨rfl, hfr⟩ := hcut
      have Hfr := Lib.hid hfr.drew
      go_wp2_with fail
      refine wp_region_held_drew (S := fun W => LdO W 26 ⟨w.heap.size, 0, none⟩ (.agg Z) ∧ LdO W 26 ⟨P9, 0, none⟩ ea ∧ LdO W 26 ⟨P10, 0, none⟩ eb) (by kernel_rfl) (HLd3.out _ Hfr.out) (fun hHeld => ?_)
      refine any_take 40 (eb) (i := 0) rfl rfl (by kernel_rfl) (by kernel_rfl) (by kernel_rfl) (fun _ _ _ h => h) (by rfl) (by intro w hSw; exact exec_ld rfl hSw.2.2) (by assumption) ?_
      simp only [Act.put, List.setIfInBounds_toArray, List.set_cons_zero, List.set_cons_succ]
      refine any_take 42 (.agg Z) (i := 2) rfl rfl (by kernel_rfl) (by kernel_rfl) (by kernel_rfl) (fun _ _ _ h => h) (by rfl) (by intro w hSw; exact exec_ld rfl hSw.1) (by assumption) ?_
      simp only [Act.put, List.setIfInBounds_toArray, List.set_cons_zero, List.set_cons_succ]
      refine wpAnyH_ready (rs := [1]) (by kernel_rfl) (by simp) ?_
      refine AllReadyH.cons rfl (fun K' hK => ?_) AllReadyH.nil
      go_simp
      go_at_call 12
      refine (HBsb.out _ Hfr.out).mono ?_
      rintro e' z1 ⟨rfl, zf1⟩
      have G1 := Lib.hid (Hfr.out.trans' zf1 (fun _ _ e => e))
      dsimp only
      refine hK.out _ _ (HLd3.out _ G1.out) (fun hHeld => ?_)
      clear hK
      try simp only [Act.put, List.setIfInBounds_toArray, List.set_cons_zero, List.set_cons_succ]
      refine wpAnyH_ready (rs := [3]) (by kernel_rfl) (by simp) ?_
      refine AllReadyH.cons rfl (fun K' hK => ?_) AllReadyH.nil
      go_simp
      go_at_call 12
      refine (HBsx.out _ G1.out).mono ?_
      rintro e' z2 ⟨rfl, zf2⟩
      have G2 := Lib.hid (G1.out.trans' zf2 (fun _ _ e => e))
      dsimp only
      refine hK.out _ _ (HLd3.out _ G2.out) (fun hHeld => ?_)
      clear hK
      try simp only [Act.put, List.setIfInBounds_toArray, List.set_cons_zero, List.set_cons_succ]
      refine any_take 44 (.bool true) (i := 4) rfl rfl (by kernel_rfl) (by kernel_rfl) (by kernel_rfl) (fun _ _ _ h => h) (by rfl) (by intro w hSw; go_simp) (by assumption) ?_
      simp only [Act.put, List.setIfInBounds_toArray, List.set_cons_zero, List.set_cons_succ]
      refine any_take 45 (.bool true) (i := 5) rfl rfl (by kernel_rfl) (by kernel_rfl) (by kernel_rfl) (fun _ _ _ h => h) (by rfl) (by intro w hSw; (try dsimp only at hSw); go_simp; try with_reducible rfl) (by assumption) ?_
      simp only [Act.put, List.setIfInBounds_toArray, List.set_cons_zero, List.set_cons_succ]
      refine any_take 46 (.agg Z) (i := 6) rfl rfl (by kernel_rfl) (by kernel_rfl) (by kernel_rfl) (fun _ _ _ h => h) (by rfl) (by intro w hSw; exact exec_ld rfl hSw.1) (by assumption) ?_
      simp only [Act.put, List.setIfInBounds_toArray, List.set_cons_zero, List.set_cons_succ]
      refine any_take 48 (ea) (i := 8) rfl rfl (by kernel_rfl) (by kernel_rfl) (by kernel_rfl) (fun _ _ _ h => h) (by rfl) (by intro w hSw; exact exec_ld rfl hSw.2.1) (by assumption) ?_
      simp only [Act.put, List.setIfInBounds_toArray, List.set_cons_zero, List.set_cons_succ]
      refine wpAnyH_ready (rs := [7]) (by kernel_rfl) (by simp) ?_
      refine AllReadyH.cons rfl (fun K' hK => ?_) AllReadyH.nil
      go_simp
      go_at_call 12
      refine (HBsx.out _ G2.out).mono ?_
      rintro e' z3 ⟨rfl, zf3⟩
      have G3 := Lib.hid (G2.out.trans' zf3 (fun _ _ e => e))
      dsimp only
      refine hK.out _ _ (HLd3.out _ G3.out) (fun hHeld => ?_)
      clear hK
      try simp only [Act.put, List.setIfInBounds_toArray, List.set_cons_zero, List.set_cons_succ]
      refine wpAnyH_ready (rs := [9]) (by kernel_rfl) (by simp) ?_
      refine AllReadyH.cons rfl (fun K' hK => ?_) AllReadyH.nil
      go_simp
      go_at_call 12
      refine (HBsa.out _ G3.out).mono ?_
      rintro e' z4 ⟨rfl, zf4⟩
      have G4 := Lib.hid (G3.out.trans' zf4 (fun _ _ e => e))
      dsimp only
      refine hK.out _ _ (HLd3.out _ G4.out) (fun hHeld => ?_)
      clear hK
      try simp only [Act.put, List.setIfInBounds_toArray, List.set_cons_zero, List.set_cons_succ]
      refine any_take 50 (.bool true) (i := 10) rfl rfl (by kernel_rfl) (by kernel_rfl) (by kernel_rfl) (fun _ _ _ h => h) (by rfl) (by intro w hSw; go_simp) (by assumption) ?_
      simp only [Act.put, List.setIfInBounds_toArray, List.set_cons_zero, List.set_cons_succ]
      refine any_take 51 (.bool true) (i := 11) rfl rfl (by kernel_rfl) (by kernel_rfl) (by kernel_rfl) (fun _ _ _ h => h) (by rfl) (by intro w hSw; (try dsimp only at hSw); go_simp; try with_reducible rfl) (by assumption) ?_
      simp only [Act.put, List.setIfInBounds_toArray, List.set_cons_zero, List.set_cons_succ]
      refine any_take 52 (.bool true) (i := 12) rfl rfl (by kernel_rfl) (by kernel_rfl) (by kernel_rfl) (fun _ _ _ h => h) (by rfl) (by intro w hSw; (try dsimp only at hSw); go_simp; try with_reducible rfl) (by assumption) ?_
      simp only [Act.put, List.setIfInBounds_toArray, List.set_cons_zero, List.set_cons_succ]
      refine any_take 53 (eb) (i := 13) rfl rfl (by kernel_rfl) (by kernel_rfl) (by kernel_rfl) (fun _ _ _ h => h) (by rfl) (by intro w hSw; exact exec_ld rfl hSw.2.2) (by assumption) ?_
      simp only [Act.put, List.setIfInBounds_toArray, List.set_cons_zero, List.set_cons_succ]
      refine any_take 55 (ea) (i := 15) rfl rfl (by kernel_rfl) (by kernel_rfl) (by kernel_rfl) (fun _ _ _ h => h) (by rfl) (by intro w hSw; exact exec_ld rfl hSw.2.1) (by assumption) ?_
      simp only [Act.put, List.setIfInBounds_toArray, List.set_cons_zero, List.set_cons_succ]
      refine wpAnyH_ready (rs := [14]) (by kernel_rfl) (by simp) ?_
      refine AllReadyH.cons rfl (fun K' hK => ?_) AllReadyH.nil
      go_simp
      go_at_call 7
      refine (HOb.out _ G4.out).mono ?_
      rintro e' z5 ⟨y1, rfl, hy1, hyc1, zf5⟩
      have G5 := Lib.hid (G4.out.trans' zf5 (fun _ _ e => e))
      have Hy1 := Lib.hid hy1
      have Hc1 := Lib.hid (hyc1 z5 (Fr.refl _ _))
      clear hyc1 hy1
      dsimp only
      refine hK.out _ _ (HLd3.out _ G5.out) (fun hHeld => ?_)
      clear hK
      try simp only [Act.put, List.setIfInBounds_toArray, List.set_cons_zero, List.set_cons_succ]
      refine wpAnyH_ready (rs := [16]) (by kernel_rfl) (by simp) ?_
      refine AllReadyH.cons rfl (fun K' hK => ?_) AllReadyH.nil
      go_simp
      go_at_call 13
      refine (HSa.out y1 _ G5.out Hc1.out Hy1.out).mono ?_
      rintro e' z6 ⟨rfl, zf6⟩
      have G6 := Lib.hid (G5.out.trans' zf6 (fun _ _ e => e))
      rw [Hs1.out y1 Hy1.out]
      dsimp only
      refine hK.out _ _ (HLd3.out _ G6.out) (fun hHeld => ?_)
      clear hK
      try simp only [Act.put, List.setIfInBounds_toArray, List.set_cons_zero, List.set_cons_succ]
      refine any_take 57 (.bool true) (i := 17) rfl rfl (by kernel_rfl) (by kernel_rfl) (by kernel_rfl) (fun _ _ _ h => h) (by rfl) (by intro w hSw; (try dsimp only at hSw); go_simp; try with_reducible rfl) (by assumption) ?_
      simp only [Act.put, List.setIfInBounds_toArray, List.set_cons_zero, List.set_cons_succ]
      refine any_take 58 (.bool true) (i := 18) rfl rfl (by kernel_rfl) (by kernel_rfl) (by kernel_rfl) (fun _ _ _ h => h) (by rfl) (by intro w hSw; (try dsimp only at hSw); go_simp; try with_reducible rfl) (by assumption) ?_
      simp only [Act.put, List.setIfInBounds_toArray, List.set_cons_zero, List.set_cons_succ]
      refine any_take 59 (ea) (i := 19) rfl rfl (by kernel_rfl) (by kernel_rfl) (by kernel_rfl) (fun _ _ _ h => h) (by rfl) (by intro w hSw; exact exec_ld rfl hSw.2.1) (by assumption) ?_
      simp only [Act.put, List.setIfInBounds_toArray, List.set_cons_zero, List.set_cons_succ]
      refine any_take 61 (eb) (i := 21) rfl rfl (by kernel_rfl) (by kernel_rfl) (by kernel_rfl) (fun _ _ _ h => h) (by rfl) (by intro w hSw; exact exec_ld rfl hSw.2.2) (by assumption) ?_
      simp only [Act.put, List.setIfInBounds_toArray, List.set_cons_zero, List.set_cons_succ]
      refine wpAnyH_ready (rs := [20]) (by kernel_rfl) (by simp) ?_
      refine AllReadyH.cons rfl (fun K' hK => ?_) AllReadyH.nil
      go_simp
      go_at_call 8
      refine (HCa.out _ G6.out).mono ?_
      rintro e' z7 ⟨y2, rfl, hy2, hyc2, zf7⟩
      have G7 := Lib.hid (G6.out.trans' zf7 (fun _ _ e => e))
      have Hy2 := Lib.hid hy2
      have Hc2 := Lib.hid (hyc2 z7 (Fr.refl _ _))
      clear hyc2 hy2
      dsimp only
      refine hK.out _ _ (HLd3.out _ G7.out) (fun hHeld => ?_)
      clear hK
      try simp only [Act.put, List.setIfInBounds_toArray, List.set_cons_zero, List.set_cons_succ]
      refine wpAnyH_ready (rs := [22]) (by kernel_rfl) (by simp) ?_
      refine AllReadyH.cons rfl (fun K' hK => ?_) AllReadyH.nil
      go_simp
      go_at_call 13
      refine (HSb.out y2 _ G7.out Hc2.out Hy2.out).mono ?_
      rintro e' z8 ⟨rfl, zf8⟩
      have G8 := Lib.hid (G7.out.trans' zf8 (fun _ _ e => e))
      rw [Hs2.out y2 Hy2.out]
      dsimp only
      refine hK.out _ _ (HLd3.out _ G8.out) (fun hHeld => ?_)
      clear hK
      try simp only [Act.put, List.setIfInBounds_toArray, List.set_cons_zero, List.set_cons_succ]
      refine any_take 63 (.bool true) (i := 23) rfl rfl (by kernel_rfl) (by kernel_rfl) (by kernel_rfl) (fun _ _ _ h => h) (by rfl) (by intro w hSw; (try dsimp only at hSw); go_simp; try with_reducible rfl) (by assumption) ?_
      simp only [Act.put, List.setIfInBounds_toArray, List.set_cons_zero, List.set_cons_succ]
      refine any_take 8 (.bool true) (i := 24) rfl rfl (by kernel_rfl) (by kernel_rfl) (by kernel_rfl) (fun _ _ _ h => h) (by rfl) (by intro w hSw; (try dsimp only at hSw); go_simp; try with_reducible rfl) (by assumption) ?_
      simp only [Act.put, List.setIfInBounds_toArray, List.set_cons_zero, List.set_cons_succ]
      refine wpAnyH_done (by kernel_rfl) ?_ _
      clear hHeld
      go_wp2
      go_ret
      exact ⟨rfl, HFw.out.trans' G8.out (fun _ _ e => e)⟩
end Go.Proofs.Ytbemfomiiikpoaa
