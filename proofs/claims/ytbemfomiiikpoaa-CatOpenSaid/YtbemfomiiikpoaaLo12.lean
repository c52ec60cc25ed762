/- The law: an open catalogue has all breakpoints that there may be, a closed one none; both may be, if it may. -/
import Derived.Test.YtbemfomiiikpoaaLf12
import Derived.Test.YtbemfomiiikpoaaCat12
namespace Go.Proofs.Ytbemfomiiikpoaa
open Go.RowKit

/-- How many there are up to a place. -/
def upTo (p : PCt) (n c d i : Nat) : Nat := sumB (fun c => sumB (fun d => cntB (fun i => p.brk c d i) 4) n) c + sumB (fun d => cntB (fun i => p.brk c d i) 4) d + cntB (fun i => p.brk c d i) i
theorem upTo_bit {p : PCt} {n c d i : Nat} : upTo p n c d (i + 1) = upTo p n c d i + (if p.brk c d i = true then 1 else 0) := by
  unfold upTo
  rw [cntB]
  omega
theorem upTo_col {p : PCt} {n c d : Nat} : upTo p n c (d + 1) 0 = upTo p n c d 4 := by
  unfold upTo
  rw [sumB]
  show _ + _ + 0 = _
  omega
theorem upTo_row {p : PCt} {n c : Nat} : upTo p n (c + 1) 0 0 = upTo p n c n 0 := by
  show (sumB _ c + sumB _ n) + 0 + 0 = sumB _ c + sumB _ n + 0
  omega
theorem upTo_all {p : PCt} : upTo p p.cs.length p.cs.length 0 0 = p.brks := rfl
theorem upTo_le (p : PCt) (n c d i : Nat) : upTo p n c d i ≤ c * (n * 4) + d * 4 + i := by
  unfold upTo
  have h1 := sumB_le (f := fun c => sumB (fun d => cntB (fun i => p.brk c d i) 4) n) (m := n * 4) c (fun c _ => sumB_le _ (fun d _ => cntB_le _ 4))
  have h2 := sumB_le (f := fun d => cntB (fun i => p.brk c d i) 4) (m := 4) d (fun d _ => cntB_le _ 4)
  have h3 := cntB_le (fun i => p.brk c d i) i
  omega
theorem upTo_small (p : PCt) {n c d i : Nat} (hn : n ≤ 4) (hc : c ≤ 4) (hd : d ≤ 4) (hi : i ≤ 4) : upTo p n c d i ≤ 100 := by
  have h1 := upTo_le p n c d i
  have h2 : c * (n * 4) ≤ 4 * (4 * 4) := Nat.mul_le_mul hc (Nat.mul_le_mul_right 4 hn)
  omega
theorem refBrk_eq {p : PCt} {c d i : Nat} (hc : c < p.cs.length) (hd : d < p.cs.length) (hn : p.cs.length ≤ 4) : (decide (i + 1 < (p.at c).steps.length) && bitB (p.b (c * 4 + d)) i) = p.brk c d i := by
  unfold PCt.brk
  rw [decide_eq_true (show 0 ≤ (c : Int) ∧ (c : Int) < (p.cs.length : Int) ∧ (c : Int) < 4 by omega), decide_eq_true (show 0 ≤ (d : Int) ∧ (d : Int) < (p.cs.length : Int) ∧ (d : Int) < 4 by omega)]
  simp only [Int.toNat_natCast, Bool.true_and]
  congr 1
  exact decide_eq_decide.2 (by omega)
theorem openBrk_eq {p : PCt} (hok : p.ok = true) {c d i : Nat} (hc : c < p.cs.length) (hd : d < p.cs.length) (hn : p.cs.length ≤ 4) : p.opened.brk c d i = decide (i + 1 < (p.at c).steps.length) := by
  rw [opened_brk hok, decide_eq_true (show 0 ≤ (c : Int) ∧ (c : Int) < (p.cs.length : Int) ∧ (c : Int) < 4 by omega), decide_eq_true (show 0 ≤ (d : Int) ∧ (d : Int) < (p.cs.length : Int) ∧ (d : Int) < 4 by omega)]
  simp only [Int.toNat_natCast, Bool.true_and]
  exact decide_eq_decide.2 (by omega)

set_option maxRecDepth 100000 in
set_option maxHeartbeats 8000000 in
theorem catOpen_any (x : Ctl) (w : World) (hx : Clss w x.cA x.cls) : Calls Try.prog 3 #[x.agg] w (Has w true) := by
  have Hal := Lib.hid (fun (W : World) => alive12 W)
  have HM := Lib.hid (fun W (h : Fr No w W) => refMay12_any x W (hx.since h))
  have HX := Lib.hid (fun W (h : Fr No w W) => hx.since h)
  have HO := Lib.hid (fun W (h : Fr No w W) (hok : x.p.ok = true) => open_any x W (hx.since h) (nice_of_ok hok))
  have HC := Lib.hid (fun W (h : Fr No w W) (hok : x.p.ok = true) => closed_any x W (hx.since h) (nice_of_ok hok))
  have e1 : x.p.cs.length = x.cls.length := by simp [Ctl.p]
  have HBr := Lib.hid (fun W (h : Fr No w W) (hok : x.p.ok = true) (c d i : Nat) (hc : c < x.cls.length) (hd : d < x.cls.length) (hi : i ≤ 1000) => refBreak_any x c d i W (hx.since h) (nice_of_ok hok).few.n hc hd hi (by
    have := (nice_of_ok hok).few.small (j := c * 4 + d) (by have := (nice_of_ok hok).few.n; omega)
    omega))
  have HBs := Lib.hid (fun W (h : Fr No w W) (hok : x.p.ok = true) => breaks_any x W (hx.since h) (nice_of_ok hok).few)
  have Hst := Lib.hid (fun (c : Nat) (hc : c < x.cls.length) => show (x.p.at c).steps.length = x.cls[c].steps.length by rw [pct_at x hc]; simp [Cls.p])
  have Hn4 := Lib.hid (fun (hok : x.p.ok = true) => (nice_of_ok hok).few.n)
  have HBrE := Lib.hid (fun (hok : x.p.ok = true) (c d i : Nat) (hc : c < x.cls.length) (hd : d < x.cls.length) => refBrk_eq (p := x.p) (c := c) (d := d) (i := i) (by omega) (by omega) (by have := (nice_of_ok hok).few.n; omega))
  have HOpE := Lib.hid (fun (hok : x.p.ok = true) (c d i : Nat) (hc : c < x.cls.length) (hd : d < x.cls.length) => openBrk_eq hok (c := c) (d := d) (i := i) (by omega) (by omega) (by have := (nice_of_ok hok).few.n; omega))
  have Hxb : Hid (x.b = x.p.b) := Lib.hid rfl
  rw [Hxb.out] at HBr
  unfold Ctl.agg at HM HO HC HBr HBs ⊢
  obtain ⟨Z, hZ⟩ : ∃ Z, Z = x.arr := ⟨_, rfl⟩
  rw [← hZ] at HM HO HC HBr HBs ⊢
  rw [Ctl.arr_eq] at hZ
  have bZ := Bk.made w 26 Z
  have f0 : Fr No w (w.alloc (.cells Z 26)) := (Fr.refl _ _).alloc _
  have HLdX : Hid (∀ V, Fr (fun i => ¬ i = w.heap.size) (w.alloc (.cells Z 26)) V → LdO V 26 ⟨w.heap.size, 0, none⟩ (.agg Z)) := Lib.hid (fun V hV => ld_cat hZ (bZ.fr hV (fun e => e rfl)))
  have HCx : Hid (∀ V, Fr (fun i => ¬ i = w.heap.size) (w.alloc (.cells Z 26)) V → V.cell? ⟨w.heap.size, 0, none⟩ = some (.slice x.cA x.cls.length x.cc)) := Lib.hid (fun V hV => by rw [(bZ.fr hV (fun e => e rfl)).cell, hZ]; rfl)
  have HF0 := Lib.hid f0
  have E1 := Lib.hid e1
  generalize x.p = p at *
  obtain ⟨cA, cls, cc, b⟩ := x
  simp only at *
  clear hx hZ bZ f0 e1 Hxb
  obtain ⟨n, hn⟩ : ∃ n, n = cls.length := ⟨_, rfl⟩
  have Hn := Lib.hid hn
  rw [← hn] at HCx E1 HBr Hn4
  clear hn
  go_enter Try.func3, Try.ntmps3
  go_wp2_with fail
  refine (Hal.out _).mono ?_
  rintro e w1 ⟨rfl, f1⟩
  have HL1 := Lib.hid (HLdX.out _ (f1.weak (fun _ _ e => e.elim)))
  have F1 := Lib.hid f1
  have HM1 := Lib.hid (HM.out _ (HF0.out.trans' f1 (fun _ _ e => e)))
  clear f1
  go_wp2_with (first
    | ((with_reducible refine wpl_ld ?_ ?_ HL1.out ?_); (· rfl); (· rfl); simp only [Act.put, List.setIfInBounds_toArray, List.set_cons_zero, List.set_cons_succ]))
  refine (HM1.out).mono ?_
  rintro e w2 ⟨rfl, f2⟩
  have F2 := Lib.hid (F1.out.trans' f2 (fun _ _ e => e))
  obtain ⟨ok, hok⟩ : ∃ b, p.ok = b := ⟨_, rfl⟩
  rw [hok]
  clear f2 HM1 HL1
  cases ok
  · go_wp2
    go_ret
    exact ⟨rfl, HF0.out.trans' F2.out (fun _ _ e => e)⟩
  go_wp2_with fail
  go_cut [3, 4] from 17 to 20 (fun s3 s4 wx => ∃ (P9 P10 : Nat) (a b : Ctl), s3 = .pointer (some ⟨P9, 0, none⟩) ∧ s4 = .pointer (some ⟨P10, 0, none⟩) ∧ Hid (AB12 Z w wx p P9 P10 a b) ∧ Hid (wx.cell? ⟨w.heap.size, 0, none⟩ = some (.slice cA n cc)))
  case first =>
    have G0 : Hid (Fr No (w.alloc (.cells Z 26)) w2.drew) := Lib.hid F2.out.drew
    have Hz0 : Hid (w.heap.size < w2.drew.heap.size) := Lib.hid (by have h := G0.out.size; rw [World.size_alloc] at h; omega)
    refine wp_region_held_drew (S := fun W => LdO W 26 ⟨w.heap.size, 0, none⟩ (.agg Z)) (by kernel_rfl) (HLdX.out _ (G0.out.weak (fun _ _ e => e.elim))) (fun hHeld => ?_)
    refine any_take 17 (.agg Z) (i := 0) rfl rfl (by kernel_rfl) (by kernel_rfl) (by kernel_rfl) (fun _ _ _ h => h) (by rfl) (by intro w hSw; exact exec_ld rfl hSw) (by assumption) ?_
    simp only [Act.put, List.setIfInBounds_toArray, List.set_cons_zero, List.set_cons_succ]
    refine any_take 19 (.agg Z) (i := 2) rfl rfl (by kernel_rfl) (by kernel_rfl) (by kernel_rfl) (fun _ _ _ h => h) (by rfl) (by intro w hSw; exact exec_ld rfl hSw) (by assumption) ?_
    simp only [Act.put, List.setIfInBounds_toArray, List.set_cons_zero, List.set_cons_succ]
    refine wpAnyH_ready (rs := [1, 4, 5]) (by kernel_rfl) (by simp) ?_
    refine AllReadyH.cons rfl (fun K' hK => ?_) (AllReadyH.cons rfl (fun K' hK => ?_) (AllReadyH.cons rfl (fun K' hK => ?_) AllReadyH.nil))
    · refine oneH_call 18 (f := 7) (args := #[.agg Z]) rfl (by rfl) (by go_simp) (copR (HO.out w2.drew (HF0.out.trans' G0.out (fun _ _ e => e)) hok)) ?_
      rintro _ v1 ⟨ya, rfl, hyap, hyac, hyaf⟩
      simp only [Act.put, List.setIfInBounds_toArray, List.set_cons_zero, List.set_cons_succ]
      have g1 : Hid (Fr No w2.drew v1) := Lib.hid hyaf
      have n1 : Hid (w2.drew.heap.size ≤ v1.heap.size) := Lib.hid hyaf.size
      have Hya := Lib.hid (And.intro hyap hyac)
      clear hyap hyac hyaf
      have G1 := Lib.hid (G0.out.trans' g1.out (fun _ _ e => e))
      refine hK.out _ _ (HLdX.out _ (G1.out.weak (fun _ _ e => e.elim))) (fun hHeld => ?_)
      clear hK
      refine wpAnyH_ready (rs := [3, 4, 5]) (by kernel_rfl) (by simp) ?_
      refine AllReadyH.cons rfl (fun K' hK => ?_) (AllReadyH.cons rfl (fun K' hK => ?_) (AllReadyH.cons rfl (fun K' hK => ?_) AllReadyH.nil))
      · refine oneH_call 20 (f := 8) (args := #[.agg Z]) rfl (by rfl) (by go_simp) (copR (HC.out v1 (HF0.out.trans' G1.out (fun _ _ e => e)) hok)) ?_
        rintro _ v2 ⟨yb, rfl, hybp, hybc, hybf⟩
        simp only [Act.put, List.setIfInBounds_toArray, List.set_cons_zero, List.set_cons_succ]
        have g2 : Hid (Fr No v1 v2) := Lib.hid hybf
        have n2 : Hid (v1.heap.size ≤ v2.heap.size) := Lib.hid hybf.size
        have Hyb := Lib.hid (And.intro hybp hybc)
        clear hybp hybc hybf
        have G2 := Lib.hid (G1.out.trans' g2.out (fun _ _ e => e))
        refine hK.out _ _ (HLdX.out _ (G2.out.weak (fun _ _ e => e.elim))) (fun hHeld => ?_)
        clear hK
        refine wpAnyH_ready (rs := [4, 5]) (by kernel_rfl) (by simp) ?_
        refine AllReadyH.cons rfl (fun K' hK => ?_) (AllReadyH.cons rfl (fun K' hK => ?_) AllReadyH.nil)
        · refine oneH_val 3 rfl (by rfl) (exec_alloc_cat _ v2) ?_
          simp only [Act.put, List.setIfInBounds_toArray, List.set_cons_zero, List.set_cons_succ]
          obtain ⟨v3, e3⟩ : ∃ v3, Hid (v3 = v2.alloc (.cells (brA (.slice none 0 0) fun _ => 0) 26)) := ⟨_, Lib.hid rfl⟩
          rw [← e3.out]
          have g3 : Hid (Fr No v2 v3) := Lib.hid (by rw [e3.out]; exact (Fr.refl _ _).alloc _)
          have q4 : Hid (Bk v3 v2.heap.size 26 (brA (.slice none 0 0) fun _ => 0)) := Lib.hid (by rw [e3.out]; exact Bk.made v2 _ _)
          have n3 : Hid (v3.heap.size = v2.heap.size + 1) := Lib.hid (by rw [e3.out]; simp)
          have G3 := Lib.hid (G2.out.trans' g3.out (fun _ _ e => e))
          refine hK.out _ _ (HLdX.out _ (G3.out.weak (fun _ _ e => e.elim))) (fun hHeld => ?_)
          clear hK
          refine wpAnyH_ready (rs := [5]) (by kernel_rfl) (by simp) ?_
          refine AllReadyH.cons rfl (fun K' hK => ?_) AllReadyH.nil
          refine oneH_val 4 rfl (by rfl) (exec_alloc_cat _ v3) ?_
          simp only [Act.put, List.setIfInBounds_toArray, List.set_cons_zero, List.set_cons_succ]
          obtain ⟨v4, e4⟩ : ∃ v4, Hid (v4 = v3.alloc (.cells (brA (.slice none 0 0) fun _ => 0) 26)) := ⟨_, Lib.hid rfl⟩
          rw [← e4.out]
          have g4 : Hid (Fr No v3 v4) := Lib.hid (by rw [e4.out]; exact (Fr.refl _ _).alloc _)
          have q5 : Hid (Bk v4 v3.heap.size 26 (brA (.slice none 0 0) fun _ => 0)) := Lib.hid (by rw [e4.out]; exact Bk.made v3 _ _)
          have n4 : Hid (v4.heap.size = v3.heap.size + 1) := Lib.hid (by rw [e4.out]; simp)
          have G4 := Lib.hid (G3.out.trans' g4.out (fun _ _ e => e))
          refine hK.out _ _ (HLdX.out _ (G4.out.weak (fun _ _ e => e.elim))) (fun hHeld => ?_)
          clear hK
          have b9 := q4.out.fr (g4.out) (fun e => e)
          have b10 := q5.out.fr (Fr.refl No _) (fun e => e)
          have hne : ¬ v2.heap.size = v3.heap.size := by have m1 := n1.out; have m2 := n2.out; have m3 := n3.out; have m4 := n4.out; omega
          have hz9 : ¬ v2.heap.size = w.heap.size := by have m0 := Hz0.out; have m1 := n1.out; have m2 := n2.out; have m3 := n3.out; have m4 := n4.out; omega
          have hz10 : ¬ v3.heap.size = w.heap.size := by have m0 := Hz0.out; have m1 := n1.out; have m2 := n2.out; have m3 := n3.out; have m4 := n4.out; omega
          have st6 := st_cat (Z' := ya.arr) rfl (Ctl.arr_eq ya) rfl b9
          have x1 : Fr (Only v2.heap.size) v4 (v4.setRow v2.heap.size ya.arr) := fr_row12 (Fr.refl (Only v2.heap.size) v4) (.inl rfl) _
          have c10 := b10.fr x1 (fun e => hne (show v3.heap.size = v2.heap.size from e).symm)
          have st7 := st_cat (Z' := yb.arr) rfl (Ctl.arr_eq yb) rfl c10
          have x2 : Fr (Only v3.heap.size) (v4.setRow v2.heap.size ya.arr) ((v4.setRow v2.heap.size ya.arr).setRow v3.heap.size yb.arr) := fr_row12 (Fr.refl (Only v3.heap.size) _) (.inl rfl) _
          have x12 : Fr (fun i => i = v2.heap.size ∨ i = v3.heap.size) v4 ((v4.setRow v2.heap.size ya.arr).setRow v3.heap.size yb.arr) := (x1.weak (fun i _ e => .inl e)).trans' x2 (fun i _ e => .inr e)
          have HAB : Hid (AB12 Z w ((v4.setRow v2.heap.size ya.arr).setRow v3.heap.size yb.arr) p v2.heap.size v3.heap.size ya yb) := Lib.hid (by
            refine ⟨Hya.out.1, Hyb.out.1, ?_, ?_, (bk_row12 b9 ya.arr).fr x2 (fun e => hne e), bk_row12 c10 yb.arr, ?_, ?_⟩
            · refine Hya.out.2 _ (((((g2.out).trans' g3.out (fun _ _ e => e)).trans' g4.out (fun _ _ e => e)).weak (S' := fun i => i < w2.drew.heap.size) (fun _ _ e => e.elim)).trans' x12 (fun i hi e => ?_))
              show i < w2.drew.heap.size
              have m1 := n1.out; have m2 := n2.out; have m3 := n3.out; have m4 := n4.out; omega
            · refine Hyb.out.2 _ ((((g3.out).trans' g4.out (fun _ _ e => e)).weak (S' := fun i => i < v1.heap.size) (fun _ _ e => e.elim)).trans' x12 (fun i hi e => ?_))
              show i < v1.heap.size
              have m1 := n1.out; have m2 := n2.out; have m3 := n3.out; have m4 := n4.out; omega
            · exact ((HF0.out.trans' G4.out (fun _ _ e => e)).weak (fun _ _ e => e)).trans' x12 (fun i hi e => by have m0 := Hz0.out; have m1 := n1.out; have m2 := n2.out; have m3 := n3.out; have m4 := n4.out; omega)
            · exact fun V hV => ⟨HLdX.out V (((G4.out.weak (fun _ _ e => e.elim)).trans' x12 (fun i _ e => by rcases e with e | e <;> rw [e] <;> assumption)).trans' hV (fun _ _ e => e.elim)), ld_cat (Ctl.arr_eq ya) (((bk_row12 b9 ya.arr).fr x2 (fun e => hne e)).fr hV (fun e => e)), ld_cat (Ctl.arr_eq yb) ((bk_row12 c10 yb.arr).fr hV (fun e => e))⟩)
          have s6 := HLdX.out (v4.setRow v2.heap.size ya.arr) ((G4.out.weak (fun _ _ e => e.elim)).trans' x1 (fun i _ e => by have e : i = v2.heap.size := e; rw [e]; exact hz9))
          have s7 := HLdX.out ((v4.setRow v2.heap.size ya.arr).setRow v3.heap.size yb.arr) ((G4.out.weak (fun _ _ e => e.elim)).trans' x12 (fun i _ e => by rcases e with e | e <;> rw [e] <;> assumption))
          have s8 := Lib.hid (HCx.out ((v4.setRow v2.heap.size ya.arr).setRow v3.heap.size yb.arr) ((G4.out.weak (fun _ _ e => e.elim)).trans' x12 (fun i _ e => by rcases e with e | e <;> rw [e] <;> assumption)))
          refine any_store12 (i := 6) (by kernel_rfl) rfl rfl (by rfl) (exec_st rfl rfl st6) s6 ?_
          refine any_store12 (i := 7) (by kernel_rfl) rfl rfl (by rfl) (exec_st rfl rfl st7) s7 ?_
          refine wpAnyH_done (by kernel_rfl) ?_ _
          clear b9 b10 hne hz9 hz10 st6 st7 x1 x2 x12 c10 s6 s7
          go_wp2
          go_meet
          exact ⟨_, _, ya, yb, rfl, rfl, HAB, s8⟩
        · refine oneH_val 4 rfl (by rfl) (exec_alloc_cat _ v2) ?_
          simp only [Act.put, List.setIfInBounds_toArray, List.set_cons_zero, List.set_cons_succ]
          obtain ⟨v3, e3⟩ : ∃ v3, Hid (v3 = v2.alloc (.cells (brA (.slice none 0 0) fun _ => 0) 26)) := ⟨_, Lib.hid rfl⟩
          rw [← e3.out]
          have g3 : Hid (Fr No v2 v3) := Lib.hid (by rw [e3.out]; exact (Fr.refl _ _).alloc _)
          have q5 : Hid (Bk v3 v2.heap.size 26 (brA (.slice none 0 0) fun _ => 0)) := Lib.hid (by rw [e3.out]; exact Bk.made v2 _ _)
          have n3 : Hid (v3.heap.size = v2.heap.size + 1) := Lib.hid (by rw [e3.out]; simp)
          have G3 := Lib.hid (G2.out.trans' g3.out (fun _ _ e => e))
          refine hK.out _ _ (HLdX.out _ (G3.out.weak (fun _ _ e => e.elim))) (fun hHeld => ?_)
          clear hK
          refine wpAnyH_ready (rs := [4]) (by kernel_rfl) (by simp) ?_
          refine AllReadyH.cons rfl (fun K' hK => ?_) AllReadyH.nil
          refine oneH_val 3 rfl (by rfl) (exec_alloc_cat _ v3) ?_
          simp only [Act.put, List.setIfInBounds_toArray, List.set_cons_zero, List.set_cons_succ]
          obtain ⟨v4, e4⟩ : ∃ v4, Hid (v4 = v3.alloc (.cells (brA (.slice none 0 0) fun _ => 0) 26)) := ⟨_, Lib.hid rfl⟩
          rw [← e4.out]
          have g4 : Hid (Fr No v3 v4) := Lib.hid (by rw [e4.out]; exact (Fr.refl _ _).alloc _)
          have q4 : Hid (Bk v4 v3.heap.size 26 (brA (.slice none 0 0) fun _ => 0)) := Lib.hid (by rw [e4.out]; exact Bk.made v3 _ _)
          have n4 : Hid (v4.heap.size = v3.heap.size + 1) := Lib.hid (by rw [e4.out]; simp)
          have G4 := Lib.hid (G3.out.trans' g4.out (fun _ _ e => e))
          refine hK.out _ _ (HLdX.out _ (G4.out.weak (fun _ _ e => e.elim))) (fun hHeld => ?_)
          clear hK
          have b9 := q4.out.fr (Fr.refl No _) (fun e => e)
          have b10 := q5.out.fr (g4.out) (fun e => e)
          have hne : ¬ v3.heap.size = v2.heap.size := by have m1 := n1.out; have m2 := n2.out; have m3 := n3.out; have m4 := n4.out; omega
          have hz9 : ¬ v3.heap.size = w.heap.size := by have m0 := Hz0.out; have m1 := n1.out; have m2 := n2.out; have m3 := n3.out; have m4 := n4.out; omega
          have hz10 : ¬ v2.heap.size = w.heap.size := by have m0 := Hz0.out; have m1 := n1.out; have m2 := n2.out; have m3 := n3.out; have m4 := n4.out; omega
          have st6 := st_cat (Z' := ya.arr) rfl (Ctl.arr_eq ya) rfl b9
          have x1 : Fr (Only v3.heap.size) v4 (v4.setRow v3.heap.size ya.arr) := fr_row12 (Fr.refl (Only v3.heap.size) v4) (.inl rfl) _
          have c10 := b10.fr x1 (fun e => hne (show v2.heap.size = v3.heap.size from e).symm)
          have st7 := st_cat (Z' := yb.arr) rfl (Ctl.arr_eq yb) rfl c10
          have x2 : Fr (Only v2.heap.size) (v4.setRow v3.heap.size ya.arr) ((v4.setRow v3.heap.size ya.arr).setRow v2.heap.size yb.arr) := fr_row12 (Fr.refl (Only v2.heap.size) _) (.inl rfl) _
          have x12 : Fr (fun i => i = v3.heap.size ∨ i = v2.heap.size) v4 ((v4.setRow v3.heap.size ya.arr).setRow v2.heap.size yb.arr) := (x1.weak (fun i _ e => .inl e)).trans' x2 (fun i _ e => .inr e)
          have HAB : Hid (AB12 Z w ((v4.setRow v3.heap.size ya.arr).setRow v2.heap.size yb.arr) p v3.heap.size v2.heap.size ya yb) := Lib.hid (by
            refine ⟨Hya.out.1, Hyb.out.1, ?_, ?_, (bk_row12 b9 ya.arr).fr x2 (fun e => hne e), bk_row12 c10 yb.arr, ?_, ?_⟩
            · refine Hya.out.2 _ (((((g2.out).trans' g3.out (fun _ _ e => e)).trans' g4.out (fun _ _ e => e)).weak (S' := fun i => i < w2.drew.heap.size) (fun _ _ e => e.elim)).trans' x12 (fun i hi e => ?_))
              show i < w2.drew.heap.size
              have m1 := n1.out; have m2 := n2.out; have m3 := n3.out; have m4 := n4.out; omega
            · refine Hyb.out.2 _ ((((g3.out).trans' g4.out (fun _ _ e => e)).weak (S' := fun i => i < v1.heap.size) (fun _ _ e => e.elim)).trans' x12 (fun i hi e => ?_))
              show i < v1.heap.size
              have m1 := n1.out; have m2 := n2.out; have m3 := n3.out; have m4 := n4.out; omega
            · exact ((HF0.out.trans' G4.out (fun _ _ e => e)).weak (fun _ _ e => e)).trans' x12 (fun i hi e => by have m0 := Hz0.out; have m1 := n1.out; have m2 := n2.out; have m3 := n3.out; have m4 := n4.out; omega)
            · exact fun V hV => ⟨HLdX.out V (((G4.out.weak (fun _ _ e => e.elim)).trans' x12 (fun i _ e => by rcases e with e | e <;> rw [e] <;> assumption)).trans' hV (fun _ _ e => e.elim)), ld_cat (Ctl.arr_eq ya) (((bk_row12 b9 ya.arr).fr x2 (fun e => hne e)).fr hV (fun e => e)), ld_cat (Ctl.arr_eq yb) ((bk_row12 c10 yb.arr).fr hV (fun e => e))⟩)
          have s6 := HLdX.out (v4.setRow v3.heap.size ya.arr) ((G4.out.weak (fun _ _ e => e.elim)).trans' x1 (fun i _ e => by have e : i = v3.heap.size := e; rw [e]; exact hz9))
          have s7 := HLdX.out ((v4.setRow v3.heap.size ya.arr).setRow v2.heap.size yb.arr) ((G4.out.weak (fun _ _ e => e.elim)).trans' x12 (fun i _ e => by rcases e with e | e <;> rw [e] <;> assumption))
          have s8 := Lib.hid (HCx.out ((v4.setRow v3.heap.size ya.arr).setRow v2.heap.size yb.arr) ((G4.out.weak (fun _ _ e => e.elim)).trans' x12 (fun i _ e => by rcases e with e | e <;> rw [e] <;> assumption)))
          refine any_store12 (i := 6) (by kernel_rfl) rfl rfl (by rfl) (exec_st rfl rfl st6) s6 ?_
          refine any_store12 (i := 7) (by kernel_rfl) rfl rfl (by rfl) (exec_st rfl rfl st7) s7 ?_
          refine wpAnyH_done (by kernel_rfl) ?_ _
          clear b9 b10 hne hz9 hz10 st6 st7 x1 x2 x12 c10 s6 s7
          go_wp2
          go_meet
          exact ⟨_, _, ya, yb, rfl, rfl, HAB, s8⟩
      · refine oneH_val 3 rfl (by rfl) (exec_alloc_cat _ v1) ?_
        simp only [Act.put, List.setIfInBounds_toArray, List.set_cons_zero, List.set_cons_succ]
        obtain ⟨v2, e2⟩ : ∃ v2, Hid (v2 = v1.alloc (.cells (brA (.slice none 0 0) fun _ => 0) 26)) := ⟨_, Lib.hid rfl⟩
        rw [← e2.out]
        have g2 : Hid (Fr No v1 v2) := Lib.hid (by rw [e2.out]; exact (Fr.refl _ _).alloc _)
        have q4 : Hid (Bk v2 v1.heap.size 26 (brA (.slice none 0 0) fun _ => 0)) := Lib.hid (by rw [e2.out]; exact Bk.made v1 _ _)
        have n2 : Hid (v2.heap.size = v1.heap.size + 1) := Lib.hid (by rw [e2.out]; simp)
        have G2 := Lib.hid (G1.out.trans' g2.out (fun _ _ e => e))
        refine hK.out _ _ (HLdX.out _ (G2.out.weak (fun _ _ e => e.elim))) (fun hHeld => ?_)
        clear hK
        refine wpAnyH_ready (rs := [3, 5]) (by kernel_rfl) (by simp) ?_
        refine AllReadyH.cons rfl (fun K' hK => ?_) (AllReadyH.cons rfl (fun K' hK => ?_) AllReadyH.nil)
        · refine oneH_call 20 (f := 8) (args := #[.agg Z]) rfl (by rfl) (by go_simp) (copR (HC.out v2 (HF0.out.trans' G2.out (fun _ _ e => e)) hok)) ?_
          rintro _ v3 ⟨yb, rfl, hybp, hybc, hybf⟩
          simp only [Act.put, List.setIfInBounds_toArray, List.set_cons_zero, List.set_cons_succ]
          have g3 : Hid (Fr No v2 v3) := Lib.hid hybf
          have n3 : Hid (v2.heap.size ≤ v3.heap.size) := Lib.hid hybf.size
          have Hyb := Lib.hid (And.intro hybp hybc)
          clear hybp hybc hybf
          have G3 := Lib.hid (G2.out.trans' g3.out (fun _ _ e => e))
          refine hK.out _ _ (HLdX.out _ (G3.out.weak (fun _ _ e => e.elim))) (fun hHeld => ?_)
          clear hK
          refine wpAnyH_ready (rs := [5]) (by kernel_rfl) (by simp) ?_
          refine AllReadyH.cons rfl (fun K' hK => ?_) AllReadyH.nil
          refine oneH_val 4 rfl (by rfl) (exec_alloc_cat _ v3) ?_
          simp only [Act.put, List.setIfInBounds_toArray, List.set_cons_zero, List.set_cons_succ]
          obtain ⟨v4, e4⟩ : ∃ v4, Hid (v4 = v3.alloc (.cells (brA (.slice none 0 0) fun _ => 0) 26)) := ⟨_, Lib.hid rfl⟩
          rw [← e4.out]
          have g4 : Hid (Fr No v3 v4) := Lib.hid (by rw [e4.out]; exact (Fr.refl _ _).alloc _)
          have q5 : Hid (Bk v4 v3.heap.size 26 (brA (.slice none 0 0) fun _ => 0)) := Lib.hid (by rw [e4.out]; exact Bk.made v3 _ _)
          have n4 : Hid (v4.heap.size = v3.heap.size + 1) := Lib.hid (by rw [e4.out]; simp)
          have G4 := Lib.hid (G3.out.trans' g4.out (fun _ _ e => e))
          refine hK.out _ _ (HLdX.out _ (G4.out.weak (fun _ _ e => e.elim))) (fun hHeld => ?_)
          clear hK
          have b9 := q4.out.fr ((g3.out).trans' g4.out (fun _ _ e => e)) (fun e => e)
          have b10 := q5.out.fr (Fr.refl No _) (fun e => e)
          have hne : ¬ v1.heap.size = v3.heap.size := by have m1 := n1.out; have m2 := n2.out; have m3 := n3.out; have m4 := n4.out; omega
          have hz9 : ¬ v1.heap.size = w.heap.size := by have m0 := Hz0.out; have m1 := n1.out; have m2 := n2.out; have m3 := n3.out; have m4 := n4.out; omega
          have hz10 : ¬ v3.heap.size = w.heap.size := by have m0 := Hz0.out; have m1 := n1.out; have m2 := n2.out; have m3 := n3.out; have m4 := n4.out; omega
          have st6 := st_cat (Z' := ya.arr) rfl (Ctl.arr_eq ya) rfl b9
          have x1 : Fr (Only v1.heap.size) v4 (v4.setRow v1.heap.size ya.arr) := fr_row12 (Fr.refl (Only v1.heap.size) v4) (.inl rfl) _
          have c10 := b10.fr x1 (fun e => hne (show v3.heap.size = v1.heap.size from e).symm)
          have st7 := st_cat (Z' := yb.arr) rfl (Ctl.arr_eq yb) rfl c10
          have x2 : Fr (Only v3.heap.size) (v4.setRow v1.heap.size ya.arr) ((v4.setRow v1.heap.size ya.arr).setRow v3.heap.size yb.arr) := fr_row12 (Fr.refl (Only v3.heap.size) _) (.inl rfl) _
          have x12 : Fr (fun i => i = v1.heap.size ∨ i = v3.heap.size) v4 ((v4.setRow v1.heap.size ya.arr).setRow v3.heap.size yb.arr) := (x1.weak (fun i _ e => .inl e)).trans' x2 (fun i _ e => .inr e)
          have HAB : Hid (AB12 Z w ((v4.setRow v1.heap.size ya.arr).setRow v3.heap.size yb.arr) p v1.heap.size v3.heap.size ya yb) := Lib.hid (by
            refine ⟨Hya.out.1, Hyb.out.1, ?_, ?_, (bk_row12 b9 ya.arr).fr x2 (fun e => hne e), bk_row12 c10 yb.arr, ?_, ?_⟩
            · refine Hya.out.2 _ (((((g2.out).trans' g3.out (fun _ _ e => e)).trans' g4.out (fun _ _ e => e)).weak (S' := fun i => i < w2.drew.heap.size) (fun _ _ e => e.elim)).trans' x12 (fun i hi e => ?_))
              show i < w2.drew.heap.size
              have m1 := n1.out; have m2 := n2.out; have m3 := n3.out; have m4 := n4.out; omega
            · refine Hyb.out.2 _ (((g4.out).weak (S' := fun i => i < v2.heap.size) (fun _ _ e => e.elim)).trans' x12 (fun i hi e => ?_))
              show i < v2.heap.size
              have m1 := n1.out; have m2 := n2.out; have m3 := n3.out; have m4 := n4.out; omega
            · exact ((HF0.out.trans' G4.out (fun _ _ e => e)).weak (fun _ _ e => e)).trans' x12 (fun i hi e => by have m0 := Hz0.out; have m1 := n1.out; have m2 := n2.out; have m3 := n3.out; have m4 := n4.out; omega)
            · exact fun V hV => ⟨HLdX.out V (((G4.out.weak (fun _ _ e => e.elim)).trans' x12 (fun i _ e => by rcases e with e | e <;> rw [e] <;> assumption)).trans' hV (fun _ _ e => e.elim)), ld_cat (Ctl.arr_eq ya) (((bk_row12 b9 ya.arr).fr x2 (fun e => hne e)).fr hV (fun e => e)), ld_cat (Ctl.arr_eq yb) ((bk_row12 c10 yb.arr).fr hV (fun e => e))⟩)
          have s6 := HLdX.out (v4.setRow v1.heap.size ya.arr) ((G4.out.weak (fun _ _ e => e.elim)).trans' x1 (fun i _ e => by have e : i = v1.heap.size := e; rw [e]; exact hz9))
          have s7 := HLdX.out ((v4.setRow v1.heap.size ya.arr).setRow v3.heap.size yb.arr) ((G4.out.weak (fun _ _ e => e.elim)).trans' x12 (fun i _ e => by rcases e with e | e <;> rw [e] <;> assumption))
          have s8 := Lib.hid (HCx.out ((v4.setRow v1.heap.size ya.arr).setRow v3.heap.size yb.arr) ((G4.out.weak (fun _ _ e => e.elim)).trans' x12 (fun i _ e => by rcases e with e | e <;> rw [e] <;> assumption)))
          refine any_store12 (i := 6) (by kernel_rfl) rfl rfl (by rfl) (exec_st rfl rfl st6) s6 ?_
          refine any_store12 (i := 7) (by kernel_rfl) rfl rfl (by rfl) (exec_st rfl rfl st7) s7 ?_
          refine wpAnyH_done (by kernel_rfl) ?_ _
          clear b9 b10 hne hz9 hz10 st6 st7 x1 x2 x12 c10 s6 s7
          go_wp2
          go_meet
          exact ⟨_, _, ya, yb, rfl, rfl, HAB, s8⟩
        · refine oneH_val 4 rfl (by rfl) (exec_alloc_cat _ v2) ?_
          simp only [Act.put, List.setIfInBounds_toArray, List.set_cons_zero, List.set_cons_succ]
          obtain ⟨v3, e3⟩ : ∃ v3, Hid (v3 = v2.alloc (.cells (brA (.slice none 0 0) fun _ => 0) 26)) := ⟨_, Lib.hid rfl⟩
          rw [← e3.out]
          have g3 : Hid (Fr No v2 v3) := Lib.hid (by rw [e3.out]; exact (Fr.refl _ _).alloc _)
          have q5 : Hid (Bk v3 v2.heap.size 26 (brA (.slice none 0 0) fun _ => 0)) := Lib.hid (by rw [e3.out]; exact Bk.made v2 _ _)
          have n3 : Hid (v3.heap.size = v2.heap.size + 1) := Lib.hid (by rw [e3.out]; simp)
          have G3 := Lib.hid (G2.out.trans' g3.out (fun _ _ e => e))
          refine hK.out _ _ (HLdX.out _ (G3.out.weak (fun _ _ e => e.elim))) (fun hHeld => ?_)
          clear hK
          refine wpAnyH_ready (rs := [3]) (by kernel_rfl) (by simp) ?_
          refine AllReadyH.cons rfl (fun K' hK => ?_) AllReadyH.nil
          refine oneH_call 20 (f := 8) (args := #[.agg Z]) rfl (by rfl) (by go_simp) (copR (HC.out v3 (HF0.out.trans' G3.out (fun _ _ e => e)) hok)) ?_
          rintro _ v4 ⟨yb, rfl, hybp, hybc, hybf⟩
          simp only [Act.put, List.setIfInBounds_toArray, List.set_cons_zero, List.set_cons_succ]
          have g4 : Hid (Fr No v3 v4) := Lib.hid hybf
          have n4 : Hid (v3.heap.size ≤ v4.heap.size) := Lib.hid hybf.size
          have Hyb := Lib.hid (And.intro hybp hybc)
          clear hybp hybc hybf
          have G4 := Lib.hid (G3.out.trans' g4.out (fun _ _ e => e))
          refine hK.out _ _ (HLdX.out _ (G4.out.weak (fun _ _ e => e.elim))) (fun hHeld => ?_)
          clear hK
          have b9 := q4.out.fr ((g3.out).trans' g4.out (fun _ _ e => e)) (fun e => e)
          have b10 := q5.out.fr (g4.out) (fun e => e)
          have hne : ¬ v1.heap.size = v2.heap.size := by have m1 := n1.out; have m2 := n2.out; have m3 := n3.out; have m4 := n4.out; omega
          have hz9 : ¬ v1.heap.size = w.heap.size := by have m0 := Hz0.out; have m1 := n1.out; have m2 := n2.out; have m3 := n3.out; have m4 := n4.out; omega
          have hz10 : ¬ v2.heap.size = w.heap.size := by have m0 := Hz0.out; have m1 := n1.out; have m2 := n2.out; have m3 := n3.out; have m4 := n4.out; omega
          have st6 := st_cat (Z' := ya.arr) rfl (Ctl.arr_eq ya) rfl b9
          have x1 : Fr (Only v1.heap.size) v4 (v4.setRow v1.heap.size ya.arr) := fr_row12 (Fr.refl (Only v1.heap.size) v4) (.inl rfl) _
          have c10 := b10.fr x1 (fun e => hne (show v2.heap.size = v1.heap.size from e).symm)
          have st7 := st_cat (Z' := yb.arr) rfl (Ctl.arr_eq yb) rfl c10
          have x2 : Fr (Only v2.heap.size) (v4.setRow v1.heap.size ya.arr) ((v4.setRow v1.heap.size ya.arr).setRow v2.heap.size yb.arr) := fr_row12 (Fr.refl (Only v2.heap.size) _) (.inl rfl) _
          have x12 : Fr (fun i => i = v1.heap.size ∨ i = v2.heap.size) v4 ((v4.setRow v1.heap.size ya.arr).setRow v2.heap.size yb.arr) := (x1.weak (fun i _ e => .inl e)).trans' x2 (fun i _ e => .inr e)
          have HAB : Hid (AB12 Z w ((v4.setRow v1.heap.size ya.arr).setRow v2.heap.size yb.arr) p v1.heap.size v2.heap.size ya yb) := Lib.hid (by
            refine ⟨Hya.out.1, Hyb.out.1, ?_, ?_, (bk_row12 b9 ya.arr).fr x2 (fun e => hne e), bk_row12 c10 yb.arr, ?_, ?_⟩
            · refine Hya.out.2 _ (((((g2.out).trans' g3.out (fun _ _ e => e)).trans' g4.out (fun _ _ e => e)).weak (S' := fun i => i < w2.drew.heap.size) (fun _ _ e => e.elim)).trans' x12 (fun i hi e => ?_))
              show i < w2.drew.heap.size
              have m1 := n1.out; have m2 := n2.out; have m3 := n3.out; have m4 := n4.out; omega
            · refine Hyb.out.2 _ (((Fr.refl No _).weak (S' := fun i => i < v3.heap.size) (fun _ _ e => e.elim)).trans' x12 (fun i hi e => ?_))
              show i < v3.heap.size
              have m1 := n1.out; have m2 := n2.out; have m3 := n3.out; have m4 := n4.out; omega
            · exact ((HF0.out.trans' G4.out (fun _ _ e => e)).weak (fun _ _ e => e)).trans' x12 (fun i hi e => by have m0 := Hz0.out; have m1 := n1.out; have m2 := n2.out; have m3 := n3.out; have m4 := n4.out; omega)
            · exact fun V hV => ⟨HLdX.out V (((G4.out.weak (fun _ _ e => e.elim)).trans' x12 (fun i _ e => by rcases e with e | e <;> rw [e] <;> assumption)).trans' hV (fun _ _ e => e.elim)), ld_cat (Ctl.arr_eq ya) (((bk_row12 b9 ya.arr).fr x2 (fun e => hne e)).fr hV (fun e => e)), ld_cat (Ctl.arr_eq yb) ((bk_row12 c10 yb.arr).fr hV (fun e => e))⟩)
          have s6 := HLdX.out (v4.setRow v1.heap.size ya.arr) ((G4.out.weak (fun _ _ e => e.elim)).trans' x1 (fun i _ e => by have e : i = v1.heap.size := e; rw [e]; exact hz9))
          have s7 := HLdX.out ((v4.setRow v1.heap.size ya.arr).setRow v2.heap.size yb.arr) ((G4.out.weak (fun _ _ e => e.elim)).trans' x12 (fun i _ e => by rcases e with e | e <;> rw [e] <;> assumption))
          have s8 := Lib.hid (HCx.out ((v4.setRow v1.heap.size ya.arr).setRow v2.heap.size yb.arr) ((G4.out.weak (fun _ _ e => e.elim)).trans' x12 (fun i _ e => by rcases e with e | e <;> rw [e] <;> assumption)))
          refine any_store12 (i := 6) (by kernel_rfl) rfl rfl (by rfl) (exec_st rfl rfl st6) s6 ?_
          refine any_store12 (i := 7) (by kernel_rfl) rfl rfl (by rfl) (exec_st rfl rfl st7) s7 ?_
          refine wpAnyH_done (by kernel_rfl) ?_ _
          clear b9 b10 hne hz9 hz10 st6 st7 x1 x2 x12 c10 s6 s7
          go_wp2
          go_meet
          exact ⟨_, _, ya, yb, rfl, rfl, HAB, s8⟩
      · refine oneH_val 4 rfl (by rfl) (exec_alloc_cat _ v1) ?_
        simp only [Act.put, List.setIfInBounds_toArray, List.set_cons_zero, List.set_cons_succ]
        obtain ⟨v2, e2⟩ : ∃ v2, Hid (v2 = v1.alloc (.cells (brA (.slice none 0 0) fun _ => 0) 26)) := ⟨_, Lib.hid rfl⟩
        rw [← e2.out]
        have g2 : Hid (Fr No v1 v2) := Lib.hid (by rw [e2.out]; exact (Fr.refl _ _).alloc _)
        have q5 : Hid (Bk v2 v1.heap.size 26 (brA (.slice none 0 0) fun _ => 0)) := Lib.hid (by rw [e2.out]; exact Bk.made v1 _ _)
        have n2 : Hid (v2.heap.size = v1.heap.size + 1) := Lib.hid (by rw [e2.out]; simp)
        have G2 := Lib.hid (G1.out.trans' g2.out (fun _ _ e => e))
        refine hK.out _ _ (HLdX.out _ (G2.out.weak (fun _ _ e => e.elim))) (fun hHeld => ?_)
        clear hK
        refine wpAnyH_ready (rs := [3, 4]) (by kernel_rfl) (by simp) ?_
        refine AllReadyH.cons rfl (fun K' hK => ?_) (AllReadyH.cons rfl (fun K' hK => ?_) AllReadyH.nil)
        · refine oneH_call 20 (f := 8) (args := #[.agg Z]) rfl (by rfl) (by go_simp) (copR (HC.out v2 (HF0.out.trans' G2.out (fun _ _ e => e)) hok)) ?_
          rintro _ v3 ⟨yb, rfl, hybp, hybc, hybf⟩
          simp only [Act.put, List.setIfInBounds_toArray, List.set_cons_zero, List.set_cons_succ]
          have g3 : Hid (Fr No v2 v3) := Lib.hid hybf
          have n3 : Hid (v2.heap.size ≤ v3.heap.size) := Lib.hid hybf.size
          have Hyb := Lib.hid (And.intro hybp hybc)
          clear hybp hybc hybf
          have G3 := Lib.hid (G2.out.trans' g3.out (fun _ _ e => e))
          refine hK.out _ _ (HLdX.out _ (G3.out.weak (fun _ _ e => e.elim))) (fun hHeld => ?_)
          clear hK
          refine wpAnyH_ready (rs := [4]) (by kernel_rfl) (by simp) ?_
          refine AllReadyH.cons rfl (fun K' hK => ?_) AllReadyH.nil
          refine oneH_val 3 rfl (by rfl) (exec_alloc_cat _ v3) ?_
          simp only [Act.put, List.setIfInBounds_toArray, List.set_cons_zero, List.set_cons_succ]
          obtain ⟨v4, e4⟩ : ∃ v4, Hid (v4 = v3.alloc (.cells (brA (.slice none 0 0) fun _ => 0) 26)) := ⟨_, Lib.hid rfl⟩
          rw [← e4.out]
          have g4 : Hid (Fr No v3 v4) := Lib.hid (by rw [e4.out]; exact (Fr.refl _ _).alloc _)
          have q4 : Hid (Bk v4 v3.heap.size 26 (brA (.slice none 0 0) fun _ => 0)) := Lib.hid (by rw [e4.out]; exact Bk.made v3 _ _)
          have n4 : Hid (v4.heap.size = v3.heap.size + 1) := Lib.hid (by rw [e4.out]; simp)
          have G4 := Lib.hid (G3.out.trans' g4.out (fun _ _ e => e))
          refine hK.out _ _ (HLdX.out _ (G4.out.weak (fun _ _ e => e.elim))) (fun hHeld => ?_)
          clear hK
          have b9 := q4.out.fr (Fr.refl No _) (fun e => e)
          have b10 := q5.out.fr ((g3.out).trans' g4.out (fun _ _ e => e)) (fun e => e)
          have hne : ¬ v3.heap.size = v1.heap.size := by have m1 := n1.out; have m2 := n2.out; have m3 := n3.out; have m4 := n4.out; omega
          have hz9 : ¬ v3.heap.size = w.heap.size := by have m0 := Hz0.out; have m1 := n1.out; have m2 := n2.out; have m3 := n3.out; have m4 := n4.out; omega
          have hz10 : ¬ v1.heap.size = w.heap.size := by have m0 := Hz0.out; have m1 := n1.out; have m2 := n2.out; have m3 := n3.out; have m4 := n4.out; omega
          have st6 := st_cat (Z' := ya.arr) rfl (Ctl.arr_eq ya) rfl b9
          have x1 : Fr (Only v3.heap.size) v4 (v4.setRow v3.heap.size ya.arr) := fr_row12 (Fr.refl (Only v3.heap.size) v4) (.inl rfl) _
          have c10 := b10.fr x1 (fun e => hne (show v1.heap.size = v3.heap.size from e).symm)
          have st7 := st_cat (Z' := yb.arr) rfl (Ctl.arr_eq yb) rfl c10
          have x2 : Fr (Only v1.heap.size) (v4.setRow v3.heap.size ya.arr) ((v4.setRow v3.heap.size ya.arr).setRow v1.heap.size yb.arr) := fr_row12 (Fr.refl (Only v1.heap.size) _) (.inl rfl) _
          have x12 : Fr (fun i => i = v3.heap.size ∨ i = v1.heap.size) v4 ((v4.setRow v3.heap.size ya.arr).setRow v1.heap.size yb.arr) := (x1.weak (fun i _ e => .inl e)).trans' x2 (fun i _ e => .inr e)
          have HAB : Hid (AB12 Z w ((v4.setRow v3.heap.size ya.arr).setRow v1.heap.size yb.arr) p v3.heap.size v1.heap.size ya yb) := Lib.hid (by
            refine ⟨Hya.out.1, Hyb.out.1, ?_, ?_, (bk_row12 b9 ya.arr).fr x2 (fun e => hne e), bk_row12 c10 yb.arr, ?_, ?_⟩
            · refine Hya.out.2 _ (((((g2.out).trans' g3.out (fun _ _ e => e)).trans' g4.out (fun _ _ e => e)).weak (S' := fun i => i < w2.drew.heap.size) (fun _ _ e => e.elim)).trans' x12 (fun i hi e => ?_))
              show i < w2.drew.heap.size
              have m1 := n1.out; have m2 := n2.out; have m3 := n3.out; have m4 := n4.out; omega
            · refine Hyb.out.2 _ (((g4.out).weak (S' := fun i => i < v2.heap.size) (fun _ _ e => e.elim)).trans' x12 (fun i hi e => ?_))
              show i < v2.heap.size
              have m1 := n1.out; have m2 := n2.out; have m3 := n3.out; have m4 := n4.out; omega
            · exact ((HF0.out.trans' G4.out (fun _ _ e => e)).weak (fun _ _ e => e)).trans' x12 (fun i hi e => by have m0 := Hz0.out; have m1 := n1.out; have m2 := n2.out; have m3 := n3.out; have m4 := n4.out; omega)
            · exact fun V hV => ⟨HLdX.out V (((G4.out.weak (fun _ _ e => e.elim)).trans' x12 (fun i _ e => by rcases e with e | e <;> rw [e] <;> assumption)).trans' hV (fun _ _ e => e.elim)), ld_cat (Ctl.arr_eq ya) (((bk_row12 b9 ya.arr).fr x2 (fun e => hne e)).fr hV (fun e => e)), ld_cat (Ctl.arr_eq yb) ((bk_row12 c10 yb.arr).fr hV (fun e => e))⟩)
          have s6 := HLdX.out (v4.setRow v3.heap.size ya.arr) ((G4.out.weak (fun _ _ e => e.elim)).trans' x1 (fun i _ e => by have e : i = v3.heap.size := e; rw [e]; exact hz9))
          have s7 := HLdX.out ((v4.setRow v3.heap.size ya.arr).setRow v1.heap.size yb.arr) ((G4.out.weak (fun _ _ e => e.elim)).trans' x12 (fun i _ e => by rcases e with e | e <;> rw [e] <;> assumption))
          have s8 := Lib.hid (HCx.out ((v4.setRow v3.heap.size ya.arr).setRow v1.heap.size yb.arr) ((G4.out.weak (fun _ _ e => e.elim)).trans' x12 (fun i _ e => by rcases e with e | e <;> rw [e] <;> assumption)))
          refine any_store12 (i := 6) (by kernel_rfl) rfl rfl (by rfl) (exec_st rfl rfl st6) s6 ?_
          refine any_store12 (i := 7) (by kernel_rfl) rfl rfl (by rfl) (exec_st rfl rfl st7) s7 ?_
          refine wpAnyH_done (by kernel_rfl) ?_ _
          clear b9 b10 hne hz9 hz10 st6 st7 x1 x2 x12 c10 s6 s7
          go_wp2
          go_meet
          exact ⟨_, _, ya, yb, rfl, rfl, HAB, s8⟩
        · refine oneH_val 3 rfl (by rfl) (exec_alloc_cat _ v2) ?_
          simp only [Act.put, List.setIfInBounds_toArray, List.set_cons_zero, List.set_cons_succ]
          obtain ⟨v3, e3⟩ : ∃ v3, Hid (v3 = v2.alloc (.cells (brA (.slice none 0 0) fun _ => 0) 26)) := ⟨_, Lib.hid rfl⟩
          rw [← e3.out]
          have g3 : Hid (Fr No v2 v3) := Lib.hid (by rw [e3.out]; exact (Fr.refl _ _).alloc _)
          have q4 : Hid (Bk v3 v2.heap.size 26 (brA (.slice none 0 0) fun _ => 0)) := Lib.hid (by rw [e3.out]; exact Bk.made v2 _ _)
          have n3 : Hid (v3.heap.size = v2.heap.size + 1) := Lib.hid (by rw [e3.out]; simp)
          have G3 := Lib.hid (G2.out.trans' g3.out (fun _ _ e => e))
          refine hK.out _ _ (HLdX.out _ (G3.out.weak (fun _ _ e => e.elim))) (fun hHeld => ?_)
          clear hK
          refine wpAnyH_ready (rs := [3]) (by kernel_rfl) (by simp) ?_
          refine AllReadyH.cons rfl (fun K' hK => ?_) AllReadyH.nil
          refine oneH_call 20 (f := 8) (args := #[.agg Z]) rfl (by rfl) (by go_simp) (copR (HC.out v3 (HF0.out.trans' G3.out (fun _ _ e => e)) hok)) ?_
          rintro _ v4 ⟨yb, rfl, hybp, hybc, hybf⟩
          simp only [Act.put, List.setIfInBounds_toArray, List.set_cons_zero, List.set_cons_succ]
          have g4 : Hid (Fr No v3 v4) := Lib.hid hybf
          have n4 : Hid (v3.heap.size ≤ v4.heap.size) := Lib.hid hybf.size
          have Hyb := Lib.hid (And.intro hybp hybc)
          clear hybp hybc hybf
          have G4 := Lib.hid (G3.out.trans' g4.out (fun _ _ e => e))
          refine hK.out _ _ (HLdX.out _ (G4.out.weak (fun _ _ e => e.elim))) (fun hHeld => ?_)
          clear hK
          have b9 := q4.out.fr (g4.out) (fun e => e)
          have b10 := q5.out.fr ((g3.out).trans' g4.out (fun _ _ e => e)) (fun e => e)
          have hne : ¬ v2.heap.size = v1.heap.size := by have m1 := n1.out; have m2 := n2.out; have m3 := n3.out; have m4 := n4.out; omega
          have hz9 : ¬ v2.heap.size = w.heap.size := by have m0 := Hz0.out; have m1 := n1.out; have m2 := n2.out; have m3 := n3.out; have m4 := n4.out; omega
          have hz10 : ¬ v1.heap.size = w.heap.size := by have m0 := Hz0.out; have m1 := n1.out; have m2 := n2.out; have m3 := n3.out; have m4 := n4.out; omega
          have st6 := st_cat (Z' := ya.arr) rfl (Ctl.arr_eq ya) rfl b9
          have x1 : Fr (Only v2.heap.size) v4 (v4.setRow v2.heap.size ya.arr) := fr_row12 (Fr.refl (Only v2.heap.size) v4) (.inl rfl) _
          have c10 := b10.fr x1 (fun e => hne (show v1.heap.size = v2.heap.size from e).symm)
          have st7 := st_cat (Z' := yb.arr) rfl (Ctl.arr_eq yb) rfl c10
          have x2 : Fr (Only v1.heap.size) (v4.setRow v2.heap.size ya.arr) ((v4.setRow v2.heap.size ya.arr).setRow v1.heap.size yb.arr) := fr_row12 (Fr.refl (Only v1.heap.size) _) (.inl rfl) _
          have x12 : Fr (fun i => i = v2.heap.size ∨ i = v1.heap.size) v4 ((v4.setRow v2.heap.size ya.arr).setRow v1.heap.size yb.arr) := (x1.weak (fun i _ e => .inl e)).trans' x2 (fun i _ e => .inr e)
          have HAB : Hid (AB12 Z w ((v4.setRow v2.heap.size ya.arr).setRow v1.heap.size yb.arr) p v2.heap.size v1.heap.size ya yb) := Lib.hid (by
            refine ⟨Hya.out.1, Hyb.out.1, ?_, ?_, (bk_row12 b9 ya.arr).fr x2 (fun e => hne e), bk_row12 c10 yb.arr, ?_, ?_⟩
            · refine Hya.out.2 _ (((((g2.out).trans' g3.out (fun _ _ e => e)).trans' g4.out (fun _ _ e => e)).weak (S' := fun i => i < w2.drew.heap.size) (fun _ _ e => e.elim)).trans' x12 (fun i hi e => ?_))
              show i < w2.drew.heap.size
              have m1 := n1.out; have m2 := n2.out; have m3 := n3.out; have m4 := n4.out; omega
            · refine Hyb.out.2 _ (((Fr.refl No _).weak (S' := fun i => i < v3.heap.size) (fun _ _ e => e.elim)).trans' x12 (fun i hi e => ?_))
              show i < v3.heap.size
              have m1 := n1.out; have m2 := n2.out; have m3 := n3.out; have m4 := n4.out; omega
            · exact ((HF0.out.trans' G4.out (fun _ _ e => e)).weak (fun _ _ e => e)).trans' x12 (fun i hi e => by have m0 := Hz0.out; have m1 := n1.out; have m2 := n2.out; have m3 := n3.out; have m4 := n4.out; omega)
            · exact fun V hV => ⟨HLdX.out V (((G4.out.weak (fun _ _ e => e.elim)).trans' x12 (fun i _ e => by rcases e with e | e <;> rw [e] <;> assumption)).trans' hV (fun _ _ e => e.elim)), ld_cat (Ctl.arr_eq ya) (((bk_row12 b9 ya.arr).fr x2 (fun e => hne e)).fr hV (fun e => e)), ld_cat (Ctl.arr_eq yb) ((bk_row12 c10 yb.arr).fr hV (fun e => e))⟩)
          have s6 := HLdX.out (v4.setRow v2.heap.size ya.arr) ((G4.out.weak (fun _ _ e => e.elim)).trans' x1 (fun i _ e => by have e : i = v2.heap.size := e; rw [e]; exact hz9))
          have s7 := HLdX.out ((v4.setRow v2.heap.size ya.arr).setRow v1.heap.size yb.arr) ((G4.out.weak (fun _ _ e => e.elim)).trans' x12 (fun i _ e => by rcases e with e | e <;> rw [e] <;> assumption))
          have s8 := Lib.hid (HCx.out ((v4.setRow v2.heap.size ya.arr).setRow v1.heap.size yb.arr) ((G4.out.weak (fun _ _ e => e.elim)).trans' x12 (fun i _ e => by rcases e with e | e <;> rw [e] <;> assumption)))
          refine any_store12 (i := 6) (by kernel_rfl) rfl rfl (by rfl) (exec_st rfl rfl st6) s6 ?_
          refine any_store12 (i := 7) (by kernel_rfl) rfl rfl (by rfl) (exec_st rfl rfl st7) s7 ?_
          refine wpAnyH_done (by kernel_rfl) ?_ _
          clear b9 b10 hne hz9 hz10 st6 st7 x1 x2 x12 c10 s6 s7
          go_wp2
          go_meet
          exact ⟨_, _, ya, yb, rfl, rfl, HAB, s8⟩
    · refine oneH_val 3 rfl (by rfl) (exec_alloc_cat _ w2.drew) ?_
      simp only [Act.put, List.setIfInBounds_toArray, List.set_cons_zero, List.set_cons_succ]
      obtain ⟨v1, e1⟩ : ∃ v1, Hid (v1 = w2.drew.alloc (.cells (brA (.slice none 0 0) fun _ => 0) 26)) := ⟨_, Lib.hid rfl⟩
      rw [← e1.out]
      have g1 : Hid (Fr No w2.drew v1) := Lib.hid (by rw [e1.out]; exact (Fr.refl _ _).alloc _)
      have q4 : Hid (Bk v1 w2.drew.heap.size 26 (brA (.slice none 0 0) fun _ => 0)) := Lib.hid (by rw [e1.out]; exact Bk.made w2.drew _ _)
      have n1 : Hid (v1.heap.size = w2.drew.heap.size + 1) := Lib.hid (by rw [e1.out]; simp)
      have G1 := Lib.hid (G0.out.trans' g1.out (fun _ _ e => e))
      refine hK.out _ _ (HLdX.out _ (G1.out.weak (fun _ _ e => e.elim))) (fun hHeld => ?_)
      clear hK
      refine wpAnyH_ready (rs := [1, 5]) (by kernel_rfl) (by simp) ?_
      refine AllReadyH.cons rfl (fun K' hK => ?_) (AllReadyH.cons rfl (fun K' hK => ?_) AllReadyH.nil)
      · refine oneH_call 18 (f := 7) (args := #[.agg Z]) rfl (by rfl) (by go_simp) (copR (HO.out v1 (HF0.out.trans' G1.out (fun _ _ e => e)) hok)) ?_
        rintro _ v2 ⟨ya, rfl, hyap, hyac, hyaf⟩
        simp only [Act.put, List.setIfInBounds_toArray, List.set_cons_zero, List.set_cons_succ]
        have g2 : Hid (Fr No v1 v2) := Lib.hid hyaf
        have n2 : Hid (v1.heap.size ≤ v2.heap.size) := Lib.hid hyaf.size
        have Hya := Lib.hid (And.intro hyap hyac)
        clear hyap hyac hyaf
        have G2 := Lib.hid (G1.out.trans' g2.out (fun _ _ e => e))
        refine hK.out _ _ (HLdX.out _ (G2.out.weak (fun _ _ e => e.elim))) (fun hHeld => ?_)
        clear hK
        refine wpAnyH_ready (rs := [3, 5]) (by kernel_rfl) (by simp) ?_
        refine AllReadyH.cons rfl (fun K' hK => ?_) (AllReadyH.cons rfl (fun K' hK => ?_) AllReadyH.nil)
        · refine oneH_call 20 (f := 8) (args := #[.agg Z]) rfl (by rfl) (by go_simp) (copR (HC.out v2 (HF0.out.trans' G2.out (fun _ _ e => e)) hok)) ?_
          rintro _ v3 ⟨yb, rfl, hybp, hybc, hybf⟩
          simp only [Act.put, List.setIfInBounds_toArray, List.set_cons_zero, List.set_cons_succ]
          have g3 : Hid (Fr No v2 v3) := Lib.hid hybf
          have n3 : Hid (v2.heap.size ≤ v3.heap.size) := Lib.hid hybf.size
          have Hyb := Lib.hid (And.intro hybp hybc)
          clear hybp hybc hybf
          have G3 := Lib.hid (G2.out.trans' g3.out (fun _ _ e => e))
          refine hK.out _ _ (HLdX.out _ (G3.out.weak (fun _ _ e => e.elim))) (fun hHeld => ?_)
          clear hK
          refine wpAnyH_ready (rs := [5]) (by kernel_rfl) (by simp) ?_
          refine AllReadyH.cons rfl (fun K' hK => ?_) AllReadyH.nil
          refine oneH_val 4 rfl (by rfl) (exec_alloc_cat _ v3) ?_
          simp only [Act.put, List.setIfInBounds_toArray, List.set_cons_zero, List.set_cons_succ]
          obtain ⟨v4, e4⟩ : ∃ v4, Hid (v4 = v3.alloc (.cells (brA (.slice none 0 0) fun _ => 0) 26)) := ⟨_, Lib.hid rfl⟩
          rw [← e4.out]
          have g4 : Hid (Fr No v3 v4) := Lib.hid (by rw [e4.out]; exact (Fr.refl _ _).alloc _)
          have q5 : Hid (Bk v4 v3.heap.size 26 (brA (.slice none 0 0) fun _ => 0)) := Lib.hid (by rw [e4.out]; exact Bk.made v3 _ _)
          have n4 : Hid (v4.heap.size = v3.heap.size + 1) := Lib.hid (by rw [e4.out]; simp)
          have G4 := Lib.hid (G3.out.trans' g4.out (fun _ _ e => e))
          refine hK.out _ _ (HLdX.out _ (G4.out.weak (fun _ _ e => e.elim))) (fun hHeld => ?_)
          clear hK
          have b9 := q4.out.fr (((g2.out).trans' g3.out (fun _ _ e => e)).trans' g4.out (fun _ _ e => e)) (fun e => e)
          have b10 := q5.out.fr (Fr.refl No _) (fun e => e)
          have hne : ¬ w2.drew.heap.size = v3.heap.size := by have m1 := n1.out; have m2 := n2.out; have m3 := n3.out; have m4 := n4.out; omega
          have hz9 : ¬ w2.drew.heap.size = w.heap.size := by have m0 := Hz0.out; have m1 := n1.out; have m2 := n2.out; have m3 := n3.out; have m4 := n4.out; omega
          have hz10 : ¬ v3.heap.size = w.heap.size := by have m0 := Hz0.out; have m1 := n1.out; have m2 := n2.out; have m3 := n3.out; have m4 := n4.out; omega
          have st6 := st_cat (Z' := ya.arr) rfl (Ctl.arr_eq ya) rfl b9
          have x1 : Fr (Only w2.drew.heap.size) v4 (v4.setRow w2.drew.heap.size ya.arr) := fr_row12 (Fr.refl (Only w2.drew.heap.size) v4) (.inl rfl) _
          have c10 := b10.fr x1 (fun e => hne (show v3.heap.size = w2.drew.heap.size from e).symm)
          have st7 := st_cat (Z' := yb.arr) rfl (Ctl.arr_eq yb) rfl c10
          have x2 : Fr (Only v3.heap.size) (v4.setRow w2.drew.heap.size ya.arr) ((v4.setRow w2.drew.heap.size ya.arr).setRow v3.heap.size yb.arr) := fr_row12 (Fr.refl (Only v3.heap.size) _) (.inl rfl) _
          have x12 : Fr (fun i => i = w2.drew.heap.size ∨ i = v3.heap.size) v4 ((v4.setRow w2.drew.heap.size ya.arr).setRow v3.heap.size yb.arr) := (x1.weak (fun i _ e => .inl e)).trans' x2 (fun i _ e => .inr e)
          have HAB : Hid (AB12 Z w ((v4.setRow w2.drew.heap.size ya.arr).setRow v3.heap.size yb.arr) p w2.drew.heap.size v3.heap.size ya yb) := Lib.hid (by
            refine ⟨Hya.out.1, Hyb.out.1, ?_, ?_, (bk_row12 b9 ya.arr).fr x2 (fun e => hne e), bk_row12 c10 yb.arr, ?_, ?_⟩
            · refine Hya.out.2 _ ((((g3.out).trans' g4.out (fun _ _ e => e)).weak (S' := fun i => i < v1.heap.size) (fun _ _ e => e.elim)).trans' x12 (fun i hi e => ?_))
              show i < v1.heap.size
              have m1 := n1.out; have m2 := n2.out; have m3 := n3.out; have m4 := n4.out; omega
            · refine Hyb.out.2 _ (((g4.out).weak (S' := fun i => i < v2.heap.size) (fun _ _ e => e.elim)).trans' x12 (fun i hi e => ?_))
              show i < v2.heap.size
              have m1 := n1.out; have m2 := n2.out; have m3 := n3.out; have m4 := n4.out; omega
            · exact ((HF0.out.trans' G4.out (fun _ _ e => e)).weak (fun _ _ e => e)).trans' x12 (fun i hi e => by have m0 := Hz0.out; have m1 := n1.out; have m2 := n2.out; have m3 := n3.out; have m4 := n4.out; omega)
            · exact fun V hV => ⟨HLdX.out V (((G4.out.weak (fun _ _ e => e.elim)).trans' x12 (fun i _ e => by rcases e with e | e <;> rw [e] <;> assumption)).trans' hV (fun _ _ e => e.elim)), ld_cat (Ctl.arr_eq ya) (((bk_row12 b9 ya.arr).fr x2 (fun e => hne e)).fr hV (fun e => e)), ld_cat (Ctl.arr_eq yb) ((bk_row12 c10 yb.arr).fr hV (fun e => e))⟩)
          have s6 := HLdX.out (v4.setRow w2.drew.heap.size ya.arr) ((G4.out.weak (fun _ _ e => e.elim)).trans' x1 (fun i _ e => by have e : i = w2.drew.heap.size := e; rw [e]; exact hz9))
          have s7 := HLdX.out ((v4.setRow w2.drew.heap.size ya.arr).setRow v3.heap.size yb.arr) ((G4.out.weak (fun _ _ e => e.elim)).trans' x12 (fun i _ e => by rcases e with e | e <;> rw [e] <;> assumption))
          have s8 := Lib.hid (HCx.out ((v4.setRow w2.drew.heap.size ya.arr).setRow v3.heap.size yb.arr) ((G4.out.weak (fun _ _ e => e.elim)).trans' x12 (fun i _ e => by rcases e with e | e <;> rw [e] <;> assumption)))
          refine any_store12 (i := 6) (by kernel_rfl) rfl rfl (by rfl) (exec_st rfl rfl st6) s6 ?_
          refine any_store12 (i := 7) (by kernel_rfl) rfl rfl (by rfl) (exec_st rfl rfl st7) s7 ?_
          refine wpAnyH_done (by kernel_rfl) ?_ _
          clear b9 b10 hne hz9 hz10 st6 st7 x1 x2 x12 c10 s6 s7
          go_wp2
          go_meet
          exact ⟨_, _, ya, yb, rfl, rfl, HAB, s8⟩
        · refine oneH_val 4 rfl (by rfl) (exec_alloc_cat _ v2) ?_
          simp only [Act.put, List.setIfInBounds_toArray, List.set_cons_zero, List.set_cons_succ]
          obtain ⟨v3, e3⟩ : ∃ v3, Hid (v3 = v2.alloc (.cells (brA (.slice none 0 0) fun _ => 0) 26)) := ⟨_, Lib.hid rfl⟩
          rw [← e3.out]
          have g3 : Hid (Fr No v2 v3) := Lib.hid (by rw [e3.out]; exact (Fr.refl _ _).alloc _)
          have q5 : Hid (Bk v3 v2.heap.size 26 (brA (.slice none 0 0) fun _ => 0)) := Lib.hid (by rw [e3.out]; exact Bk.made v2 _ _)
          have n3 : Hid (v3.heap.size = v2.heap.size + 1) := Lib.hid (by rw [e3.out]; simp)
          have G3 := Lib.hid (G2.out.trans' g3.out (fun _ _ e => e))
          refine hK.out _ _ (HLdX.out _ (G3.out.weak (fun _ _ e => e.elim))) (fun hHeld => ?_)
          clear hK
          refine wpAnyH_ready (rs := [3]) (by kernel_rfl) (by simp) ?_
          refine AllReadyH.cons rfl (fun K' hK => ?_) AllReadyH.nil
          refine oneH_call 20 (f := 8) (args := #[.agg Z]) rfl (by rfl) (by go_simp) (copR (HC.out v3 (HF0.out.trans' G3.out (fun _ _ e => e)) hok)) ?_
          rintro _ v4 ⟨yb, rfl, hybp, hybc, hybf⟩
          simp only [Act.put, List.setIfInBounds_toArray, List.set_cons_zero, List.set_cons_succ]
          have g4 : Hid (Fr No v3 v4) := Lib.hid hybf
          have n4 : Hid (v3.heap.size ≤ v4.heap.size) := Lib.hid hybf.size
          have Hyb := Lib.hid (And.intro hybp hybc)
          clear hybp hybc hybf
          have G4 := Lib.hid (G3.out.trans' g4.out (fun _ _ e => e))
          refine hK.out _ _ (HLdX.out _ (G4.out.weak (fun _ _ e => e.elim))) (fun hHeld => ?_)
          clear hK
          have b9 := q4.out.fr (((g2.out).trans' g3.out (fun _ _ e => e)).trans' g4.out (fun _ _ e => e)) (fun e => e)
          have b10 := q5.out.fr (g4.out) (fun e => e)
          have hne : ¬ w2.drew.heap.size = v2.heap.size := by have m1 := n1.out; have m2 := n2.out; have m3 := n3.out; have m4 := n4.out; omega
          have hz9 : ¬ w2.drew.heap.size = w.heap.size := by have m0 := Hz0.out; have m1 := n1.out; have m2 := n2.out; have m3 := n3.out; have m4 := n4.out; omega
          have hz10 : ¬ v2.heap.size = w.heap.size := by have m0 := Hz0.out; have m1 := n1.out; have m2 := n2.out; have m3 := n3.out; have m4 := n4.out; omega
          have st6 := st_cat (Z' := ya.arr) rfl (Ctl.arr_eq ya) rfl b9
          have x1 : Fr (Only w2.drew.heap.size) v4 (v4.setRow w2.drew.heap.size ya.arr) := fr_row12 (Fr.refl (Only w2.drew.heap.size) v4) (.inl rfl) _
          have c10 := b10.fr x1 (fun e => hne (show v2.heap.size = w2.drew.heap.size from e).symm)
          have st7 := st_cat (Z' := yb.arr) rfl (Ctl.arr_eq yb) rfl c10
          have x2 : Fr (Only v2.heap.size) (v4.setRow w2.drew.heap.size ya.arr) ((v4.setRow w2.drew.heap.size ya.arr).setRow v2.heap.size yb.arr) := fr_row12 (Fr.refl (Only v2.heap.size) _) (.inl rfl) _
          have x12 : Fr (fun i => i = w2.drew.heap.size ∨ i = v2.heap.size) v4 ((v4.setRow w2.drew.heap.size ya.arr).setRow v2.heap.size yb.arr) := (x1.weak (fun i _ e => .inl e)).trans' x2 (fun i _ e => .inr e)
          have HAB : Hid (AB12 Z w ((v4.setRow w2.drew.heap.size ya.arr).setRow v2.heap.size yb.arr) p w2.drew.heap.size v2.heap.size ya yb) := Lib.hid (by
            refine ⟨Hya.out.1, Hyb.out.1, ?_, ?_, (bk_row12 b9 ya.arr).fr x2 (fun e => hne e), bk_row12 c10 yb.arr, ?_, ?_⟩
            · refine Hya.out.2 _ ((((g3.out).trans' g4.out (fun _ _ e => e)).weak (S' := fun i => i < v1.heap.size) (fun _ _ e => e.elim)).trans' x12 (fun i hi e => ?_))
              show i < v1.heap.size
              have m1 := n1.out; have m2 := n2.out; have m3 := n3.out; have m4 := n4.out; omega
            · refine Hyb.out.2 _ (((Fr.refl No _).weak (S' := fun i => i < v3.heap.size) (fun _ _ e => e.elim)).trans' x12 (fun i hi e => ?_))
              show i < v3.heap.size
              have m1 := n1.out; have m2 := n2.out; have m3 := n3.out; have m4 := n4.out; omega
            · exact ((HF0.out.trans' G4.out (fun _ _ e => e)).weak (fun _ _ e => e)).trans' x12 (fun i hi e => by have m0 := Hz0.out; have m1 := n1.out; have m2 := n2.out; have m3 := n3.out; have m4 := n4.out; omega)
            · exact fun V hV => ⟨HLdX.out V (((G4.out.weak (fun _ _ e => e.elim)).trans' x12 (fun i _ e => by rcases e with e | e <;> rw [e] <;> assumption)).trans' hV (fun _ _ e => e.elim)), ld_cat (Ctl.arr_eq ya) (((bk_row12 b9 ya.arr).fr x2 (fun e => hne e)).fr hV (fun e => e)), ld_cat (Ctl.arr_eq yb) ((bk_row12 c10 yb.arr).fr hV (fun e => e))⟩)
          have s6 := HLdX.out (v4.setRow w2.drew.heap.size ya.arr) ((G4.out.weak (fun _ _ e => e.elim)).trans' x1 (fun i _ e => by have e : i = w2.drew.heap.size := e; rw [e]; exact hz9))
          have s7 := HLdX.out ((v4.setRow w2.drew.heap.size ya.arr).setRow v2.heap.size yb.arr) ((G4.out.weak (fun _ _ e => e.elim)).trans' x12 (fun i _ e => by rcases e with e | e <;> rw [e] <;> assumption))
          have s8 := Lib.hid (HCx.out ((v4.setRow w2.drew.heap.size ya.arr).setRow v2.heap.size yb.arr) ((G4.out.weak (fun _ _ e => e.elim)).trans' x12 (fun i _ e => by rcases e with e | e <;> rw [e] <;> assumption)))
          refine any_store12 (i := 6) (by kernel_rfl) rfl rfl (by rfl) (exec_st rfl rfl st6) s6 ?_
          refine any_store12 (i := 7) (by kernel_rfl) rfl rfl (by rfl) (exec_st rfl rfl st7) s7 ?_
          refine wpAnyH_done (by kernel_rfl) ?_ _
          clear b9 b10 hne hz9 hz10 st6 st7 x1 x2 x12 c10 s6 s7
          go_wp2
          go_meet
          exact ⟨_, _, ya, yb, rfl, rfl, HAB, s8⟩
      · refine oneH_val 4 rfl (by rfl) (exec_alloc_cat _ v1) ?_
        simp only [Act.put, List.setIfInBounds_toArray, List.set_cons_zero, List.set_cons_succ]
        obtain ⟨v2, e2⟩ : ∃ v2, Hid (v2 = v1.alloc (.cells (brA (.slice none 0 0) fun _ => 0) 26)) := ⟨_, Lib.hid rfl⟩
        rw [← e2.out]
        have g2 : Hid (Fr No v1 v2) := Lib.hid (by rw [e2.out]; exact (Fr.refl _ _).alloc _)
        have q5 : Hid (Bk v2 v1.heap.size 26 (brA (.slice none 0 0) fun _ => 0)) := Lib.hid (by rw [e2.out]; exact Bk.made v1 _ _)
        have n2 : Hid (v2.heap.size = v1.heap.size + 1) := Lib.hid (by rw [e2.out]; simp)
        have G2 := Lib.hid (G1.out.trans' g2.out (fun _ _ e => e))
        refine hK.out _ _ (HLdX.out _ (G2.out.weak (fun _ _ e => e.elim))) (fun hHeld => ?_)
        clear hK
        refine wpAnyH_ready (rs := [1]) (by kernel_rfl) (by simp) ?_
        refine AllReadyH.cons rfl (fun K' hK => ?_) AllReadyH.nil
        refine oneH_call 18 (f := 7) (args := #[.agg Z]) rfl (by rfl) (by go_simp) (copR (HO.out v2 (HF0.out.trans' G2.out (fun _ _ e => e)) hok)) ?_
        rintro _ v3 ⟨ya, rfl, hyap, hyac, hyaf⟩
        simp only [Act.put, List.setIfInBounds_toArray, List.set_cons_zero, List.set_cons_succ]
        have g3 : Hid (Fr No v2 v3) := Lib.hid hyaf
        have n3 : Hid (v2.heap.size ≤ v3.heap.size) := Lib.hid hyaf.size
        have Hya := Lib.hid (And.intro hyap hyac)
        clear hyap hyac hyaf
        have G3 := Lib.hid (G2.out.trans' g3.out (fun _ _ e => e))
        refine hK.out _ _ (HLdX.out _ (G3.out.weak (fun _ _ e => e.elim))) (fun hHeld => ?_)
        clear hK
        refine wpAnyH_ready (rs := [3]) (by kernel_rfl) (by simp) ?_
        refine AllReadyH.cons rfl (fun K' hK => ?_) AllReadyH.nil
        refine oneH_call 20 (f := 8) (args := #[.agg Z]) rfl (by rfl) (by go_simp) (copR (HC.out v3 (HF0.out.trans' G3.out (fun _ _ e => e)) hok)) ?_
        rintro _ v4 ⟨yb, rfl, hybp, hybc, hybf⟩
        simp only [Act.put, List.setIfInBounds_toArray, List.set_cons_zero, List.set_cons_succ]
        have g4 : Hid (Fr No v3 v4) := Lib.hid hybf
        have n4 : Hid (v3.heap.size ≤ v4.heap.size) := Lib.hid hybf.size
        have Hyb := Lib.hid (And.intro hybp hybc)
        clear hybp hybc hybf
        have G4 := Lib.hid (G3.out.trans' g4.out (fun _ _ e => e))
        refine hK.out _ _ (HLdX.out _ (G4.out.weak (fun _ _ e => e.elim))) (fun hHeld => ?_)
        clear hK
        have b9 := q4.out.fr (((g2.out).trans' g3.out (fun _ _ e => e)).trans' g4.out (fun _ _ e => e)) (fun e => e)
        have b10 := q5.out.fr ((g3.out).trans' g4.out (fun _ _ e => e)) (fun e => e)
        have hne : ¬ w2.drew.heap.size = v1.heap.size := by have m1 := n1.out; have m2 := n2.out; have m3 := n3.out; have m4 := n4.out; omega
        have hz9 : ¬ w2.drew.heap.size = w.heap.size := by have m0 := Hz0.out; have m1 := n1.out; have m2 := n2.out; have m3 := n3.out; have m4 := n4.out; omega
        have hz10 : ¬ v1.heap.size = w.heap.size := by have m0 := Hz0.out; have m1 := n1.out; have m2 := n2.out; have m3 := n3.out; have m4 := n4.out; omega
        have st6 := st_cat (Z' := ya.arr) rfl (Ctl.arr_eq ya) rfl b9
        have x1 : Fr (Only w2.drew.heap.size) v4 (v4.setRow w2.drew.heap.size ya.arr) := fr_row12 (Fr.refl (Only w2.drew.heap.size) v4) (.inl rfl) _
        have c10 := b10.fr x1 (fun e => hne (show v1.heap.size = w2.drew.heap.size from e).symm)
        have st7 := st_cat (Z' := yb.arr) rfl (Ctl.arr_eq yb) rfl c10
        have x2 : Fr (Only v1.heap.size) (v4.setRow w2.drew.heap.size ya.arr) ((v4.setRow w2.drew.heap.size ya.arr).setRow v1.heap.size yb.arr) := fr_row12 (Fr.refl (Only v1.heap.size) _) (.inl rfl) _
        have x12 : Fr (fun i => i = w2.drew.heap.size ∨ i = v1.heap.size) v4 ((v4.setRow w2.drew.heap.size ya.arr).setRow v1.heap.size yb.arr) := (x1.weak (fun i _ e => .inl e)).trans' x2 (fun i _ e => .inr e)
        have HAB : Hid (AB12 Z w ((v4.setRow w2.drew.heap.size ya.arr).setRow v1.heap.size yb.arr) p w2.drew.heap.size v1.heap.size ya yb) := Lib.hid (by
          refine ⟨Hya.out.1, Hyb.out.1, ?_, ?_, (bk_row12 b9 ya.arr).fr x2 (fun e => hne e), bk_row12 c10 yb.arr, ?_, ?_⟩
          · refine Hya.out.2 _ (((g4.out).weak (S' := fun i => i < v2.heap.size) (fun _ _ e => e.elim)).trans' x12 (fun i hi e => ?_))
            show i < v2.heap.size
            have m1 := n1.out; have m2 := n2.out; have m3 := n3.out; have m4 := n4.out; omega
          · refine Hyb.out.2 _ (((Fr.refl No _).weak (S' := fun i => i < v3.heap.size) (fun _ _ e => e.elim)).trans' x12 (fun i hi e => ?_))
            show i < v3.heap.size
            have m1 := n1.out; have m2 := n2.out; have m3 := n3.out; have m4 := n4.out; omega
          · exact ((HF0.out.trans' G4.out (fun _ _ e => e)).weak (fun _ _ e => e)).trans' x12 (fun i hi e => by have m0 := Hz0.out; have m1 := n1.out; have m2 := n2.out; have m3 := n3.out; have m4 := n4.out; omega)
          · exact fun V hV => ⟨HLdX.out V (((G4.out.weak (fun _ _ e => e.elim)).trans' x12 (fun i _ e => by rcases e with e | e <;> rw [e] <;> assumption)).trans' hV (fun _ _ e => e.elim)), ld_cat (Ctl.arr_eq ya) (((bk_row12 b9 ya.arr).fr x2 (fun e => hne e)).fr hV (fun e => e)), ld_cat (Ctl.arr_eq yb) ((bk_row12 c10 yb.arr).fr hV (fun e => e))⟩)
        have s6 := HLdX.out (v4.setRow w2.drew.heap.size ya.arr) ((G4.out.weak (fun _ _ e => e.elim)).trans' x1 (fun i _ e => by have e : i = w2.drew.heap.size := e; rw [e]; exact hz9))
        have s7 := HLdX.out ((v4.setRow w2.drew.heap.size ya.arr).setRow v1.heap.size yb.arr) ((G4.out.weak (fun _ _ e => e.elim)).trans' x12 (fun i _ e => by rcases e with e | e <;> rw [e] <;> assumption))
        have s8 := Lib.hid (HCx.out ((v4.setRow w2.drew.heap.size ya.arr).setRow v1.heap.size yb.arr) ((G4.out.weak (fun _ _ e => e.elim)).trans' x12 (fun i _ e => by rcases e with e | e <;> rw [e] <;> assumption)))
        refine any_store12 (i := 6) (by kernel_rfl) rfl rfl (by rfl) (exec_st rfl rfl st6) s6 ?_
        refine any_store12 (i := 7) (by kernel_rfl) rfl rfl (by rfl) (exec_st rfl rfl st7) s7 ?_
        refine wpAnyH_done (by kernel_rfl) ?_ _
        clear b9 b10 hne hz9 hz10 st6 st7 x1 x2 x12 c10 s6 s7
        go_wp2
        go_meet
        exact ⟨_, _, ya, yb, rfl, rfl, HAB, s8⟩
    · refine oneH_val 4 rfl (by rfl) (exec_alloc_cat _ w2.drew) ?_
      simp only [Act.put, List.setIfInBounds_toArray, List.set_cons_zero, List.set_cons_succ]
      obtain ⟨v1, e1⟩ : ∃ v1, Hid (v1 = w2.drew.alloc (.cells (brA (.slice none 0 0) fun _ => 0) 26)) := ⟨_, Lib.hid rfl⟩
      rw [← e1.out]
      have g1 : Hid (Fr No w2.drew v1) := Lib.hid (by rw [e1.out]; exact (Fr.refl _ _).alloc _)
      have q5 : Hid (Bk v1 w2.drew.heap.size 26 (brA (.slice none 0 0) fun _ => 0)) := Lib.hid (by rw [e1.out]; exact Bk.made w2.drew _ _)
      have n1 : Hid (v1.heap.size = w2.drew.heap.size + 1) := Lib.hid (by rw [e1.out]; simp)
      have G1 := Lib.hid (G0.out.trans' g1.out (fun _ _ e => e))
      refine hK.out _ _ (HLdX.out _ (G1.out.weak (fun _ _ e => e.elim))) (fun hHeld => ?_)
      clear hK
      refine wpAnyH_ready (rs := [1, 4]) (by kernel_rfl) (by simp) ?_
      refine AllReadyH.cons rfl (fun K' hK => ?_) (AllReadyH.cons rfl (fun K' hK => ?_) AllReadyH.nil)
      · refine oneH_call 18 (f := 7) (args := #[.agg Z]) rfl (by rfl) (by go_simp) (copR (HO.out v1 (HF0.out.trans' G1.out (fun _ _ e => e)) hok)) ?_
        rintro _ v2 ⟨ya, rfl, hyap, hyac, hyaf⟩
        simp only [Act.put, List.setIfInBounds_toArray, List.set_cons_zero, List.set_cons_succ]
        have g2 : Hid (Fr No v1 v2) := Lib.hid hyaf
        have n2 : Hid (v1.heap.size ≤ v2.heap.size) := Lib.hid hyaf.size
        have Hya := Lib.hid (And.intro hyap hyac)
        clear hyap hyac hyaf
        have G2 := Lib.hid (G1.out.trans' g2.out (fun _ _ e => e))
        refine hK.out _ _ (HLdX.out _ (G2.out.weak (fun _ _ e => e.elim))) (fun hHeld => ?_)
        clear hK
        refine wpAnyH_ready (rs := [3, 4]) (by kernel_rfl) (by simp) ?_
        refine AllReadyH.cons rfl (fun K' hK => ?_) (AllReadyH.cons rfl (fun K' hK => ?_) AllReadyH.nil)
        · refine oneH_call 20 (f := 8) (args := #[.agg Z]) rfl (by rfl) (by go_simp) (copR (HC.out v2 (HF0.out.trans' G2.out (fun _ _ e => e)) hok)) ?_
          rintro _ v3 ⟨yb, rfl, hybp, hybc, hybf⟩
          simp only [Act.put, List.setIfInBounds_toArray, List.set_cons_zero, List.set_cons_succ]
          have g3 : Hid (Fr No v2 v3) := Lib.hid hybf
          have n3 : Hid (v2.heap.size ≤ v3.heap.size) := Lib.hid hybf.size
          have Hyb := Lib.hid (And.intro hybp hybc)
          clear hybp hybc hybf
          have G3 := Lib.hid (G2.out.trans' g3.out (fun _ _ e => e))
          refine hK.out _ _ (HLdX.out _ (G3.out.weak (fun _ _ e => e.elim))) (fun hHeld => ?_)
          clear hK
          refine wpAnyH_ready (rs := [4]) (by kernel_rfl) (by simp) ?_
          refine AllReadyH.cons rfl (fun K' hK => ?_) AllReadyH.nil
          refine oneH_val 3 rfl (by rfl) (exec_alloc_cat _ v3) ?_
          simp only [Act.put, List.setIfInBounds_toArray, List.set_cons_zero, List.set_cons_succ]
          obtain ⟨v4, e4⟩ : ∃ v4, Hid (v4 = v3.alloc (.cells (brA (.slice none 0 0) fun _ => 0) 26)) := ⟨_, Lib.hid rfl⟩
          rw [← e4.out]
          have g4 : Hid (Fr No v3 v4) := Lib.hid (by rw [e4.out]; exact (Fr.refl _ _).alloc _)
          have q4 : Hid (Bk v4 v3.heap.size 26 (brA (.slice none 0 0) fun _ => 0)) := Lib.hid (by rw [e4.out]; exact Bk.made v3 _ _)
          have n4 : Hid (v4.heap.size = v3.heap.size + 1) := Lib.hid (by rw [e4.out]; simp)
          have G4 := Lib.hid (G3.out.trans' g4.out (fun _ _ e => e))
          refine hK.out _ _ (HLdX.out _ (G4.out.weak (fun _ _ e => e.elim))) (fun hHeld => ?_)
          clear hK
          have b9 := q4.out.fr (Fr.refl No _) (fun e => e)
          have b10 := q5.out.fr (((g2.out).trans' g3.out (fun _ _ e => e)).trans' g4.out (fun _ _ e => e)) (fun e => e)
          have hne : ¬ v3.heap.size = w2.drew.heap.size := by have m1 := n1.out; have m2 := n2.out; have m3 := n3.out; have m4 := n4.out; omega
          have hz9 : ¬ v3.heap.size = w.heap.size := by have m0 := Hz0.out; have m1 := n1.out; have m2 := n2.out; have m3 := n3.out; have m4 := n4.out; omega
          have hz10 : ¬ w2.drew.heap.size = w.heap.size := by have m0 := Hz0.out; have m1 := n1.out; have m2 := n2.out; have m3 := n3.out; have m4 := n4.out; omega
          have st6 := st_cat (Z' := ya.arr) rfl (Ctl.arr_eq ya) rfl b9
          have x1 : Fr (Only v3.heap.size) v4 (v4.setRow v3.heap.size ya.arr) := fr_row12 (Fr.refl (Only v3.heap.size) v4) (.inl rfl) _
          have c10 := b10.fr x1 (fun e => hne (show w2.drew.heap.size = v3.heap.size from e).symm)
          have st7 := st_cat (Z' := yb.arr) rfl (Ctl.arr_eq yb) rfl c10
          have x2 : Fr (Only w2.drew.heap.size) (v4.setRow v3.heap.size ya.arr) ((v4.setRow v3.heap.size ya.arr).setRow w2.drew.heap.size yb.arr) := fr_row12 (Fr.refl (Only w2.drew.heap.size) _) (.inl rfl) _
          have x12 : Fr (fun i => i = v3.heap.size ∨ i = w2.drew.heap.size) v4 ((v4.setRow v3.heap.size ya.arr).setRow w2.drew.heap.size yb.arr) := (x1.weak (fun i _ e => .inl e)).trans' x2 (fun i _ e => .inr e)
          have HAB : Hid (AB12 Z w ((v4.setRow v3.heap.size ya.arr).setRow w2.drew.heap.size yb.arr) p v3.heap.size w2.drew.heap.size ya yb) := Lib.hid (by
            refine ⟨Hya.out.1, Hyb.out.1, ?_, ?_, (bk_row12 b9 ya.arr).fr x2 (fun e => hne e), bk_row12 c10 yb.arr, ?_, ?_⟩
            · refine Hya.out.2 _ ((((g3.out).trans' g4.out (fun _ _ e => e)).weak (S' := fun i => i < v1.heap.size) (fun _ _ e => e.elim)).trans' x12 (fun i hi e => ?_))
              show i < v1.heap.size
              have m1 := n1.out; have m2 := n2.out; have m3 := n3.out; have m4 := n4.out; omega
            · refine Hyb.out.2 _ (((g4.out).weak (S' := fun i => i < v2.heap.size) (fun _ _ e => e.elim)).trans' x12 (fun i hi e => ?_))
              show i < v2.heap.size
              have m1 := n1.out; have m2 := n2.out; have m3 := n3.out; have m4 := n4.out; omega
            · exact ((HF0.out.trans' G4.out (fun _ _ e => e)).weak (fun _ _ e => e)).trans' x12 (fun i hi e => by have m0 := Hz0.out; have m1 := n1.out; have m2 := n2.out; have m3 := n3.out; have m4 := n4.out; omega)
            · exact fun V hV => ⟨HLdX.out V (((G4.out.weak (fun _ _ e => e.elim)).trans' x12 (fun i _ e => by rcases e with e | e <;> rw [e] <;> assumption)).trans' hV (fun _ _ e => e.elim)), ld_cat (Ctl.arr_eq ya) (((bk_row12 b9 ya.arr).fr x2 (fun e => hne e)).fr hV (fun e => e)), ld_cat (Ctl.arr_eq yb) ((bk_row12 c10 yb.arr).fr hV (fun e => e))⟩)
          have s6 := HLdX.out (v4.setRow v3.heap.size ya.arr) ((G4.out.weak (fun _ _ e => e.elim)).trans' x1 (fun i _ e => by have e : i = v3.heap.size := e; rw [e]; exact hz9))
          have s7 := HLdX.out ((v4.setRow v3.heap.size ya.arr).setRow w2.drew.heap.size yb.arr) ((G4.out.weak (fun _ _ e => e.elim)).trans' x12 (fun i _ e => by rcases e with e | e <;> rw [e] <;> assumption))
          have s8 := Lib.hid (HCx.out ((v4.setRow v3.heap.size ya.arr).setRow w2.drew.heap.size yb.arr) ((G4.out.weak (fun _ _ e => e.elim)).trans' x12 (fun i _ e => by rcases e with e | e <;> rw [e] <;> assumption)))
          refine any_store12 (i := 6) (by kernel_rfl) rfl rfl (by rfl) (exec_st rfl rfl st6) s6 ?_
          refine any_store12 (i := 7) (by kernel_rfl) rfl rfl (by rfl) (exec_st rfl rfl st7) s7 ?_
          refine wpAnyH_done (by kernel_rfl) ?_ _
          clear b9 b10 hne hz9 hz10 st6 st7 x1 x2 x12 c10 s6 s7
          go_wp2
          go_meet
          exact ⟨_, _, ya, yb, rfl, rfl, HAB, s8⟩
        · refine oneH_val 3 rfl (by rfl) (exec_alloc_cat _ v2) ?_
          simp only [Act.put, List.setIfInBounds_toArray, List.set_cons_zero, List.set_cons_succ]
          obtain ⟨v3, e3⟩ : ∃ v3, Hid (v3 = v2.alloc (.cells (brA (.slice none 0 0) fun _ => 0) 26)) := ⟨_, Lib.hid rfl⟩
          rw [← e3.out]
          have g3 : Hid (Fr No v2 v3) := Lib.hid (by rw [e3.out]; exact (Fr.refl _ _).alloc _)
          have q4 : Hid (Bk v3 v2.heap.size 26 (brA (.slice none 0 0) fun _ => 0)) := Lib.hid (by rw [e3.out]; exact Bk.made v2 _ _)
          have n3 : Hid (v3.heap.size = v2.heap.size + 1) := Lib.hid (by rw [e3.out]; simp)
          have G3 := Lib.hid (G2.out.trans' g3.out (fun _ _ e => e))
          refine hK.out _ _ (HLdX.out _ (G3.out.weak (fun _ _ e => e.elim))) (fun hHeld => ?_)
          clear hK
          refine wpAnyH_ready (rs := [3]) (by kernel_rfl) (by simp) ?_
          refine AllReadyH.cons rfl (fun K' hK => ?_) AllReadyH.nil
          refine oneH_call 20 (f := 8) (args := #[.agg Z]) rfl (by rfl) (by go_simp) (copR (HC.out v3 (HF0.out.trans' G3.out (fun _ _ e => e)) hok)) ?_
          rintro _ v4 ⟨yb, rfl, hybp, hybc, hybf⟩
          simp only [Act.put, List.setIfInBounds_toArray, List.set_cons_zero, List.set_cons_succ]
          have g4 : Hid (Fr No v3 v4) := Lib.hid hybf
          have n4 : Hid (v3.heap.size ≤ v4.heap.size) := Lib.hid hybf.size
          have Hyb := Lib.hid (And.intro hybp hybc)
          clear hybp hybc hybf
          have G4 := Lib.hid (G3.out.trans' g4.out (fun _ _ e => e))
          refine hK.out _ _ (HLdX.out _ (G4.out.weak (fun _ _ e => e.elim))) (fun hHeld => ?_)
          clear hK
          have b9 := q4.out.fr (g4.out) (fun e => e)
          have b10 := q5.out.fr (((g2.out).trans' g3.out (fun _ _ e => e)).trans' g4.out (fun _ _ e => e)) (fun e => e)
          have hne : ¬ v2.heap.size = w2.drew.heap.size := by have m1 := n1.out; have m2 := n2.out; have m3 := n3.out; have m4 := n4.out; omega
          have hz9 : ¬ v2.heap.size = w.heap.size := by have m0 := Hz0.out; have m1 := n1.out; have m2 := n2.out; have m3 := n3.out; have m4 := n4.out; omega
          have hz10 : ¬ w2.drew.heap.size = w.heap.size := by have m0 := Hz0.out; have m1 := n1.out; have m2 := n2.out; have m3 := n3.out; have m4 := n4.out; omega
          have st6 := st_cat (Z' := ya.arr) rfl (Ctl.arr_eq ya) rfl b9
          have x1 : Fr (Only v2.heap.size) v4 (v4.setRow v2.heap.size ya.arr) := fr_row12 (Fr.refl (Only v2.heap.size) v4) (.inl rfl) _
          have c10 := b10.fr x1 (fun e => hne (show w2.drew.heap.size = v2.heap.size from e).symm)
          have st7 := st_cat (Z' := yb.arr) rfl (Ctl.arr_eq yb) rfl c10
          have x2 : Fr (Only w2.drew.heap.size) (v4.setRow v2.heap.size ya.arr) ((v4.setRow v2.heap.size ya.arr).setRow w2.drew.heap.size yb.arr) := fr_row12 (Fr.refl (Only w2.drew.heap.size) _) (.inl rfl) _
          have x12 : Fr (fun i => i = v2.heap.size ∨ i = w2.drew.heap.size) v4 ((v4.setRow v2.heap.size ya.arr).setRow w2.drew.heap.size yb.arr) := (x1.weak (fun i _ e => .inl e)).trans' x2 (fun i _ e => .inr e)
          have HAB : Hid (AB12 Z w ((v4.setRow v2.heap.size ya.arr).setRow w2.drew.heap.size yb.arr) p v2.heap.size w2.drew.heap.size ya yb) := Lib.hid (by
            refine ⟨Hya.out.1, Hyb.out.1, ?_, ?_, (bk_row12 b9 ya.arr).fr x2 (fun e => hne e), bk_row12 c10 yb.arr, ?_, ?_⟩
            · refine Hya.out.2 _ ((((g3.out).trans' g4.out (fun _ _ e => e)).weak (S' := fun i => i < v1.heap.size) (fun _ _ e => e.elim)).trans' x12 (fun i hi e => ?_))
              show i < v1.heap.size
              have m1 := n1.out; have m2 := n2.out; have m3 := n3.out; have m4 := n4.out; omega
            · refine Hyb.out.2 _ (((Fr.refl No _).weak (S' := fun i => i < v3.heap.size) (fun _ _ e => e.elim)).trans' x12 (fun i hi e => ?_))
              show i < v3.heap.size
              have m1 := n1.out; have m2 := n2.out; have m3 := n3.out; have m4 := n4.out; omega
            · exact ((HF0.out.trans' G4.out (fun _ _ e => e)).weak (fun _ _ e => e)).trans' x12 (fun i hi e => by have m0 := Hz0.out; have m1 := n1.out; have m2 := n2.out; have m3 := n3.out; have m4 := n4.out; omega)
            · exact fun V hV => ⟨HLdX.out V (((G4.out.weak (fun _ _ e => e.elim)).trans' x12 (fun i _ e => by rcases e with e | e <;> rw [e] <;> assumption)).trans' hV (fun _ _ e => e.elim)), ld_cat (Ctl.arr_eq ya) (((bk_row12 b9 ya.arr).fr x2 (fun e => hne e)).fr hV (fun e => e)), ld_cat (Ctl.arr_eq yb) ((bk_row12 c10 yb.arr).fr hV (fun e => e))⟩)
          have s6 := HLdX.out (v4.setRow v2.heap.size ya.arr) ((G4.out.weak (fun _ _ e => e.elim)).trans' x1 (fun i _ e => by have e : i = v2.heap.size := e; rw [e]; exact hz9))
          have s7 := HLdX.out ((v4.setRow v2.heap.size ya.arr).setRow w2.drew.heap.size yb.arr) ((G4.out.weak (fun _ _ e => e.elim)).trans' x12 (fun i _ e => by rcases e with e | e <;> rw [e] <;> assumption))
          have s8 := Lib.hid (HCx.out ((v4.setRow v2.heap.size ya.arr).setRow w2.drew.heap.size yb.arr) ((G4.out.weak (fun _ _ e => e.elim)).trans' x12 (fun i _ e => by rcases e with e | e <;> rw [e] <;> assumption)))
          refine any_store12 (i := 6) (by kernel_rfl) rfl rfl (by rfl) (exec_st rfl rfl st6) s6 ?_
          refine any_store12 (i := 7) (by kernel_rfl) rfl rfl (by rfl) (exec_st rfl rfl st7) s7 ?_
          refine wpAnyH_done (by kernel_rfl) ?_ _
          clear b9 b10 hne hz9 hz10 st6 st7 x1 x2 x12 c10 s6 s7
          go_wp2
          go_meet
          exact ⟨_, _, ya, yb, rfl, rfl, HAB, s8⟩
      · refine oneH_val 3 rfl (by rfl) (exec_alloc_cat _ v1) ?_
        simp only [Act.put, List.setIfInBounds_toArray, List.set_cons_zero, List.set_cons_succ]
        obtain ⟨v2, e2⟩ : ∃ v2, Hid (v2 = v1.alloc (.cells (brA (.slice none 0 0) fun _ => 0) 26)) := ⟨_, Lib.hid rfl⟩
        rw [← e2.out]
        have g2 : Hid (Fr No v1 v2) := Lib.hid (by rw [e2.out]; exact (Fr.refl _ _).alloc _)
        have q4 : Hid (Bk v2 v1.heap.size 26 (brA (.slice none 0 0) fun _ => 0)) := Lib.hid (by rw [e2.out]; exact Bk.made v1 _ _)
        have n2 : Hid (v2.heap.size = v1.heap.size + 1) := Lib.hid (by rw [e2.out]; simp)
        have G2 := Lib.hid (G1.out.trans' g2.out (fun _ _ e => e))
        refine hK.out _ _ (HLdX.out _ (G2.out.weak (fun _ _ e => e.elim))) (fun hHeld => ?_)
        clear hK
        refine wpAnyH_ready (rs := [1]) (by kernel_rfl) (by simp) ?_
        refine AllReadyH.cons rfl (fun K' hK => ?_) AllReadyH.nil
        refine oneH_call 18 (f := 7) (args := #[.agg Z]) rfl (by rfl) (by go_simp) (copR (HO.out v2 (HF0.out.trans' G2.out (fun _ _ e => e)) hok)) ?_
        rintro _ v3 ⟨ya, rfl, hyap, hyac, hyaf⟩
        simp only [Act.put, List.setIfInBounds_toArray, List.set_cons_zero, List.set_cons_succ]
        have g3 : Hid (Fr No v2 v3) := Lib.hid hyaf
        have n3 : Hid (v2.heap.size ≤ v3.heap.size) := Lib.hid hyaf.size
        have Hya := Lib.hid (And.intro hyap hyac)
        clear hyap hyac hyaf
        have G3 := Lib.hid (G2.out.trans' g3.out (fun _ _ e => e))
        refine hK.out _ _ (HLdX.out _ (G3.out.weak (fun _ _ e => e.elim))) (fun hHeld => ?_)
        clear hK
        refine wpAnyH_ready (rs := [3]) (by kernel_rfl) (by simp) ?_
        refine AllReadyH.cons rfl (fun K' hK => ?_) AllReadyH.nil
        refine oneH_call 20 (f := 8) (args := #[.agg Z]) rfl (by rfl) (by go_simp) (copR (HC.out v3 (HF0.out.trans' G3.out (fun _ _ e => e)) hok)) ?_
        rintro _ v4 ⟨yb, rfl, hybp, hybc, hybf⟩
        simp only [Act.put, List.setIfInBounds_toArray, List.set_cons_zero, List.set_cons_succ]
        have g4 : Hid (Fr No v3 v4) := Lib.hid hybf
        have n4 : Hid (v3.heap.size ≤ v4.heap.size) := Lib.hid hybf.size
        have Hyb := Lib.hid (And.intro hybp hybc)
        clear hybp hybc hybf
        have G4 := Lib.hid (G3.out.trans' g4.out (fun _ _ e => e))
        refine hK.out _ _ (HLdX.out _ (G4.out.weak (fun _ _ e => e.elim))) (fun hHeld => ?_)
        clear hK
        have b9 := q4.out.fr ((g3.out).trans' g4.out (fun _ _ e => e)) (fun e => e)
        have b10 := q5.out.fr (((g2.out).trans' g3.out (fun _ _ e => e)).trans' g4.out (fun _ _ e => e)) (fun e => e)
        have hne : ¬ v1.heap.size = w2.drew.heap.size := by have m1 := n1.out; have m2 := n2.out; have m3 := n3.out; have m4 := n4.out; omega
        have hz9 : ¬ v1.heap.size = w.heap.size := by have m0 := Hz0.out; have m1 := n1.out; have m2 := n2.out; have m3 := n3.out; have m4 := n4.out; omega
        have hz10 : ¬ w2.drew.heap.size = w.heap.size := by have m0 := Hz0.out; have m1 := n1.out; have m2 := n2.out; have m3 := n3.out; have m4 := n4.out; omega
        have st6 := st_cat (Z' := ya.arr) rfl (Ctl.arr_eq ya) rfl b9
        have x1 : Fr (Only v1.heap.size) v4 (v4.setRow v1.heap.size ya.arr) := fr_row12 (Fr.refl (Only v1.heap.size) v4) (.inl rfl) _
        have c10 := b10.fr x1 (fun e => hne (show w2.drew.heap.size = v1.heap.size from e).symm)
        have st7 := st_cat (Z' := yb.arr) rfl (Ctl.arr_eq yb) rfl c10
        have x2 : Fr (Only w2.drew.heap.size) (v4.setRow v1.heap.size ya.arr) ((v4.setRow v1.heap.size ya.arr).setRow w2.drew.heap.size yb.arr) := fr_row12 (Fr.refl (Only w2.drew.heap.size) _) (.inl rfl) _
        have x12 : Fr (fun i => i = v1.heap.size ∨ i = w2.drew.heap.size) v4 ((v4.setRow v1.heap.size ya.arr).setRow w2.drew.heap.size yb.arr) := (x1.weak (fun i _ e => .inl e)).trans' x2 (fun i _ e => .inr e)
        have HAB : Hid (AB12 Z w ((v4.setRow v1.heap.size ya.arr).setRow w2.drew.heap.size yb.arr) p v1.heap.size w2.drew.heap.size ya yb) := Lib.hid (by
          refine ⟨Hya.out.1, Hyb.out.1, ?_, ?_, (bk_row12 b9 ya.arr).fr x2 (fun e => hne e), bk_row12 c10 yb.arr, ?_, ?_⟩
          · refine Hya.out.2 _ (((g4.out).weak (S' := fun i => i < v2.heap.size) (fun _ _ e => e.elim)).trans' x12 (fun i hi e => ?_))
            show i < v2.heap.size
            have m1 := n1.out; have m2 := n2.out; have m3 := n3.out; have m4 := n4.out; omega
          · refine Hyb.out.2 _ (((Fr.refl No _).weak (S' := fun i => i < v3.heap.size) (fun _ _ e => e.elim)).trans' x12 (fun i hi e => ?_))
            show i < v3.heap.size
            have m1 := n1.out; have m2 := n2.out; have m3 := n3.out; have m4 := n4.out; omega
          · exact ((HF0.out.trans' G4.out (fun _ _ e => e)).weak (fun _ _ e => e)).trans' x12 (fun i hi e => by have m0 := Hz0.out; have m1 := n1.out; have m2 := n2.out; have m3 := n3.out; have m4 := n4.out; omega)
          · exact fun V hV => ⟨HLdX.out V (((G4.out.weak (fun _ _ e => e.elim)).trans' x12 (fun i _ e => by rcases e with e | e <;> rw [e] <;> assumption)).trans' hV (fun _ _ e => e.elim)), ld_cat (Ctl.arr_eq ya) (((bk_row12 b9 ya.arr).fr x2 (fun e => hne e)).fr hV (fun e => e)), ld_cat (Ctl.arr_eq yb) ((bk_row12 c10 yb.arr).fr hV (fun e => e))⟩)
        have s6 := HLdX.out (v4.setRow v1.heap.size ya.arr) ((G4.out.weak (fun _ _ e => e.elim)).trans' x1 (fun i _ e => by have e : i = v1.heap.size := e; rw [e]; exact hz9))
        have s7 := HLdX.out ((v4.setRow v1.heap.size ya.arr).setRow w2.drew.heap.size yb.arr) ((G4.out.weak (fun _ _ e => e.elim)).trans' x12 (fun i _ e => by rcases e with e | e <;> rw [e] <;> assumption))
        have s8 := Lib.hid (HCx.out ((v4.setRow v1.heap.size ya.arr).setRow w2.drew.heap.size yb.arr) ((G4.out.weak (fun _ _ e => e.elim)).trans' x12 (fun i _ e => by rcases e with e | e <;> rw [e] <;> assumption)))
        refine any_store12 (i := 6) (by kernel_rfl) rfl rfl (by rfl) (exec_st rfl rfl st6) s6 ?_
        refine any_store12 (i := 7) (by kernel_rfl) rfl rfl (by rfl) (exec_st rfl rfl st7) s7 ?_
        refine wpAnyH_done (by kernel_rfl) ?_ _
        clear b9 b10 hne hz9 hz10 st6 st7 x1 x2 x12 c10 s6 s7
        go_wp2
        go_meet
        exact ⟨_, _, ya, yb, rfl, rfl, HAB, s8⟩
  case rest =>
    obtain ⟨P9, P10, a, b, rfl, rfl, hAB, hcl⟩ := hcut
    have hab := hAB.out
    have Hoka : Hid (a.p.ok = true) := Lib.hid (by rw [hab.ap]; exact opened_ok hok)
    have Hokb : Hid (b.p.ok = true) := Lib.hid (by rw [hab.bp]; exact closed_ok hok)
    have HBra := Lib.hid (fun W (h : Fr No wc W) (c d i : Nat) => break_any a c d i W (hab.ac.since h) (nice_of_ok Hoka.out).few)
    have HBrb := Lib.hid (fun W (h : Fr No wc W) (c d i : Nat) => break_any b c d i W (hab.bc.since h) (nice_of_ok Hokb.out).few)
    have HMa := Lib.hid (fun W (h : Fr No wc W) => may12_any a W (hab.ac.since h) (nice_of_ok Hoka.out))
    have HMb := Lib.hid (fun W (h : Fr No wc W) => may12_any b W (hab.bc.since h) (nice_of_ok Hokb.out))
    have HBsa := Lib.hid (fun W (h : Fr No wc W) => breaks_any a W (hab.ac.since h) (nice_of_ok Hoka.out).few)
    have HBsb := Lib.hid (fun W (h : Fr No wc W) => breaks_any b W (hab.bc.since h) (nice_of_ok Hokb.out).few)
    rw [Hoka.out] at HMa
    rw [Hokb.out] at HMb
    rw [hab.ap] at HBra HBsa
    rw [hab.bp] at HBrb HBsb
    simp only [closed_brk] at HBrb
    rw [closed_brks] at HBsb
    have HFw := Lib.hid hab.fr
    have HLd3 := Lib.hid hab.ld
    have HBx := Lib.hid (fun W (h : Fr No wc W) (c d i : Nat) (hc : c < n) (hd : d < n) (hi : i ≤ 1000) => HBr.out W (HFw.out.trans' h (fun _ _ e => e)) hok c d i hc hd hi)
    have HBsx := Lib.hid (fun W (h : Fr No wc W) => HBs.out W (HFw.out.trans' h (fun _ _ e => e)) hok)
    have HXw := Lib.hid (fun W (h : Fr No wc W) => HX.out W (HFw.out.trans' h (fun _ _ e => e)))
    have hn4 := Hn4.out hok
    obtain ⟨ea, hea⟩ : ∃ v, v = a.agg := ⟨_, rfl⟩
    obtain ⟨eb, heb⟩ : ∃ v, v = b.agg := ⟨_, rfl⟩
    rw [← hea] at HBra HBsa HMa HLd3
    rw [← heb] at HBrb HBsb HMb HLd3
    have HAll : Hid (p.brks = upTo p n n 0 0 ∧ p.opened.brks = upTo p.opened n n 0 0) := Lib.hid (by rw [← E1.out]; exact ⟨rfl, rfl⟩)
    have x0 := hcl.out
    have HB4 := Lib.hid (fun V (h : Fr No wc V) => show V.cell? ⟨w.heap.size, 0, none⟩ = some (.slice cA n cc) from (World.cell?_of_block (h.block _ (World.block_lt_of_cell? wc _ hcl.out) (fun e => e))).trans hcl.out)
    clear hea heb hab hAB HM HO HC HBr HBs F1 F2 HF0 HLdX Hal HX HCx Hn4 hcl
    go_wp2
    clear x0
    go_loopw [5, 6, 8] (fun av sv iv wr => ∃ c ka ks : Nat, c ≤ n ∧ iv = .int .i64 (c : Int) ∧ av = .int .i64 (ka : Int) ∧ sv = .int .i64 (ks : Int) ∧ Hid (ka = upTo p.opened n c 0 0 ∧ ks = upTo p n c 0 0) ∧ ka ≤ 100 ∧ ks ≤ 100 ∧ Hid (Fr No wc wr)) (fun _ _ i _ => n - (intOf i).toNat)
    case atStart => exact ⟨0, 0, 0, by omega, rfl, rfl, rfl, Lib.hid ⟨rfl, rfl⟩, by omega, by omega, Lib.hid (Fr.refl _ _)⟩
    case round =>
      obtain ⟨c, ka, ks, hc, rfl, rfl, rfl, hk, hka, hks, hfr⟩ := hrel
      by_cases hlt : c < n
      · have hdc : decide ((c : Int) < (n : Int)) = true := decide_eq_true (by omega)
        have hc4 : c < 4 := by omega
        go_wp2
        go_loopw [5, 6, 9] (fun av sv iv wr => ∃ d ka ks : Nat, d ≤ n ∧ iv = .int .i64 (d : Int) ∧ av = .int .i64 (ka : Int) ∧ sv = .int .i64 (ks : Int) ∧ Hid (ka = upTo p.opened n c d 0 ∧ ks = upTo p n c d 0) ∧ ka ≤ 100 ∧ ks ≤ 100 ∧ Hid (Fr No wc wr)) (fun _ _ i _ => n - (intOf i).toNat)
        case atStart => exact ⟨0, ka, ks, by omega, rfl, rfl, rfl, hk, hka, hks, hfr⟩
        case round =>
          clear hk hka hks hfr
          obtain ⟨d, ka, ks, hd, rfl, rfl, rfl, hk, hka, hks, hfr⟩ := hrel
          by_cases hld : d < n
          · have hdd : decide ((d : Int) < (n : Int)) = true := decide_eq_true (by omega)
            go_wp2
            go_loopw [5, 6, 10] (fun av sv iv wr => ∃ i ka ks : Nat, i ≤ 4 ∧ iv = .int .i64 (i : Int) ∧ av = .int .i64 (ka : Int) ∧ sv = .int .i64 (ks : Int) ∧ Hid (ka = upTo p.opened n c d i ∧ ks = upTo p n c d i) ∧ ka ≤ 100 ∧ ks ≤ 100 ∧ Hid (Fr No wc wr)) (fun _ _ i _ => 4 - (intOf i).toNat)
            case atStart => exact ⟨0, ka, ks, by omega, rfl, rfl, rfl, hk, hka, hks, hfr⟩
            case round =>
              clear hk hka hks hfr
              obtain ⟨i, ka, ks, hi, rfl, rfl, rfl, hk, hka, hks, hfr⟩ := hrel
              by_cases hli : i < 4
              · have hdi : decide ((i : Int) < 4) = true := decide_eq_true (by omega)
                have hcl : c < cls.length := by rw [← Hn.out]; exact hlt
                obtain ⟨ad, rfl, hab, -, -, c2, -, -⟩ := (HXw.out _ hfr.out).sl.cls (k := c) hcl
                have x0 := HB4.out _ hfr.out
                have HL1 := Lib.hid (HLd3.out _ hfr.out)
                have HA1 := Lib.hid (HBra.out _ hfr.out c d i)
                obtain ⟨is, his⟩ : ∃ b, Hid (p.opened.brk c d i = b) := ⟨_, Lib.hid rfl⟩
                obtain ⟨bs, hbs⟩ : ∃ b, Hid (p.brk c d i = b) := ⟨_, Lib.hid rfl⟩
                have Hbx : Hid ((decide (i + 1 < (p.at c).steps.length) && bitB (p.b (c * 4 + d)) i) = bs) := Lib.hid (by rw [← hbs.out]; exact HBrE.out hok c d i (by rw [← Hn.out]; exact hlt) (by rw [← Hn.out]; exact hld))
                rw [his.out] at HA1
                have Hnx : Hid ((ka + if is = true then 1 else 0) = upTo p.opened n c d (i + 1) ∧ (ks + if bs = true then 1 else 0) = upTo p n c d (i + 1)) := Lib.hid (by
                  rw [upTo_bit, upTo_bit, his.out, hbs.out, hk.out.1, hk.out.2]
                  exact ⟨rfl, rfl⟩)
                have hsm := upTo_small p.opened hn4 (show c ≤ 4 by omega) (show d ≤ 4 by omega) (show i + 1 ≤ 4 by omega)
                have hsm2 := upTo_small p hn4 (show c ≤ 4 by omega) (show d ≤ 4 by omega) (show i + 1 ≤ 4 by omega)
                rw [← Hnx.out.1] at hsm
                rw [← Hnx.out.2] at hsm2
                have hisd : is = decide (i + 1 < cls[c].steps.length) := by
                  rw [← his.out, HOpE.out hok c d i (by rw [← Hn.out]; exact hlt) (by rw [← Hn.out]; exact hld)]
                  exact decide_eq_decide.2 (by rw [Hst.out c hcl])
                generalize cls[c].steps.length = L at *
                generalize cls[c].sA = sA at *
                generalize cls[c].sc = sc at *
                clear hk hcl his hbs
                cases is
                · have hL : ¬ i + 1 < L := of_decide_eq_false hisd.symm
                  have hLd : decide (((i : Nat) : Int) + 1 < (L : Int)) = false := decide_eq_false (by omega)
                  clear hisd
                  simp only [Bool.false_eq_true, if_false, Nat.add_zero] at hsm Hnx
                  cases bs
                  · simp only [Bool.false_eq_true, if_false, Nat.add_zero] at hsm2 Hnx
                    go_wp2_with (first
                      | ((with_reducible refine wpl_ld ?_ ?_ HL1.out.2.1 ?_); (· rfl); (· rfl); simp only [Act.put, List.setIfInBounds_toArray, List.set_cons_zero, List.set_cons_succ]))
                    refine (HA1.out).mono ?_
                    rintro e w3 ⟨rfl, f3⟩
                    have F3 := Lib.hid (hfr.out.trans' f3 (fun _ _ e => e))
                    have HL3 := Lib.hid (HLd3.out _ F3.out)
                    have HB3 := Lib.hid (HBrb.out _ F3.out c d i)
                    clear f3 HA1
                    go_wp2_with (first
                      | ((with_reducible refine wpl_ldg ?_ ?_ HL3.out.2.2 ?_); (· rfl); (· rfl); simp only [Act.put, List.setIfInBounds_toArray, List.set_cons_zero, List.set_cons_succ]))
                    refine (HB3.out).mono ?_
                    rintro e w4 ⟨rfl, f4⟩
                    have F4 := Lib.hid (F3.out.trans' f4 (fun _ _ e => e))
                    have HL4 := Lib.hid (HLd3.out _ F4.out)
                    have HX4 := Lib.hid (HBx.out _ F4.out c d i hlt hld (by omega))
                    rw [Hbx.out] at HX4
                    clear f4 HB3 HL3 F3
                    go_wp2_with (first
                      | ((with_reducible refine wpl_ld ?_ ?_ HL4.out.1 ?_); (· rfl); (· rfl); simp only [Act.put, List.setIfInBounds_toArray, List.set_cons_zero, List.set_cons_succ]))
                    refine (HX4.out).mono ?_
                    rintro e w5 ⟨rfl, f5⟩
                    have F5 := Lib.hid (F4.out.trans' f5 (fun _ _ e => e))
                    clear f5 HX4 HL4 F4
                    go_wp2
                    go_roundw
                    case rel => exact ⟨i + 1, ka, ks, by omega, by go_num, by go_num, by go_num, Hnx, by omega, by omega, F5⟩
                    case measure => simp [intOf]; omega
                  · simp only [if_true] at hsm2 Hnx
                    go_wp2_with (first
                      | ((with_reducible refine wpl_ld ?_ ?_ HL1.out.2.1 ?_); (· rfl); (· rfl); simp only [Act.put, List.setIfInBounds_toArray, List.set_cons_zero, List.set_cons_succ]))
                    refine (HA1.out).mono ?_
                    rintro e w3 ⟨rfl, f3⟩
                    have F3 := Lib.hid (hfr.out.trans' f3 (fun _ _ e => e))
                    have HL3 := Lib.hid (HLd3.out _ F3.out)
                    have HB3 := Lib.hid (HBrb.out _ F3.out c d i)
                    clear f3 HA1
                    go_wp2_with (first
                      | ((with_reducible refine wpl_ldg ?_ ?_ HL3.out.2.2 ?_); (· rfl); (· rfl); simp only [Act.put, List.setIfInBounds_toArray, List.set_cons_zero, List.set_cons_succ]))
                    refine (HB3.out).mono ?_
                    rintro e w4 ⟨rfl, f4⟩
                    have F4 := Lib.hid (F3.out.trans' f4 (fun _ _ e => e))
                    have HL4 := Lib.hid (HLd3.out _ F4.out)
                    have HX4 := Lib.hid (HBx.out _ F4.out c d i hlt hld (by omega))
                    rw [Hbx.out] at HX4
                    clear f4 HB3 HL3 F3
                    go_wp2_with (first
                      | ((with_reducible refine wpl_ld ?_ ?_ HL4.out.1 ?_); (· rfl); (· rfl); simp only [Act.put, List.setIfInBounds_toArray, List.set_cons_zero, List.set_cons_succ]))
                    refine (HX4.out).mono ?_
                    rintro e w5 ⟨rfl, f5⟩
                    have F5 := Lib.hid (F4.out.trans' f5 (fun _ _ e => e))
                    clear f5 HX4 HL4 F4
                    go_wp2
                    go_roundw
                    case rel => exact ⟨i + 1, ka, ks + 1, by omega, by go_num, by go_num, by go_num, Hnx, by omega, by omega, F5⟩
                    case measure => simp [intOf]; omega
                · have hL : i + 1 < L := of_decide_eq_true hisd.symm
                  have hLd : decide (((i : Nat) : Int) + 1 < (L : Int)) = true := decide_eq_true (by omega)
                  clear hisd
                  simp only [if_true] at hsm Hnx
                  cases bs
                  · simp only [Bool.false_eq_true, if_false, Nat.add_zero] at hsm2 Hnx
                    go_wp2_with (first
                      | ((with_reducible refine wpl_ld ?_ ?_ HL1.out.2.1 ?_); (· rfl); (· rfl); simp only [Act.put, List.setIfInBounds_toArray, List.set_cons_zero, List.set_cons_succ]))
                    refine (HA1.out).mono ?_
                    rintro e w3 ⟨rfl, f3⟩
                    have F3 := Lib.hid (hfr.out.trans' f3 (fun _ _ e => e))
                    have HL3 := Lib.hid (HLd3.out _ F3.out)
                    have HB3 := Lib.hid (HBrb.out _ F3.out c d i)
                    clear f3 HA1
                    go_wp2_with (first
                      | ((with_reducible refine wpl_ldg ?_ ?_ HL3.out.2.2 ?_); (· rfl); (· rfl); simp only [Act.put, List.setIfInBounds_toArray, List.set_cons_zero, List.set_cons_succ]))
                    refine (HB3.out).mono ?_
                    rintro e w4 ⟨rfl, f4⟩
                    have F4 := Lib.hid (F3.out.trans' f4 (fun _ _ e => e))
                    have HL4 := Lib.hid (HLd3.out _ F4.out)
                    have HX4 := Lib.hid (HBx.out _ F4.out c d i hlt hld (by omega))
                    rw [Hbx.out] at HX4
                    clear f4 HB3 HL3 F3
                    go_wp2_with (first
                      | ((with_reducible refine wpl_ld ?_ ?_ HL4.out.1 ?_); (· rfl); (· rfl); simp only [Act.put, List.setIfInBounds_toArray, List.set_cons_zero, List.set_cons_succ]))
                    refine (HX4.out).mono ?_
                    rintro e w5 ⟨rfl, f5⟩
                    have F5 := Lib.hid (F4.out.trans' f5 (fun _ _ e => e))
                    clear f5 HX4 HL4 F4
                    go_wp2
                    go_roundw
                    case rel => exact ⟨i + 1, ka + 1, ks, by omega, by go_num, by go_num, by go_num, Hnx, by omega, by omega, F5⟩
                    case measure => simp [intOf]; omega
                  · simp only [if_true] at hsm2 Hnx
                    go_wp2_with (first
                      | ((with_reducible refine wpl_ld ?_ ?_ HL1.out.2.1 ?_); (· rfl); (· rfl); simp only [Act.put, List.setIfInBounds_toArray, List.set_cons_zero, List.set_cons_succ]))
                    refine (HA1.out).mono ?_
                    rintro e w3 ⟨rfl, f3⟩
                    have F3 := Lib.hid (hfr.out.trans' f3 (fun _ _ e => e))
                    have HL3 := Lib.hid (HLd3.out _ F3.out)
                    have HB3 := Lib.hid (HBrb.out _ F3.out c d i)
                    clear f3 HA1
                    go_wp2_with (first
                      | ((with_reducible refine wpl_ldg ?_ ?_ HL3.out.2.2 ?_); (· rfl); (· rfl); simp only [Act.put, List.setIfInBounds_toArray, List.set_cons_zero, List.set_cons_succ]))
                    refine (HB3.out).mono ?_
                    rintro e w4 ⟨rfl, f4⟩
                    have F4 := Lib.hid (F3.out.trans' f4 (fun _ _ e => e))
                    have HL4 := Lib.hid (HLd3.out _ F4.out)
                    have HX4 := Lib.hid (HBx.out _ F4.out c d i hlt hld (by omega))
                    rw [Hbx.out] at HX4
                    clear f4 HB3 HL3 F3
                    go_wp2_with (first
                      | ((with_reducible refine wpl_ld ?_ ?_ HL4.out.1 ?_); (· rfl); (· rfl); simp only [Act.put, List.setIfInBounds_toArray, List.set_cons_zero, List.set_cons_succ]))
                    refine (HX4.out).mono ?_
                    rintro e w5 ⟨rfl, f5⟩
                    have F5 := Lib.hid (F4.out.trans' f5 (fun _ _ e => e))
                    clear f5 HX4 HL4 F4
                    go_wp2
                    go_roundw
                    case rel => exact ⟨i + 1, ka + 1, ks + 1, by omega, by go_num, by go_num, by go_num, Hnx, by omega, by omega, F5⟩
                    case measure => simp [intOf]; omega
              · obtain rfl : i = 4 := by omega
                have Hnx : Hid (ka = upTo p.opened n c (d + 1) 0 ∧ ks = upTo p n c (d + 1) 0) := Lib.hid (by rw [upTo_col, upTo_col]; exact hk.out)
                clear hk
                go_wp2
                go_roundw
                case rel => exact ⟨d + 1, ka, ks, by omega, by go_num, rfl, rfl, Hnx, hka, hks, hfr⟩
                case measure => simp [intOf]; omega
          · obtain rfl : d = n := by omega
            have Hnx : Hid (ka = upTo p.opened d (c + 1) 0 0 ∧ ks = upTo p d (c + 1) 0 0) := Lib.hid (by rw [upTo_row, upTo_row]; exact hk.out)
            clear hk
            go_wp2
            go_roundw
            case rel => exact ⟨c + 1, ka, ks, by omega, by go_num, rfl, rfl, Hnx, hka, hks, hfr⟩
            case measure => simp [intOf]; omega
      · obtain rfl : c = n := by omega
        have eka : ka = p.opened.brks := by rw [hk.out.1, ← HAll.out.2]
        have eks : ks = p.brks := by rw [hk.out.2, ← HAll.out.1]
        rw [← eka] at HBsa
        rw [← eks] at HBsx
        have HL1 := Lib.hid (HLd3.out _ hfr.out)
        have HMa1 := Lib.hid (HMa.out _ hfr.out)
        clear hk eka eks HAll HBx HBra HBrb HBrE HOpE Hst HXw HB4
        go_wp2_with (first
          | ((with_reducible refine wpl_ld ?_ ?_ HL1.out.2.1 ?_); (· rfl); (· rfl); simp only [Act.put, List.setIfInBounds_toArray, List.set_cons_zero, List.set_cons_succ]))
        refine (HMa1.out).mono ?_
        rintro e w3 ⟨rfl, f3⟩
        have F3 := Lib.hid (hfr.out.trans' f3 (fun _ _ e => e))
        have HL3 := Lib.hid (HLd3.out _ F3.out)
        have HMb3 := Lib.hid (HMb.out _ F3.out)
        clear f3 HMa1
        go_wp2_with (first
          | ((with_reducible refine wpl_ldg ?_ ?_ HL3.out.2.2 ?_); (· rfl); (· rfl); simp only [Act.put, List.setIfInBounds_toArray, List.set_cons_zero, List.set_cons_succ]))
        refine (HMb3.out).mono ?_
        rintro e w4 ⟨rfl, f4⟩
        have F4 := Lib.hid (F3.out.trans' f4 (fun _ _ e => e))
        have HL4 := Lib.hid (HLd3.out _ F4.out)
        have HBa4 := Lib.hid (HBsa.out _ F4.out)
        clear f4 HMb3
        go_wp2_with (first
          | ((with_reducible refine wpl_ldg ?_ ?_ HL4.out.2.1 ?_); (· rfl); (· rfl); simp only [Act.put, List.setIfInBounds_toArray, List.set_cons_zero, List.set_cons_succ]))
        refine (HBa4.out).mono ?_
        rintro e w5 ⟨rfl, f5⟩
        have F5 := Lib.hid (F4.out.trans' f5 (fun _ _ e => e))
        have HL5 := Lib.hid (HLd3.out _ F5.out)
        have HBb5 := Lib.hid (HBsb.out _ F5.out)
        clear f5 HBa4
        go_wp2_with (first
          | ((with_reducible refine wpl_ldg ?_ ?_ HL5.out.2.2 ?_); (· rfl); (· rfl); simp only [Act.put, List.setIfInBounds_toArray, List.set_cons_zero, List.set_cons_succ]))
        refine (HBb5.out).mono ?_
        rintro e w6 ⟨rfl, f6⟩
        have F6 := Lib.hid (F5.out.trans' f6 (fun _ _ e => e))
        have HL6 := Lib.hid (HLd3.out _ F6.out)
        have HBx6 := Lib.hid (HBsx.out _ F6.out)
        clear f6 HBb5
        go_wp2_with (first
          | ((with_reducible refine wpl_ldg ?_ ?_ HL6.out.1 ?_); (· rfl); (· rfl); simp only [Act.put, List.setIfInBounds_toArray, List.set_cons_zero, List.set_cons_succ]))
        refine (HBx6.out).mono ?_
        rintro e w7 ⟨rfl, f7⟩
        have F7 := Lib.hid (F6.out.trans' f7 (fun _ _ e => e))
        clear f7 HBx6
        go_wp2
        go_ret
        exact ⟨rfl, HFw.out.trans' F7.out (fun _ _ e => e)⟩
end Go.Proofs.Ytbemfomiiikpoaa
