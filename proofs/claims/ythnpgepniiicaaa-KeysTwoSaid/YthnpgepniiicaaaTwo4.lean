/- The law 'KeysTwo'. -/
import Derived.Test.YthnpgepniiicaaaLaw4
namespace Go.Proofs.Ythnpgepniiicaaa
open Go.RowKit

theorem Bk.flagPut {w : World} {g : Nat} {t : TypeId} {A : Nat → Bool} {j : Nat} (h : Bk w g t (flags 1000 (upToF A j))) (b : Bool) (hb : A j = b) : Bk (w.setCell ⟨g, j, none⟩ (.bool b)) g t (flags 1000 (upToF A (j + 1))) := by
  have := h.put j (.bool b)
  rw [flags_put, ← hb] at this
  rw [flags_congr 1000 _ (upd (upToF A j) j (A j)) (fun k _ => (stepf A j k).symm)]
  rw [hb] at this ⊢
  exact this

theorem two_round {wr : World} {gx gy gu gb gl j : Nat} {a b : List Span} (hx : Bk wr gx 37 (flags 1000 (keysOf a))) (hy : Bk wr gy 37 (flags 1000 (keysOf b)))
    (hu : Bk wr gu 37 (flags 1000 (upToF (fun k => keysOf a k || keysOf b k) j))) (hb : Bk wr gb 37 (flags 1000 (upToF (fun k => keysOf a k && keysOf b k) j))) (hl : Bk wr gl 37 (flags 1000 (upToF (fun k => keysOf a k && !keysOf b k) j)))
    (n1 : gx ≠ gu) (n2 : gx ≠ gb) (n3 : gx ≠ gl) (n4 : gy ≠ gu) (n5 : gy ≠ gb) (n6 : gy ≠ gl) (n7 : gu ≠ gb) (n8 : gu ≠ gl) (n9 : gb ≠ gl) (xa yb : Bool) (hxa : keysOf a j = xa) (hyb : keysOf b j = yb) (W : World)
    (hW : W = ((wr.setCell ⟨gu, j, none⟩ (.bool (xa || yb))).setCell ⟨gb, j, none⟩ (.bool (xa && yb))).setCell ⟨gl, j, none⟩ (.bool (xa && !yb))) :
    Bk W gx 37 (flags 1000 (keysOf a)) ∧ Bk W gy 37 (flags 1000 (keysOf b)) ∧ Bk W gu 37 (flags 1000 (upToF (fun k => keysOf a k || keysOf b k) (j + 1))) ∧ Bk W gb 37 (flags 1000 (upToF (fun k => keysOf a k && keysOf b k) (j + 1))) ∧ Bk W gl 37 (flags 1000 (upToF (fun k => keysOf a k && !keysOf b k) (j + 1))) := by
  subst hW
  exact ⟨((hx.setCell_other n1 _).setCell_other n2 _).setCell_other n3 _, ((hy.setCell_other n4 _).setCell_other n5 _).setCell_other n6 _,
    ((hu.flagPut _ (by rw [hxa, hyb])).setCell_other n7 _).setCell_other n8 _, ((hb.setCell_other n7.symm _).flagPut _ (by rw [hxa, hyb])).setCell_other n9 _, ((hl.setCell_other n8.symm _).setCell_other n9.symm _).flagPut _ (by rw [hxa, hyb])⟩

set_option maxRecDepth 100000 in
set_option maxHeartbeats 8000000 in
theorem two_any (a b : List Span) (A B : Option Addr) (n m c1 c2 : Nat) (w : World) (hA : Sl w w.heap.size A (sps a)) (hB : Sl w w.heap.size B (sps b)) (hn : a.length = n) (hm : b.length = m) (hnl : n ≤ 9223372036854775807) (hml : m ≤ 9223372036854775807) :
    Calls Try.prog 4 #[.slice A n c1, .slice B m c2] w fun e w' => e = .returned (.bool true) ∧ Fr No w w' := by
  by_cases h1 : 40 < n
  · have e1 : decide ((40 : Int) < (n : Int)) = true := by simp; omega
    go_enter Try.func4, Try.ntmps4
    go_wp2_with fail
    refine (alive4_any _).mono ?_
    rintro e w1 ⟨rfl, hf⟩
    go_wp2
    go_ret
    exact ⟨rfl, hf⟩
  · have e1 : decide ((40 : Int) < (n : Int)) = false := by simp; omega
    by_cases h2 : 40 < m
    · have e2 : decide ((40 : Int) < (m : Int)) = true := by simp; omega
      go_enter Try.func4, Try.ntmps4
      go_wp2_with fail
      refine (alive4_any _).mono ?_
      rintro e w1 ⟨rfl, hf⟩
      go_wp2
      go_ret
      exact ⟨rfl, hf⟩
    · have e2 : decide ((40 : Int) < (m : Int)) = false := by simp; omega
      have IA : In4 w A n a := ⟨hA, hn, by omega⟩
      have IB : In4 w B m b := ⟨hB, hm, by omega⟩
      have hz := zero_set
      clear hA hB hn hm
      go_enter Try.func4, Try.ntmps4
      go_wp2_with fail
      refine (alive4_any _).mono ?_
      rintro e w1 ⟨rfl, hf1⟩
      go_wp2_with fail
      refine (refOf4_any a n A c1 w1 (IA.since hf1).sl IA.len (by omega)).mono ?_
      rintro e w2 ⟨gx, rfl, hx2, hgx, hf⟩
      have g2 := hf1.trans' hf (fun _ _ e => e)
      have hw1 := hf1.size
      clear hf hf1
      go_wp2_with fail
      refine (refOf4_any b m B c2 w2 (IB.since g2).sl IB.len (by omega)).mono ?_
      rintro e w3 ⟨gy, rfl, hy3, hgy, hf⟩
      have g3 := g2.trans' hf (fun _ _ e => e)
      have hx3 := hx2.fr hf (fun e => e)
      have hxy : gx ≠ gy := by have := hx2.lt; omega
      have hxl := hx3.lt
      have hyl := hy3.lt
      have hgx0 : w.heap.size ≤ gx := by omega
      have hgy0 : w.heap.size ≤ gy := by have := g2.size; omega
      clear hf g2 hx2 hgx hgy hw1
      obtain ⟨gu, Hu⟩ : ∃ gu, Hid (gu = w3.heap.size) := ⟨_, Lib.hid rfl⟩
      obtain ⟨gb, Hb⟩ : ∃ gb, Hid (gb = w3.heap.size + 1) := ⟨_, Lib.hid rfl⟩
      obtain ⟨gl, Hl⟩ : ∃ gl, Hid (gl = w3.heap.size + 1 + 1) := ⟨_, Lib.hid rfl⟩
      have hu0 := ((Bk.made w3 37 (flags 1000 fun _ => false)).alloc (.cells (flags 1000 fun _ => false) 37)).alloc (.cells (flags 1000 fun _ => false) 37)
      have hb0 := (Bk.made (w3.alloc (.cells (flags 1000 fun _ => false) 37)) 37 (flags 1000 fun _ => false)).alloc (.cells (flags 1000 fun _ => false) 37)
      have hl0 := Bk.made ((w3.alloc (.cells (flags 1000 fun _ => false) 37)).alloc (.cells (flags 1000 fun _ => false) 37)) 37 (flags 1000 fun _ => false)
      simp only [World.size_alloc] at hb0 hl0
      have hx0 := ((hx3.alloc (.cells (flags 1000 fun _ => false) 37)).alloc (.cells (flags 1000 fun _ => false) 37)).alloc (.cells (flags 1000 fun _ => false) 37)
      have hy0 := ((hy3.alloc (.cells (flags 1000 fun _ => false) 37)).alloc (.cells (flags 1000 fun _ => false) 37)).alloc (.cells (flags 1000 fun _ => false) 37)
      have g4 := ((g3.alloc (.cells (flags 1000 fun _ => false) 37)).alloc (.cells (flags 1000 fun _ => false) 37)).alloc (.cells (flags 1000 fun _ => false) 37)
      have hsz := g3.size
      have N1 : gx ≠ gu ∧ gx ≠ gb ∧ gx ≠ gl ∧ gy ≠ gu ∧ gy ≠ gb ∧ gy ≠ gl ∧ gu ≠ gb ∧ gu ≠ gl ∧ gb ≠ gl := by
        rw [Hu.out, Hb.out, Hl.out]
        omega
      have N2 : w.heap.size ≤ gu ∧ w.heap.size ≤ gb ∧ w.heap.size ≤ gl := by
        rw [Hu.out, Hb.out, Hl.out]
        omega
      obtain ⟨n1, n2, n3, n4, n5, n6, n7, n8, n9⟩ := N1
      obtain ⟨l1, l2, l3⟩ := N2
      have n1' := n1.symm
      have n2' := n2.symm
      have n3' := n3.symm
      have n4' := n4.symm
      have n5' := n5.symm
      have n6' := n6.symm
      have n7' := n7.symm
      have n8' := n8.symm
      have n9' := n9.symm
      clear hx3 hy3 hxl hyl g3 hsz
      go_wp2
      rw [← Hl.out, ← Hb.out, ← Hu.out]
      rw [← Hu.out] at hu0
      rw [← Hb.out] at hb0
      rw [← Hl.out] at hl0
      have hz0 : flags 1000 (fun _ => false) = flags 1000 (upToF (fun _ => false) 0) := rfl
      go_loopw [10, 11] (fun sv kv wr => ∃ j : Nat, j ≤ 1000 ∧ kv = .int .i64 j ∧ sv = .bool (!meetTo (keysOf a) (fun k => !keysOf b k) j) ∧ Bk wr gx 37 (flags 1000 (keysOf a)) ∧ Bk wr gy 37 (flags 1000 (keysOf b)) ∧
          Bk wr gu 37 (flags 1000 (upToF (fun k => keysOf a k || keysOf b k) j)) ∧ Bk wr gb 37 (flags 1000 (upToF (fun k => keysOf a k && keysOf b k) j)) ∧ Bk wr gl 37 (flags 1000 (upToF (fun k => keysOf a k && !keysOf b k) j)) ∧ Fr No w wr) (fun _ k _ => 1000 - (intOf k).toNat)
      case atStart => exact ⟨0, by omega, rfl, rfl, hx0, hy0, hu0, hb0, hl0, g4⟩
      case round =>
        clear hx0 hy0 hu0 hb0 hl0 g4 hz0 Hu Hb Hl
        obtain ⟨j, hj, rfl, rfl, hx, hy, hu, hb, hl, hfr⟩ := hrel
        by_cases hlt : j < 1000
        · have x0 := hx.cell j
          have y0 := hy.cell j
          have u0 := hu.cell j
          have b0 := hb.cell j
          have v0 := hl.cell j
          rw [flags_at _ _ _ hlt] at x0 y0 u0 b0 v0
          have uz := hu.frozen j
          have bz := hb.frozen j
          have vz := hl.frozen j
          generalize upToF (fun k => keysOf a k || keysOf b k) j j = ou at u0
          generalize upToF (fun k => keysOf a k && keysOf b k) j j = ob at b0
          generalize upToF (fun k => keysOf a k && !keysOf b k) j j = ol at v0
          have Hm : Hid ((!meetTo (keysOf a) (fun k => !keysOf b k) (j + 1)) = ((!meetTo (keysOf a) (fun k => !keysOf b k) j) && !(keysOf a j && !keysOf b j))) := Lib.hid (by rw [meetTo, Bool.not_or])
          generalize (!meetTo (keysOf a) (fun k => !keysOf b k) j) = ins at *
          cases hxa : keysOf a j <;> cases hyb : keysOf b j
          all_goals
            rw [hxa] at x0
            rw [hyb] at y0
            have R := two_round hx hy hu hb hl n1 n2 n3 n4 n5 n6 n7 n8 n9 _ _ hxa hyb _ rfl
            have HR := Lib.hid R
            have HF := Lib.hid (((hfr.setCell (p := ⟨gu, j, none⟩) (.inr l1) (.bool (keysOf a j || keysOf b j))).setCell (p := ⟨gb, j, none⟩) (.inr l2) (.bool (keysOf a j && keysOf b j))).setCell (p := ⟨gl, j, none⟩) (.inr l3) (.bool (keysOf a j && !keysOf b j)))
            rw [hxa, hyb] at HF Hm
            clear R hx hy hu hb hl hfr hxa hyb
            cases ins
            all_goals
              go_wp2
              go_roundw
              case rel => exact ⟨j + 1, by omega, by go_num, by rw [Hm.out]; rfl, HR.out.1, HR.out.2.1, HR.out.2.2.1, HR.out.2.2.2.1, HR.out.2.2.2.2, HF.out⟩
              case measure => simp [intOf]; omega
        · obtain ⟨ins, Hins⟩ : ∃ ins, Hid ((!meetTo (keysOf a) (fun k => !keysOf b k) j) = ins) := ⟨_, Lib.hid rfl⟩
          have Hi : Hid (insB (keysOf a) (keysOf b) = ins) := Lib.hid (by
            have := Hins.out
            rw [show j = 1000 by omega] at this
            exact this)
          have hj1 : j = 1000 := by omega
          rw [Hins.out]
          have e1u : flags 1000 (upToF (fun k => keysOf a k || keysOf b k) j) = flags 1000 (fun k => keysOf a k || keysOf b k) := flags_congr 1000 _ _ (fun k hk => by rw [hj1]; exact upToF_all _ k hk)
          have e1b : flags 1000 (upToF (fun k => keysOf a k && keysOf b k) j) = flags 1000 (fun k => keysOf a k && keysOf b k) := flags_congr 1000 _ _ (fun k hk => by rw [hj1]; exact upToF_all _ k hk)
          have e1l : flags 1000 (upToF (fun k => keysOf a k && !keysOf b k) j) = flags 1000 (fun k => keysOf a k && !keysOf b k) := flags_congr 1000 _ _ (fun k hk => by rw [hj1]; exact upToF_all _ k hk)
          rw [e1u] at hu
          rw [e1b] at hb
          rw [e1l] at hl
          clear e1u e1b e1l hj1 Hins
          have pu := plainOf_le (fun k => keysOf a k || keysOf b k)
          have pb := plainOf_le (fun k => keysOf a k && keysOf b k)
          have pl := plainOf_le (fun k => keysOf a k && !keysOf b k)
          go_wp2_with fail
          refine (kUnion_any a b A B n c1 m c2 wr (IA.since hfr) (IB.since hfr)).mono ?_
          rintro e w5 ⟨A5, d5, rfl, hs5, hf⟩
          have g5 := hfr.trans' hf (fun _ _ e => e)
          have x5 := hx.fr hf (fun e => e)
          have y5 := hy.fr hf (fun e => e)
          have u5 := hu.fr hf (fun e => e)
          have b5 := hb.fr hf (fun e => e)
          have v5 := hl.fr hf (fun e => e)
          clear hf hfr hx hy hu hb hl
          go_wp2_with fail
          refine (refPlain4_any gu _ w5 u5).mono ?_
          rintro e w6 ⟨A6, d6, rfl, hs6, hf⟩
          have g6 := g5.trans' hf (fun _ _ e => e)
          have x6 := x5.fr hf (fun e => e)
          have y6 := y5.fr hf (fun e => e)
          have b6 := b5.fr hf (fun e => e)
          have v6 := v5.fr hf (fun e => e)
          have s56 := hs5.since hf
          clear hf g5 x5 y5 u5 b5 v5 hs5
          generalize plainOf (fun k => keysOf a k || keysOf b k) = Q at *
          go_wp2_with fail
          refine (refSame4_any Q Q A5 A6 _ _ d5 d6 w6 s56 hs6 rfl rfl (by omega) (by omega)).mono ?_
          rw [decide_eq_true (rfl : Q = Q)]
          rintro e w7 ⟨rfl, hf⟩
          have g7 := g6.trans' hf (fun _ _ e => e)
          have x7 := x6.fr hf (fun e => e)
          have y7 := y6.fr hf (fun e => e)
          have b7 := b6.fr hf (fun e => e)
          have v7 := v6.fr hf (fun e => e)
          clear hf g6 x6 y6 b6 v6 s56 hs6
          go_wp2_with fail
          refine (kBoth_any a b A B n c1 m c2 w7 (IA.since g7) (IB.since g7)).mono ?_
          rintro e w8 ⟨A8, d8, rfl, hs8, hf⟩
          have g8 := g7.trans' hf (fun _ _ e => e)
          have x8 := x7.fr hf (fun e => e)
          have y8 := y7.fr hf (fun e => e)
          have b8 := b7.fr hf (fun e => e)
          have v8 := v7.fr hf (fun e => e)
          clear hf g7 x7 y7 b7 v7
          go_wp2_with fail
          refine (refPlain4_any gb _ w8 b8).mono ?_
          rintro e w9 ⟨A9, d9, rfl, hs9, hf⟩
          have g9 := g8.trans' hf (fun _ _ e => e)
          have x9 := x8.fr hf (fun e => e)
          have y9 := y8.fr hf (fun e => e)
          have v9 := v8.fr hf (fun e => e)
          have s89 := hs8.since hf
          clear hf g8 x8 y8 b8 v8 hs8
          generalize plainOf (fun k => keysOf a k && keysOf b k) = Q2 at *
          go_wp2_with fail
          refine (refSame4_any Q2 Q2 A8 A9 _ _ d8 d9 w9 s89 hs9 rfl rfl (by omega) (by omega)).mono ?_
          rw [decide_eq_true (rfl : Q2 = Q2)]
          rintro e w10 ⟨rfl, hf⟩
          have g10 := g9.trans' hf (fun _ _ e => e)
          have x10 := x9.fr hf (fun e => e)
          have y10 := y9.fr hf (fun e => e)
          have v10 := v9.fr hf (fun e => e)
          clear hf g9 x9 y9 v9 s89 hs9
          go_wp2_with fail
          refine (kLess_any a b A B n c1 m c2 w10 (IA.since g10) (IB.since g10)).mono ?_
          rintro e w11 ⟨A11, d11, rfl, hs11, hf⟩
          have g11 := g10.trans' hf (fun _ _ e => e)
          have x11 := x10.fr hf (fun e => e)
          have y11 := y10.fr hf (fun e => e)
          have v11 := v10.fr hf (fun e => e)
          clear hf g10 x10 y10 v10
          go_wp2_with fail
          refine (refPlain4_any gl _ w11 v11).mono ?_
          rintro e w12 ⟨A12, d12, rfl, hs12, hf⟩
          have g12 := g11.trans' hf (fun _ _ e => e)
          have x12 := x11.fr hf (fun e => e)
          have y12 := y11.fr hf (fun e => e)
          have s112 := hs11.since hf
          clear hf g11 x11 y11 v11 hs11
          generalize plainOf (fun k => keysOf a k && !keysOf b k) = Q3 at *
          go_wp2_with fail
          refine (refSame4_any Q3 Q3 A11 A12 _ _ d11 d12 w12 s112 hs12 rfl rfl (by omega) (by omega)).mono ?_
          rw [decide_eq_true (rfl : Q3 = Q3)]
          rintro e w13 ⟨rfl, hf⟩
          have g13 := g12.trans' hf (fun _ _ e => e)
          have x13 := x12.fr hf (fun e => e)
          have y13 := y12.fr hf (fun e => e)
          clear hf g12 x12 y12 s112 hs12
          go_wp2_with fail
          refine (kMeet_any a b A B n c1 m c2 w13 (IA.since g13) (IB.since g13)).mono ?_
          rintro e w14 ⟨rfl, hf⟩
          have g14 := g13.trans' hf (fun _ _ e => e)
          have x14 := x13.fr hf (fun e => e)
          have y14 := y13.fr hf (fun e => e)
          clear hf g13 x13 y13
          go_wp2_with fail
          refine (refMeet4_any gx gy _ _ w14 x14 y14).mono ?_
          rintro e w15 ⟨rfl, rfl⟩
          generalize meets (keysOf a) (keysOf b) = mt at *
          have emt : (mt == mt) = true := by simp
          clear x14 y14
          go_wp2_with fail
          refine (kInside_any a b A B n c1 m c2 w14 (IA.since g14) (IB.since g14)).mono ?_
          rw [Hi.out]
          rintro e w16 ⟨rfl, hf⟩
          have g16 := g14.trans' hf (fun _ _ e => e)
          have eins : (ins == ins) = true := by simp
          clear hf g14
          go_wp2
          go_ret
          exact ⟨by simp, g16⟩
end Go.Proofs.Ythnpgepniiicaaa
