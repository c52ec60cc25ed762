/- The law 'KeysParts'. -/
import Derived.Test.YthnpgepniiicaaaLaw4
namespace Go.Proofs.Ythnpgepniiicaaa
open Go.RowKit

theorem ins_both (a b c : List Span) : insB (keysOf c) (keysOf (plainOf fun k => keysOf a k && keysOf b k)) = (insB (keysOf c) (keysOf a) && insB (keysOf c) (keysOf b)) := by
  unfold insB
  rw [Bool.eq_iff_iff, Bool.and_eq_true, Bool.not_eq_true', Bool.not_eq_true', Bool.not_eq_true', Bool.eq_false_iff, Bool.eq_false_iff, Bool.eq_false_iff]
  simp only [ne_eq, meets_true, not_exists, not_and]
  constructor
  · intro h
    refine ⟨fun k hk hc => ?_, fun k hk hc => ?_⟩
    all_goals
      have h1 := h k hk hc
      rw [keysOf_plain _ k hk] at h1
      revert h1
      cases keysOf a k <;> cases keysOf b k <;> simp
  · rintro ⟨h1, h2⟩ k hk hc
    rw [keysOf_plain _ k hk]
    have a1 := h1 k hk hc
    have a2 := h2 k hk hc
    revert a1 a2
    cases keysOf a k <;> cases keysOf b k <;> simp
theorem parts_union (a b : List Span) : (plainOf fun k => keysOf (plainOf fun k => keysOf a k && keysOf b k) k || keysOf (plainOf fun k => keysOf a k && !keysOf b k) k) = plainOf (keysOf a) :=
  plainOf_congr fun k hk => by
    rw [keysOf_plain _ k hk, keysOf_plain _ k hk]
    cases keysOf a k <;> cases keysOf b k <;> rfl
theorem parts_meet (a b : List Span) : meets (keysOf (plainOf fun k => keysOf a k && keysOf b k)) (keysOf (plainOf fun k => keysOf a k && !keysOf b k)) = false :=
  meets_false _ _ fun k hk => by
    rw [keysOf_plain _ k hk, keysOf_plain _ k hk]
    cases keysOf a k <;> cases keysOf b k <;> rfl
theorem parts_size (a b : List Span) : cnt (keysOf (plainOf fun k => keysOf a k && keysOf b k)) 1000 + cnt (keysOf (plainOf fun k => keysOf a k && !keysOf b k)) 1000 = cnt (keysOf a) 1000 := by
  rw [cnt_congr 1000 (fun k hk => keysOf_plain (fun k => keysOf a k && keysOf b k) k hk), cnt_congr 1000 (fun k hk => keysOf_plain (fun k => keysOf a k && !keysOf b k) k hk)]
  exact cnt_split _ _ 1000
theorem parts_len (a b : List Span) : meets (keysOf a) (keysOf b) = decide (0 < (plainOf fun k => keysOf a k && keysOf b k).length) := by
  rw [Bool.eq_iff_iff, meets_true, decide_eq_true_eq, plainOf_empty]
  simp only [Bool.and_eq_true]

set_option maxRecDepth 100000 in
set_option maxHeartbeats 4000000 in
theorem parts_any (a b c : List Span) (A B C : Option Addr) (n m p c1 c2 c3 : Nat) (w : World) (hA : Sl w w.heap.size A (sps a)) (hB : Sl w w.heap.size B (sps b)) (hC : Sl w w.heap.size C (sps c)) (hn : a.length = n) (hm : b.length = m) (hp : c.length = p) (hnl : n ≤ 9223372036854775807) (hml : m ≤ 9223372036854775807) (hpl : p ≤ 9223372036854775807) :
    Calls Try.prog 6 #[.slice A n c1, .slice B m c2, .slice C p c3] w fun e w' => e = .returned (.bool true) ∧ Fr No w w' := by
  by_cases h1 : 30 < n
  · have e1 : decide ((30 : Int) < (n : Int)) = true := by simp; omega
    go_enter Try.func6, Try.ntmps6
    go_wp2_with fail
    refine (alive4_any _).mono ?_
    rintro e w1 ⟨rfl, hf⟩
    go_wp2
    go_ret
    exact ⟨rfl, hf⟩
  · have e1 : decide ((30 : Int) < (n : Int)) = false := by simp; omega
    by_cases h2 : 30 < m
    · have e2 : decide ((30 : Int) < (m : Int)) = true := by simp; omega
      go_enter Try.func6, Try.ntmps6
      go_wp2_with fail
      refine (alive4_any _).mono ?_
      rintro e w1 ⟨rfl, hf⟩
      go_wp2
      go_ret
      exact ⟨rfl, hf⟩
    · have e2 : decide ((30 : Int) < (m : Int)) = false := by simp; omega
      by_cases h3 : 30 < p
      · have e3 : decide ((30 : Int) < (p : Int)) = true := by simp; omega
        go_enter Try.func6, Try.ntmps6
        go_wp2_with fail
        refine (alive4_any _).mono ?_
        rintro e w1 ⟨rfl, hf⟩
        go_wp2
        go_ret
        exact ⟨rfl, hf⟩
      · have e3 : decide ((30 : Int) < (p : Int)) = false := by simp; omega
        have IA : In4 w A n a := ⟨hA, hn, by omega⟩
        have IB : In4 w B m b := ⟨hB, hm, by omega⟩
        have IC : In4 w C p c := ⟨hC, hp, by omega⟩
        have P1 := Lib.hid (ins_both a b c)
        have P2 := Lib.hid (parts_union a b)
        have P3 := Lib.hid (parts_meet a b)
        have P4 := Lib.hid (parts_size a b)
        have P5 := Lib.hid (parts_len a b)
        clear hA hB hC hn hm hp
        go_enter Try.func6, Try.ntmps6
        go_wp2_with fail
        refine (alive4_any _).mono ?_
        rintro e w1 ⟨rfl, hf⟩
        go_wp2_with fail
        refine (kBoth_any a b A B n c1 m c2 w1 (IA.since hf) (IB.since hf)).mono ?_
        rintro e w2 ⟨A2, d2, rfl, hs2, hf2⟩
        have g2 := hf.trans' hf2 (fun _ _ e => e)
        have X2 := In4.new hs2
        clear hf hf2 hs2
        go_wp2_with fail
        refine (kLess_any a b A B n c1 m c2 w2 (IA.since g2) (IB.since g2)).mono ?_
        rintro e w3 ⟨A3, d3, rfl, hs3, hf3⟩
        have g3 := g2.trans' hf3 (fun _ _ e => e)
        have Y3 := In4.new hs3
        have X3 := X2.since hf3
        clear hf3 hs3 X2 g2
        generalize hU : (plainOf fun k => keysOf a k && keysOf b k) = U at *
        generalize hV : (plainOf fun k => keysOf a k && !keysOf b k) = V at *
        clear hU hV
        generalize hUl : U.length = ul at *
        generalize hVl : V.length = vl at *
        have HUl := Lib.hid hUl
        have hul : ul ≤ 1048576 := X3.le
        clear hUl hVl
        go_wp2_with fail
        refine (kMeet_any U V A2 A3 ul d2 vl d3 w3 X3 Y3).mono ?_
        rw [P3.out]
        rintro e w4 ⟨rfl, hf⟩
        have g4 := g3.trans' hf (fun _ _ e => e)
        have X4 := X3.since hf
        have Y4 := Y3.since hf
        clear hf g3 X3 Y3
        go_wp2_with fail
        refine (kUnion_any U V A2 A3 ul d2 vl d3 w4 X4 Y4).mono ?_
        rw [P2.out]
        rintro e w5 ⟨A5, d5, rfl, hs5, hf⟩
        have g5 := g4.trans' hf (fun _ _ e => e)
        have X5 := X4.since hf
        have Y5 := Y4.since hf
        clear hf g4 X4 Y4
        have hpl : (plainOf (keysOf a)).length ≤ 1000 := plainOf_le _
        go_wp2_with fail
        refine (kPlain_any a A n c1 w5 (IA.since g5)).mono ?_
        rintro e w6 ⟨A6, d6, rfl, hs6, hf⟩
        have g6 := g5.trans' hf (fun _ _ e => e)
        have X6 := X5.since hf
        have Y6 := Y5.since hf
        have hs56 := hs5.since hf
        clear hf g5 X5 Y5 hs5
        generalize hQ : plainOf (keysOf a) = Q at *
        clear hQ
        generalize hql : Q.length = ql at *
        have Hql := Lib.hid hql
        clear hql
        go_wp2_with fail
        refine (refSame4_any Q Q A5 A6 ql ql d5 d6 w6 hs56 hs6 Hql.out Hql.out (by omega) (by omega)).mono ?_
        rw [decide_eq_true (rfl : Q = Q)]
        rintro e w7 ⟨rfl, hf⟩
        have g7 := g6.trans' hf (fun _ _ e => e)
        have X7 := X6.since hf
        have Y7 := Y6.since hf
        clear hf g6 X6 Y6 hs56 hs6
        have hc1 := cnt_bound (keysOf U) 1000
        have hc2 := cnt_bound (keysOf V) 1000
        have hc3 := cnt_bound (keysOf a) 1000
        have esum : (((cnt (keysOf U) 1000 : Nat) : Int) + ((cnt (keysOf V) 1000 : Nat) : Int) != ((cnt (keysOf a) 1000 : Nat) : Int)) = false := by
          have := P4.out
          rw [bne_eq_false_iff_eq]
          omega
        go_wp2_with fail
        refine (kSize_any U A2 ul d2 w7 X7).mono ?_
        rintro e w8 ⟨rfl, hf⟩
        have g8 := g7.trans' hf (fun _ _ e => e)
        have X8 := X7.since hf
        have Y8 := Y7.since hf
        clear hf g7 X7 Y7
        go_wp2_with fail
        refine (kSize_any V A3 vl d3 w8 Y8).mono ?_
        rintro e w9 ⟨rfl, hf⟩
        have g9 := g8.trans' hf (fun _ _ e => e)
        have X9 := X8.since hf
        clear hf g8 X8 Y8
        go_wp2_with fail
        refine (kSize_any a A n c1 w9 (IA.since g9)).mono ?_
        rintro e w10 ⟨rfl, hf⟩
        have g10 := g9.trans' hf (fun _ _ e => e)
        have X10 := X9.since hf
        clear hf g9 X9
        have hul0 : decide ((0 : Int) < (ul : Int)) = decide (0 < ul) := by rw [decide_eq_decide]; omega
        have Pl : Hid (meets (keysOf a) (keysOf b) = decide ((0 : Int) < (ul : Int))) := Lib.hid (by rw [hul0]; exact P5.out)
        clear hul0 P5 P2 P3 P4 hc1 hc2 hc3
        cases hx : insB (keysOf c) (keysOf a) <;> cases hy : insB (keysOf c) (keysOf b)
        all_goals
          rw [hx, hy] at P1
          have P1' : Hid (insB (keysOf c) (keysOf U) = _) := Lib.hid P1.out
          simp only [Bool.and_self, Bool.and_true, Bool.and_false] at P1'
          have Hx := Lib.hid hx
          have Hy := Lib.hid hy
          clear hx hy P1
          go_wp2_with fail
          refine (kInside_any c U C A2 p c3 ul d2 w10 (IC.since g10) X10).mono ?_
          rw [P1'.out]
          rintro e w11 ⟨rfl, hf⟩
          have g11 := g10.trans' hf (fun _ _ e => e)
          clear hf
          go_wp2_with fail
          refine (kInside_any c a C A p c3 n c1 w11 (IC.since g11) (IA.since g11)).mono ?_
          rw [Hx.out]
          rintro e w12 ⟨rfl, hf⟩
          have g12 := g11.trans' hf (fun _ _ e => e)
          clear hf
          go_wp2_with fail
          first
            | (refine (kMeet_any a b A B n c1 m c2 w12 (IA.since g12) (IB.since g12)).mono ?_
               rw [Pl.out]
               rintro e w13 ⟨rfl, hf⟩
               have g13 := g12.trans' hf (fun _ _ e => e)
               clear hf
               go_wp2
               go_ret
               exact ⟨by simp, g13⟩)
            | (refine (kInside_any c b C B p c3 m c2 w12 (IC.since g12) (IB.since g12)).mono ?_
               rw [Hy.out]
               rintro e w13 ⟨rfl, hf⟩
               have g13 := g12.trans' hf (fun _ _ e => e)
               clear hf
               go_wp2_with fail
               refine (kMeet_any a b A B n c1 m c2 w13 (IA.since g13) (IB.since g13)).mono ?_
               rw [Pl.out]
               rintro e w14 ⟨rfl, hf⟩
               have g14 := g13.trans' hf (fun _ _ e => e)
               clear hf
               go_wp2
               go_ret
               exact ⟨by simp, g14⟩)
end Go.Proofs.Ythnpgepniiicaaa
