/- The law 'ProgMay', walked. -/
import Derived.Test.YteackcbnncichaaDoorKey9
import Derived.Test.YteackcbnncichaaDoorRfo9
import Derived.Test.YteackcbnncichaaDoorTxt9
namespace Go.Proofs.YteackcbnncichaaDoor
open Go.RowKit

theorem sure_snoc (l : List Ins) (j : Nat) (hj : j < l.length) : progSure (l.take (j + 1)) = (progSure (l.take j) && insSure l[j]) := by
  rw [List.take_succ_eq_append_getElem hj, progSure, progSure, List.all_append]
  simp
set_option maxHeartbeats 2000000 in
theorem progMay_any (l : List Ins) (m x y : Int) (gs : List Int) (A A2 : Option Addr) (n c n2 c2 : Nat) (w : World) (hsl : Sl w w.heap.size A (l.flatMap Ins.cells)) (hn : l.length = n) (hs2 : Sl w w.heap.size A2 (ints gs)) (hn2 : gs.length = n2) :
    Calls Tryd.prog 3 #[.slice A n c, .int .i64 m, kcell (x, y), .slice A2 n2 c2] w (Has w true) := by
  have Hn := Lib.hid hn
  have Hsl := Lib.hid hsl
  have Hn2 := Lib.hid hn2
  have Hs2 := Lib.hid hs2
  clear hsl hn hs2 hn2
  simp only [kcell]
  have hf0 : Fr No w (w.alloc (.cells #[.int .i64 x, .int .i64 y] 24)) := (Fr.refl _ _).alloc _
  go_enter Tryd.func3, Tryd.ntmps3
  go_wp2_with fail
  refine (alive9 _).mono ?_
  rintro e w1 ⟨rfl, hf1⟩
  have hb1 : Bk w1 w.heap.size 24 #[.int .i64 x, .int .i64 y] := (Bk.made w _ _).fr hf1 (fun e => e)
  have hz1 := hf0.then0 hf1 (fun _ h => h.elim)
  by_cases h20 : 20 < n
  · have d0 : decide (20 < (n : Int)) = true := by simp; omega
    go_wp2
    go_ret
    exact ⟨rfl, hz1⟩
  have d0 : decide (20 < (n : Int)) = false := by simp; omega
  by_cases h10 : 10 < n2
  · have d1 : decide (10 < (n2 : Int)) = true := by simp; omega
    go_wp2
    go_ret
    exact ⟨rfl, hz1⟩
  have d1 : decide (10 < (n2 : Int)) = false := by simp; omega
  have CK := Lib.hid (fun (W : World) (hf : Fr No w W) => key_any x y gs A2 n2 c2 W (Hs2.out.since hf) Hn2.out (by omega))
  have CA := Lib.hid (fun (W : World) (hf : Fr No w W) => refArgs_any gs A2 n2 c2 W (Hs2.out.since hf) Hn2.out (by omega))
  have CM := Lib.hid (fun (W : World) => refMayKey_any (x, y) n2 W)
  have CP := Lib.hid (fun (W : World) (hf : Fr No w W) => may_any l m A n c W (Hsl.out.since hf) Hn.out (by omega))
  have CR := Lib.hid (fun (W : World) (hf : Fr No w W) => refMay_any l m A n c W (Hsl.out.since hf) Hn.out (by omega))
  have CS := Lib.hid (fun (W : World) (hf : Fr No w W) => sure_any l A n c W (Hsl.out.since hf) Hn.out (by omega))
  have CE := Lib.hid (fun (W : World) (hf : Fr No w W) (hk : keyOk x y n2 = true) (ha : argsOk gs = true) => refKey_any x y gs A2 n2 c2 W (Hs2.out.since hf) Hn2.out (by have := (keyOk_iff x y n2).1 hk; omega) hk ha)
  go_wp2
  go_loopw [9, 10] (fun s i wr => ∃ j : Nat, j ≤ n ∧ i = .int .i64 j ∧ s = .bool (progSure (l.take j)) ∧ Hid (∃ q, wr = w1.drewN q)) (fun _ i _ => n - (intOf i).toNat)
  case atStart => exact ⟨0, Nat.zero_le _, rfl, by simp [progSure], Lib.hid ⟨0, rfl⟩⟩
  case round =>
    obtain ⟨j, hj, rfl, rfl, hwr⟩ := hrel
    obtain ⟨q, rfl⟩ := hwr.out
    by_cases hlt : j < n
    · have hjl : j < l.length := by rw [Hn.out]; exact hlt
      obtain ⟨ad, rfl, hab, g0, -⟩ := (Hsl.out.since (hz1.drewN q)).ins9 hjl
      have Hs : Hid (progSure (l.take (j + 1)) = (progSure (l.take j) && insSure l[j])) := Lib.hid (sure_snoc l j hjl)
      generalize progSure (l.take j) = s at *
      generalize l[j] = i at *
      obtain ⟨o, a, b, c0, ka, kb, la, lb, x0⟩ := i
      simp only [insSure] at Hs
      dsimp only at g0
      cases s
      · go_wp2
        go_roundw
        case rel => exact ⟨j + 1, by omega, by go_num, by rw [Hs.out]; rfl, Lib.hid ⟨_, rfl⟩⟩
        case measure => simp [intOf]; omega
      · by_cases h6 : o = 6
        · have Hb : Hid (decide (o ≠ 6 ∧ o ≠ 7 ∧ o ≠ 8) = false) := Lib.hid (by simp; omega)
          rw [Hb.out] at Hs
          subst h6
          go_wp2
          go_roundw
          case rel => exact ⟨j + 1, by omega, by go_num, by rw [Hs.out]; rfl, Lib.hid ⟨_, rfl⟩⟩
          case measure => simp [intOf]; omega
        · by_cases h7 : o = 7
          · have Hb : Hid (decide (o ≠ 6 ∧ o ≠ 7 ∧ o ≠ 8) = false) := Lib.hid (by simp; omega)
            rw [Hb.out] at Hs
            subst h7
            go_wp2
            go_roundw
            case rel => exact ⟨j + 1, by omega, by go_num, by rw [Hs.out]; rfl, Lib.hid ⟨_, rfl⟩⟩
            case measure => simp [intOf]; omega
          · by_cases h8 : o = 8
            · have Hb : Hid (decide (o ≠ 6 ∧ o ≠ 7 ∧ o ≠ 8) = false) := Lib.hid (by simp; omega)
              rw [Hb.out] at Hs
              subst h8
              go_wp2
              go_roundw
              case rel => exact ⟨j + 1, by omega, by go_num, by rw [Hs.out]; rfl, Lib.hid ⟨_, rfl⟩⟩
              case measure => simp [intOf]; omega
            · have Hb : Hid (decide (o ≠ 6 ∧ o ≠ 7 ∧ o ≠ 8) = true) := Lib.hid (by simp; omega)
              rw [Hb.out] at Hs
              have e6 : (o != 6) = true := by simpa using h6
              have e7 : (o != 7) = true := by simpa using h7
              have e8 : (o != 8) = true := by simpa using h8
              go_wp2
              go_roundw
              case rel => exact ⟨j + 1, by omega, by go_num, by rw [Hs.out]; rfl, Lib.hid ⟨_, rfl⟩⟩
              case measure => simp [intOf]; omega
    · obtain rfl : j = n := by omega
      have hall : l.take j = l := List.take_of_length_le (by rw [Hn.out]; exact Nat.le_refl _)
      rw [hall]
      have hz := hz1.drewN q
      have hbz := hb1.fr ((Fr.refl No w1).drewN q) (fun e => e)
      generalize w1.drewN q = wa at *
      clear hb1 hwr hall
      have g0 := hbz.cell 0
      have g1 := hbz.cell 1
      simp at g0 g1
      go_wp2_with fail
      refine (CK.out _ hz).mono ?_
      rintro e w2 ⟨rfl, hf2⟩
      have hb2 := hbz.fr hf2 (fun e => e)
      have hz2 := hz.then0 hf2 (fun _ h => h.elim)
      go_wp2_with fail
      refine (CA.out _ hz2).mono ?_
      rintro e w3 ⟨rfl, hf3⟩
      have hb3 := hb2.fr hf3 (fun e => e)
      have hz3 := hz2.then0 hf3 (fun _ h => h.elim)
      have k0 := hb3.cell 0
      have k1 := hb3.cell 1
      simp at k0 k1
      clear g0 g1 hf2 hf3
      cases hra : argsOk gs
      · have Hkv : keyV x y gs = (0, false) := by rw [keyV, hra]; rfl
        rw [Hkv]
        have hz4 := hz3
        go_wp2_with fail
        refine (CP.out _ hz4).mono ?_
        rintro e w5 ⟨rfl, hf5⟩
        have hz5 := hz4.then0 hf5 (fun _ h => h.elim)
        go_wp2_with fail
        refine (CR.out _ hz5).mono ?_
        rintro e w6 ⟨rfl, hf6⟩
        have hz6 := hz5.then0 hf6 (fun _ h => h.elim)
        have q0 : (progOk l m != progOk l m) = false := by simp
        have q1 : (progSure l != progSure l) = false := by simp
        go_wp2_with fail
        refine (CS.out _ hz6).mono ?_
        rintro e w7 ⟨rfl, hf7⟩
        have hz7 := hz6.then0 hf7 (fun _ h => h.elim)
        go_wp2
        go_ret
        exact ⟨rfl, hz7⟩
      · have Hkv : Hid (keyV x y gs = if keyOk x y n2 = true then (keyOf x y gs, true) else (0, false)) := Lib.hid (by rw [keyV, hra, Hn2.out, Bool.true_and])
        go_wp2_with fail
        refine (CM.out _).mono ?_
        rintro e w4 ⟨rfl, hf4⟩
        have hz4 := hz3.then0 hf4 (fun _ h => h.elim)
        have hb4 := hb3.fr hf4 (fun e => e)
        dsimp only at *
        cases hrk : keyOk x y n2
        · have Hkw : keyV x y gs = (0, false) := by rw [Hkv.out, hrk]; rfl
          rw [Hkw]
          go_wp2_with fail
          refine (CP.out _ hz4).mono ?_
          rintro e w5 ⟨rfl, hf5⟩
          have hz5 := hz4.then0 hf5 (fun _ h => h.elim)
          go_wp2_with fail
          refine (CR.out _ hz5).mono ?_
          rintro e w6 ⟨rfl, hf6⟩
          have hz6 := hz5.then0 hf6 (fun _ h => h.elim)
          have q0 : (progOk l m != progOk l m) = false := by simp
          have q1 : (progSure l != progSure l) = false := by simp
          go_wp2_with fail
          refine (CS.out _ hz6).mono ?_
          rintro e w7 ⟨rfl, hf7⟩
          have hz7 := hz6.then0 hf7 (fun _ h => h.elim)
          go_wp2
          go_ret
          exact ⟨rfl, hz7⟩
        · have Hkw : keyV x y gs = (keyOf x y gs, true) := by rw [Hkv.out, hrk]; rfl
          rw [Hkw]
          have hrg := keyOf_range (l := gs) (by rw [Hn2.out]; exact hrk) hra
          go_wp2_with fail
          refine (CP.out _ hz4).mono ?_
          rintro e w5 ⟨rfl, hf5⟩
          have hz5 := hz4.then0 hf5 (fun _ h => h.elim)
          go_wp2_with fail
          refine (CR.out _ hz5).mono ?_
          rintro e w6 ⟨rfl, hf6⟩
          have hz6 := hz5.then0 hf6 (fun _ h => h.elim)
          have q0 : (progOk l m != progOk l m) = false := by simp
          have q1 : (progSure l != progSure l) = false := by simp
          go_wp2_with fail
          refine (CS.out _ hz6).mono ?_
          rintro e w7 ⟨rfl, hf7⟩
          have hz7 := hz6.then0 hf7 (fun _ h => h.elim)
          have hb7 := ((hb4.fr hf5 (fun e => e)).fr hf6 (fun e => e)).fr hf7 (fun e => e)
          have m0 := hb7.cell 0
          have m1 := hb7.cell 1
          simp at m0 m1
          go_wp2_with fail
          refine (CE.out _ hz7 hrk hra).mono ?_
          rintro e w8 ⟨rfl, hf8⟩
          have x0 : decide (0 ≤ keyOf x y gs) = true := by simpa using hrg.1
          have x9 : decide (keyOf x y gs ≤ 999) = true := by simpa using hrg.2
          go_wp2
          go_ret
          exact ⟨rfl, hz7.then0 hf8 (fun _ h => h.elim)⟩
end Go.Proofs.YteackcbnncichaaDoor
