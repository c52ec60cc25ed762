/- A template's key, as package prog has it. -/
import Derived.Test.YteackcbnncichaaDoorMay9b
import Derived.Test.YteackcbnncichaaDoorRfm9
namespace Go.Proofs.YteackcbnncichaaDoor
open Go.RowKit

/-- A template's key for arguments, and whether there is one. -/
def keyV (x y : Int) (l : List Int) : Int × Bool := if (argsOk l && keyOk x y l.length) = true then (keyOf x y l, true) else (0, false)
def KeyGot (w : World) (r : Int × Bool) (e : Ending) (w' : World) : Prop := e = .returned (.tuple #[.int .i64 r.1, .bool r.2]) ∧ Fr No w w'
set_option maxHeartbeats 1000000 in
theorem key_any (x y : Int) (l : List Int) (A : Option Addr) (n c : Nat) (w : World) (hsl : Sl w w.heap.size A (ints l)) (hn : l.length = n) (hnm : n ≤ 1099511627776) :
    Calls Tryd.prog 8 #[kcell (x, y), .slice A n c] w (KeyGot w (keyV x y l)) := by
  have C0 := fun W => mayArgs_any (n : Int) W
  simp only [kcell]
  have hf0 : Fr No w (w.alloc (.cells #[.int .i64 x, .int .i64 y] 24)) := (Fr.refl _ _).alloc _
  have Hn := Lib.hid hn
  by_cases h3 : n ≤ 3
  · have e1 : decide (0 ≤ (n : Int) ∧ (n : Int) ≤ 3) = true := by simp; omega
    rw [e1] at C0
    have C1 := fun (W : World) (B : Option Addr) (hW : Sl W W.heap.size B _) => mayKeys_any (n : Int) [(x, y)] B 1 1 W (by omega) hW rfl (by omega)
    have hk1 : ([(x, y)].all fun k => keyOk k.1 k.2 n) = keyOk x y n := by simp
    rw [hk1] at C1
    have C2 := fun (W : World) (hW : Sl W W.heap.size A (ints l)) => within_any 0 99 l A n c W hW hn hnm
    have ha : argsOk l = l.all fun a => decide (0 ≤ a ∧ a ≤ 99) := by
      rw [argsOk, hn, show decide (n ≤ 3) = true by simpa using h3, Bool.and_true]
    rw [← ha] at C2
    have Hv : Hid (keyV x y l = if (argsOk l && keyOk x y n) = true then (keyOf x y l, true) else (0, false)) := Lib.hid (by rw [keyV, hn])
    have Hrg := Lib.hid (fun (h1 : keyOk x y n = true) (h2 : argsOk l = true) => keyOf_range (l := l) (by rw [hn]; exact h1) h2)
    have Hki := Lib.hid (fun (h1 : keyOk x y n = true) => (keyOk_iff x y n).1 h1)
    generalize keyOk x y n = rk at *
    generalize argsOk l = ra at *
    have HC2 := Lib.hid C2
    have Hsl := Lib.hid hsl
    clear hsl hn ha hk1 C2 e1
    go_enter Tryd.func8, Tryd.ntmps8
    go_wp2_with fail
    refine (C0 _).mono ?_
    rintro e w1 ⟨rfl, hf1⟩
    have hb1 : Bk w1 w.heap.size 24 #[.int .i64 x, .int .i64 y] := (Bk.made w _ _).fr hf1 (fun e => e)
    have hl1 := hb1.lt
    have g0 := hb1.cell 0
    have g1 := hb1.cell 1
    simp at g0 g1
    go_wp2_with fail
    refine (C1 _ _ (slMade _ _ _ _ _ (by simp) rfl)).mono ?_
    rintro e w2 ⟨rfl, hf2⟩
    have hf12 : Fr No w1 w2 := ((Fr.refl No w1).alloc _).then0 hf2 (fun _ h => h.elim)
    have hb2 := hb1.fr hf12 (fun e => e)
    have hl2 := hb2.lt
    have k0 := hb2.cell 0
    have k1 := hb2.cell 1
    simp at k0 k1
    have hfw := (hf0.then0 hf1 (fun _ h => h.elim)).then0 hf12 (fun _ h => h.elim)
    clear g0 g1
    cases rk
    · go_wp2
      exact bodyPost_ret (v := .tuple #[.int .i64 0, .bool false]) (by simp [results, Tryd.results8, go_sem]) rfl ⟨by rw [Hv.out]; cases ra <;> rfl, hfw⟩
    · go_wp2_with fail
      refine (HC2.out _ (Hsl.out.since hfw)).mono ?_
      rintro e w3 ⟨rfl, hf3⟩
      have hb3 := hb2.fr hf3 (fun e => e)
      have hl3 := hb3.lt
      have m0 := hb3.cell 0
      have m1 := hb3.cell 1
      simp at m0 m1
      have hfw3 := hfw.then0 hf3 (fun _ h => h.elim)
      have Hs3 := Lib.hid (Hsl.out.since hfw3)
      clear k0 k1
      cases ra
      · go_wp2
        exact bodyPost_ret (v := .tuple #[.int .i64 0, .bool false]) (by simp [results, Tryd.results8, go_sem]) rfl ⟨by rw [Hv.out]; rfl, hfw3⟩
      · have hrg := Hrg.out (by simp) (by simp)
        obtain ⟨q1, q2, q3, q4⟩ := Hki.out (by simp)
        by_cases hx : x < 0
        · obtain rfl : x = -1 := by omega
          have hk : keyOf (-1) y l = y := by simp [keyOf]
          have Hv2 : Hid (keyV (-1) y l = (y, true)) := Lib.hid (by rw [Hv.out, hk]; rfl)
          clear hrg q1 q2 q3 q4
          go_wp2
          exact bodyPost_ret (v := .tuple #[.int .i64 y, .bool true]) (by simp [results, Tryd.results8, go_sem]) rfl ⟨by rw [Hv2.out], hfw3⟩
        · obtain ⟨j, rfl⟩ : ∃ j : Nat, x = j := ⟨x.toNat, by omega⟩
          have hjn : j < n := by omega
          have hjl : j < l.length := by rw [Hn.out]; exact hjn
          obtain ⟨ad, rfl, hab, hc⟩ := Hs3.out.int9 hjl
          have hk : keyOf j y l = y + l[j] := by simp [keyOf, hx, hjl]
          rw [hk] at hrg
          have Hv2 : Hid (keyV j y l = (y + l[j], true)) := Lib.hid (by rw [Hv.out, hk]; rfl)
          generalize l[j] = a at *
          have hw : wrap64 (y + a) = y + a := by unfold wrap64; omega
          have hne : ((j : Int) == -1) = false := by rw [beq_eq_false_iff_ne]; omega
          clear q1 q2 q3 q4 hk hx
          go_wp2
          go_region
          go_wp2
          exact bodyPost_ret (v := .tuple #[.int .i64 (y + a), .bool true]) (by simp [results, Tryd.results8, go_sem]) rfl ⟨by rw [Hv2.out], hfw3.drew⟩
  · have e1 : decide (0 ≤ (n : Int) ∧ (n : Int) ≤ 3) = false := by simp; omega
    rw [e1] at C0
    have Hv : Hid (keyV x y l = (0, false)) := Lib.hid (by
      have : argsOk l = false := by rw [argsOk, hn, show decide (n ≤ 3) = false by simpa using h3, Bool.and_false]
      rw [keyV, this]
      rfl)
    clear hsl hn
    go_enter Tryd.func8, Tryd.ntmps8
    go_wp2_with fail
    refine (C0 _).mono ?_
    rintro e w1 ⟨rfl, hf1⟩
    go_wp2
    exact bodyPost_ret (v := .tuple #[.int .i64 0, .bool false]) (by simp [results, Tryd.results8, go_sem]) rfl ⟨by rw [Hv.out], hf0.then0 hf1 (fun _ h => h.elim)⟩
end Go.Proofs.YteackcbnncichaaDoor
