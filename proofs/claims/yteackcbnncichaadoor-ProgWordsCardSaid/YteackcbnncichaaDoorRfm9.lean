/- Which templates, instructions, programs and arguments may be, as the document has it. -/
import Derived.Test.YteackcbnncichaaDoorIdx9
import Derived.Test.YteackcbnncichaaDoorEq9
import Derived.Deep.RegionHeld3
namespace Go.Proofs.YteackcbnncichaaDoor
open Go.RowKit

set_option maxHeartbeats 400000 in
theorem refMayKey_any (k : Int × Int) (n : Int) (w : World) : Calls Tryd.prog 10 #[kcell k, .int .i64 n] w (Has w (keyOk k.1 k.2 n)) := by
  obtain ⟨x, y⟩ := k
  simp only [kcell]
  by_cases h1 : -1 ≤ x
  · by_cases h2 : x < n
    · by_cases h3 : 0 ≤ y
      · have Hb : Hid (keyOk x y n = decide (y ≤ 900)) := Lib.hid (by rw [Bool.eq_iff_iff, keyOk_iff, decide_eq_true_eq]; omega)
        have d1 : decide (-1 ≤ x) = true := by simpa using h1
        have d2 : decide (x < n) = true := by simpa using h2
        have d3 : decide (0 ≤ y) = true := by simpa using h3
        go_enter Tryd.func10, Tryd.ntmps10
        go_wp2
        go_ret
        exact ⟨by rw [Hb.out]; rfl, (Fr.refl _ _).alloc _⟩
      · have Hb : Hid (keyOk x y n = false) := Lib.hid (by rw [Bool.eq_false_iff]; intro e; rw [keyOk_iff] at e; omega)
        have d1 : decide (-1 ≤ x) = true := by simpa using h1
        have d2 : decide (x < n) = true := by simpa using h2
        have d3 : decide (0 ≤ y) = false := by simpa using h3
        go_enter Tryd.func10, Tryd.ntmps10
        go_wp2
        go_ret
        exact ⟨by rw [Hb.out]; rfl, (Fr.refl _ _).alloc _⟩
    · have Hb : Hid (keyOk x y n = false) := Lib.hid (by rw [Bool.eq_false_iff]; intro e; rw [keyOk_iff] at e; omega)
      have d1 : decide (-1 ≤ x) = true := by simpa using h1
      have d2 : decide (x < n) = false := by simpa using h2
      go_enter Tryd.func10, Tryd.ntmps10
      go_wp2
      go_ret
      exact ⟨by rw [Hb.out]; rfl, (Fr.refl _ _).alloc _⟩
  · have Hb : Hid (keyOk x y n = false) := Lib.hid (by rw [Bool.eq_false_iff]; intro e; rw [keyOk_iff] at e; omega)
    have d1 : decide (-1 ≤ x) = false := by simpa using h1
    go_enter Tryd.func10, Tryd.ntmps10
    go_wp2
    go_ret
    exact ⟨by rw [Hb.out]; rfl, (Fr.refl _ _).alloc _⟩

theorem Sl.int9 {w : World} {B : Nat} {A : Option Addr} {l : List Int} (h : Sl w B A (ints l)) {k : Nat} (hk : k < l.length) : ∃ ad, A = some ad ∧ ad.block < B ∧ w.cell? (ad.add k) = some (.int .i64 l[k]) := by
  obtain ⟨ad, e, hb, hc⟩ := h.at (k := k) (by simpa [ints] using hk)
  exact ⟨ad, e, hb, by rw [hc]; simp [ints]⟩

set_option maxHeartbeats 400000 in
theorem refArgs_any (l : List Int) (A : Option Addr) (n c : Nat) (w : World) (hsl : Sl w w.heap.size A (ints l)) (hn : l.length = n) (hnm : n ≤ 1099511627776) :
    Calls Tryd.prog 9 #[.slice A n c] w (Has w (argsOk l)) := by
  have Hn := Lib.hid hn
  have Hsl := Lib.hid hsl
  clear hn hsl
  go_enter Tryd.func9, Tryd.ntmps9
  go_wp2
  go_loopw [3] (fun i wr => ∃ k : Nat, k ≤ n ∧ i = .int .i64 k ∧ Hid ((l.take k).all (fun a => decide (0 ≤ a ∧ a ≤ 99)) = true) ∧ Hid (∃ q, wr = w.drewN q)) (fun i _ => n - (intOf i).toNat)
  case atStart => exact ⟨0, Nat.zero_le _, rfl, Lib.hid (by simp), Lib.hid ⟨0, rfl⟩⟩
  case round =>
    obtain ⟨k, hk, rfl, hpre, hwr⟩ := hrel
    obtain ⟨q, rfl⟩ := hwr.out
    by_cases hlt : k < n
    · have hkl : k < l.length := by rw [Hn.out]; exact hlt
      obtain ⟨ad, rfl, hab, hc⟩ := Hsl.out.int9 hkl
      have Hs : Hid (l.take (k + 1) = l.take k ++ [l[k]]) := Lib.hid (List.take_succ_eq_append_getElem hkl)
      have Hf : Hid (¬ (0 ≤ l[k] ∧ l[k] ≤ 99) → argsOk l = false) := Lib.hid (by
        intro h
        rw [Bool.eq_false_iff]
        intro e
        unfold argsOk at e
        rw [Bool.and_eq_true, List.all_eq_true] at e
        have := e.1 _ (List.getElem_mem hkl)
        rw [decide_eq_true_eq] at this
        exact h this)
      generalize l[k] = x at *
      by_cases h0 : x < 0
      · have d0 : decide (x < 0) = true := by simpa using h0
        go_wp2
        go_ret
        exact ⟨by rw [Hf.out (by omega)]; rfl, (Fr.refl _ _).drewN _⟩
      · have d0 : decide (x < 0) = false := by simpa using h0
        by_cases h9 : 99 < x
        · have d9 : decide (99 < x) = true := by simpa using h9
          go_wp2
          go_ret
          exact ⟨by rw [Hf.out (by omega)]; rfl, (Fr.refl _ _).drewN _⟩
        · have d9 : decide (99 < x) = false := by simpa using h9
          go_wp2
          go_roundw
          case rel =>
            refine ⟨k + 1, by omega, by go_num, Lib.hid ?_, Lib.hid ⟨_, rfl⟩⟩
            rw [Hs.out, List.all_append, hpre.out]
            simp
            omega
          case measure => simp [intOf]; omega
    · obtain rfl : k = n := by omega
      have Hr : Hid (argsOk l = decide ((k : Int) ≤ 3)) := Lib.hid (by
        have h1 := hpre.out
        rw [List.take_of_length_le (by rw [Hn.out]; exact Nat.le_refl _)] at h1
        rw [argsOk, h1, Hn.out, Bool.eq_iff_iff]
        simp
        omega)
      go_wp2
      go_ret
      exact ⟨by rw [Hr.out]; rfl, (Fr.refl _ _).drewN _⟩

set_option maxHeartbeats 400000 in
theorem refKey_any (x y : Int) (l : List Int) (A : Option Addr) (n c : Nat) (w : World) (hsl : Sl w w.heap.size A (ints l)) (hn : l.length = n) (hx : x < n) (hr : keyOk x y n = true) (ha : argsOk l = true) :
    Calls Tryd.prog 14 #[.agg #[.int .i64 x, .int .i64 y], .slice A n c] w fun e w' => e = .returned (.int .i64 (keyOf x y l)) ∧ Fr No w w' := by
  have hrg := keyOf_range (l := l) (by rw [hn]; exact hr) ha
  by_cases h : x < 0
  · have d0 : decide (x < 0) = true := by simpa using h
    have Hk : Hid (keyOf x y l = y) := Lib.hid (by simp [keyOf, h])
    clear hr hrg ha
    go_enter Tryd.func14, Tryd.ntmps14
    go_wp2
    go_ret
    exact ⟨by rw [Hk.out]; rfl, (Fr.refl _ _).alloc _⟩
  · obtain ⟨j, rfl⟩ : ∃ j : Nat, x = j := ⟨x.toNat, by omega⟩
    have hjl : j < l.length := by omega
    have hjn : j < n := by omega
    obtain ⟨ad, rfl, hab, hc⟩ := hsl.int9 hjl
    have hk : keyOf j y l = y + l[j] := by simp [keyOf, h, hjl]
    rw [hk] at hrg ⊢
    generalize l[j] = a at *
    have hw : wrap64 (y + a) = y + a := by unfold wrap64; omega
    have hc2 : (w.alloc (.cells #[.int .i64 (j : Int), .int .i64 y] 24)).cell? (ad.add j) = some (.int .i64 a) := (World.cell?_alloc_lt w _ _ (by rw [block_add]; exact hab)).trans hc
    clear hr ha hsl hk
    go_enter Tryd.func14, Tryd.ntmps14
    go_wp2
    go_region
    go_wp2
    go_ret
    exact ⟨by simp [hw], ((Fr.refl _ _).alloc _).drew⟩
end Go.Proofs.YteackcbnncichaaDoor
