/- The document's lists of frames: are two the same? -/
import Derived.Test.YtdmllfjeofiddaaLsf6
namespace Go.Proofs.Ytdmllfjeofiddaa
open Go.RowKit

theorem drew2 (w : World) (a b : Nat) : ∃ q, (w.drewN a).drewN b = w.drewN q := ⟨a + b, by simp⟩
theorem Frs.at {w : World} {A : Option Addr} {xs : List FrV} (h : Frs w A xs) {k : Nat} (hk : k < xs.length) :
    ∃ ad, A = some ad ∧ ad.block < w.heap.size ∧ w.cell? (ad.add (k * 2)) = some (.int .i64 xs[k].kind) ∧ w.cell? ⟨(ad.add (k * 2)).block, (ad.add (k * 2)).off + 1, none⟩ = some (.slice xs[k].A xs[k].ws.length xs[k].c) := by
  obtain ⟨ad, e, hb, hc⟩ := h.sl.row 2 FrV.cells_len hk (by omega)
  exact ⟨ad, e, hb, hc 0 _ rfl, hc 1 _ rfl⟩

set_option maxRecDepth 100000 in
set_option maxHeartbeats 4000000 in
theorem refSame6_any (xs ys : List FrV) (A1 A2 : Option Addr) (n m c1 c2 : Nat) (w : World) (h1 : Frs w A1 xs) (h2 : Frs w A2 ys) (hn : xs.length = n) (hm : ys.length = m) (hn1 : n ≤ 1099511627776) (hm1 : m ≤ 1099511627776) :
    Calls Try.prog 31 #[.slice A1 n c1, .slice A2 m c2] w fun e w' => (∃ b : Bool, e = .returned (.bool b) ∧ (b = true ↔ xs.map FrV.f = ys.map FrV.f)) ∧ Fr No w w' := by
  have Hn := Lib.hid hn
  have Hm := Lib.hid hm
  clear hn hm
  by_cases hnm : n = m
  · subst hnm
    go_enter Try.func31, Try.ntmps31
    go_wp2
    go_loopw [5] (fun i wr => ∃ k : Nat, k ≤ n ∧ i = .int .i64 k ∧ Hid ((xs.map FrV.f).take k = (ys.map FrV.f).take k) ∧ Hid (∃ q, wr = w.drewN q)) (fun i _ => n - (intOf i).toNat)
    case atStart => exact ⟨0, Nat.zero_le _, rfl, Lib.hid (by simp), Lib.hid ⟨0, rfl⟩⟩
    case round =>
      obtain ⟨k, hk, rfl, hpre, hwr⟩ := hrel
      obtain ⟨q, rfl⟩ := hwr.out
      clear hwr
      by_cases hlt : k < n
      · have hkx : k < xs.length := by rw [Hn.out]; exact hlt
        have hky : k < ys.length := by rw [Hm.out]; exact hlt
        obtain ⟨ad1, rfl, -, x0, x1⟩ := h1.at hkx
        obtain ⟨ad2, rfl, -, y0, y1⟩ := h2.at hky
        have fx := h1.fit _ (List.getElem_mem hkx)
        have fy := h2.fit _ (List.getElem_mem hky)
        have hx : Hid ((xs.map FrV.f).take (k + 1) = (xs.map FrV.f).take k ++ [xs[k].f]) := Lib.hid (by rw [List.take_succ_eq_append_getElem (by simpa using hkx), List.getElem_map])
        have hy : Hid ((ys.map FrV.f).take (k + 1) = (ys.map FrV.f).take k ++ [ys[k].f]) := Lib.hid (by rw [List.take_succ_eq_append_getElem (by simpa using hky), List.getElem_map])
        have Hne : Hid (xs[k].f ≠ ys[k].f → ¬ xs.map FrV.f = ys.map FrV.f) := Lib.hid (fun hne e => by
          apply hne
          have e1 : (xs.map FrV.f)[k]'(by simpa using hkx) = (ys.map FrV.f)[k]'(by simpa using hky) := by congr 1
          simpa using e1)
        generalize xs[k] = x at *
        generalize ys[k] = y at *
        obtain ⟨xk, xA, xw, xc⟩ := x
        obtain ⟨yk, yA, yw, yc⟩ := y
        have sx := fx.sl
        have sy := fy.sl
        simp only [FrV.f] at x0 x1 y0 y1 sx sy hx hy Hne
        obtain ⟨xm, Hxm⟩ : ∃ xm, Hid (xm = xw.length) := ⟨_, Lib.hid rfl⟩
        obtain ⟨ym, Hym⟩ : ∃ ym, Hid (ym = yw.length) := ⟨_, Lib.hid rfl⟩
        have bx : xm ≤ 9223372036854775807 := by have := fx.cap; have := fx.cap2; rw [Hxm.out]; unfold maxLen at *; simp only at *; omega
        have by' : ym ≤ 9223372036854775807 := by have := fy.cap; have := fy.cap2; rw [Hym.out]; unfold maxLen at *; simp only at *; omega
        clear fx fy
        rw [← Hxm.out] at x1
        rw [← Hym.out] at y1
        by_cases hkk : xk = yk
        · subst hkk
          by_cases hll : xm = ym
          · subst hll
            go_wp2
            go_quiet (fail)
            go_wp2
            go_loopw [6] (fun i wr => ∃ j : Nat, j ≤ xm ∧ i = .int .i64 j ∧ Hid (xw.take j = yw.take j) ∧ Hid (∃ q, wr = w.drewN q)) (fun i _ => xm - (intOf i).toNat)
            case atStart => exact ⟨0, Nat.zero_le _, rfl, Lib.hid (by simp), Lib.hid (by first | exact ⟨_, rfl⟩ | exact drew2 _ _ _)⟩
            case round =>
              obtain ⟨j, hj, rfl, hpj, hwr⟩ := hrel
              obtain ⟨q2, rfl⟩ := hwr.out
              clear hwr
              by_cases hlj : j < xm
              · have hjx : j < xw.length := by rw [← Hxm.out]; exact hlj
                have hjy : j < yw.length := by rw [← Hym.out]; exact hlj
                obtain ⟨ad3, rfl, -, z0⟩ := sx.wordB hjx
                obtain ⟨ad4, rfl, -, z1⟩ := sy.wordB hjy
                have ex : Hid (xw.take (j + 1) = xw.take j ++ [xw[j]]) := Lib.hid (List.take_succ_eq_append_getElem hjx)
                have ey : Hid (yw.take (j + 1) = yw.take j ++ [yw[j]]) := Lib.hid (List.take_succ_eq_append_getElem hjy)
                have Hnw : Hid (xw[j] ≠ yw[j] → ¬ xw = yw) := Lib.hid (fun hne e => by apply hne; congr 1)
                generalize xw[j] = u at *
                generalize yw[j] = v at *
                by_cases huv : u = v
                · subst huv
                  go_wp2
                  go_quiet (fail)
                  go_wp2
                  go_roundw
                  case rel => exact ⟨j + 1, by omega, by go_num, Lib.hid (by rw [ex.out, ey.out, hpj.out]), Lib.hid (by first | exact ⟨_, rfl⟩ | exact drew2 _ _ _)⟩
                  case measure => simp [intOf]; omega
                · have hb : ((u : Int) == (v : Int)) = false := by simp; omega
                  go_wp2
                  go_quiet (fail)
                  go_wp2
                  go_ret
                  exact ⟨⟨false, rfl, by simp only [Bool.false_eq_true, false_iff]; exact Hne.out (fun e => by injection e with e1 e2; exact Hnw.out huv e2)⟩, by first | exact ((Fr.refl _ w).drewN _) | exact ((Fr.refl _ w).drewN _).drewN _⟩
              · have hjj : j = xm := by omega
                have hxy : Hid (xw = yw) := Lib.hid (by
                  have := hpj.out
                  rwa [List.take_of_length_le (by rw [← Hxm.out]; omega), List.take_of_length_le (by rw [← Hym.out]; omega)] at this)
                go_wp2
                go_roundw
                case rel => exact ⟨k + 1, by omega, by go_num, Lib.hid (by rw [hx.out, hy.out, hpre.out, hxy.out]), Lib.hid (by first | exact ⟨_, rfl⟩ | exact drew2 _ _ _)⟩
                case measure => simp [intOf]; omega
          · have hb : ((xm : Int) == (ym : Int)) = false := by simp; omega
            go_wp2
            go_quiet (fail)
            go_wp2
            go_ret
            exact ⟨⟨false, rfl, by simp only [Bool.false_eq_true, false_iff]; exact Hne.out (fun e => by injection e with e1 e2; rw [e2, ← Hym.out] at Hxm; exact hll Hxm.out)⟩, by first | exact ((Fr.refl _ w).drewN _) | exact ((Fr.refl _ w).drewN _).drewN _⟩
        · have hb : (xk == yk) = false := by simp; omega
          go_wp2
          go_quiet (fail)
          go_wp2
          go_ret
          exact ⟨⟨false, rfl, by simp only [Bool.false_eq_true, false_iff]; exact Hne.out (fun e => by injection e with e1 e2; exact hkk e1)⟩, by first | exact ((Fr.refl _ w).drewN _) | exact ((Fr.refl _ w).drewN _).drewN _⟩
      · have hkn : k = n := by omega
        have Hr : Hid (xs.map FrV.f = ys.map FrV.f) := Lib.hid (by
          have := hpre.out
          rwa [List.take_of_length_le (by simp [Hn.out]; omega), List.take_of_length_le (by simp [Hm.out]; omega)] at this)
        go_wp2
        go_ret
        exact ⟨⟨true, rfl, by simp only [true_iff]; exact Hr.out⟩, by first | exact ((Fr.refl _ w).drewN _) | exact ((Fr.refl _ w).drewN _).drewN _⟩
  · have hb : ((n : Int) == (m : Int)) = false := by simp; omega
    go_enter Try.func31, Try.ntmps31
    go_wp2
    go_ret
    exact ⟨⟨false, rfl, by simp only [Bool.false_eq_true, false_iff]; intro e; apply hnm; rw [← Hn.out, ← Hm.out]; simpa using congrArg List.length e⟩, Fr.refl _ w⟩
end Go.Proofs.Ytdmllfjeofiddaa
