/- The document's lists of pairs: are two the same? -/
import Derived.Test.YtenmiociinogeaaRgt5
namespace Go.Proofs.Ytenmiociinogeaa
open Go.RowKit

theorem Sl.pair {w : World} {B : Nat} {A : Option Addr} {l : List (Nat × Int)} (h : Sl w B A (prs l)) {k : Nat} (hk : k < l.length) :
    ∃ ad, A = some ad ∧ ad.block < B ∧ w.cell? (ad.add (k * 2)) = some (.int .i64 (l[k].1 : Int)) ∧ w.cell? ⟨(ad.add (k * 2)).block, (ad.add (k * 2)).off + 1, none⟩ = some (.int .i64 l[k].2) := by
  obtain ⟨ad, e, hb, hc⟩ := h.row 2 prC_len hk (by omega)
  exact ⟨ad, e, hb, hc 0 _ rfl, hc 1 _ rfl⟩
theorem eqPr (a b c d : Int) (w : World) : (Op.equalIn 10000 50 (.agg #[.int .i64 a, .int .i64 b]) (.agg #[.int .i64 c, .int .i64 d])).run Try.prog w = .ok (a == c && b == d) w := by
  have u3 := Try.underlying3
  have a3 : ∀ w, (isAgg 3).run Try.prog w = .ok false w := fun w => by simp [isAgg, run_underlying Try.underlying3]
  have u4 := Try.underlying2
  have a4 : ∀ w, (isAgg 2).run Try.prog w = .ok false w := fun w => by simp [isAgg, run_underlying Try.underlying2]
  have hs : Try.prog.underlying 50 = some (.struct (Try.prog.fieldsOf 50)) := by kernel_rfl
  rw [run_equalIn_agg w 9999 50 _ _ hs (by kernel_rfl)]
  simp only [Program.fieldsOf, Try.underlying50]
  go_simp
  by_cases h1 : a = c <;> by_cases h2 : b = d <;> simp [h1, h2]

set_option maxHeartbeats 1000000 in
theorem refSame5_any (xs ys : List (Nat × Int)) (A1 A2 : Option Addr) (n m c1 c2 : Nat) (w : World) (h1 : Sl w w.heap.size A1 (prs xs)) (h2 : Sl w w.heap.size A2 (prs ys)) (hn : xs.length = n) (hm : ys.length = m) (hn1 : n ≤ 1099511627776) (hm1 : m ≤ 1099511627776) :
    Calls Try.prog 18 #[.slice A1 n c1, .slice A2 m c2] w fun e w' => e = .returned (.bool (decide (xs = ys))) ∧ Fr No w w' := by
  have Hn := Lib.hid hn
  have Hm := Lib.hid hm
  clear hn hm
  have q2 := eqPr
  by_cases hnm : n = m
  · subst hnm
    go_enter Try.func18, Try.ntmps18
    go_wp2
    go_loopw [5] (fun i wr => ∃ k : Nat, k ≤ n ∧ i = .int .i64 k ∧ Hid (xs.take k = ys.take k) ∧ Hid (∃ q, wr = w.drewN q)) (fun i _ => n - (intOf i).toNat)
    case atStart => exact ⟨0, Nat.zero_le _, rfl, Lib.hid (by simp), Lib.hid ⟨0, rfl⟩⟩
    case round =>
      obtain ⟨k, hk, rfl, hpre, hwr⟩ := hrel
      obtain ⟨q, rfl⟩ := hwr.out
      clear hwr
      by_cases hlt : k < n
      · have hkx : k < xs.length := by rw [Hn.out]; exact hlt
        have hky : k < ys.length := by rw [Hm.out]; exact hlt
        obtain ⟨ad1, rfl, -, x0, x1⟩ := h1.pair hkx
        obtain ⟨ad2, rfl, -, y0, y1⟩ := h2.pair hky
        have hx := List.take_succ_eq_append_getElem hkx
        have hy := List.take_succ_eq_append_getElem hky
        have hgx := List.getElem?_eq_getElem hkx
        have hgy := List.getElem?_eq_getElem hky
        generalize xs[k] = x at *
        generalize ys[k] = y at *
        obtain ⟨xa, xb⟩ := x
        obtain ⟨ya, yb⟩ := y
        by_cases hxy : xa = ya ∧ xb = yb
        · obtain ⟨rfl, rfl⟩ := hxy
          have Hr : Hid (xs.take (k + 1) = ys.take (k + 1)) := Lib.hid (by rw [hx, hy, hpre.out])
          clear hx hy hgx hgy
          go_wp2
          go_quiet (fail)
          go_wp2
          go_roundw
          case rel => exact ⟨k + 1, by omega, by go_num, Hr, Lib.hid ⟨_, rfl⟩⟩
          case measure => simp [intOf]; omega
        · have Hr : Hid (xs ≠ ys) := Lib.hid (by
            rintro rfl
            rw [hgx] at hgy
            injection hgy with hgy
            injection hgy with e1 e2
            exact hxy ⟨e1, e2⟩)
          have hb : (((xa : Nat) : Int) == ((ya : Nat) : Int) && xb == yb) = false := by
            rw [Bool.and_eq_false_iff, beq_eq_false_iff_ne, beq_eq_false_iff_ne]
            by_cases h : xa = ya
            · exact .inr (fun e => hxy ⟨h, e⟩)
            · exact .inl (by omega)
          clear hx hy hgx hgy hxy
          go_wp2
          go_quiet (fail)
          go_wp2
          go_ret
          exact ⟨by simp [Hr.out], ((Fr.refl _ _).drewN _).drewN _⟩
      · have Hr : Hid (xs = ys) := Lib.hid (by
          have h := hpre.out
          rwa [List.take_of_length_le (by rw [Hn.out]; omega), List.take_of_length_le (by rw [Hm.out]; omega)] at h)
        go_wp2
        go_ret
        exact ⟨by simp [Hr.out], (Fr.refl _ _).drewN _⟩
  · have Hr : Hid (xs ≠ ys) := Lib.hid (by rintro rfl; exact hnm (Hn.out.symm.trans Hm.out))
    have hb : ((n : Int) != (m : Int)) = true := by rw [bne_iff_ne]; omega
    clear hnm
    go_enter Try.func18, Try.ntmps18
    go_wp2
    go_ret
    exact ⟨by simp [Hr.out], Fr.refl _ _⟩
end Go.Proofs.Ytenmiociinogeaa
