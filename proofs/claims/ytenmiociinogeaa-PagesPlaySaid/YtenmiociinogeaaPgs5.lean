/- Package pages: the pairs of a store, and whether two stores have the same. -/
import Derived.Test.YtenmiociinogeaaSca5
import Derived.Test.YtenmiociinogeaaRsm5
namespace Go.Proofs.Ytenmiociinogeaa
open Go.RowKit

section
variable {w : World} {S : Nat → Prop} {s : Nat} {P : List Pg}
theorem stops_of (hi : InvP P) (h : PS w S s P) (lo : Int) : ∃ A c, (∀ W, Fr No w W → W.cell? ⟨s, 0, none⟩ = some (.slice A P.length c)) ∧ Stops w lo (fromP P.flatten lo) A P.length c := by
  obtain ⟨A, c, h1, h2⟩ := h.list
  have hlt := h.lt
  obtain ⟨v, hb, -⟩ := h
  refine ⟨A, c, fun W hW => ?_, fun W bl bk hW b1 b2 => ?_⟩
  · have e0 := (hb.cell 0).symm.trans h1
    have e1 := (hb.fr hW (fun e => e)).cell 0
    rw [e1]
    exact e0
  · by_cases hne : P = []
    · subst hne
      exact from_stops0 2 w.heap.size bl bk A lo (by omega) b1 b2
    · obtain ⟨q, o, hs, rfl, hl, hL⟩ := h2 hne
      rw [← hl] at b1
      exact from_stops 2 w.heap.size bl bk lo hi hne (by omega) hW.size hlt (hL.since hW) b1 b2
theorem rise_from {l : List (Nat × Int)} (h : Rise l) (lo : Int) : Rise (fromP l lo) := List.Pairwise.filter _ h
theorem from_len (l : List (Nat × Int)) (lo : Int) : (fromP l lo).length ≤ l.length := List.length_filter_le _ _
theorem pScan_any (lo hi' : Int) (hi : InvP P) (h : PS w S s P) :
    Calls Try.prog 19 #[.pointer (some ⟨s, 0, none⟩), .int .i64 lo, .int .i64 hi'] w fun e w' => ∃ A c, e = .returned (.slice A (scanP P.flatten lo hi').length c) ∧ Sl w' w'.heap.size A (prs (scanP P.flatten lo hi')) ∧ Fr No w w' := by
  obtain ⟨A, c, h1, h2⟩ := stops_of hi h lo
  have hl := hi.len.1
  have := scan_wide (w := w) (some ⟨s, 0, none⟩) lo hi' (fromP P.flatten lo) A P.length c (by have := from_len P.flatten lo; omega) (rise_from hi.rise lo) (fun W hW => all_val A _ c (h1 W hW)) h2
  rw [scan_from]
  exact this
theorem pScan_nil (lo hi' : Int) (w : World) : Calls Try.prog 19 #[.pointer none, .int .i64 lo, .int .i64 hi'] w fun e w' => ∃ A c, e = .returned (.slice A 0 c) ∧ Fr No w w' := by
  have := scan_wide (w := w) none lo hi' [] none 0 0 (by simp) Rise.nil (fun W _ => pAll_nil W) (fun W bl bk hW b1 b2 => from_stops0 2 w.heap.size bl bk none lo (by omega) b1 b2)
  refine this.mono ?_
  rintro e w' ⟨A, c, rfl, -, hf⟩
  exact ⟨A, c, rfl, hf⟩

set_option maxHeartbeats 1000000 in
theorem equal5_any (xs ys : List (Nat × Int)) (A1 A2 : Option Addr) (n m c1 c2 : Nat) (w : World) (h1 : Sl w w.heap.size A1 (prs xs)) (h2 : Sl w w.heap.size A2 (prs ys)) (hn : xs.length = n) (hm : ys.length = m) (hn1 : n ≤ 1099511627776) (hm1 : m ≤ 1099511627776) :
    Calls Try.prog 35 #[.slice A1 n c1, .slice A2 m c2] w fun e w' => e = .returned (.bool (decide (xs = ys))) ∧ Fr No w w' := by
  have Hn := Lib.hid hn
  have Hm := Lib.hid hm
  clear hn hm
  have q2 := eqPr
  by_cases hnm : n = m
  · subst hnm
    go_enter Try.func35, Try.ntmps35
    go_wp2
    go_loopw [13] (fun i wr => ∃ k : Nat, k ≤ n ∧ i = .int .i64 k ∧ Hid (xs.take k = ys.take k) ∧ Hid (∃ q, wr = w.drewN q)) (fun i _ => n - (intOf i).toNat)
    case atStart => exact ⟨0, Nat.zero_le _, rfl, Lib.hid (by simp), Lib.hid ⟨0, rfl⟩⟩
    case round =>
      obtain ⟨k, hk, rfl, hpre, hwr⟩ := hrel
      obtain ⟨q, rfl⟩ := hwr.out
      clear hwr
      by_cases hlt : k < n
      · have hkx : k < xs.length := by rw [Hn.out]; exact hlt
        have hky : k < ys.length := by rw [Hm.out]; exact hlt
        obtain ⟨ad1, rfl, -, x0, x1⟩ := h1.pair hkx
        obtain ⟨ad2, rfl, -, y0, y1⟩ := h2.pair hky
        have hx := List.take_succ_eq_append_getElem hkx
        have hy := List.take_succ_eq_append_getElem hky
        have hgx := List.getElem?_eq_getElem hkx
        have hgy := List.getElem?_eq_getElem hky
        generalize xs[k] = x at *
        generalize ys[k] = y at *
        obtain ⟨xa, xb⟩ := x
        obtain ⟨ya, yb⟩ := y
        by_cases hxy : xa = ya ∧ xb = yb
        · obtain ⟨rfl, rfl⟩ := hxy
          have Hr : Hid (xs.take (k + 1) = ys.take (k + 1)) := Lib.hid (by rw [hx, hy, hpre.out])
          clear hx hy hgx hgy
          go_wp2
          go_quiet (fail)
          go_wp2
          go_roundw
          case rel => exact ⟨k + 1, by omega, by go_num, Hr, Lib.hid ⟨_, rfl⟩⟩
          case measure => simp [intOf]; omega
        · have Hr : Hid (xs ≠ ys) := Lib.hid (by
            rintro rfl
            rw [hgx] at hgy
            injection hgy with hgy
            injection hgy with e1 e2
            exact hxy ⟨e1, e2⟩)
          have hb : (((xa : Nat) : Int) == ((ya : Nat) : Int) && xb == yb) = false := by
            rw [Bool.and_eq_false_iff, beq_eq_false_iff_ne, beq_eq_false_iff_ne]
            by_cases h : xa = ya
            · exact .inr (fun e => hxy ⟨h, e⟩)
            · exact .inl (by omega)
          clear hx hy hgx hgy hxy
          go_wp2
          go_quiet (fail)
          go_wp2
          go_ret
          exact ⟨by simp [Hr.out], ((Fr.refl _ _).drewN _).drewN _⟩
      · have Hr : Hid (xs = ys) := Lib.hid (by
          have h := hpre.out
          rwa [List.take_of_length_le (by rw [Hn.out]; omega), List.take_of_length_le (by rw [Hm.out]; omega)] at h)
        go_wp2
        go_ret
        exact ⟨by simp [Hr.out], (Fr.refl _ _).drewN _⟩
  · have Hr : Hid (xs ≠ ys) := Lib.hid (by rintro rfl; exact hnm (Hn.out.symm.trans Hm.out))
    have hb : ((n : Int) != (m : Int)) = true := by rw [bne_iff_ne]; omega
    clear hnm
    go_enter Try.func35, Try.ntmps35
    go_wp2
    go_ret
    exact ⟨by simp [Hr.out], Fr.refl _ _⟩

set_option maxHeartbeats 1000000 in
theorem same_of (a b : Option Addr) (xs ys : List (Nat × Int)) (hx : xs.length ≤ 1000) (hy : ys.length ≤ 1000)
    (h1 : ∀ W, Fr No w W → Calls Try.prog 19 #[.pointer a, .int .i64 0, .int .i64 999] W fun e w' => ∃ A c, e = .returned (.slice A xs.length c) ∧ Sl w' w'.heap.size A (prs xs) ∧ Fr No W w')
    (h2 : ∀ W, Fr No w W → Calls Try.prog 19 #[.pointer b, .int .i64 0, .int .i64 999] W fun e w' => ∃ A c, e = .returned (.slice A ys.length c) ∧ Sl w' w'.heap.size A (prs ys) ∧ Fr No W w') :
    Calls Try.prog 21 #[.pointer a, .pointer b] w fun e w' => e = .returned (.bool (decide (xs = ys))) ∧ Fr No w w' := by
  have q1 := h1 w (Fr.refl _ _)
  go_enter Try.func21, Try.ntmps21
  go_wp2_with fail
  refine q1.mono ?_
  rintro e w1 ⟨A1, c1, rfl, s1, f1⟩
  have q2 := h2 w1 f1
  clear q1
  go_wp2_with fail
  refine q2.mono ?_
  rintro e w2 ⟨A2, c2, rfl, s2, f2⟩
  have q3 := equal5_any xs ys A1 A2 xs.length ys.length c1 c2 w2 (s1.since f2) s2 rfl rfl (by omega) (by omega)
  have f3 := f1.trans' f2 (fun _ _ e => e)
  clear q2 s1 s2
  go_wp2_with fail
  refine q3.mono ?_
  rintro e w3 ⟨rfl, f4⟩
  have f5 := f3.trans' f4 (fun _ _ e => e)
  clear q3 f4
  go_wp2
  go_ret
  exact ⟨rfl, f5⟩
theorem scan_all (hi : InvP P) (h : PS w S s P) : ∀ W, Fr No w W → Calls Try.prog 19 #[.pointer (some ⟨s, 0, none⟩), .int .i64 0, .int .i64 999] W fun e w' => ∃ A c, e = .returned (.slice A P.flatten.length c) ∧ Sl w' w'.heap.size A (prs P.flatten) ∧ Fr No W w' := fun W hW => by
  have := pScan_any 0 999 hi (h.fr hW (fun _ _ e => e))
  rwa [scanP_all hi.key] at this
theorem scan_nil (w : World) : ∀ W, Fr No w W → Calls Try.prog 19 #[.pointer none, .int .i64 0, .int .i64 999] W fun e w' => ∃ A c, e = .returned (.slice A ([] : Pg).length c) ∧ Sl w' w'.heap.size A (prs []) ∧ Fr No W w' := fun W _ =>
  (pScan_nil 0 999 W).mono (by rintro e w' ⟨A, c, rfl, hf⟩; exact ⟨A, c, rfl, Sl.nil _ _ _, hf⟩)
theorem pSame_any {T : Nat → Prop} {t : Nat} {Q : List Pg} (hi : InvP P) (hj : InvP Q) (h : PS w S s P) (h2 : PS w T t Q) :
    Calls Try.prog 21 #[.pointer (some ⟨s, 0, none⟩), .pointer (some ⟨t, 0, none⟩)] w fun e w' => e = .returned (.bool (decide (P.flatten = Q.flatten))) ∧ Fr No w w' :=
  same_of _ _ _ _ hi.len.1 hj.len.1 (scan_all hi h) (scan_all hj h2)
theorem pSame_nil (hi : InvP P) (h : PS w S s P) : Calls Try.prog 21 #[.pointer (some ⟨s, 0, none⟩), .pointer none] w fun e w' => e = .returned (.bool (decide (P.flatten = []))) ∧ Fr No w w' :=
  same_of _ _ _ _ hi.len.1 (by simp) (scan_all hi h) (scan_nil w)
theorem pSame_nil2 (w : World) : Calls Try.prog 21 #[.pointer none, .pointer none] w fun e w' => e = .returned (.bool true) ∧ Fr No w w' := by
  have := same_of (w := w) none none [] [] (by simp) (by simp) (scan_nil w) (scan_nil w)
  simpa using this
end
end Go.Proofs.Ytenmiociinogeaa
