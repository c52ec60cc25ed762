/- Package keys: whether a key is in a set. -/
import Derived.Test.YthnpgepniiicaaaMay4
namespace Go.Proofs.Ythnpgepniiicaaa
open Go.RowKit

def inB (p : Span) (k : Int) : Bool := mayB p.1 p.2 && (decide (p.1 ≤ k) && decide (k ≤ p.2))
theorem hasB_eq (l : List Span) (k : Int) : hasB l k = l.any fun p => inB p k := by
  rw [Bool.eq_iff_iff, List.any_eq_true]
  unfold hasB
  rw [Bool.and_eq_true, decide_eq_true_eq, keysOf_true]
  constructor
  · rintro ⟨h0, p, hp, h⟩
    rw [spHas_iff] at h
    refine ⟨p, hp, ?_⟩
    simp only [inB, mayB, Bool.and_eq_true, decide_eq_true_eq]
    omega
  · rintro ⟨p, hp, h⟩
    simp only [inB, mayB, Bool.and_eq_true, decide_eq_true_eq] at h
    refine ⟨by omega, p, hp, ?_⟩
    rw [spHas_iff]
    omega
set_option maxHeartbeats 1000000 in
theorem kHas1 (a b k : Int) (B : Nat) (w : World) (hB : Bk w B 3 #[.int .i64 k]) : Calls Try.prog 26 #[.agg #[.int .i64 a, .int .i64 b], .pointer (some ⟨B, 0, none⟩)] w fun e w' => e = .returned (.bool (inB (a, b) k)) ∧ Fr No w w' := by
  have v1 := Bk.made w 30 #[.int .i64 a, .int .i64 b]
  have g1 := (Fr.refl No w).alloc (.cells #[.int .i64 a, .int .i64 b] 30)
  have hB1 := hB.alloc (.cells #[.int .i64 a, .int .i64 b] 30)
  cases hmay : mayB a b with
  | false =>
    have HMt : ∀ W, Calls Try.prog 22 #[.agg #[.int .i64 a, .int .i64 b]] W fun e w' => e = .returned (.bool false) ∧ Fr No W w' := fun W => by rw [← hmay]; exact kMay_any a b W
    have e : inB (a, b) k = false := by unfold inB; rw [show mayB (a, b).1 (a, b).2 = false from hmay]; rfl
    rw [e]
    clear hmay e hB hB1
    go_enter Try.func26, Try.ntmps26
    go_wp2_with fail
    refine (HMt _).mono ?_
    rintro e w2 ⟨rfl, hf2⟩
    have g2 := g1.trans' hf2 (fun _ _ e => e)
    clear hf2 HMt
    go_wp2
    go_ret
    exact ⟨rfl, g2⟩
  | true =>
    have HMt : ∀ W, Calls Try.prog 22 #[.agg #[.int .i64 a, .int .i64 b]] W fun e w' => e = .returned (.bool true) ∧ Fr No W w' := fun W => by rw [← hmay]; exact kMay_any a b W
    have e : inB (a, b) k = (decide (a ≤ k) && decide (k ≤ b)) := by unfold inB; rw [show mayB (a, b).1 (a, b).2 = true from hmay]; rfl
    rw [e]
    clear hmay e
    by_cases h1 : a ≤ k
    · have e1 : (decide (a ≤ k) && decide (k ≤ b)) = decide (k ≤ b) := by simp [h1]
      rw [e1]
      clear e1
      by_cases h2 : k ≤ b
      · go_enter Try.func26, Try.ntmps26
        go_wp2_with fail
        refine (HMt _).mono ?_
        rintro e w2 ⟨rfl, hf2⟩
        have g2 := g1.trans' hf2 (fun _ _ e => e)
        have v2 := v1.fr hf2 (fun e => e)
        have x0 := v2.cell 0
        have x1 := v2.cell 1
        have y0 := (hB1.fr hf2 (fun e => e)).cell 0
        simp at x0 x1 y0
        clear hf2 HMt v1 v2 hB hB1 g1
        go_wp2
        go_ret
        exact ⟨by simp [h2], g2⟩
      · go_enter Try.func26, Try.ntmps26
        go_wp2_with fail
        refine (HMt _).mono ?_
        rintro e w2 ⟨rfl, hf2⟩
        have g2 := g1.trans' hf2 (fun _ _ e => e)
        have v2 := v1.fr hf2 (fun e => e)
        have x0 := v2.cell 0
        have x1 := v2.cell 1
        have y0 := (hB1.fr hf2 (fun e => e)).cell 0
        simp at x0 x1 y0
        clear hf2 HMt v1 v2 hB hB1 g1
        go_wp2
        go_ret
        exact ⟨by simp, g2⟩
    · have e1 : (decide (a ≤ k) && decide (k ≤ b)) = false := by simp [h1]
      rw [e1]
      clear e1
      go_enter Try.func26, Try.ntmps26
      go_wp2_with fail
      refine (HMt _).mono ?_
      rintro e w2 ⟨rfl, hf2⟩
      have g2 := g1.trans' hf2 (fun _ _ e => e)
      have v2 := v1.fr hf2 (fun e => e)
      have x0 := v2.cell 0
      have x1 := v2.cell 1
      have y0 := (hB1.fr hf2 (fun e => e)).cell 0
      simp at x0 x1 y0
      clear hf2 HMt v1 v2 hB hB1 g1
      go_wp2
      go_ret
      exact ⟨rfl, g2⟩

set_option maxRecDepth 100000 in
set_option maxHeartbeats 2000000 in
theorem kIndex_any (l : List Span) (A : Option Addr) (n c B : Nat) (k : Int) (w : World) (h : In4 w A n l) (hB : Bk w B 3 #[.int .i64 k]) :
    Calls Try.prog 31 #[.slice A n c, .func (.func 26) #[] #[.pointer (some ⟨B, 0, none⟩)]] w fun e w' => ∃ r : Int, e = .returned (.int .i64 r) ∧ decide (0 ≤ r) = hasB l k ∧ Fr No w w' := by
  obtain ⟨hsl, hlen, hle⟩ := h
  rw [hasB_eq]
  have Hlen := Lib.hid hlen
  have hq := fun W a b h => kHas1 a b k B W h
  clear hlen
  go_enter Try.func31, Try.ntmps31
  go_wp2
  go_loopw [8] (fun iv wr => ∃ j : Nat, j ≤ n ∧ iv = .int .i64 j ∧ Hid (((l.take j).any fun p => inB p k) = false) ∧ Fr No w wr) (fun i _ => n - (intOf i).toNat)
  case atStart => exact ⟨0, by omega, rfl, Lib.hid rfl, Fr.refl _ _⟩
  case round =>
    obtain ⟨j, hj, rfl, Hno, hfr⟩ := hrel
    by_cases hlt : j < n
    · have hjl : j < l.length := by rw [Hlen.out]; exact hlt
      obtain ⟨ad, rfl, hadB, d0, d1⟩ := hsl.span hjl
      have k0 := (hfr.cell (p := ad.add (j * 2)) (by rw [block_add]; exact hadB) (fun e => e)).trans d0
      have k1 := (hfr.cell (p := ⟨(ad.add (j * 2)).block, (ad.add (j * 2)).off + 1, none⟩) (by rw [block_add]; exact hadB) (fun e => e)).trans d1
      have Hs : Hid (l.take (j + 1) = l.take j ++ [l[j]]) := Lib.hid (List.take_succ_eq_append_getElem hjl)
      have Hin := Lib.hid (List.getElem_mem hjl)
      have hBr := hB.fr hfr (fun e => e)
      clear d0 d1
      generalize l[j] = p at *
      obtain ⟨lo, hi⟩ := p
      have hq1 := hq wr lo hi hBr
      cases hin : inB (lo, hi) k with
      | true =>
        rw [hin] at hq1
        have Hy : Hid ((l.any fun p => inB p k) = true) := Lib.hid (List.any_eq_true.2 ⟨_, Hin.out, hin⟩)
        clear hin hq hBr
        go_wp2_with fail
        refine hq1.mono ?_
        rintro e w2 ⟨rfl, hf2⟩
        have g2 := hfr.trans' hf2 (fun _ _ e => e)
        clear hf2 hq1 k0 k1
        go_wp2
        go_ret
        exact ⟨_, rfl, by rw [Hy.out]; simp, g2⟩
      | false =>
        rw [hin] at hq1
        have Hn2 : Hid (((l.take (j + 1)).any fun p => inB p k) = false) := Lib.hid (by rw [Hs.out, List.any_append, Hno.out]; simp [hin])
        clear hin hq hBr
        go_wp2_with fail
        refine hq1.mono ?_
        rintro e w2 ⟨rfl, hf2⟩
        have g2 := hfr.trans' hf2 (fun _ _ e => e)
        clear hf2 hq1 k0 k1
        go_wp2
        go_roundw
        case rel => exact ⟨j + 1, by omega, by go_num, Hn2, g2⟩
        case measure => simp [intOf]; omega
    · have hno := Hno.out
      rw [List.take_of_length_le (by rw [Hlen.out]; omega)] at hno
      have Hn3 := Lib.hid hno
      clear hno
      go_wp2
      go_ret
      exact ⟨-1, rfl, by rw [Hn3.out]; rfl, hfr⟩
set_option maxHeartbeats 1000000 in
theorem kHas_any (l : List Span) (A : Option Addr) (n c : Nat) (k : Int) (w : World) (h : In4 w A n l) : Calls Try.prog 12 #[.slice A n c, .int .i64 k] w fun e w' => e = .returned (.bool (hasB l k)) ∧ Fr No w w' := by
  have hg := (Fr.refl No w).alloc (.cells #[.int .i64 k] 3)
  have q := kIndex_any l A n c w.heap.size k _ ⟨h.sl.since hg, h.len, h.le⟩ (Bk.made w 3 #[.int .i64 k])
  have q2 : Calls Try.prog 25 #[.slice A n c, .func (.func 26) #[] #[.pointer (some ⟨w.heap.size, 0, none⟩)]] (w.alloc (.cells #[.int .i64 k] 3)) fun e w' => e = .returned (.bool (hasB l k)) ∧ Fr No (w.alloc (.cells #[.int .i64 k] 3)) w' := by
    clear h hg
    generalize w.alloc (.cells #[.int .i64 k] 3) = W at *
    generalize w.heap.size = B at *
    generalize hasB l k = r at *
    go_enter Try.func25, Try.ntmps25
    go_wp2_with fail
    refine q.mono ?_
    rintro e w2 ⟨x, rfl, hx, hf⟩
    subst hx
    clear q
    go_wp2
    go_ret
    exact ⟨rfl, hf⟩
  clear h q
  generalize hasB l k = r at *
  go_enter Try.func12, Try.ntmps12
  go_wp2_with fail
  refine q2.mono ?_
  rintro e w2 ⟨rfl, hf⟩
  have g := hg.trans' hf (fun _ _ e => e)
  clear hf q2 hg
  go_wp2
  go_ret
  exact ⟨rfl, g⟩
end Go.Proofs.Ythnpgepniiicaaa
