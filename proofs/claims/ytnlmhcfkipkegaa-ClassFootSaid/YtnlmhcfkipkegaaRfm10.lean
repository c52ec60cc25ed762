/- Which footprints may be, as the document has it; sets that lie inside one another; footprints that are the same. -/
import Derived.Test.YtnlmhcfkipkegaaPrg10
import Derived.Test.YtnlmhcfkipkegaaMay9
import Derived.Test.YtnlmhcfkipkegaaRef4
import Derived.Deep.QuietTactic
import Derived.BigQuiet
import Derived.Laws.StructEq
namespace Go.Proofs.Ytnlmhcfkipkegaa
open Go.RowKit

set_option maxHeartbeats 1000000 in
theorem refMay10_any (l : List Fsp) (n : Int) (A : Option Addr) (m c : Nat) (w : World) (hsl : Sl w w.heap.size A (l.flatMap Fsp.cells)) (hm : l.length = m) :
    Calls Try.prog 34 #[.slice A m c, .int .i64 n] w (Has w (footOk l n)) := by
  have Hm := Lib.hid hm
  have Hsl := Lib.hid hsl
  have Hno : Hid (¬ ((0 ≤ n ∧ n ≤ 3) ∧ m ≤ 4) → footOk l n = false) := Lib.hid (by
    intro h
    rw [Bool.eq_false_iff]
    intro e
    unfold footOk at e
    simp only [Bool.and_eq_true, decide_eq_true_eq, hm] at e
    exact h ⟨e.1, e.2.1⟩)
  clear hm hsl
  by_cases h0 : n < 0
  · have d0 : decide (n < 0) = true := by simpa using h0
    have Hb : Hid (footOk l n = false) := Lib.hid (Hno.out (by omega))
    go_enter Try.func34, Try.ntmps34
    go_wp2
    go_ret
    exact ⟨by rw [Hb.out]; rfl, Fr.refl _ _⟩
  have d0 : decide (n < 0) = false := by simpa using h0
  by_cases h3 : 3 < n
  · have d3 : decide (3 < n) = true := by simpa using h3
    have Hb : Hid (footOk l n = false) := Lib.hid (Hno.out (by omega))
    go_enter Try.func34, Try.ntmps34
    go_wp2
    go_ret
    exact ⟨by rw [Hb.out]; rfl, Fr.refl _ _⟩
  have d3 : decide (3 < n) = false := by simpa using h3
  by_cases h8 : 4 < m
  · have d8 : decide (4 < (m : Int)) = true := by simp; omega
    have Hb : Hid (footOk l n = false) := Lib.hid (Hno.out (by omega))
    go_enter Try.func34, Try.ntmps34
    go_wp2
    go_ret
    exact ⟨by rw [Hb.out]; rfl, Fr.refl _ _⟩
  have d8 : decide (4 < (m : Int)) = false := by simp; omega
  have HC := Lib.hid (fun (x y : Int) W => refMayKey_any (x, y) n W)
  have Hall : Hid (footOk l n = l.all fun f => fspOk f n) := Lib.hid (by
    have e1 : decide (0 ≤ n ∧ n ≤ 3) = true := by simp; omega
    have e2 : decide (l.length ≤ 4) = true := by rw [Hm.out]; simp; omega
    rw [footOk, e1, e2]
    rfl)
  go_enter Try.func34, Try.ntmps34
  go_wp2
  go_loopw [5] (fun i wr => ∃ k : Nat, k ≤ m ∧ i = .int .i64 k ∧ Hid ((l.take k).all (fun f => fspOk f n) = true) ∧ Fr No w wr) (fun i _ => m - (intOf i).toNat)
  case atStart => exact ⟨0, Nat.zero_le _, rfl, Lib.hid (by simp), Fr.refl _ _⟩
  case round =>
    obtain ⟨k, hk, rfl, hpre, hfr⟩ := hrel
    by_cases hlt : k < m
    · have hkl : k < l.length := by rw [Hm.out]; exact hlt
      obtain ⟨ad, rfl, hab, c0, c1, c2, c3, c4⟩ := (Hsl.out.since hfr).fsp (k := k) hkl
      have Hs : Hid (l.take (k + 1) = l.take k ++ [l[k]]) := Lib.hid (List.take_succ_eq_append_getElem hkl)
      have Hf : Hid (fspOk l[k] n = false → footOk l n = false) := Lib.hid (by
        intro h
        rw [Hall.out, Bool.eq_false_iff]
        intro e
        rw [List.all_eq_true] at e
        rw [e _ (List.getElem_mem hkl)] at h
        cases h)
      have Hd : Hid (fspOk l[k] n = (keyOk l[k].la l[k].lb n && keyOk l[k].ha l[k].hb n)) := Lib.hid rfl
      generalize l[k] = x at *
      obtain ⟨la, lb, ha, hb, wt⟩ := x
      dsimp only at c0 c1 c2 c3 c4 Hd
      have hx := HC.out la lb
      have hy := HC.out ha hb
      simp only [kcell] at hx hy
      cases hr1 : keyOk la lb n
      · have Hbad : Hid (footOk l n = false) := Lib.hid (Hf.out (by rw [Hd.out, hr1]; rfl))
        rw [hr1] at hx
        clear hr1
        go_wp2_with fail
        refine (hx _).mono ?_
        rintro e w1 ⟨rfl, hf1⟩
        go_wp2
        go_ret
        exact ⟨by rw [Hbad.out]; rfl, hfr.then0 hf1 (fun _ h => h.elim)⟩
      · rw [hr1] at hx
        go_wp2_with fail
        refine (hx _).mono ?_
        rintro e w1 ⟨rfl, hf1⟩
        have hz1 := hfr.then0 hf1 (fun _ h => h.elim)
        have k2 := (hf1.cell (p := ⟨(ad.add (k * 5)).block, (ad.add (k * 5)).off + 2, none⟩) (by rw [block_add]; exact hab) (fun e => e)).trans c2
        have k3 := (hf1.cell (p := ⟨(ad.add (k * 5)).block, (ad.add (k * 5)).off + 3, none⟩) (by rw [block_add]; exact hab) (fun e => e)).trans c3
        have Hr1 := Lib.hid hr1
        clear hr1 c0 c1 c2 c3 c4
        cases hr2 : keyOk ha hb n
        · have Hbad : Hid (footOk l n = false) := Lib.hid (Hf.out (by rw [Hd.out, Hr1.out, hr2]; rfl))
          rw [hr2] at hy
          clear hr2
          go_wp2_with fail
          refine (hy _).mono ?_
          rintro e w2 ⟨rfl, hf2⟩
          go_wp2
          go_ret
          exact ⟨by rw [Hbad.out]; rfl, hz1.then0 hf2 (fun _ h => h.elim)⟩
        · have Hg : Hid (fspOk ⟨la, lb, ha, hb, wt⟩ n = true) := Lib.hid (by rw [Hd.out, Hr1.out, hr2]; rfl)
          rw [hr2] at hy
          clear hr2
          go_wp2_with fail
          refine (hy _).mono ?_
          rintro e w2 ⟨rfl, hf2⟩
          go_wp2
          go_roundw
          case rel =>
            refine ⟨k + 1, by omega, by go_num, Lib.hid ?_, hz1.then0 hf2 (fun _ h => h.elim)⟩
            rw [Hs.out, List.all_append, hpre.out]
            simp [Hg.out]
          case measure => simp [intOf]; omega
    · obtain rfl : k = m := by omega
      have Hr : Hid (footOk l n = true) := Lib.hid (by
        have h1 := hpre.out
        rw [List.take_of_length_le (by rw [Hm.out]; exact Nat.le_refl _)] at h1
        rw [Hall.out, h1])
      go_wp2
      go_ret
      exact ⟨by rw [Hr.out]; rfl, hfr⟩

theorem eqFsp (a b c d : Int) (e : Bool) (w : World) : (Op.equalIn 10000 97 (.agg #[.int .i64 a, .int .i64 b, .int .i64 c, .int .i64 d, .bool e]) (.agg #[.int .i64 a, .int .i64 b, .int .i64 c, .int .i64 d, .bool e])).run Try.prog w = .ok true w := by
  have u3 := Try.underlying3
  have i3 : ∀ w, (isAgg 3).run Try.prog w = .ok false w := fun w => by simp [isAgg, run_underlying Try.underlying3]
  have u4 := Try.underlying4
  have i4 : ∀ w, (isAgg 4).run Try.prog w = .ok false w := fun w => by simp [isAgg, run_underlying Try.underlying4]
  have hs : Try.prog.underlying 97 = some (.struct (Try.prog.fieldsOf 97)) := by kernel_rfl
  rw [run_equalIn_agg w 9999 97 _ _ hs (by kernel_rfl)]
  simp only [Program.fieldsOf, Try.underlying97]
  go_simp
set_option maxHeartbeats 1000000 in
theorem same10_any (l : List Fsp) (A B : Option Addr) (n c d : Nat) (w : World) (h1 : Sl w w.heap.size A (l.flatMap Fsp.cells)) (h2 : Sl w w.heap.size B (l.flatMap Fsp.cells)) (hn : l.length = n) (hnm : n ≤ 1099511627776) :
    Calls Try.prog 48 #[.slice A n c, .slice B n d] w (Has w true) := by
  have Hn := Lib.hid hn
  have H1 := Lib.hid h1
  have H2 := Lib.hid h2
  clear h1 h2 hn
  go_enter Try.func48, Try.ntmps48
  go_wp2
  go_loopw [5] (fun i wr => ∃ k : Nat, k ≤ n ∧ i = .int .i64 k ∧ Fr No w wr) (fun i _ => n - (intOf i).toNat)
  case atStart => exact ⟨0, Nat.zero_le _, rfl, Fr.refl _ _⟩
  case round =>
    obtain ⟨k, hk, rfl, hfr⟩ := hrel
    by_cases hlt : k < n
    · have hkl : k < l.length := by rw [Hn.out]; exact hlt
      obtain ⟨ad, rfl, hab, c0, c1, c2, c3, c4⟩ := (H1.out.since hfr).fsp (k := k) hkl
      obtain ⟨ae, rfl, hae, e0, e1, e2, e3, e4⟩ := (H2.out.since hfr).fsp (k := k) hkl
      generalize l[k] = i at *
      obtain ⟨la, lb, ha, hb, wt⟩ := i
      dsimp only at c0 c1 c2 c3 c4 e0 e1 e2 e3 e4
      have q := eqFsp la lb ha hb wt
      go_wp2
      go_quiet (fail)
      go_wp2
      go_roundw
      case rel => exact ⟨k + 1, by omega, by go_num, hfr.drewN _⟩
      case measure => simp [intOf]; omega
    · go_wp2
      go_ret
      exact ⟨rfl, hfr⟩
end Go.Proofs.Ytnlmhcfkipkegaa
