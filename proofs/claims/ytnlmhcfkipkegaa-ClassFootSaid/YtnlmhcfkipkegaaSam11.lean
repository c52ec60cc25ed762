/- Whether two programs, and two footprints, are the same, as the document has it. -/
import Derived.Test.YtnlmhcfkipkegaaRfm10
import Derived.Deep.QuietTactic
import Derived.BigQuiet
namespace Go.Proofs.Ytnlmhcfkipkegaa
open Go.RowKit

instance decIns : DecidableEq Ins := fun a b => decidable_of_iff (a.op = b.op ∧ a.a = b.a ∧ a.b = b.b ∧ a.c = b.c ∧ a.ka = b.ka ∧ a.kb = b.kb ∧ a.la = b.la ∧ a.lb = b.lb ∧ a.x = b.x) ⟨fun h => by
  obtain ⟨o, a1, b1, c1, ka, kb, la, lb, x⟩ := a
  obtain ⟨o', a1', b1', c1', ka', kb', la', lb', x'⟩ := b
  obtain ⟨rfl, rfl, rfl, rfl, rfl, rfl, rfl, rfl, rfl⟩ := h
  rfl, fun h => by subst h; exact ⟨rfl, rfl, rfl, rfl, rfl, rfl, rfl, rfl, rfl⟩⟩
instance decFsp : DecidableEq Fsp := fun a b => decidable_of_iff (a.la = b.la ∧ a.lb = b.lb ∧ a.ha = b.ha ∧ a.hb = b.hb ∧ a.wr = b.wr) ⟨fun h => by
  obtain ⟨la, lb, ha, hb, wt⟩ := a
  obtain ⟨la', lb', ha', hb', wt'⟩ := b
  obtain ⟨rfl, rfl, rfl, rfl, rfl⟩ := h
  rfl, fun h => by subst h; exact ⟨rfl, rfl, rfl, rfl, rfl⟩⟩
theorem take_eq_step {α : Type} [DecidableEq α] {a b : List α} {k : Nat} (ha : k < a.length) (hb : k < b.length) (h : a.take k = b.take k) (hk : a[k] = b[k]) : a.take (k + 1) = b.take (k + 1) := by
  rw [List.take_succ_eq_append_getElem ha, List.take_succ_eq_append_getElem hb, h, hk]
theorem take_eq_not {α : Type} {a b : List α} {k : Nat} (ha : k < a.length) (hb : k < b.length) (hk : a[k] ≠ b[k]) : a ≠ b := by
  rintro rfl
  exact hk rfl
theorem ins_ne {o a b cc ka kb la lb x o' a' b' cc' ka' kb' la' lb' x' : Int} (h : (⟨o, a, b, cc, ka, kb, la, lb, x⟩ : Ins) ≠ ⟨o', a', b', cc', ka', kb', la', lb', x'⟩) :
    (o == o' && (a == a' && (b == b' && (cc == cc' && ((ka == ka' && kb == kb') && ((la == la' && lb == lb') && x == x')))))) = false := by
  rw [Bool.eq_false_iff]
  intro e
  simp only [Bool.and_eq_true, beq_iff_eq] at e
  obtain ⟨rfl, rfl, rfl, rfl, ⟨rfl, rfl⟩, ⟨rfl, rfl⟩, rfl⟩ := e
  exact h rfl

set_option maxHeartbeats 1000000 in
theorem sameP_any (l1 l2 : List Ins) (A B : Option Addr) (n m c d : Nat) (w : World) (h1 : Sl w w.heap.size A (l1.flatMap Ins.cells)) (h2 : Sl w w.heap.size B (l2.flatMap Ins.cells)) (hn : l1.length = n) (hm : l2.length = m) (hnn : n ≤ 1099511627776) :
    Calls Try.prog 47 #[.slice A n c, .slice B m d] w (Has w (decide (l1 = l2))) := by
  by_cases hnm : n = m
  · subst hnm
    have Hn := Lib.hid hn
    have Hm := Lib.hid hm
    have H1 := Lib.hid h1
    have H2 := Lib.hid h2
    clear h1 h2 hn hm
    go_enter Try.func47, Try.ntmps47
    go_wp2
    go_loopw [5] (fun i wr => ∃ k : Nat, k ≤ n ∧ i = .int .i64 k ∧ Hid (l1.take k = l2.take k) ∧ Fr No w wr) (fun i _ => n - (intOf i).toNat)
    case atStart => exact ⟨0, Nat.zero_le _, rfl, Lib.hid (by simp), Fr.refl _ _⟩
    case round =>
      obtain ⟨k, hk, rfl, hpre, hfr⟩ := hrel
      by_cases hlt : k < n
      · have hkl : k < l1.length := by rw [Hn.out]; exact hlt
        have hkm : k < l2.length := by rw [Hm.out]; exact hlt
        obtain ⟨ad, rfl, hab, c0, c1, c2, c3, c4, c5, c6, c7, c8⟩ := (H1.out.since hfr).ins9 (k := k) hkl
        obtain ⟨ae, rfl, hae, e0, e1, e2, e3, e4, e5, e6, e7, e8⟩ := (H2.out.since hfr).ins9 (k := k) hkm
        have Hs := Lib.hid (take_eq_step hkl hkm hpre.out)
        have Hd : Hid (l1[k] ≠ l2[k] → decide (l1 = l2) = false) := Lib.hid (fun h => by simpa using take_eq_not hkl hkm h)
        generalize l1[k] = i at *
        generalize l2[k] = j at *
        by_cases hij : i = j
        · subst hij
          have HS := Lib.hid (Hs.out rfl)
          obtain ⟨o, a, b, cc, ka, kb, la, lb, x⟩ := i
          dsimp only at c0 c1 c2 c3 c4 c5 c6 c7 c8 e0 e1 e2 e3 e4 e5 e6 e7 e8
          have q := eqIns9 o a b cc ka kb la lb x o a b cc ka kb la lb x
          simp only [beq_self_eq_true, Bool.and_self] at q
          clear Hs Hd
          go_wp2
          go_quiet (fail)
          go_wp2
          go_roundw
          case rel => exact ⟨k + 1, by omega, by go_num, HS, hfr.drewN _⟩
          case measure => simp [intOf]; omega
        · have HD := Lib.hid (Hd.out hij)
          obtain ⟨o, a, b, cc, ka, kb, la, lb, x⟩ := i
          obtain ⟨o', a', b', cc', ka', kb', la', lb', x'⟩ := j
          dsimp only at c0 c1 c2 c3 c4 c5 c6 c7 c8 e0 e1 e2 e3 e4 e5 e6 e7 e8
          have q := eqIns9 o a b cc ka kb la lb x o' a' b' cc' ka' kb' la' lb' x'
          rw [ins_ne hij] at q
          clear Hs Hd hij
          go_wp2
          go_quiet (fail)
          go_wp2
          go_ret
          exact ⟨by rw [HD.out]; rfl, hfr.drewN _⟩
      · obtain rfl : k = n := by omega
        have HE : Hid (decide (l1 = l2) = true) := Lib.hid (by
          have h := hpre.out
          rw [List.take_of_length_le (by rw [Hn.out]; exact Nat.le_refl _), List.take_of_length_le (by rw [Hm.out]; exact Nat.le_refl _)] at h
          simpa using h)
        go_wp2
        go_ret
        exact ⟨by rw [HE.out]; rfl, hfr⟩
  · have hne : ((n : Int) != (m : Int)) = true := by rw [bne_iff_ne]; omega
    have HE : Hid (decide (l1 = l2) = false) := Lib.hid (by
      rw [decide_eq_false_iff_not]
      rintro rfl
      omega)
    clear h1 h2 hn hm
    go_enter Try.func47, Try.ntmps47
    go_wp2
    go_ret
    exact ⟨by rw [HE.out]; rfl, Fr.refl _ _⟩

theorem eqFsp2 (a b c d : Int) (e : Bool) (a' b' c' d' : Int) (e' : Bool) (w : World) : (Op.equalIn 10000 97 (.agg #[.int .i64 a, .int .i64 b, .int .i64 c, .int .i64 d, .bool e]) (.agg #[.int .i64 a', .int .i64 b', .int .i64 c', .int .i64 d', .bool e'])).run Try.prog w = .ok ((a == a' && b == b') && ((c == c' && d == d') && e == e')) w := by
  have u3 := Try.underlying3
  have i3 : ∀ w, (isAgg 3).run Try.prog w = .ok false w := fun w => by simp [isAgg, run_underlying Try.underlying3]
  have u4 := Try.underlying4
  have i4 : ∀ w, (isAgg 4).run Try.prog w = .ok false w := fun w => by simp [isAgg, run_underlying Try.underlying4]
  have hs : Try.prog.underlying 97 = some (.struct (Try.prog.fieldsOf 97)) := by kernel_rfl
  rw [run_equalIn_agg w 9999 97 _ _ hs (by kernel_rfl)]
  simp only [Program.fieldsOf, Try.underlying97]
  go_simp
  by_cases h0 : a = a'
  case neg => simp [h0]
  by_cases h1 : b = b'
  case neg => simp [h0, h1]
  by_cases h2 : c = c'
  case neg => simp [h0, h1, h2]
  by_cases h3 : d = d'
  case neg => simp [h0, h1, h2, h3]
  by_cases h4 : e = e'
  case neg => simp [h0, h1, h2, h3, h4]
  simp [h0, h1, h2, h3, h4]
theorem fsp_ne {la lb ha hb la' lb' ha' hb' : Int} {wt wt' : Bool} (h : (⟨la, lb, ha, hb, wt⟩ : Fsp) ≠ ⟨la', lb', ha', hb', wt'⟩) : ((la == la' && lb == lb') && ((ha == ha' && hb == hb') && wt == wt')) = false := by
  rw [Bool.eq_false_iff]
  intro e
  simp only [Bool.and_eq_true, beq_iff_eq] at e
  obtain ⟨⟨rfl, rfl⟩, ⟨rfl, rfl⟩, rfl⟩ := e
  exact h rfl

set_option maxHeartbeats 1000000 in
theorem sameF_any (l1 l2 : List Fsp) (A B : Option Addr) (n m c d : Nat) (w : World) (h1 : Sl w w.heap.size A (l1.flatMap Fsp.cells)) (h2 : Sl w w.heap.size B (l2.flatMap Fsp.cells)) (hn : l1.length = n) (hm : l2.length = m) (hnn : n ≤ 1099511627776) :
    Calls Try.prog 48 #[.slice A n c, .slice B m d] w (Has w (decide (l1 = l2))) := by
  by_cases hnm : n = m
  · subst hnm
    have Hn := Lib.hid hn
    have Hm := Lib.hid hm
    have H1 := Lib.hid h1
    have H2 := Lib.hid h2
    clear h1 h2 hn hm
    go_enter Try.func48, Try.ntmps48
    go_wp2
    go_loopw [5] (fun i wr => ∃ k : Nat, k ≤ n ∧ i = .int .i64 k ∧ Hid (l1.take k = l2.take k) ∧ Fr No w wr) (fun i _ => n - (intOf i).toNat)
    case atStart => exact ⟨0, Nat.zero_le _, rfl, Lib.hid (by simp), Fr.refl _ _⟩
    case round =>
      obtain ⟨k, hk, rfl, hpre, hfr⟩ := hrel
      by_cases hlt : k < n
      · have hkl : k < l1.length := by rw [Hn.out]; exact hlt
        have hkm : k < l2.length := by rw [Hm.out]; exact hlt
        obtain ⟨ad, rfl, hab, c0, c1, c2, c3, c4⟩ := (H1.out.since hfr).fsp (k := k) hkl
        obtain ⟨ae, rfl, hae, e0, e1, e2, e3, e4⟩ := (H2.out.since hfr).fsp (k := k) hkm
        have Hs := Lib.hid (take_eq_step hkl hkm hpre.out)
        have Hd : Hid (l1[k] ≠ l2[k] → decide (l1 = l2) = false) := Lib.hid (fun h => by simpa using take_eq_not hkl hkm h)
        generalize l1[k] = i at *
        generalize l2[k] = j at *
        by_cases hij : i = j
        · subst hij
          have HS := Lib.hid (Hs.out rfl)
          obtain ⟨la, lb, ha, hb, wt⟩ := i
          dsimp only at c0 c1 c2 c3 c4 e0 e1 e2 e3 e4
          have q := eqFsp2 la lb ha hb wt la lb ha hb wt
          simp only [beq_self_eq_true, Bool.and_self] at q
          clear Hs Hd
          go_wp2
          go_quiet (fail)
          go_wp2
          go_roundw
          case rel => exact ⟨k + 1, by omega, by go_num, HS, hfr.drewN _⟩
          case measure => simp [intOf]; omega
        · have HD := Lib.hid (Hd.out hij)
          obtain ⟨la, lb, ha, hb, wt⟩ := i
          obtain ⟨la', lb', ha', hb', wt'⟩ := j
          dsimp only at c0 c1 c2 c3 c4 e0 e1 e2 e3 e4
          have q := eqFsp2 la lb ha hb wt la' lb' ha' hb' wt'
          rw [fsp_ne hij] at q
          clear Hs Hd hij
          go_wp2
          go_quiet (fail)
          go_wp2
          go_ret
          exact ⟨by rw [HD.out]; rfl, hfr.drewN _⟩
      · obtain rfl : k = n := by omega
        have HE : Hid (decide (l1 = l2) = true) := Lib.hid (by
          have h := hpre.out
          rw [List.take_of_length_le (by rw [Hn.out]; exact Nat.le_refl _), List.take_of_length_le (by rw [Hm.out]; exact Nat.le_refl _)] at h
          simpa using h)
        go_wp2
        go_ret
        exact ⟨by rw [HE.out]; rfl, hfr⟩
  · have hne : ((n : Int) != (m : Int)) = true := by rw [bne_iff_ne]; omega
    have HE : Hid (decide (l1 = l2) = false) := Lib.hid (by
      rw [decide_eq_false_iff_not]
      rintro rfl
      omega)
    clear h1 h2 hn hm
    go_enter Try.func48, Try.ntmps48
    go_wp2
    go_ret
    exact ⟨by rw [HE.out]; rfl, Fr.refl _ _⟩
end Go.Proofs.Ytnlmhcfkipkegaa
