/- Package pages: a key is looked for in a page. -/
import Derived.Test.YtenmiociinogeaaFnd5
import Derived.Deep.LoopGhost
namespace Go.Proofs.Ytenmiociinogeaa
open Go.RowKit

theorem PgA.pair {w : World} {h : Pgh} {q : Pg} (p : PgA w h q) {i : Nat} (hi : i < q.length) :
    w.cell? ⟨h.g, h.o + i * 2, none⟩ = some (.int .i64 (q[i].1 : Int)) ∧ w.cell? ⟨h.g, h.o + i * 2 + 1, none⟩ = some (.int .i64 q[i].2) := by
  obtain ⟨s0, s1⟩ := prs_at q i hi
  exact ⟨p.rg.cell s0, p.rg.cell s1⟩
theorem PgA.since {w w' : World} {h : Pgh} {q : Pg} (p : PgA w h q) (hf : Fr No w w') : PgA w' h q := p.fr hf (fun e => e)

set_option maxHeartbeats 4000000 in
set_option maxRecDepth 100000 in
theorem bsf_any (h : Pgh) (q : Pg) (k : Nat) (hr : Rise q) (hq : q.length ≤ 1000) (w : World) (hp : PgA w h q) :
    Calls Try.prog 48 #[.slice (some ⟨h.g, h.o, none⟩) h.n h.c, .int .i64 k, .func (.func 49) #[] #[]] w fun e w' =>
      e = .returned (.tuple #[.int .i64 (posP q k), .bool (hasK q k)]) ∧ Fr No w w' := by
  have Hp := Lib.hid hp
  have Hi := Lib.hid (posP_iff q hr k)
  have Hh := Lib.hid (hasK_pos q hr k)
  have hle := posP_le q k
  obtain ⟨ps, Hps⟩ : ∃ ps, Hid (ps = posP q k) := ⟨_, Lib.hid rfl⟩
  rw [← Hps.out] at hle ⊢
  have hnl := hp.len
  obtain ⟨g, o, n, c⟩ := h
  simp only at hnl ⊢
  obtain ⟨z, Hz⟩ : ∃ z, Hid (z = q.length) := ⟨_, Lib.hid rfl⟩
  rw [← Hz.out] at hnl hle hq
  subst hnl
  have hcl : Hid (∀ W, Fr No w W → ∀ t, t < n → ∃ a b : Int, W.cell? ⟨g, o + t * 2, none⟩ = some (.int .i64 a) ∧ W.cell? ⟨g, o + t * 2 + 1, none⟩ = some (.int .i64 b) ∧ (a < (k : Int) ↔ t < ps) ∧ (t = ps → (hasK q k = true ↔ a = (k : Int)))) := Lib.hid (fun W hW t ht => by
    have ht' : t < q.length := by rw [← Hz.out]; exact ht
    obtain ⟨y0, y1⟩ := (Hp.out.since hW).pair ht'
    refine ⟨_, _, y0, y1, ?_, fun e => ?_⟩
    · rw [Hps.out, ← Hi.out t ht']
      omega
    · subst e
      rw [Hh.out]
      have hpz : posP q k < q.length := by rw [← Hps.out]; exact ht'
      have e2 : q[t] = q[posP q k]'hpz := by congr 1
      rw [e2]
      constructor
      · rintro ⟨_, e⟩; omega
      · intro e; exact ⟨hpz, by omega⟩)
  have hno : Hid (¬ ps < n → hasK q k = false) := Lib.hid (fun e => by
    rw [Bool.eq_false_iff]
    intro hk
    obtain ⟨h1, _⟩ := Hh.out.1 hk
    rw [← Hps.out, ← Hz.out] at h1
    exact e h1)
  clear hp
  go_enter Try.func48, Try.ntmps48
  go_wp2
  go_loopw [9, 10] (fun iv jv wr => ∃ i j : Nat, i ≤ ps ∧ ps ≤ j ∧ j ≤ n ∧ iv = .int .i64 i ∧ jv = .int .i64 j ∧ Fr No w wr) (fun i j _ => (intOf j).toNat - (intOf i).toNat)
  case atStart => exact ⟨0, n, by omega, by omega, by omega, rfl, rfl, Fr.refl _ _⟩
  case round =>
    obtain ⟨i, j, hi, hj, hjn, rfl, rfl, hfr⟩ := hrel
    by_cases hlt : i < j
    · obtain ⟨m, Hm⟩ : ∃ m, Hid (m = (i + j) / 2) := ⟨_, Lib.hid rfl⟩
      have hm : ((i : Int) + (j : Int)) / 2 = (m : Int) := by rw [Hm.out]; omega
      have hmj : m < j := by rw [Hm.out]; omega
      have him : i ≤ m := by rw [Hm.out]; omega
      obtain ⟨a, b, x0, x1, hx, -⟩ := hcl.out _ hfr m (by omega)
      have hcal := findC_any a b k wr
      have Hx := Lib.hid hx
      have Hlt := Lib.hid (cmpI_lt a k)
      generalize cmpI a k = r at *
      clear hx
      by_cases hrr : r < 0
      · have hmp : m < ps := Hx.out.1 (Hlt.out.1 hrr)
        clear Hx Hlt
        go_wp2_with fail
        refine hcal.mono ?_
        rintro e w2 ⟨rfl, hf2⟩
        have hf3 := hfr.trans' hf2 (fun _ _ e => e)
        clear hcal hf2 x0 x1 hfr
        go_wp2
        go_roundw
        case rel => exact ⟨m + 1, j, by omega, hj, hjn, by go_num, rfl, hf3⟩
        case measure => simp [intOf]; omega
      · have hmp : ps ≤ m := by
          rcases Nat.lt_or_ge m ps with h1 | h1
          · exact absurd (Hlt.out.2 (Hx.out.2 h1)) hrr
          · exact h1
        clear Hx Hlt
        go_wp2_with fail
        refine hcal.mono ?_
        rintro e w2 ⟨rfl, hf2⟩
        have hf3 := hfr.trans' hf2 (fun _ _ e => e)
        clear hcal hf2 x0 x1 hfr
        go_wp2
        go_roundw
        case rel => exact ⟨i, m, hi, hmp, by omega, rfl, rfl, hf3⟩
        case measure => simp [intOf]; omega
    · obtain rfl : i = ps := by omega
      by_cases hin : i < n
      · obtain ⟨a, b, x0, x1, -, hk⟩ := hcl.out _ hfr i hin
        have hcal := findC_any a b k wr
        have Hk := Lib.hid (hk rfl)
        have He := Lib.hid (cmpI_eq a k)
        generalize cmpI a k = r at *
        clear hk
        have hv : hasK q k = (r == 0) := by
          rw [Bool.eq_iff_iff, Hk.out, ← He.out]
          simp
        have Hv := Lib.hid hv
        clear Hk He hv
        go_wp2_with fail
        refine hcal.mono ?_
        rintro e w2 ⟨rfl, hf2⟩
        have hf3 := hfr.trans' hf2 (fun _ _ e => e)
        clear hcal hf2 x0 x1 hfr
        go_wp2
        go_ret2
        exact ⟨by rw [Hv.out]; rfl, hf3⟩
      · go_wp2
        go_ret2
        exact ⟨by rw [hno.out hin]; rfl, hfr⟩

set_option maxHeartbeats 1000000 in
theorem find_any (h : Pgh) (q : Pg) (k : Nat) (hr : Rise q) (hq : q.length ≤ 1000) (w : World) (hp : PgA w h q) :
    Calls Try.prog 38 #[.slice (some ⟨h.g, h.o, none⟩) h.n h.c, .int .i64 k] w fun e w' => e = .returned (.tuple #[.int .i64 (posP q k), .bool (hasK q k)]) ∧ Fr No w w' := by
  have hb := bsf_any h q k hr hq w hp
  generalize hasK q k = b at *
  generalize posP q k = ps at *
  clear hp
  go_enter Try.func38, Try.ntmps38
  go_wp2_with fail
  refine hb.mono ?_
  rintro e w2 ⟨rfl, hf2⟩
  go_wp2
  go_ret2
  exact ⟨rfl, hf2⟩
end Go.Proofs.Ytenmiociinogeaa
