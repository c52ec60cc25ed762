/- Whether a device tells the same as the document's. -/
import Derived.Test.YthipcfdmkkfofaaLaw3
import Derived.Test.YthipcfdmkkfofaaRef3
import Derived.Deep.RegionWith
namespace Go.Proofs.Ythipcfdmkkfofaa
open Go.RowKit

theorem cell_keep {w w' : World} (hf : Fr No w.drew w') {p : Addr} {v : Value} (h : w.cell? p = some v) : w'.cell? p = some v :=
  (hf.cell (World.block_lt_of_cell? w _ h) (fun e => e)).trans h
set_option maxRecDepth 100000 in
set_option maxHeartbeats 4000000 in
theorem same_any {S : Nat → Prop} {d a b : Nat} {D : Dv} (r gl gr gd : Nat) (w : World) (h : DD w S d D a b) (hr : RD w r gl gr gd D) (hn : D.n ≤ 4096) :
    Calls Try.prog 39 #[.pointer (some ⟨d, 0, none⟩), .pointer (some ⟨r, 0, none⟩)] w fun e w' => e = .returned (.bool true) ∧ Fr No w w' := by
  have q8 := eq8
  go_enter Try.func39, Try.ntmps39
  go_wp2_with fail
  refine (dDirty_any w h).mono ?_
  rintro e w1 ⟨A, c, rfl, hsl, hf1⟩
  have hlen := cnt_mono D.di
  have Hlen : Hid (D.dirty.length = cnt D.di D.n) := Lib.hid (dirty_len D)
  have hdl : D.dirty.length ≤ 4096 := by rw [dirty_len]; exact Nat.le_trans (cnt_le _ _) hn
  have Hsl := Lib.hid hsl
  clear hlen hsl
  generalize hL : D.dirty.length = L at *
  have HL := Lib.hid hL
  clear hL
  go_wp2
  go_loopw [6, 7] (fun k i wr => ∃ j q : Nat, j ≤ D.n ∧ i = .int .i64 j ∧ k = .int .i64 q ∧ q ≤ j ∧ Hid (q = cnt D.di j) ∧ Fr No w1 wr) (fun _ i _ => D.n - (intOf i).toNat)
  case atStart => exact ⟨0, 0, by omega, rfl, rfl, by omega, Lib.hid rfl, Fr.refl _ _⟩
  case round =>
    obtain ⟨j, q, hj, rfl, rfl, hqj, hq, hfr⟩ := hrel
    have g1 := hf1.trans' hfr (fun _ _ e => e)
    have hR := hr.fr g1 (fun _ _ e => e)
    have hD := h.fr g1 (fun _ _ e => e)
    have c1 : wr.cell? ⟨r, 1, none⟩ = some (.slice (some ⟨gr, 0, none⟩) D.n D.n) := by rw [hR.self.cell 1]; rfl
    by_cases hlt : j < D.n
    · obtain ⟨x0, x1, x2, x3, x4, x5, x6, x7, hx⟩ := sec_lit (hR.ok.rd j hlt)
      obtain ⟨y0, y1, y2, y3, y4, y5, y6, y7, hy⟩ := sec_lit (hR.ok.la j hlt)
      go_wp2_with fail
      refine (dRead_yes j hlt x0 x1 x2 x3 x4 x5 x6 x7 hx wr hD).mono ?_
      rintro e w2 ⟨rfl, hf⟩
      have g2 := g1.trans' hf (fun _ _ e => e)
      have hfr2 := hfr.trans' hf (fun _ _ e => e)
      clear hf c1 hR hD g1 hfr
      go_wp2_with fail
      have hX : Fr No w (w2.alloc (.cells #[.int .u64 x0, .int .u64 x1, .int .u64 x2, .int .u64 x3, .int .u64 x4, .int .u64 x5, .int .u64 x6, .int .u64 x7] 48)) := g2.alloc _
      have hRX := hr.fr hX (fun _ _ e => e)
      have hDX := h.fr hX (fun _ _ e => e)
      have k0 : (w2.alloc (.cells #[.int .u64 x0, .int .u64 x1, .int .u64 x2, .int .u64 x3, .int .u64 x4, .int .u64 x5, .int .u64 x6, .int .u64 x7] 48)).cell? ⟨r, 0, none⟩ = some (.slice (some ⟨gl, 0, none⟩) D.n D.n) := by rw [hRX.self.cell 0]; rfl
      have k1 : (w2.alloc (.cells #[.int .u64 x0, .int .u64 x1, .int .u64 x2, .int .u64 x3, .int .u64 x4, .int .u64 x5, .int .u64 x6, .int .u64 x7] 48)).cell? ⟨r, 1, none⟩ = some (.slice (some ⟨gr, 0, none⟩) D.n D.n) := by rw [hRX.self.cell 1]; rfl
      obtain ⟨p0, p1, p2, p3, p4, p5, p6, p7⟩ := hRX.rd.sec8 hRX.len.2 hlt hx
      obtain ⟨q0, q1, q2, q3, q4, q5, q6, q7⟩ := hRX.la.sec8 hRX.len.1 hlt hy
      have hb := Bk.made w2 48 #[.int .u64 x0, .int .u64 x1, .int .u64 x2, .int .u64 x3, .int .u64 x4, .int .u64 x5, .int .u64 x6, .int .u64 x7]
      have v0 := hb.cell 0
      have v1 := hb.cell 1
      have v2 := hb.cell 2
      have v3 := hb.cell 3
      have v4 := hb.cell 4
      have v5 := hb.cell 5
      have v6 := hb.cell 6
      have v7 := hb.cell 7
      have Hx := Lib.hid hx
      have Hy := Lib.hid hy
      clear hx hy hb
      go_region_held3 (fun w' => w'.cell? ⟨r, 0, none⟩ = some (.slice (some ⟨gl, 0, none⟩) D.n D.n) ∧ w'.cell? ⟨r, 1, none⟩ = some (.slice (some ⟨gr, 0, none⟩) D.n D.n) ∧ w'.cell? ⟨gr, j * 8, none⟩ = some (.int .u64 x0) ∧ w'.cell? ⟨gr, j * 8 + 1, none⟩ = some (.int .u64 x1) ∧ w'.cell? ⟨gr, j * 8 + 2, none⟩ = some (.int .u64 x2) ∧ w'.cell? ⟨gr, j * 8 + 3, none⟩ = some (.int .u64 x3) ∧ w'.cell? ⟨gr, j * 8 + 4, none⟩ = some (.int .u64 x4) ∧ w'.cell? ⟨gr, j * 8 + 5, none⟩ = some (.int .u64 x5) ∧ w'.cell? ⟨gr, j * 8 + 6, none⟩ = some (.int .u64 x6) ∧ w'.cell? ⟨gr, j * 8 + 7, none⟩ = some (.int .u64 x7) ∧ w'.cell? ⟨gl, j * 8, none⟩ = some (.int .u64 y0) ∧ w'.cell? ⟨gl, j * 8 + 1, none⟩ = some (.int .u64 y1) ∧ w'.cell? ⟨gl, j * 8 + 2, none⟩ = some (.int .u64 y2) ∧ w'.cell? ⟨gl, j * 8 + 3, none⟩ = some (.int .u64 y3) ∧ w'.cell? ⟨gl, j * 8 + 4, none⟩ = some (.int .u64 y4) ∧ w'.cell? ⟨gl, j * 8 + 5, none⟩ = some (.int .u64 y5) ∧ w'.cell? ⟨gl, j * 8 + 6, none⟩ = some (.int .u64 y6) ∧ w'.cell? ⟨gl, j * 8 + 7, none⟩ = some (.int .u64 y7) ∧ w'.cell? ⟨w2.heap.size, 0, none⟩ = some (.int .u64 x0) ∧ w'.cell? ⟨w2.heap.size, 1, none⟩ = some (.int .u64 x1) ∧ w'.cell? ⟨w2.heap.size, 2, none⟩ = some (.int .u64 x2) ∧ w'.cell? ⟨w2.heap.size, 3, none⟩ = some (.int .u64 x3) ∧ w'.cell? ⟨w2.heap.size, 4, none⟩ = some (.int .u64 x4) ∧ w'.cell? ⟨w2.heap.size, 5, none⟩ = some (.int .u64 x5) ∧ w'.cell? ⟨w2.heap.size, 6, none⟩ = some (.int .u64 x6) ∧ w'.cell? ⟨w2.heap.size, 7, none⟩ = some (.int .u64 x7))
        (first
          | go_keep
          | (refine ⟨?_, ?_, ?_, ?_, ?_, ?_, ?_, ?_, ?_, ?_, ?_, ?_, ?_, ?_, ?_, ?_, ?_, ?_, ?_, ?_, ?_, ?_, ?_, ?_, ?_, ?_⟩ <;> (refine cell_keep hfc ?_; assumption)))
        (first | (go_at_call 37; refine (dLasting_yes j hlt y0 y1 y2 y3 y4 y5 y6 y7 Hy.out _ (hDX.fr (Fr.refl _ _).drew (fun _ _ e => e))).mono ?_; rintro e w3 ⟨rfl, hfc⟩))
      clear k0 k1 p0 p1 p2 p3 p4 p5 p6 p7 q0 q1 q2 q3 q4 q5 q6 q7 v0 v1 v2 v3 v4 v5 v6 v7 hRX hDX
      have g3 := hX.drew.trans' hfc (fun _ _ e => e)
      have hfr3 := ((hfr2.alloc _).drew.trans' hfc (fun _ _ e => e))
      clear hfc hX g2 hfr2
      have hR3 := hr.fr g3 (fun _ _ e => e)
      have k2 : w3.cell? ⟨r, 2, none⟩ = some (.slice (some ⟨gd, 0, none⟩) D.n D.n) := by rw [hR3.self.cell 2]; rfl
      have d0 := hR3.di.cell j
      rw [flags_at _ _ _ hlt] at d0
      have Hcnt : Hid (cnt D.di (j + 1) = q + (D.di j).toNat) := Lib.hid (by rw [hq.out]; rfl)
      cases hd : D.di j with
      | false =>
        rw [hd] at d0 Hcnt
        clear hd hR3
        go_wp2
        go_roundw
        case rel => exact ⟨j + 1, q, by omega, by go_num, rfl, by omega, Lib.hid (by rw [Hcnt.out]; rfl), hfr3⟩
        case measure => simp [intOf]; omega
      | true =>
        rw [hd] at d0 Hcnt
        have hda := dirty_at D j hlt hd
        have hqL : q < L := by
          have h1 := cnt_mono D.di (j + 1) D.n (by omega)
          rw [Hcnt.out] at h1
          have h2 : q + 1 ≤ cnt D.di D.n := by simpa using h1
          have h3 := Hlen.out
          omega
        rw [← hq.out] at hda
        have hdi : (i64s D.dirty)[q]? = some (.int .i64 j) := by
          simp only [i64s, List.getElem?_map, hda]
          rfl
        obtain ⟨ad, rfl, hadB, hcc⟩ := Hsl.out (by intro e; rw [e] at hdi; simp at hdi)
        have hcq : w3.cell? (ad.add q) = some (.int .i64 j) := by
          rw [hfr3.cell (by rw [block_add]; exact hadB) (fun e => e)]
          exact hcc q _ hdi
        have eqj : ((j : Int) != (j : Int)) = false := by simp
        clear hd hR3 hda hcc hdi
        go_wp2
        go_roundw
        case rel => exact ⟨j + 1, q + 1, by omega, by go_num, by go_num, by omega, Lib.hid (by rw [Hcnt.out]; rfl), hfr3⟩
        case measure => simp [intOf]; omega
    · obtain rfl : j = D.n := by omega
      have hqL : q = L := by rw [hq.out, Hlen.out]
      subst hqL
      have eqq : ((q : Int) == (q : Int)) = true := by simp
      have eqn : ((D.n : Int) == (D.n : Int)) = true := by simp
      have Hr := Lib.hid hr
      clear hR hq Hlen
      go_wp2
      go_region_held3 (fun w' => w'.cell? ⟨r, 1, none⟩ = some (.slice (some ⟨gr, 0, none⟩) D.n D.n))
        (first | go_keep | (refine cell_keep hfc ?_; assumption))
        (first | (go_at_call 27; refine (dLen_any _ (hD.fr (Fr.refl _ _).drew (fun _ _ e => e))).mono ?_; rintro e w3 ⟨rfl, hfc⟩))
      go_wp2
      go_ret
      exact ⟨rfl, g1.drew.trans' hfc (fun _ _ e => e)⟩
end Go.Proofs.Ythipcfdmkkfofaa
