/- The law's Great: is a class more than it looks at? -/
import Derived.Deep.RegionLaw
import Derived.Deep.CutRange
import Derived.Test.YtkihbjgmmaklaaaCls11
namespace Go.Proofs.Ytkihbjgmmaklaaa
open Go.RowKit

theorem info_stp9 : (Try.prog.info? 54).map (fun i => (i.zero, i.size, i.bytes)) = some (some (.agg #[.slice none 0 0, .slice none 0 0]), 2, 48) := by kernel_rfl
def bigS (s : Stp) : Bool := decide (40 < s.code.length) || decide (40 < s.foot.length)
def greatB (c : Cls) : Bool := decide (300 < c.name.size) || (decide (20 < c.steps.length) || (decide (20 < c.comps.length) || (c.steps ++ c.comps).any bigS))
theorem stp_cells_one (l : List Stp) : ∀ u ∈ l.flatMap Stp.cells, u.oneCell' = true := by
  intro u hu
  obtain ⟨s, -, hu⟩ := List.mem_flatMap.1 hu
  simp only [Stp.cells, List.mem_cons, List.not_mem_nil, or_false] at hu
  rcases hu with rfl | rfl <;> rfl
theorem stp_flat_len (l : List Stp) : (l.flatMap Stp.cells).length = l.length * 2 := by
  induction l with
  | nil => rfl
  | cons a r ih => rw [List.flatMap_cons, List.length_append, ih, List.length_cons, Stp.cells_len]; omega

set_option maxRecDepth 100000 in
set_option maxHeartbeats 4000000 in
theorem great11_any (c : Cls) (w : World) (hc : c.Ok w) : Calls Try.prog 55 #[c.agg] w (Has w (greatB c)) := by
  have Hr : Hid (greatB c = (decide (300 < c.name.size) || (decide (20 < c.steps.length) || (decide (20 < c.comps.length) || (c.steps ++ c.comps).any bigS)))) := Lib.hid rfl
  generalize greatB c = r at *
  obtain ⟨nm, a, A, ss, sc, U, us, uc, res⟩ := c
  obtain ⟨hS, hU⟩ := hc
  unfold Cls.agg
  simp only at *
  obtain ⟨n, hn⟩ : ∃ n, ss.length = n := ⟨_, rfl⟩
  obtain ⟨m, hm⟩ : ∃ m, us.length = m := ⟨_, rfl⟩
  rw [hn, hm] at Hr
  rw [hn, hm]
  have Hn := Lib.hid hn
  have Hm := Lib.hid hm
  have f0 : Fr No w (w.alloc (.cells #[.string nm, .int .i64 a, .slice A n sc, .slice U m uc, .bool res] 35)) := (Fr.refl _ _).alloc _
  by_cases h1 : 300 < nm.size
  · have e1 : r = true := by rw [Hr.out]; simp [h1]
    have d1 : decide (300 < (nm.size : Int)) = true := by simp; omega
    go_enter Try.func55, Try.ntmps55
    go_wp2
    go_ret
    exact ⟨by rw [e1]; rfl, f0⟩
  have d1 : decide (300 < (nm.size : Int)) = false := by simp; omega
  by_cases h2 : 20 < n
  · have e1 : r = true := by rw [Hr.out]; simp [h2]
    have d2 : decide (20 < (n : Int)) = true := by simp; omega
    go_enter Try.func55, Try.ntmps55
    go_wp2
    go_ret
    exact ⟨by rw [e1]; rfl, f0⟩
  have d2 : decide (20 < (n : Int)) = false := by simp; omega
  by_cases h3 : 20 < m
  · have e1 : r = true := by rw [Hr.out]; simp [h3]
    have d3 : decide (20 < (m : Int)) = true := by simp; omega
    go_enter Try.func55, Try.ntmps55
    go_wp2
    go_ret
    exact ⟨by rw [e1]; rfl, f0⟩
  have d3 : decide (20 < (m : Int)) = false := by simp; omega
  have HE : Hid (r = (ss ++ us).any bigS) := Lib.hid (by rw [Hr.out]; simp [h1, h2, h3])
  have hlen : Hid ((ss ++ us).length = n + m) := Lib.hid (by rw [List.length_append, hn, hm])
  have HS := Lib.hid hS
  have HU := Lib.hid hU
  have HB := Lib.hid (Bk.made w 35 #[.string nm, .int .i64 a, .slice A n sc, .slice U m uc, .bool res])
  clear hS hU Hr hn hm
  obtain ⟨i0, hi, hz0, hz1, hz2⟩ := info_parts info_stp9
  obtain ⟨W0, hW0⟩ : ∃ W0, W0 = ((w.alloc (.cells #[.string nm, .int .i64 a, .slice A n sc, .slice U m uc, .bool res] 35)).alloc (.cells #[] 54)).drew := ⟨_, rfl⟩
  have hF0 : Fr No w W0 := by rw [hW0]; exact (f0.alloc _).drew
  have hsz : W0.heap.size = w.heap.size + 2 := by rw [hW0]; simp
  have hB0 : Bk W0 w.heap.size 35 #[.string nm, .int .i64 a, .slice A n sc, .slice U m uc, .bool res] := by rw [hW0]; exact (HB.out.fr ((Fr.refl No _).alloc _) (fun e => e)).fr ((Fr.refl No _).drew) (fun e => e)
  have hown0 : W0.ownsRow (w.heap.size + 1) 54 2 (.slice (some ⟨w.heap.size + 1, 0, none⟩) 0 0) 0 [] := by
    rw [hW0]
    have h := World.ownsRow_lit (base := w.heap.size + 1) (e := 54) (size := 2) (w.alloc (.cells #[.string nm, .int .i64 a, .slice A n sc, .slice U m uc, .bool res] 35)) #[] 0 (by simp) (by decide) rfl
    rw [World.size_alloc] at h
    exact own_fr h ((Fr.refl No _).drew) (fun _ _ e => e)
  have hs1 := (HS.out.since hF0).sl
  have HF0 := Lib.hid hF0
  have Hs1 := Lib.hid hs1
  have Hown0 := Lib.hid hown0
  have HB0 := Lib.hid hB0
  rw [hW0] at Hown0 Hs1
  have Hsz := Lib.hid hsz
  have HW0 := Lib.hid hW0
  clear hs1 hown0 hB0 hF0 hW0 hsz HB
  go_enter Try.func55, Try.ntmps55
  go_wp2_with fail
  go_cut [3] from 21 to 27 (fun s3 wx => ∃ (B : Option Addr) (cB : Nat), s3 = .slice B (n + m) cB ∧ Hid (Sl wx wx.heap.size B ((ss ++ us).flatMap Stp.cells)) ∧ Hid (Fr No w wx))
  case first =>
    go_region_law (first
      | (refine step_append_src _ rfl (.tmp 21) (.tmp 23) 33 rfl (w.heap.size + 1) 54 i0 _ 2 48 Try.underlying33 hi hz0 hz1 hz2 rfl (by omega) (.slice (some ⟨w.heap.size + 1, 0, none⟩) 0 0) 0 [] rfl Hown0.out _ A n sc (ss.flatMap Stp.cells) rfl (by rw [stp_flat_len, Hn.out]) Hs1.out (stp_cells_one ss) (by unfold maxLen; omega) (by omega) (by simp) ?_
         intro v1 w1 o1 g1 _
         rw [← HW0.out] at g1
         have f1 : Fr (fun k => k = w.heap.size + 1) W0 w1 := (Fr.refl (fun k => k = w.heap.size + 1) W0).grown g1 (fun k hk => .inl (by simpa [Value.ownBlock] using hk.symm))
         obtain ⟨A1, c1, rfl, -, -, -⟩ := own_shape o1
         simp only [Nat.zero_add, List.nil_append] at o1 ⊢
         have F1 : Fr No w w1 := HF0.out.trans' f1 (fun i hi e => by omega)
         have b1 := HB0.out.fr f1 (fun e => by omega)
         have y3 := b1.cell 3
         have l1 := b1.lt
         simp at y3
         have Ho1 := Lib.hid o1
         have HF1 := Lib.hid F1
         have Hsu := Lib.hid (HU.out.since F1).sl
         have hz1' := F1.size
         clear o1 g1 f1 F1 b1)
      | (refine step_append_src _ rfl (.tmp 24) (.tmp 26) 33 rfl (w.heap.size + 1) 54 i0 _ 2 48 Try.underlying33 hi hz0 hz1 hz2 rfl (by omega) (.slice A1 n c1) n (ss.flatMap Stp.cells) rfl Ho1.out _ U m uc (us.flatMap Stp.cells) rfl (by rw [stp_flat_len, Hm.out]) Hsu.out (stp_cells_one us) (by unfold maxLen; omega) (by omega) (by omega) ?_
         intro v2 w2 o2 g2 _
         obtain ⟨A2, c2, rfl, -, -, -⟩ := own_shape o2
         have f2 : Fr (fun k => (Value.slice A1 n c1).ownBlock = some k) w1 w2 := (Fr.refl _ w1).grown g2 (fun k hk => .inl hk)
         have HF2 : Hid (Fr No w w2) := Lib.hid (HF1.out.trans' f2 (fun i hi e => by have := (Ho1.out.lt i e).1; omega))
         have Hs2 : Hid (Sl w2 w2.heap.size A2 ((ss ++ us).flatMap Stp.cells)) := Lib.hid (by rw [List.flatMap_append]; exact Sl.ofOwn o2)
         clear o2 g2 f2))
    all_goals
      go_wp2
      go_meet
      exact ⟨A2, c2, rfl, Hs2, HF2⟩
  case rest =>
    obtain ⟨B, cB, rfl, hsl, hfr⟩ := hcut
    obtain ⟨N, hN⟩ : ∃ N, N = n + m := ⟨_, rfl⟩
    rw [← hN]
    obtain ⟨l, hl⟩ : ∃ l, Hid (l = ss ++ us) := ⟨_, Lib.hid rfl⟩
    rw [← hl.out, ← hN] at hlen
    rw [← hl.out] at HE hsl
    have hN40 : N ≤ 40 := by omega
    clear Hs1 Hown0 HB0 HF0 HW0 Hsz HS HU hN
    go_wp2
    go_loopw [4] (fun iv wr => ∃ k : Nat, k ≤ N ∧ iv = .int .i64 k ∧ Hid ((l.take k).any bigS = false) ∧ Hid (Fr No wc wr)) (fun iv _ => N - (intOf iv).toNat)
    case atStart => exact ⟨0, Nat.zero_le _, rfl, Lib.hid (by simp), Lib.hid (Fr.refl _ _)⟩
    case round =>
      obtain ⟨k, hk, rfl, hpre, hg⟩ := hrel
      by_cases hlt : k < N
      · have hkl : k < l.length := by rw [hlen.out]; exact hlt
        obtain ⟨ad, rfl, hab, c0, c1⟩ := (hsl.out.since hg.out).stp (k := k) hkl
        have Hnx : Hid ((l.take (k + 1)).any bigS = bigS l[k]) := Lib.hid (by rw [List.take_succ_eq_append_getElem hkl, List.any_append, hpre.out]; simp)
        have Hbad : Hid (bigS l[k] = true → l.any bigS = true) := Lib.hid (fun h => List.any_eq_true.2 ⟨_, List.getElem_mem hkl, h⟩)
        have Hb : Hid (bigS l[k] = (decide (40 < l[k].code.length) || decide (40 < l[k].foot.length))) := Lib.hid rfl
        generalize bigS l[k] = bb at *
        generalize l[k].code.length = x at *
        generalize l[k].foot.length = y at *
        by_cases hx : 40 < x
        · have dx : decide (40 < (x : Int)) = true := by simp; omega
          have HT : Hid (r = true) := Lib.hid (by rw [HE.out]; exact Hbad.out (by rw [Hb.out]; simp [hx]))
          clear Hnx Hbad Hb
          go_wp2
          go_ret
          exact ⟨by rw [HT.out]; rfl, hfr.out.trans' hg.out (fun _ _ e => e)⟩
        · have dx : decide (40 < (x : Int)) = false := by simp; omega
          by_cases hy : 40 < y
          · have dy : decide (40 < (y : Int)) = true := by simp; omega
            have HT : Hid (r = true) := Lib.hid (by rw [HE.out]; exact Hbad.out (by rw [Hb.out]; simp [hy]))
            clear Hnx Hbad Hb
            go_wp2
            go_ret
            exact ⟨by rw [HT.out]; rfl, hfr.out.trans' hg.out (fun _ _ e => e)⟩
          · have dy : decide (40 < (y : Int)) = false := by simp; omega
            have HP : Hid ((l.take (k + 1)).any bigS = false) := Lib.hid (by rw [Hnx.out, Hb.out]; simp [hx, hy])
            clear Hnx Hbad Hb
            go_wp2
            go_roundw
            case rel => exact ⟨k + 1, by omega, by go_num, HP, hg⟩
            case measure => simp [intOf]; omega
      · have HF : Hid (r = false) := Lib.hid (by
          have h := hpre.out
          rw [List.take_of_length_le (by rw [hlen.out]; omega)] at h
          rw [HE.out, h])
        clear hpre
        go_wp2
        go_ret
        exact ⟨by rw [HF.out]; rfl, hfr.out.trans' hg.out (fun _ _ e => e)⟩
end Go.Proofs.Ytkihbjgmmaklaaa
