/- The law's Great: is a class more than it looks at? -/
import Derived.Deep.RegionLaw
import Derived.Deep.CutRange
import Derived.Test.YtmeimhpllemjfaaGreatCls11
import Derived.Test.YtmeimhpllemjfaaGreatUnt14
import Derived.Test.YtmeimhpllemjfaaGreatMyp14
namespace Go.Proofs.YtmeimhpllemjfaaGreat
open Go.RowKit

theorem info_stp9 : (Tryz.prog.info? 46).map (fun i => (i.zero, i.size, i.bytes)) = some (some (.agg #[.slice none 0 0, .slice none 0 0]), 2, 48) := by kernel_rfl
def bigS (s : Stp) : Bool := decide (40 < s.code.length) || decide (40 < s.foot.length)
def greatB (c : Cls) : Bool := decide (300 < c.name.size) || (decide (20 < c.steps.length) || (decide (20 < c.comps.length) || (c.steps ++ c.comps).any bigS))
theorem stp_cells_one (l : List Stp) : ∀ u ∈ l.flatMap Stp.cells, u.oneCell' = true := by
  intro u hu
  obtain ⟨s, -, hu⟩ := List.mem_flatMap.1 hu
  simp only [Stp.cells, List.mem_cons, List.not_mem_nil, or_false] at hu
  rcases hu with rfl | rfl <;> rfl
theorem stp_flat_len (l : List Stp) : (l.flatMap Stp.cells).length = l.length * 2 := by
  induction l with
  | nil => rfl
  | cons a r ih => rw [List.flatMap_cons, List.length_append, ih, List.length_cons, Stp.cells_len]; omega

set_option maxRecDepth 100000 in
set_option maxHeartbeats 4000000 in
theorem great11_any (c : Cls) (w : World) (hc : c.Ok w) : Calls Tryz.prog 57 #[c.agg] w (Has w (greatB c)) := by
  have Hr : Hid (greatB c = (decide (300 < c.name.size) || (decide (20 < c.steps.length) || (decide (20 < c.comps.length) || (c.steps ++ c.comps).any bigS)))) := Lib.hid rfl
  generalize greatB c = r at *
  obtain ⟨nm, a, A, ss, sc, U, us, uc, res⟩ := c
  obtain ⟨hS, hU⟩ := hc
  unfold Cls.agg
  simp only at *
  obtain ⟨n, hn⟩ : ∃ n, ss.length = n := ⟨_, rfl⟩
  obtain ⟨m, hm⟩ : ∃ m, us.length = m := ⟨_, rfl⟩
  rw [hn, hm] at Hr
  rw [hn, hm]
  have Hn := Lib.hid hn
  have Hm := Lib.hid hm
  have f0 : Fr No w (w.alloc (.cells #[.string nm, .int .i64 a, .slice A n sc, .slice U m uc, .bool res] 49)) := (Fr.refl _ _).alloc _
  by_cases h1 : 300 < nm.size
  · have e1 : r = true := by rw [Hr.out]; simp [h1]
    have d1 : decide (300 < (nm.size : Int)) = true := by simp; omega
    go_enter Tryz.func57, Tryz.ntmps57
    go_wp2
    go_ret
    exact ⟨by rw [e1]; rfl, f0⟩
  have d1 : decide (300 < (nm.size : Int)) = false := by simp; omega
  by_cases h2 : 20 < n
  · have e1 : r = true := by rw [Hr.out]; simp [h2]
    have d2 : decide (20 < (n : Int)) = true := by simp; omega
    go_enter Tryz.func57, Tryz.ntmps57
    go_wp2
    go_ret
    exact ⟨by rw [e1]; rfl, f0⟩
  have d2 : decide (20 < (n : Int)) = false := by simp; omega
  by_cases h3 : 20 < m
  · have e1 : r = true := by rw [Hr.out]; simp [h3]
    have d3 : decide (20 < (m : Int)) = true := by simp; omega
    go_enter Tryz.func57, Tryz.ntmps57
    go_wp2
    go_ret
    exact ⟨by rw [e1]; rfl, f0⟩
  have d3 : decide (20 < (m : Int)) = false := by simp; omega
  have HE : Hid (r = (ss ++ us).any bigS) := Lib.hid (by rw [Hr.out]; simp [h1, h2, h3])
  have hlen : Hid ((ss ++ us).length = n + m) := Lib.hid (by rw [List.length_append, hn, hm])
  have HS := Lib.hid hS
  have HU := Lib.hid hU
  have HB := Lib.hid (Bk.made w 49 #[.string nm, .int .i64 a, .slice A n sc, .slice U m uc, .bool res])
  clear hS hU Hr hn hm
  obtain ⟨i0, hi, hz0, hz1, hz2⟩ := info_parts info_stp9
  obtain ⟨W0, hW0⟩ : ∃ W0, W0 = ((w.alloc (.cells #[.string nm, .int .i64 a, .slice A n sc, .slice U m uc, .bool res] 49)).alloc (.cells #[] 46)).drew := ⟨_, rfl⟩
  have hF0 : Fr No w W0 := by rw [hW0]; exact (f0.alloc _).drew
  have hsz : W0.heap.size = w.heap.size + 2 := by rw [hW0]; simp
  have hB0 : Bk W0 w.heap.size 49 #[.string nm, .int .i64 a, .slice A n sc, .slice U m uc, .bool res] := by rw [hW0]; exact (HB.out.fr ((Fr.refl No _).alloc _) (fun e => e)).fr ((Fr.refl No _).drew) (fun e => e)
  have hown0 : W0.ownsRow (w.heap.size + 1) 46 2 (.slice (some ⟨w.heap.size + 1, 0, none⟩) 0 0) 0 [] := by
    rw [hW0]
    have h := World.ownsRow_lit (base := w.heap.size + 1) (e := 46) (size := 2) (w.alloc (.cells #[.string nm, .int .i64 a, .slice A n sc, .slice U m uc, .bool res] 49)) #[] 0 (by simp) (by decide) rfl
    rw [World.size_alloc] at h
    exact own_fr h ((Fr.refl No _).drew) (fun _ _ e => e)
  have hs1 := (HS.out.since hF0).sl
  have HF0 := Lib.hid hF0
  have Hs1 := Lib.hid hs1
  have Hown0 := Lib.hid hown0
  have HB0 := Lib.hid hB0
  rw [hW0] at Hown0 Hs1
  have Hsz := Lib.hid hsz
  have HW0 := Lib.hid hW0
  clear hs1 hown0 hB0 hF0 hW0 hsz HB
  go_enter Tryz.func57, Tryz.ntmps57
  go_wp2_with fail
  go_cut [3] from 21 to 27 (fun s3 wx => ∃ (B : Option Addr) (cB : Nat), s3 = .slice B (n + m) cB ∧ Hid (Sl wx wx.heap.size B ((ss ++ us).flatMap Stp.cells)) ∧ Hid (Fr No w wx))
  case first =>
    go_region_law (first
      | (refine step_append_src _ rfl (.tmp 21) (.tmp 23) 47 rfl (w.heap.size + 1) 46 i0 _ 2 48 Tryz.underlying47 hi hz0 hz1 hz2 rfl (by omega) (.slice (some ⟨w.heap.size + 1, 0, none⟩) 0 0) 0 [] rfl Hown0.out _ A n sc (ss.flatMap Stp.cells) rfl (by rw [stp_flat_len, Hn.out]) Hs1.out (stp_cells_one ss) (by unfold maxLen; omega) (by omega) (by simp) ?_
         intro v1 w1 o1 g1 _
         rw [← HW0.out] at g1
         have f1 : Fr (fun k => k = w.heap.size + 1) W0 w1 := (Fr.refl (fun k => k = w.heap.size + 1) W0).grown g1 (fun k hk => .inl (by simpa [Value.ownBlock] using hk.symm))
         obtain ⟨A1, c1, rfl, -, -, -⟩ := own_shape o1
         simp only [Nat.zero_add, List.nil_append] at o1 ⊢
         have F1 : Fr No w w1 := HF0.out.trans' f1 (fun i hi e => by omega)
         have b1 := HB0.out.fr f1 (fun e => by omega)
         have y3 := b1.cell 3
         have l1 := b1.lt
         simp at y3
         have Ho1 := Lib.hid o1
         have HF1 := Lib.hid F1
         have Hsu := Lib.hid (HU.out.since F1).sl
         have hz1' := F1.size
         clear o1 g1 f1 F1 b1)
      | (refine step_append_src _ rfl (.tmp 24) (.tmp 26) 47 rfl (w.heap.size + 1) 46 i0 _ 2 48 Tryz.underlying47 hi hz0 hz1 hz2 rfl (by omega) (.slice A1 n c1) n (ss.flatMap Stp.cells) rfl Ho1.out _ U m uc (us.flatMap Stp.cells) rfl (by rw [stp_flat_len, Hm.out]) Hsu.out (stp_cells_one us) (by unfold maxLen; omega) (by omega) (by omega) ?_
         intro v2 w2 o2 g2 _
         obtain ⟨A2, c2, rfl, -, -, -⟩ := own_shape o2
         have f2 : Fr (fun k => (Value.slice A1 n c1).ownBlock = some k) w1 w2 := (Fr.refl _ w1).grown g2 (fun k hk => .inl hk)
         have HF2 : Hid (Fr No w w2) := Lib.hid (HF1.out.trans' f2 (fun i hi e => by have := (Ho1.out.lt i e).1; omega))
         have Hs2 : Hid (Sl w2 w2.heap.size A2 ((ss ++ us).flatMap Stp.cells)) := Lib.hid (by rw [List.flatMap_append]; exact Sl.ofOwn o2)
         clear o2 g2 f2))
    all_goals
      go_wp2
      go_meet
      exact ⟨A2, c2, rfl, Hs2, HF2⟩
  case rest =>
    obtain ⟨B, cB, rfl, hsl, hfr⟩ := hcut
    obtain ⟨N, hN⟩ : ∃ N, N = n + m := ⟨_, rfl⟩
    rw [← hN]
    obtain ⟨l, hl⟩ : ∃ l, Hid (l = ss ++ us) := ⟨_, Lib.hid rfl⟩
    rw [← hl.out, ← hN] at hlen
    rw [← hl.out] at HE hsl
    have hN40 : N ≤ 40 := by omega
    clear Hs1 Hown0 HB0 HF0 HW0 Hsz HS HU hN
    go_wp2
    go_loopw [4] (fun iv wr => ∃ k : Nat, k ≤ N ∧ iv = .int .i64 k ∧ Hid ((l.take k).any bigS = false) ∧ Hid (Fr No wc wr)) (fun iv _ => N - (intOf iv).toNat)
    case atStart => exact ⟨0, Nat.zero_le _, rfl, Lib.hid (by simp), Lib.hid (Fr.refl _ _)⟩
    case round =>
      obtain ⟨k, hk, rfl, hpre, hg⟩ := hrel
      by_cases hlt : k < N
      · have hkl : k < l.length := by rw [hlen.out]; exact hlt
        obtain ⟨ad, rfl, hab, c0, c1⟩ := (hsl.out.since hg.out).stp (k := k) hkl
        have Hnx : Hid ((l.take (k + 1)).any bigS = bigS l[k]) := Lib.hid (by rw [List.take_succ_eq_append_getElem hkl, List.any_append, hpre.out]; simp)
        have Hbad : Hid (bigS l[k] = true → l.any bigS = true) := Lib.hid (fun h => List.any_eq_true.2 ⟨_, List.getElem_mem hkl, h⟩)
        have Hb : Hid (bigS l[k] = (decide (40 < l[k].code.length) || decide (40 < l[k].foot.length))) := Lib.hid rfl
        generalize bigS l[k] = bb at *
        generalize l[k].code.length = x at *
        generalize l[k].foot.length = y at *
        by_cases hx : 40 < x
        · have dx : decide (40 < (x : Int)) = true := by simp; omega
          have HT : Hid (r = true) := Lib.hid (by rw [HE.out]; exact Hbad.out (by rw [Hb.out]; simp [hx]))
          clear Hnx Hbad Hb
          go_wp2
          go_ret
          exact ⟨by rw [HT.out]; rfl, hfr.out.trans' hg.out (fun _ _ e => e)⟩
        · have dx : decide (40 < (x : Int)) = false := by simp; omega
          by_cases hy : 40 < y
          · have dy : decide (40 < (y : Int)) = true := by simp; omega
            have HT : Hid (r = true) := Lib.hid (by rw [HE.out]; exact Hbad.out (by rw [Hb.out]; simp [hy]))
            clear Hnx Hbad Hb
            go_wp2
            go_ret
            exact ⟨by rw [HT.out]; rfl, hfr.out.trans' hg.out (fun _ _ e => e)⟩
          · have dy : decide (40 < (y : Int)) = false := by simp; omega
            have HP : Hid ((l.take (k + 1)).any bigS = false) := Lib.hid (by rw [Hnx.out, Hb.out]; simp [hx, hy])
            clear Hnx Hbad Hb
            go_wp2
            go_roundw
            case rel => exact ⟨k + 1, by omega, by go_num, HP, hg⟩
            case measure => simp [intOf]; omega
      · have HF : Hid (r = false) := Lib.hid (by
          have h := hpre.out
          rw [List.take_of_length_le (by rw [hlen.out]; omega)] at h
          rw [HE.out, h])
        clear hpre
        go_wp2
        go_ret
        exact ⟨by rw [HF.out]; rfl, hfr.out.trans' hg.out (fun _ _ e => e)⟩
end Go.Proofs.YtmeimhpllemjfaaGreat
/- The law's own: is a history, or its catalogue, more than it looks at? -/
namespace Go.Proofs.YtmeimhpllemjfaaGreat
open Go.RowKit

def great12 (l : List Cls) : Bool := l.any greatB || decide (12 < l.length)
def bigN (a : Ndl) : Bool := decide (60 < a.n.rd.length) || decide (60 < a.n.wt.length)
def great14 (l : List Cls) (h : List Ndl) : Bool := h.any bigN || (great12 l || decide (110 < h.length))
theorem any_step15 {α : Type} (p : α → Bool) (l : List α) (k : Nat) (hk : k < l.length) (h : (l.take k).any p = false) : (l.take (k + 1)).any p = p l[k] := by
  rw [List.take_succ_eq_append_getElem hk, List.any_append, h]
  simp
theorem any_found15 {α : Type} (p : α → Bool) (l : List α) (k : Nat) (hk : k < l.length) (h : p l[k] = true) : l.any p = true := List.any_eq_true.2 ⟨_, List.getElem_mem hk, h⟩
set_option maxRecDepth 100000 in
set_option maxHeartbeats 4000000 in
theorem great12_any (x : Ctl) (w : World) (hx : Clss w x.cA x.cls) (hnc : x.cls.length ≤ 9223372036854775807) : Calls Tryz.prog 39 #[x.agg] w (Has w (great12 x.cls)) := by
  have Hg := Lib.hid (fun (k : Nat) (hk : k < x.cls.length) W (h : Fr No w W) => great11_any x.cls[k] W ((hx.since h).all _ (List.getElem_mem hk)))
  have Hsl := Lib.hid (fun (k : Nat) (hk : k < x.cls.length) W (h : Fr No w W) => (hx.since h).sl.cls hk)
  have Hst := Lib.hid (fun (k : Nat) (hk : k < x.cls.length) (h : (x.cls.take k).any greatB = false) => any_step15 greatB x.cls k hk h)
  have Hfd := Lib.hid (fun (k : Nat) (hk : k < x.cls.length) (h : greatB x.cls[k] = true) => show great12 x.cls = true by unfold great12; rw [any_found15 greatB x.cls k hk h]; rfl)
  have Hend := Lib.hid (fun (h : x.cls.any greatB = false) => show great12 x.cls = decide (12 < (x.cls.length : Int)) by unfold great12; rw [h, Bool.false_or]; exact decide_eq_decide.2 (by omega))
  have H0 : Hid ((x.cls.take 0).any greatB = false) := Lib.hid (by simp)
  have Htk := Lib.hid (fun (k : Nat) (hk : k = x.cls.length) (h : (x.cls.take k).any greatB = false) => show x.cls.any greatB = false by rwa [hk, List.take_length] at h)
  generalize great12 x.cls = r at *
  unfold Ctl.agg
  obtain ⟨Z, hZ⟩ : ∃ Z, Z = x.arr := ⟨_, rfl⟩
  rw [← hZ]
  rw [Ctl.arr_eq] at hZ
  obtain ⟨W0, hW0⟩ : ∃ W0, W0 = w.alloc (.cells Z 26) := ⟨_, rfl⟩
  have bZ : Bk W0 w.heap.size 26 Z := by rw [hW0]; exact Bk.made w _ _
  have HF0 : Hid (Fr No w W0) := Lib.hid (by rw [hW0]; exact (Fr.refl _ _).alloc _)
  have HLd : Hid (∀ V, Fr No W0 V → LdO V 26 ⟨w.heap.size, 0, none⟩ (.agg Z) ∧ V.cell? ⟨w.heap.size, 0, none⟩ = some (.slice x.cA x.cls.length x.cc)) := Lib.hid (fun V h => ⟨ld_cat hZ (bZ.fr h (fun e => e)), by rw [(bZ.fr h (fun e => e)).cell, hZ]; rfl⟩)
  have hwe := hW0.symm
  clear hZ hW0 bZ
  obtain ⟨n, hn⟩ : ∃ n, x.cls.length = n := ⟨_, rfl⟩
  have Hn := Lib.hid hn
  rw [hn] at HLd hnc
  obtain ⟨cA, cls, cc, b⟩ := x
  dsimp only at *
  clear hx hn
  go_enter Tryz.func39, Tryz.ntmps39
  go_wp2
  clear hwe
  go_loopw [3] (fun iv wr => ∃ k : Nat, k ≤ n ∧ iv = .int .i64 (k : Int) ∧ Hid ((cls.take k).any greatB = false) ∧ Hid (Fr No W0 wr)) (fun iv _ => n - (intOf iv).toNat)
  case atStart => exact ⟨0, Nat.zero_le _, rfl, H0, Lib.hid (Fr.refl _ _)⟩
  case round =>
    obtain ⟨k, hk, rfl, hpre, hfr⟩ := hrel
    have y0 := (HLd.out wr hfr.out).2
    by_cases hlt : k < n
    · have hkl : k < cls.length := by rw [Hn.out]; exact hlt
      have hkn : ((k : Nat) : Int) < (n : Int) := by omega
      obtain ⟨ad, rfl, hab, c0, c1, c2, c3, c4⟩ := Hsl.out k hkl wr (HF0.out.trans' hfr.out (fun _ _ e => e))
      have hC := Lib.hid (Hg.out k hkl wr (HF0.out.trans' hfr.out (fun _ _ e => e)))
      have hs := Lib.hid (Hst.out k hkl hpre.out)
      have hf := Lib.hid (Hfd.out k hkl)
      unfold Cls.agg at hC
      generalize greatB cls[k] = g at *
      generalize cls[k].steps.length = L at *
      generalize cls[k].comps.length = M at *
      generalize cls[k].name = nm at *
      generalize cls[k].args = ar at *
      generalize cls[k].sA = sA at *
      generalize cls[k].sc = sc at *
      generalize cls[k].uA = uA at *
      generalize cls[k].uc = uc at *
      generalize cls[k].res = re at *
      clear hpre Hg Hsl Hst Hfd Hend Htk H0
      cases g
      · go_wp2_with fail
        refine (hC.out).mono ?_
        rintro e w1 ⟨rfl, f1⟩
        have F1 := Lib.hid (hfr.out.trans' f1 (fun _ _ e => e))
        clear f1 y0
        go_wp2
        go_roundw
        case rel => exact ⟨k + 1, by omega, by go_num, hs, F1⟩
        case measure => simp [intOf]; omega
      · go_wp2_with fail
        refine (hC.out).mono ?_
        rintro e w1 ⟨rfl, f1⟩
        have F1 := Lib.hid (hfr.out.trans' f1 (fun _ _ e => e))
        clear f1 y0
        go_wp2
        go_ret
        exact ⟨by rw [hf.out (by first | rfl | trivial)]; rfl, HF0.out.trans' F1.out (fun _ _ e => e)⟩
    · obtain rfl : k = n := by omega
      have HE := Lib.hid (Hend.out (Htk.out k Hn.out.symm hpre.out))
      rw [Hn.out] at HE
      clear hpre Hg Hsl Hst Hfd Hend Htk H0
      go_wp2
      go_ret
      exact ⟨by rw [HE.out]; rfl, HF0.out.trans' hfr.out (fun _ _ e => e)⟩
set_option maxRecDepth 100000 in
set_option maxHeartbeats 4000000 in
theorem great14_any (x : Ctl) (h : List Ndl) (A : Option Addr) (N c : Nat) (w : World) (hx : Clss w x.cA x.cls) (hh : Nds w A h) (hN : h.length = N) (hNm : N ≤ 9223372036854775807) (hnc : x.cls.length ≤ 9223372036854775807) :
    Calls Tryz.prog 19 #[x.agg, .slice A N c] w (Has w (great14 x.cls h)) := by
  have HG := Lib.hid (fun W (hW : Fr No w W) => great12_any x W (hx.since hW) hnc)
  have Hnd := Lib.hid (fun (k : Nat) (hk : k < h.length) W (hW : Fr No w W) => (hh.since hW).sl.nd hk)
  have Hst := Lib.hid (fun (k : Nat) (hk : k < h.length) (hp : (h.take k).any bigN = false) => any_step15 bigN h k hk hp)
  have Hfd := Lib.hid (fun (k : Nat) (hk : k < h.length) (hp : bigN h[k] = true) => show great14 x.cls h = true by unfold great14; rw [any_found15 bigN h k hk hp]; rfl)
  have Hend := Lib.hid (fun (hp : h.any bigN = false) => show great14 x.cls h = (great12 x.cls || decide (110 < (N : Int))) by unfold great14; rw [hp, Bool.false_or]; congr 1; exact decide_eq_decide.2 (by omega))
  have Htk := Lib.hid (fun (k : Nat) (hk : k = h.length) (hp : (h.take k).any bigN = false) => show h.any bigN = false by rwa [hk, List.take_length] at hp)
  have Hb := Lib.hid (fun (k : Nat) (hk : k < h.length) => show bigN h[k] = (decide (60 < h[k].n.rd.length) || decide (60 < h[k].n.wt.length)) from rfl)
  generalize great14 x.cls h = r at *
  generalize great12 x.cls = g at *
  unfold Ctl.agg at HG ⊢
  obtain ⟨Z, hZ⟩ : ∃ Z, Z = x.arr := ⟨_, rfl⟩
  rw [← hZ] at HG ⊢
  rw [Ctl.arr_eq] at hZ
  obtain ⟨W0, hW0⟩ : ∃ W0, W0 = w.alloc (.cells Z 26) := ⟨_, rfl⟩
  have bZ : Bk W0 w.heap.size 26 Z := by rw [hW0]; exact Bk.made w _ _
  have HF0 : Hid (Fr No w W0) := Lib.hid (by rw [hW0]; exact (Fr.refl _ _).alloc _)
  have HLd : Hid (∀ V, Fr No W0 V → LdO V 26 ⟨w.heap.size, 0, none⟩ (.agg Z) ∧ V.cell? ⟨w.heap.size, 0, none⟩ = some (.slice x.cA x.cls.length x.cc)) := Lib.hid (fun V h => ⟨ld_cat hZ (bZ.fr h (fun e => e)), by rw [(bZ.fr h (fun e => e)).cell, hZ]; rfl⟩)
  have hwe := hW0.symm
  clear hZ hW0 bZ
  have HL := Lib.hid (fun V (hV : Fr No W0 V) => (HLd.out V hV).1)
  have Hn := Lib.hid hN
  clear hx hh hN HLd hnc
  go_enter Tryz.func19, Tryz.ntmps19
  go_wp2
  clear hwe
  go_loopw [5] (fun iv wr => ∃ k : Nat, k ≤ N ∧ iv = .int .i64 (k : Int) ∧ Hid ((h.take k).any bigN = false) ∧ Hid (Fr No W0 wr)) (fun iv _ => N - (intOf iv).toNat)
  case atStart => exact ⟨0, Nat.zero_le _, rfl, Lib.hid (by simp), Lib.hid (Fr.refl _ _)⟩
  case round =>
    obtain ⟨k, hk, rfl, hpre, hfr⟩ := hrel
    by_cases hlt : k < N
    · have hkl : k < h.length := by rw [Hn.out]; exact hlt
      have hkn : ((k : Nat) : Int) < (N : Int) := by omega
      obtain ⟨ad, rfl, hab, a0, a1, a2, a3, a4, a5⟩ := Hnd.out k hkl wr (HF0.out.trans' hfr.out (fun _ _ e => e))
      have hs := Lib.hid (Hst.out k hkl hpre.out)
      have hf := Lib.hid (Hfd.out k hkl)
      have hb := Lib.hid (Hb.out k hkl)
      generalize bigN h[k] = bb at *
      generalize h[k].n.rd.length = m1 at *
      generalize h[k].n.wt.length = m2 at *
      generalize h[k].rA = R1 at *
      generalize h[k].rc = C1 at *
      generalize h[k].wA = R2 at *
      generalize h[k].wc = C2 at *
      clear hpre Hnd Hst Hfd Hend Htk Hb HG a0 a1 a2 a3
      by_cases g1 : 60 < m1
      · have d1 : decide (60 < (m1 : Int)) = true := decide_eq_true (by omega)
        have HT : Hid (r = true) := Lib.hid (hf.out (by rw [hb.out]; simp [g1]))
        clear hs hf hb g1
        go_wp2
        go_ret
        exact ⟨by rw [HT.out]; rfl, HF0.out.trans' hfr.out (fun _ _ e => e)⟩
      have d1 : decide (60 < (m1 : Int)) = false := decide_eq_false (by omega)
      by_cases g2 : 60 < m2
      · have d2 : decide (60 < (m2 : Int)) = true := decide_eq_true (by omega)
        have HT : Hid (r = true) := Lib.hid (hf.out (by rw [hb.out]; simp [g2]))
        clear hs hf hb g1 g2
        go_wp2
        go_ret
        exact ⟨by rw [HT.out]; rfl, HF0.out.trans' hfr.out (fun _ _ e => e)⟩
      have d2 : decide (60 < (m2 : Int)) = false := decide_eq_false (by omega)
      have hs2 : Hid ((h.take (k + 1)).any bigN = false) := Lib.hid (by rw [hs.out, hb.out]; simp [g1, g2])
      clear hs hf hb g1 g2
      go_wp2
      go_roundw
      case rel => exact ⟨k + 1, by omega, by go_num, hs2, hfr⟩
      case measure => simp [intOf]; omega
    · obtain rfl : k = N := by omega
      have HE := Lib.hid (Hend.out (Htk.out k Hn.out.symm hpre.out))
      have HLw := Lib.hid (HL.out _ hfr.out)
      have HGw := Lib.hid (HG.out _ (HF0.out.trans' hfr.out (fun _ _ e => e)))
      clear hpre Hnd Hst Hfd Hend Htk Hb HG
      go_wp2_with (first
        | ((with_reducible refine wpl_ld ?_ ?_ HLw.out ?_); (· rfl); (· rfl); simp only [Act.put, szA, szB, szC]))
      refine (HGw.out).mono ?_
      rintro e w1 ⟨rfl, f1⟩
      have F1 := Lib.hid (HF0.out.trans' (hfr.out.trans' f1 (fun _ _ e => e)) (fun _ _ e => e))
      clear f1 HGw HLw
      cases g
      · go_wp2
        go_ret
        exact ⟨by rw [HE.out]; rfl, F1.out⟩
      · go_wp2
        go_ret
        exact ⟨by rw [HE.out]; rfl, F1.out⟩
theorem few_of_great {c : Cls} (h : greatB c = false) : c.Few := by
  unfold greatB at h
  simp only [Bool.or_eq_false_iff, decide_eq_false_iff_not, List.any_eq_false] at h
  obtain ⟨-, h2, h3, h4⟩ := h
  have hall : ∀ s ∈ c.steps ++ c.comps, s.code.length ≤ 40 ∧ s.foot.length ≤ 40 := fun s hs => by
    have := h4 s hs
    unfold bigS at this
    simp only [Bool.or_eq_true, decide_eq_true_eq, not_or] at this
    omega
  exact ⟨by omega, by omega, fun s hs => by have := hall s (List.mem_append_left _ hs); omega, fun s hs => by have := hall s (List.mem_append_right _ hs); omega⟩
theorem big_of_great {x : Ctl} {h : List Ndl} (hg : great14 x.cls h = false) : x.Big ∧ h.length ≤ 110 ∧ ∀ a ∈ h, a.n.rd.length ≤ 60 ∧ a.n.wt.length ≤ 60 := by
  unfold great14 great12 at hg
  simp only [Bool.or_eq_false_iff, decide_eq_false_iff_not, List.any_eq_false] at hg
  obtain ⟨h1, ⟨h2, h3⟩, h4⟩ := hg
  refine ⟨⟨by omega, fun c hc => few_of_great (by have := h2 c hc; simpa using this)⟩, by omega, fun a ha => ?_⟩
  have := h1 a ha
  unfold bigN at this
  simp only [Bool.or_eq_true, decide_eq_true_eq, not_or] at this
  omega
end Go.Proofs.YtmeimhpllemjfaaGreat
/- The law's own: is a list of nodes more than it looks at? -/
namespace Go.Proofs.YtmeimhpllemjfaaGreat
open Go.RowKit

def bigN15 (a : Ndl) : Bool := decide (40 < a.n.rd.length) || decide (40 < a.n.wt.length)
def great15 (h : List Ndl) : Bool := h.any bigN15 || decide (40 < h.length)
theorem any_step16 {α : Type} (p : α → Bool) (l : List α) (k : Nat) (hk : k < l.length) (h : (l.take k).any p = false) : (l.take (k + 1)).any p = p l[k] := by
  rw [List.take_succ_eq_append_getElem hk, List.any_append, h]
  simp
set_option maxRecDepth 100000 in
set_option maxHeartbeats 4000000 in
theorem great15_any (h : List Ndl) (A : Option Addr) (N c : Nat) (w : World) (hh : Nds w A h) (hN : h.length = N) (hNm : N ≤ 9223372036854775807) : Calls Tryz.prog 20 #[.slice A N c] w (Has w (great15 h)) := by
  have Hnd := Lib.hid (fun (k : Nat) (hk : k < h.length) W (hW : Fr No w W) => (hh.since hW).sl.nd hk)
  have Hst := Lib.hid (fun (k : Nat) (hk : k < h.length) (hp : (h.take k).any bigN15 = false) => any_step16 bigN15 h k hk hp)
  have Hfd := Lib.hid (fun (k : Nat) (hk : k < h.length) (hp : bigN15 h[k] = true) => show great15 h = true by unfold great15; rw [show h.any bigN15 = true from List.any_eq_true.2 ⟨_, List.getElem_mem hk, hp⟩]; rfl)
  have Hend := Lib.hid (fun (hp : h.any bigN15 = false) => show great15 h = decide (40 < (N : Int)) by unfold great15; rw [hp, Bool.false_or]; exact decide_eq_decide.2 (by omega))
  have Htk := Lib.hid (fun (k : Nat) (hk : k = h.length) (hp : (h.take k).any bigN15 = false) => show h.any bigN15 = false by rwa [hk, List.take_length] at hp)
  have Hb := Lib.hid (fun (k : Nat) (hk : k < h.length) => show bigN15 h[k] = (decide (40 < h[k].n.rd.length) || decide (40 < h[k].n.wt.length)) from rfl)
  generalize great15 h = r at *
  have Hn := Lib.hid hN
  clear hh hN
  go_enter Tryz.func20, Tryz.ntmps20
  go_wp2
  go_loopw [3] (fun iv wr => ∃ k : Nat, k ≤ N ∧ iv = .int .i64 (k : Int) ∧ Hid ((h.take k).any bigN15 = false) ∧ Hid (Fr No w wr)) (fun iv _ => N - (intOf iv).toNat)
  case atStart => exact ⟨0, Nat.zero_le _, rfl, Lib.hid (by simp), Lib.hid (Fr.refl _ _)⟩
  case round =>
    obtain ⟨k, hk, rfl, hpre, hfr⟩ := hrel
    by_cases hlt : k < N
    · have hkl : k < h.length := by rw [Hn.out]; exact hlt
      have hkn : ((k : Nat) : Int) < (N : Int) := by omega
      obtain ⟨ad, rfl, hab, a0, a1, a2, a3, a4, a5⟩ := Hnd.out k hkl wr hfr.out
      have hs := Lib.hid (Hst.out k hkl hpre.out)
      have hf := Lib.hid (Hfd.out k hkl)
      have hb := Lib.hid (Hb.out k hkl)
      generalize bigN15 h[k] = bb at *
      generalize h[k].n.rd.length = m1 at *
      generalize h[k].n.wt.length = m2 at *
      generalize h[k].rA = R1 at *
      generalize h[k].rc = C1 at *
      generalize h[k].wA = R2 at *
      generalize h[k].wc = C2 at *
      clear hpre Hnd Hst Hfd Hend Htk Hb a0 a1 a2 a3
      by_cases g1 : 40 < m1
      · have d1 : decide (40 < (m1 : Int)) = true := decide_eq_true (by omega)
        have HT : Hid (r = true) := Lib.hid (hf.out (by rw [hb.out]; simp [g1]))
        clear hs hf hb g1
        go_wp2
        go_ret
        exact ⟨by rw [HT.out]; rfl, hfr.out⟩
      have d1 : decide (40 < (m1 : Int)) = false := decide_eq_false (by omega)
      by_cases g2 : 40 < m2
      · have d2 : decide (40 < (m2 : Int)) = true := decide_eq_true (by omega)
        have HT : Hid (r = true) := Lib.hid (hf.out (by rw [hb.out]; simp [g2]))
        clear hs hf hb g1 g2
        go_wp2
        go_ret
        exact ⟨by rw [HT.out]; rfl, hfr.out⟩
      have d2 : decide (40 < (m2 : Int)) = false := decide_eq_false (by omega)
      have hs2 : Hid ((h.take (k + 1)).any bigN15 = false) := Lib.hid (by rw [hs.out, hb.out]; simp [g1, g2])
      clear hs hf hb g1 g2
      go_wp2
      go_roundw
      case rel => exact ⟨k + 1, by omega, by go_num, hs2, hfr⟩
      case measure => simp [intOf]; omega
    · obtain rfl : k = N := by omega
      have HE := Lib.hid (Hend.out (Htk.out k Hn.out.symm hpre.out))
      clear hpre Hnd Hst Hfd Hend Htk Hb
      go_wp2
      go_ret
      exact ⟨by rw [HE.out]; rfl, hfr.out⟩
end Go.Proofs.YtmeimhpllemjfaaGreat
