/- The document's store: a key is taken out. -/
import Derived.Test.YtenmiociinogeaaRdm5
namespace Go.Proofs.Ytenmiociinogeaa
open Go.RowKit

theorem out_idx (q : Pg) (hr : Rise q) (k i : Nat) (hl : i < q.length) (hk : q[i].1 = k) : outP q k = q.take i ++ q.drop (i + 1) := by
  have e : q = q.take i ++ (q[i] :: q.drop (i + 1)) := by rw [← List.drop_eq_getElem_cons hl, List.take_append_drop]
  have hr2 : Rise (q.take i ++ (q[i] :: q.drop (i + 1))) := by rw [← e]; exact hr
  obtain ⟨r1, r2, r3⟩ := Rise.app hr2
  obtain ⟨r4, _⟩ := List.pairwise_cons.1 r2
  have h1 : outP (q.take i) k = q.take i := outP_same fun x hx he => by
    have := r3 x hx q[i] List.mem_cons_self
    omega
  have h2 : outP (q.drop (i + 1)) k = q.drop (i + 1) := outP_same fun x hx he => by
    have := r4 x hx
    omega
  conv => lhs; rw [e]
  rw [outP_app, h1]
  congr 1
  rw [show q[i] :: q.drop (i + 1) = [q[i]] ++ q.drop (i + 1) from rfl, outP_app, h2]
  simp [outP, hk]

set_option maxRecDepth 100000 in
set_option maxHeartbeats 8000000 in
theorem rDel_some (R : Nat → Prop) (p k : Nat) (P : List Pg) (hi : InvP P) (hpos : ¬ idxP P k < 0) (w : World) (h : RS w R p P) (hk : k < 1000) :
    Calls Try.prog 10 #[.pointer (some ⟨p, 0, none⟩), .int .i64 k] w fun e w' => e = .returned (.int .i64 0) ∧ ∃ R', RS w' R' p (delP P k) ∧ Fr (fun x => x = p) w w' ∧ ∀ x, R' x → R x ∨ w.heap.size ≤ x := by
  have qf := rFind_any R p k P w h (fun q hq => (hi.one q hq).1) (fun q hq => by have := (hi.one q hq).2; omega)
  have hP : P ≠ [] := by
    rintro rfl
    have : idxP [] k = -1 := rfl
    rw [this] at hpos
    omega
  have hat := atP_lt P k hP
  have hgd : P.getD (atP P k) [] = P[atP P k] := by simp [List.getD, hat]
  have hlen := hi.len.2
  obtain ⟨hv, hs, hd, hll, hpg, hR1, hR2, hR3, hR4⟩ := h
  have hats : atP P k < hs.length := by omega
  have hp0 := hpg _ hats hat
  obtain ⟨C, cc, hhv, hcc⟩ := hp0.shape
  have hq8 := hi.one _ (List.getElem_mem hat)
  have hrise : Rise P[atP P k] := by
    obtain ⟨X, Y, hXY⟩ := List.append_of_mem (List.getElem_mem hat)
    have hr := hi.rise
    rw [hXY, List.flatten_append, List.flatten_cons] at hr
    exact (Rise.app (Rise.app hr).2.1).1
  have hlt := (idxI_lt P[atP P k] k).1
  obtain ⟨i, Hi⟩ : ∃ i : Nat, idxP P k = i := ⟨(idxP P k).toNat, by omega⟩
  have hii : (i : Int) = idxI P[atP P k] k := by rw [← Hi]; unfold idxP; rw [hgd]
  have hj : i < P[atP P k].length := by omega
  have hout := out_idx _ hrise k i hj ((idxI_iff _ hrise k i hj).1 hii)
  rw [Hi] at qf
  obtain ⟨A, c0, rfl, hc0⟩ := hd.shape
  obtain ⟨q, Hq⟩ : ∃ q, Hid (q = P.getD (atP P k) []) := ⟨_, Lib.hid rfl⟩
  rw [← hgd, ← Hq.out] at hp0 hhv hq8 hj hout
  rw [hhv] at hp0
  obtain ⟨a, Ha⟩ : ∃ a, Hid (a = atP P k) := ⟨_, Lib.hid rfl⟩
  have hal : a < hs.length := by rw [Ha.out]; exact hats
  have hcell : hs[a] = .slice C q.length cc := by rw [← hhv]; congr 1
  rw [← Ha.out] at qf
  have hzl : hs.length ≤ 1000 := by omega
  obtain ⟨g, gg, hgA, hgC⟩ : ∃ g gg, A = some ⟨g, 0, none⟩ ∧ C = some ⟨gg, 0, none⟩ := by
    obtain ⟨g, e, -, -, -⟩ := hd.cells hal
    obtain ⟨gg, e2, -, -, -, -⟩ := PgO.cells hp0 hj
    exact ⟨g, gg, e, e2⟩
  subst hgA hgC
  have hcl : ∀ W, Fr No w W → W.cell? ⟨p, 0, none⟩ = some (.slice (some ⟨g, 0, none⟩) hs.length c0) ∧ W.cell? ⟨g, a, none⟩ = some (.slice (some ⟨gg, 0, none⟩) q.length cc) := fun W hW => by
    have h1 := hd.fr hW (fun e => e) (fun _ _ e => e)
    obtain ⟨g', e, -, -, hc⟩ := h1.cells hal
    have h2 := h1.self.cell 0
    simp at h2
    rw [hcell] at hc
    injection e with e
    injection e with e
    subst e
    exact ⟨h2, hc⟩
  obtain ⟨z, hz⟩ : ∃ z, Hid (z = hs.length) := ⟨_, Lib.hid rfl⟩
  rw [← hz.out] at hcl
  have haz : a < z := by rw [hz.out]; exact hal
  have Hpg := Lib.hid hpg
  have Hd0 := Lib.hid hd
  have Hhi := Lib.hid hi
  have hqc := own_cap hp0
  clear hgd hats hat hii hcell hal hpg hd hi hc0 hcc hlt Hi hpos hrise hhv
  go_enter Try.func10, Try.ntmps10
  go_wp2_with fail
  refine qf.mono ?_
  rintro e w1 ⟨rfl, hf1⟩
  clear qf
  go_wp2_with fail
  obtain ⟨m, Hm⟩ : ∃ m, Hid (m = q.length) := ⟨_, Lib.hid rfl⟩
  have hsq := Sl.ofOwn hp0
  have Hl1 : Hid ((prs (q.take i)).length = i * 2) := Lib.hid (by rw [prs_len, List.length_take]; omega)
  have Hl2 : Hid ((prs (q.drop (i + 1))).length = (m - (i + 1)) * 2) := Lib.hid (by rw [prs_len, List.length_drop, Hm.out])
  have Hs1 : Hid (Sl w w.heap.size (some ⟨gg, 0, none⟩) (prs (q.take i))) := Lib.hid (by
    have := hsq.take (i * 2)
    rwa [prs_take] at this)
  have Hs2 : Hid (Sl w w.heap.size (some (if cc = i + 1 then ⟨gg, 0, none⟩ else ⟨gg, (i + 1) * 2, none⟩)) (prs (q.drop (i + 1)))) := Lib.hid (by
    have hs2' := hsq.drop (k := i + 1) (n := q.length) (cap := cc) (sz := 2) (by rw [prs_len]) hj hqc
    rw [prs_drop] at hs2'
    by_cases hc1 : cc = i + 1
    · rw [if_pos hc1] at hs2' ⊢
      exact hs2'
    · rw [if_neg hc1] at hs2' ⊢
      simpa [Addr.add] using hs2')
  rw [← Hm.out] at hcl hp0 hqc hj hq8
  have Hcl := Lib.hid hcl
  have Hout := Lib.hid hout
  have Hp0 := Lib.hid hp0
  have Hf1 := Lib.hid hf1
  have Hw1 : Hid (w.heap.size ≤ w1.heap.size) := Lib.hid hf1.size
  have hb1 : (i : Int) ≤ (cc : Int) := by omega
  have hb2 : (i : Int) + 1 ≤ (m : Int) := by omega
  have hb3 : (i : Int) ≤ (m : Int) := by omega
  have hb0 : (0 : Int) ≤ (i : Int) + 1 := by omega
  have hb4 : (m : Int) ≤ (cc : Int) := by omega
  have hb5 : (i : Int) + 1 ≤ (cc : Int) := by omega
  have hw : IntKind.i64.wrap ((i : Int) + 1) = (i : Int) + 1 := IntWalk.i64_in _ (by omega)
  have ht1 : ((m : Int) - ((i : Int) + 1)).toNat = m - (i + 1) := by omega
  have ht2 : ((cc : Int) - ((i : Int) + 1)).toNat = cc - (i + 1) := by omega
  have ht3 : ((i : Int) + 1).toNat = i + 1 := by omega
  have hza : (a : Int) < (z : Int) := by omega
  obtain ⟨p0, g0⟩ := hcl _ hf1
  clear hsq hcl hout hp0 hf1
  go_cut [7] from 22 to 43 (fun s7 wx => ∃ B c, s7 = .slice B (outP q k).length c ∧ wx.ownsRow w.heap.size 50 2 (.slice B (outP q k).length c) (outP q k).length (prs (outP q k)) ∧ Fr No w wx)
  case first =>
    have HL : Hid ((outP q k).length = i + (m - (i + 1))) := Lib.hid (by have := Hm.out; rw [Hout.out, List.length_append, List.length_take, List.length_drop]; omega)
    have HO : Hid (prs (outP q k) = prs (q.take i) ++ prs (q.drop (i + 1))) := Lib.hid (by rw [Hout.out, prs_app])
    clear hR1 hR2 hR3 hR4 hP hlen hll hzl hqc Hp0 Hd0 Hpg Hhi hz Hout Hm
    by_cases hc1 : cc = i + 1
    · subst hc1
      rw [if_pos rfl] at Hs2
      have hb10 : (i : Int) + 1 ≤ ((i + 1 : Nat) : Int) := by omega
      have hb11 : (i : Int) ≤ ((i + 1 : Nat) : Int) := by omega
      have hb12 : (i : Int) ≤ (i : Int) + 1 := by omega
      go_region_held3 (fun w' => w'.cell? ⟨p, 0, none⟩ = some (.slice (some ⟨g, 0, none⟩) z c0) ∧ w'.cell? ⟨g, a, none⟩ = some (.slice (some ⟨gg, 0, none⟩) m (i + 1))) (first
        | go_keep
        | exact Hcl.out _ f1
        | exact Hcl.out _ f3
        | exact Hcl.out _ (Hf1.out.alloc _)
        | exact Hcl.out _ (Hf1.out.alloc _).drew
        | exact Hcl.out _ (Hf1.out.drew.alloc _)
        | exact Hcl.out _ Hf1.out.drew)
        (first
         | (refine step_append_new (w0 := w) rfl _ _ _ rfl 50 (.agg #[.int .i64 0, .int .i64 0]) 2 16 Try.underlying47 info_pair rfl (by omega) (.slice (some ⟨w1.heap.size, 0, none⟩) 0 0) 0 [] rfl w.heap.size (some ⟨gg, 0, none⟩) i (i + 1) (prs (q.take i)) rfl (own_empty (Bk.made w1 _ _) Hw1.out) (by first | exact Hf1.out.alloc _ | exact (Hf1.out.alloc _).drew | exact Hf1.out.drew.alloc _) Hl1.out (by first | exact Hs1.out.fr (Hf1.out.alloc _) (Nat.le_refl _) (fun _ _ _ e => e) | exact Hs1.out.fr (Hf1.out.alloc _).drew (Nat.le_refl _) (fun _ _ _ e => e) | exact Hs1.out.fr (Hf1.out.drew.alloc _) (Nat.le_refl _) (fun _ _ _ e => e)) (prs_one _) (by unfold maxLen; omega) (by omega) ?_
            intro A1 c1 w6 own1 f1 g1 h1
            rw [Nat.zero_add, List.nil_append] at own1
            rw [Nat.zero_add])
         | (refine step_append_new (w0 := w) rfl _ _ _ rfl 50 (.agg #[.int .i64 0, .int .i64 0]) 2 16 Try.underlying47 info_pair rfl (by omega) (.slice A1 i c1) i (prs (q.take i)) rfl w.heap.size (some ⟨gg, 0, none⟩) (m - (i + 1)) 0 (prs (q.drop (i + 1))) rfl own1 f1 Hl2.out (Hs2.out.fr f1 (Nat.le_refl _) (fun _ _ _ e => e)) (prs_one _) (by unfold maxLen; omega) (by omega) ?_
            intro A3 c3 w7 own3 f3 g3 h3))
      all_goals
        go_wp2
        go_meet
        refine ⟨A3, c3, ?_, ?_, ?_⟩
        · rw [HL.out]
        · rw [HL.out, HO.out]; exact own3
        · first | exact f3 | exact f3.drewN _ | exact f3.drew
    · rw [if_neg hc1] at Hs2
      go_region_held3 (fun w' => w'.cell? ⟨p, 0, none⟩ = some (.slice (some ⟨g, 0, none⟩) z c0) ∧ w'.cell? ⟨g, a, none⟩ = some (.slice (some ⟨gg, 0, none⟩) m cc)) (first
        | go_keep
        | exact Hcl.out _ f1
        | exact Hcl.out _ f3
        | exact Hcl.out _ (Hf1.out.alloc _)
        | exact Hcl.out _ (Hf1.out.alloc _).drew
        | exact Hcl.out _ (Hf1.out.drew.alloc _)
        | exact Hcl.out _ Hf1.out.drew)
        (first
         | (refine step_append_new (w0 := w) rfl _ _ _ rfl 50 (.agg #[.int .i64 0, .int .i64 0]) 2 16 Try.underlying47 info_pair rfl (by omega) (.slice (some ⟨w1.heap.size, 0, none⟩) 0 0) 0 [] rfl w.heap.size (some ⟨gg, 0, none⟩) i cc (prs (q.take i)) rfl (own_empty (Bk.made w1 _ _) Hw1.out) (by first | exact Hf1.out.alloc _ | exact (Hf1.out.alloc _).drew | exact Hf1.out.drew.alloc _) Hl1.out (by first | exact Hs1.out.fr (Hf1.out.alloc _) (Nat.le_refl _) (fun _ _ _ e => e) | exact Hs1.out.fr (Hf1.out.alloc _).drew (Nat.le_refl _) (fun _ _ _ e => e) | exact Hs1.out.fr (Hf1.out.drew.alloc _) (Nat.le_refl _) (fun _ _ _ e => e)) (prs_one _) (by unfold maxLen; omega) (by omega) ?_
            intro A1 c1 w6 own1 f1 g1 h1
            rw [Nat.zero_add, List.nil_append] at own1
            rw [Nat.zero_add])
         | (refine step_append_new (w0 := w) rfl _ _ _ rfl 50 (.agg #[.int .i64 0, .int .i64 0]) 2 16 Try.underlying47 info_pair rfl (by omega) (.slice A1 i c1) i (prs (q.take i)) rfl w.heap.size (some ⟨gg, (i + 1) * 2, none⟩) (m - (i + 1)) (cc - (i + 1)) (prs (q.drop (i + 1))) rfl own1 f1 Hl2.out (Hs2.out.fr f1 (Nat.le_refl _) (fun _ _ _ e => e)) (prs_one _) (by unfold maxLen; omega) (by omega) ?_
            intro A3 c3 w7 own3 f3 g3 h3))
      all_goals
        go_wp2
        go_meet
        refine ⟨A3, c3, ?_, ?_, ?_⟩
        · rw [HL.out]
        · rw [HL.out, HO.out]; exact own3
        · first | exact f3 | exact f3.drewN _ | exact f3.drew
  case rest =>
    obtain ⟨B, cb, rfl, hown, hfr⟩ := hcut
    have hal : a + 1 ≤ hs.length := by rw [← hz.out]; exact haz
    have hq7 : (outP q k).length < m := by
      rw [Hout.out, List.length_append, List.length_take, List.length_drop]; have := Hm.out; omega
    have hgp : P.getD (atP P k) [] = q := Hq.out.symm
    have hdel : delP P k = (if outP q k = [] then setP P a 1 [] else if a + 1 < P.length ∧ (outP q k).length + (P.getD (a + 1) []).length ≤ 4 then setP P a 2 [outP q k ++ P.getD (a + 1) []] else if 0 < a ∧ (P.getD (a - 1) []).length + (outP q k).length ≤ 4 then setP P (a - 1) 2 [P.getD (a - 1) [] ++ outP q k] else setP P a 1 [outP q k]) := by
      unfold delP
      simp only [← Ha.out]
      have hgp2 : P.getD a [] = q := by rw [Ha.out]; exact hgp
      rw [hgp2]
    clear Hs1 Hs2 Hl1 Hl2 hb1 hb2 hb3 hb0 hb4 hb5 hw ht1 ht2 ht3 p0 g0 Hout Hq hgp Hp0 hqc hj
    generalize outP q k = L at *
    obtain ⟨n, Hn⟩ : ∃ n, Hid (n = L.length) := ⟨_, Lib.hid rfl⟩
    rw [← Hn.out] at hown hq7 ⊢
    have Hdel := Lib.hid hdel
    have hn8 : n < 8 := by omega
    clear hdel hq7 hq8 Hm Hcl
    by_cases hL0 : n = 0
    · subst hL0
      have hLn : L = [] := List.eq_nil_of_length_eq_zero Hn.out.symm
      have hD := Hdel.out
      rw [if_pos hLn] at hD
      have qs := rSet_any p _ hs [] a 1 0 0 none wc (Hd0.out.fr hfr (fun e => e) (fun _ _ e => e)) (Sl.nil _ _ _) rfl hal (by intro u hu; cases hu) (by omega) (by omega)
      go_wp2_with fail
      refine qs.mono ?_
      rintro e w5 ⟨rfl, v5, hd5, f5, hb5⟩
      have HR : Hid (∃ R', RS w5 R' p (delP P k) ∧ Fr (fun x => x = p) w w5 ∧ ∀ x, R' x → R x ∨ w.heap.size ≤ x) := Lib.hid (by
        rw [hD]
        have hsz := hfr.size
        exact rs_some Hd0.out hll Hpg.out hR1 hR3 hR4 hal ((hfr.weak (S' := fun x => x = p) (fun _ _ e => e.elim)).trans' f5 (fun _ _ e => e)) hd5 rfl (fun i c1 _ => by simp at c1) (fun u hu => by cases hu) (fun x e => by have := hb5 x e; omega))
      clear qs hd5 f5 hb5 hD
      go_wp2
      go_ret
      exact ⟨rfl, HR.out⟩
    · have hLn : L ≠ [] := by rintro rfl; exact hL0 Hn.out
      obtain ⟨gB, rfl⟩ : ∃ gB, B = some ⟨gB, 0, none⟩ := by
        obtain ⟨gB, cap, hv, _, _⟩ := hown.form (by omega)
        exact ⟨gB, by injection hv⟩
      have hD := Hdel.out
      rw [if_neg hLn] at hD
      have HD := Lib.hid hD
      have hPg : PgO wc (.slice (some ⟨gB, 0, none⟩) n cb) L := by
        unfold PgO
        rw [← Hn.out]
        exact own_base hown (Nat.zero_le _)
      have fW := hfr.alloc (.cells #[.slice (some ⟨gB, 0, none⟩) n cb] 47)
      have qs := rSet_any p _ hs [.slice (some ⟨gB, 0, none⟩) n cb] a 1 1 1 (some ⟨wc.heap.size, 0, none⟩) _ (Hd0.out.fr fW (fun e => e) (fun _ _ e => e)) ((Sl.made wc 47 #[.slice (some ⟨gB, 0, none⟩) n cb]).more (by simp)) rfl hal (by intro u hu; simp at hu; subst hu; rfl) (by omega) (by omega)
      rw [set_as _ _ _ (by omega)] at qs
      have HW := Lib.hid fW
      have Hown := Lib.hid hown
      have Hfr := Lib.hid hfr
      clear hPg fW hown Hdel hD hfr
      go_wp2_with fail
      refine qs.mono ?_
      rintro e w5 ⟨rfl, v5, hd5, f5, hb5⟩
      have hwp := hR4 p hR1
      have hsz0 := Hfr.out.size
      have F5 : Hid (Fr (fun x => x = p) w w5) := Lib.hid ((HW.out.weak (S' := fun x => x = p) (fun _ _ e => e.elim)).trans' f5 (fun _ _ e => e))
      have HO5 : Hid (w5.ownsRow w.heap.size 50 2 (.slice (some ⟨gB, 0, none⟩) n cb) n (prs L)) := Lib.hid (own_fr (Hown.out.alloc _) f5 (fun x e e2 => by have := (Hown.out.lt x e).1; omega))
      have HV5 : Hid (∀ x, v5.ownBlock = some x → w.heap.size ≤ x) := Lib.hid (fun x e => by have := hb5 x e; simp at this; omega)
      have HPg : PgO w5 (.slice (some ⟨gB, 0, none⟩) n cb) L := by
        unfold PgO
        rw [← Hn.out]
        exact own_base HO5.out (Nat.zero_le _)
      have HRone : Hid (delP P k = setP P a 1 [L] → ∃ R', RS w5 R' p (delP P k) ∧ Fr (fun x => x = p) w w5 ∧ ∀ x, R' x → R x ∨ w.heap.size ≤ x) := Lib.hid (fun e => by
        rw [e]
        refine rs_one Hd0.out hll Hpg.out hR1 hR3 hR4 hal F5.out ?_ HPg (fun x e => (HO5.out.lt x e).1) HV5.out
        rw [set_as _ _ _ (by omega)]
        exact hd5)
      have HD5 := Lib.hid hd5
      obtain ⟨A5, c5, rfl, hc5⟩ := hd5.shape
      obtain ⟨g5, rfl⟩ : ∃ g5, A5 = some ⟨g5, 0, none⟩ := by
        obtain ⟨g5, e5, -, -, -⟩ := hd5.cells (i := a) (by rw [List.length_set]; omega)
        exact ⟨g5, e5⟩
      rw [List.length_set, ← hz.out] at hc5 hd5 HV5 HD5
      have p5 := hd5.self.cell 0
      simp at p5
      have hnb : ∀ b (hb : b < hs.length), b ≠ a → ∃ g2 nQ c2, Hid (nQ = (P.getD b []).length) ∧ 1 ≤ nQ ∧ nQ ≤ 8 ∧ w5.cell? ⟨g5, b, none⟩ = some (.slice (some ⟨g2, 0, none⟩) nQ c2) ∧ Hid (Sl w5 w5.heap.size (some ⟨g2, 0, none⟩) (prs (P.getD b []))) := fun b hb hne => by
        have hbP : b < P.length := by omega
        have hg2 : P.getD b [] = P[b] := by simp [List.getD, hbP]
        have hp := (Hpg.out b hb hbP).fr F5.out (fun x e1 e2 => by
          subst e2
          exact own_apart (Hpg.out b hb hbP) Hd0.out.self (by decide) e1)
        have h18 := Hhi.out.one _ (List.getElem_mem hbP)
        obtain ⟨C2, c2, e, hc⟩ := hp.shape
        obtain ⟨g5', e5, -, -, hc5⟩ := hd5.cells (i := b) (by rw [List.length_set]; exact hb)
        rw [List.getElem_set_ne (fun e => hne e.symm), e] at hc5
        unfold PgO at hp
        rw [e] at hp
        obtain ⟨g2, cap, hv, _, _⟩ := hp.form (by omega)
        have hC : C2 = some ⟨g2, 0, none⟩ := by injection hv
        subst hC
        injection e5 with e5
        injection e5 with e5
        subst e5
        refine ⟨g2, _, c2, Lib.hid (by rw [hg2]), h18.1, h18.2, hc5, Lib.hid ?_⟩
        rw [hg2]
        exact Sl.ofOwn hp
      clear qs hd5 f5 hb5 HW Hown Hfr
      by_cases hx : a + 1 < z
      · have hxs : a + 1 < hs.length := by rw [← hz.out]; exact hx
        obtain ⟨g1, nQ, c1, HnQ, hnQ1, hnQ8, q5, HS1⟩ := hnb (a + 1) hxs (by omega)
        have hxi : (a : Int) + 1 < (z : Int) := by omega
        have hw6 : IntKind.i64.wrap ((a : Int) + 1) = (a : Int) + 1 := IntWalk.i64_in _ (by omega)
        by_cases h4 : n + nQ ≤ 4
        · have hD2 : delP P k = setP P a 2 [L ++ P.getD (a + 1) []] := by
            have h := HD.out
            rw [if_pos ⟨by have := hz.out; omega, by rw [← Hn.out, ← HnQ.out]; exact h4⟩] at h
            exact h
          have h4i : (n : Int) + (nQ : Int) ≤ 4 := by omega
          have HD2 := Lib.hid hD2
          clear hnb hD2 HD HRone HPg
          have hlQ : (prs (P.getD (a + 1) [])).length = nQ * 2 := by rw [prs_len, HnQ.out]
          have hw5s : w.heap.size ≤ w5.heap.size := F5.out.size
          have hone := prs_one (P.getD (a + 1) [])
          go_wp2_with (at_builtin; refine wpList_append_at (base := w.heap.size) rfl _ _ _ rfl 50 (.agg #[.int .i64 0, .int .i64 0]) 2 16 Try.underlying47 info_pair rfl (by omega) (.slice (some ⟨gB, 0, none⟩) n cb) n (prs L) rfl HO5.out hw5s w5.heap.size (some ⟨g1, 0, none⟩) nQ c1 (prs (P.getD (a + 1) [])) rfl hlQ HS1.out hone (by unfold maxLen; omega) (by omega) ?u1)
          case u1 =>
            intro A6 c6 w6 own6 f6
            have hd6 : Hd w6 p (.slice (some ⟨g5, 0, none⟩) z c5) (hs.set a (.slice (some ⟨gB, 0, none⟩) n cb)) := HD5.out.fr f6 (own_apart HO5.out HD5.out.self (by decide)) (fun x e e2 => own_types HO5.out HD5.out.row (by decide) e2 e)
            have F6 : Hid (Fr (fun x => x = p) w w6) := Lib.hid (F5.out.trans' f6 (fun x hx e => by have := (HO5.out.lt x e).1; omega))
            have qs3 := rSet_any p _ (hs.set a (.slice (some ⟨gB, 0, none⟩) n cb)) [.slice A6 (n + nQ) c6] a 2 1 1 (some ⟨w6.heap.size, 0, none⟩) _ (hd6.fr ((Fr.refl No w6).alloc (.cells #[.slice A6 (n + nQ) c6] 47)) (fun e => e) (fun _ _ e => e)) ((Sl.made w6 47 #[.slice A6 (n + nQ) c6]).more (by simp)) rfl (by rw [List.length_set]; omega) (by intro u hu; simp at hu; subst hu; rfl) (by omega) (by rw [List.length_set]; omega)
            rw [set_take _ _ _ _ (by omega), set_drop _ _ _ _ (by omega)] at qs3
            have HO6 := Lib.hid own6
            have hs6 := F6.out.size
            clear hd6 own6 f6 HO5 HD5 F5 HS1 hone hlQ p5 q5
            go_wp2_with fail
            refine qs3.mono ?_
            rintro e w7 ⟨rfl, v7, hd7, f7, hb7⟩
            have HR : Hid (∃ R', RS w7 R' p (delP P k) ∧ Fr (fun x => x = p) w w7 ∧ ∀ x, R' x → R x ∨ w.heap.size ≤ x) := Lib.hid (by
              rw [HD2.out]
              have F7 : Fr (fun x => x = p) w w7 := (F6.out.trans' ((Fr.refl No w6).alloc (.cells #[.slice A6 (n + nQ) c6] 47)) (fun _ _ e => e.elim)).trans' f7 (fun _ _ e => e)
              have o7 : w7.ownsRow w.heap.size 50 2 (.slice A6 (n + nQ) c6) (n + nQ) (prs L ++ prs (P.getD (a + 1) [])) := own_fr (HO6.out.alloc _) f7 (fun x e e2 => by have := (HO6.out.lt x e).1; omega)
              refine rs_one Hd0.out hll Hpg.out hR1 hR3 hR4 (by omega) F7 hd7 ?_ (fun x e => (o7.lt x e).1) (fun x e => by have := hb7 x e; simp at this; omega)
              unfold PgO
              rw [List.length_append, ← Hn.out, ← HnQ.out, prs_app]
              exact own_base o7 (Nat.zero_le _))
            clear qs3 hd7 f7 hb7 HO6 F6
            go_wp2
            go_ret
            exact ⟨rfl, HR.out⟩
        · have h4i : ¬ (n : Int) + (nQ : Int) ≤ 4 := by omega
          have hD2 : delP P k = (if 0 < a ∧ (P.getD (a - 1) []).length + L.length ≤ 4 then setP P (a - 1) 2 [P.getD (a - 1) [] ++ L] else setP P a 1 [L]) := by
            have h := HD.out
            rw [if_neg (fun e => h4 (by rw [Hn.out, HnQ.out]; exact e.2))] at h
            exact h
          clear HD HS1
          by_cases h0 : 0 < a
          · obtain ⟨b, rfl⟩ : ∃ b, a = b + 1 := ⟨a - 1, by omega⟩
            have hbl : b < hs.length := by omega
            obtain ⟨g2, nR, c2, HnR, hnR1, hnR8, r5, HS2⟩ := hnb b hbl (by omega)
            have HD3 : Hid (delP P k = if nR + n ≤ 4 then setP P b 2 [P.getD b [] ++ L] else setP P (b + 1) 1 [L]) := Lib.hid (by
              have h := hD2
              rw [Nat.add_sub_cancel, ← HnR.out, ← Hn.out] at h
              rw [h]
              by_cases h4 : nR + n ≤ 4
              · rw [if_pos ⟨by omega, h4⟩, if_pos h4]
              · rw [if_neg (fun e => h4 e.2), if_neg h4])
            by_cases h4 : nR + n ≤ 4
            · have h4i : (nR : Int) + (n : Int) ≤ 4 := by omega
              rw [if_pos h4] at HD3
              clear HPg hnb hD2 HRone
              have hlR : (prs (P.getD b [])).length = nR * 2 := by rw [prs_len, HnR.out]
              have hlL : (prs L).length = n * 2 := by rw [prs_len, Hn.out]
              have hoR := prs_one (P.getD b [])
              have hoL := prs_one L
              have fA : Fr No w5 (w5.alloc (.cells #[] 50)) := (Fr.refl No w5).alloc _
              have hg5 := (HD5.out.row.lt g5 rfl).2
              have p5a := (fA.cell (p := ⟨p, 0, none⟩) HD5.out.self.lt (fun e => e)).trans p5
              have r5a := (fA.cell (p := ⟨g5, b, none⟩) hg5 (fun e => e)).trans r5
              have o0 := own_made w5 50 2 0 #[] rfl (Nat.zero_le _)
              have hsR := HS2.out.fr fA (Nat.le_refl _) (fun _ _ _ e => e)
              have HsL := Lib.hid (Sl.ofOwn HO5.out)
              have FA := Lib.hid fA
              clear fA
              go_wp2_with (at_builtin; refine wpList_append_new (w0 := w5) rfl _ _ _ rfl 50 (.agg #[.int .i64 0, .int .i64 0]) 2 16 Try.underlying47 info_pair rfl (by omega) (.slice (some ⟨w5.heap.size, 0, none⟩) 0 0) 0 [] rfl o0 FA.out w5.heap.size (some ⟨g2, 0, none⟩) nR c2 (prs (P.getD b [])) rfl hlR hsR hoR (by unfold maxLen; omega) (by omega) ?u2)
              case u2 =>
                intro A6 c6 w6 own6 f6 g6
                have hsL := HsL.out.since f6
                clear p5a r5a o0 hsR p5 r5 g6 FA
                go_wp2_with (at_builtin; refine wpList_append_new (w0 := w5) rfl _ _ _ rfl 50 (.agg #[.int .i64 0, .int .i64 0]) 2 16 Try.underlying47 info_pair rfl (by omega) _ _ _ rfl own6 f6 w6.heap.size (some ⟨gB, 0, none⟩) n cb (prs L) rfl hlL hsL hoL (by unfold maxLen; omega) (by omega) ?u3)
                case u3 =>
                  intro A8 c8 w8 own8 f8 g8
                  try simp only [Nat.zero_add, List.nil_append] at own8
                  have qs3 := rSet_any p _ (hs.set (b + 1) (.slice (some ⟨gB, 0, none⟩) n cb)) [.slice A8 (nR + n) c8] b 2 1 1 (some ⟨w8.heap.size, 0, none⟩) _ (HD5.out.fr (f8.alloc (.cells #[.slice A8 (nR + n) c8] 47)) (fun e => e) (fun _ _ e => e)) ((Sl.made w8 47 #[.slice A8 (nR + n) c8]).more (by simp)) rfl (by rw [List.length_set]; omega) (by intro u hu; simp at hu; subst hu; rfl) (by omega) (by rw [List.length_set]; omega)
                  rw [set_take _ _ _ _ (by omega), set_drop _ _ _ _ (by omega)] at qs3
                  have HO8 := Lib.hid own8
                  have H8 := Lib.hid f8
                  have hs8 := f8.size
                  have hs5w := F5.out.size
                  clear own6 f6 own8 f8 g8 HO5 HD5 HS2 HsL hsL hoR hoL hlR hlL
                  go_wp2_with fail
                  refine qs3.mono ?_
                  rintro e w9 ⟨rfl, v9, hd9, f9, hb9⟩
                  have HR : Hid (∃ R', RS w9 R' p (delP P k) ∧ Fr (fun x => x = p) w w9 ∧ ∀ x, R' x → R x ∨ w.heap.size ≤ x) := Lib.hid (by
                    rw [HD3.out]
                    have F9 : Fr (fun x => x = p) w w9 := (F5.out.trans' (H8.out.alloc (.cells #[.slice A8 (nR + n) c8] 47)) (fun _ _ e => e.elim)).trans' f9 (fun _ _ e => e)
                    have o9 : w9.ownsRow w5.heap.size 50 2 (.slice A8 (nR + n) c8) (nR + n) (prs (P.getD b []) ++ prs L) := own_fr (HO8.out.alloc _) f9 (fun x e e2 => by have := (HO8.out.lt x e).1; omega)
                    refine rs_one Hd0.out hll Hpg.out hR1 hR3 hR4 (by omega) F9 hd9 ?_ (fun x e => by have := (o9.lt x e).1; omega) (fun x e => by have := hb9 x e; simp at this; omega)
                    unfold PgO
                    rw [List.length_append, ← Hn.out, ← HnR.out, prs_app]
                    exact own_base o9 (Nat.zero_le _))
                  clear qs3 hd9 f9 hb9 HO8 H8 F5
                  go_wp2
                  go_ret
                  exact ⟨rfl, HR.out⟩
            · have h4i : ¬ (nR : Int) + (n : Int) ≤ 4 := by omega
              rw [if_neg h4] at HD3
              have HR := Lib.hid (HRone.out HD3.out)
              clear HPg hnb HS2 hD2 HRone
              go_wp2
              go_ret
              exact ⟨rfl, HR.out⟩
          · have HR := Lib.hid (HRone.out (by rw [hD2, if_neg (fun e => h0 e.1)]))
            clear HPg hnb hD2 HRone
            go_wp2
            go_ret
            exact ⟨rfl, HR.out⟩
      · have hxi : ¬ (a : Int) + 1 < (z : Int) := by omega
        have hD2 : delP P k = (if 0 < a ∧ (P.getD (a - 1) []).length + L.length ≤ 4 then setP P (a - 1) 2 [P.getD (a - 1) [] ++ L] else setP P a 1 [L]) := by
          have h := HD.out
          rw [if_neg (fun e => hx (by have := e.1; have := hz.out; omega))] at h
          exact h
        clear HD
        by_cases h0 : 0 < a
        · obtain ⟨b, rfl⟩ : ∃ b, a = b + 1 := ⟨a - 1, by omega⟩
          have hbl : b < hs.length := by omega
          obtain ⟨g2, nR, c2, HnR, hnR1, hnR8, r5, HS2⟩ := hnb b hbl (by omega)
          have HD3 : Hid (delP P k = if nR + n ≤ 4 then setP P b 2 [P.getD b [] ++ L] else setP P (b + 1) 1 [L]) := Lib.hid (by
            have h := hD2
            rw [Nat.add_sub_cancel, ← HnR.out, ← Hn.out] at h
            rw [h]
            by_cases h4 : nR + n ≤ 4
            · rw [if_pos ⟨by omega, h4⟩, if_pos h4]
            · rw [if_neg (fun e => h4 e.2), if_neg h4])
          by_cases h4 : nR + n ≤ 4
          · have h4i : (nR : Int) + (n : Int) ≤ 4 := by omega
            rw [if_pos h4] at HD3
            clear HPg hnb hD2 HRone
            have hlR : (prs (P.getD b [])).length = nR * 2 := by rw [prs_len, HnR.out]
            have hlL : (prs L).length = n * 2 := by rw [prs_len, Hn.out]
            have hoR := prs_one (P.getD b [])
            have hoL := prs_one L
            have fA : Fr No w5 (w5.alloc (.cells #[] 50)) := (Fr.refl No w5).alloc _
            have hg5 := (HD5.out.row.lt g5 rfl).2
            have p5a := (fA.cell (p := ⟨p, 0, none⟩) HD5.out.self.lt (fun e => e)).trans p5
            have r5a := (fA.cell (p := ⟨g5, b, none⟩) hg5 (fun e => e)).trans r5
            have o0 := own_made w5 50 2 0 #[] rfl (Nat.zero_le _)
            have hsR := HS2.out.fr fA (Nat.le_refl _) (fun _ _ _ e => e)
            have HsL := Lib.hid (Sl.ofOwn HO5.out)
            have FA := Lib.hid fA
            clear fA
            go_wp2_with (at_builtin; refine wpList_append_new (w0 := w5) rfl _ _ _ rfl 50 (.agg #[.int .i64 0, .int .i64 0]) 2 16 Try.underlying47 info_pair rfl (by omega) (.slice (some ⟨w5.heap.size, 0, none⟩) 0 0) 0 [] rfl o0 FA.out w5.heap.size (some ⟨g2, 0, none⟩) nR c2 (prs (P.getD b [])) rfl hlR hsR hoR (by unfold maxLen; omega) (by omega) ?u2)
            case u2 =>
              intro A6 c6 w6 own6 f6 g6
              have hsL := HsL.out.since f6
              clear p5a r5a o0 hsR p5 r5 g6 FA
              go_wp2_with (at_builtin; refine wpList_append_new (w0 := w5) rfl _ _ _ rfl 50 (.agg #[.int .i64 0, .int .i64 0]) 2 16 Try.underlying47 info_pair rfl (by omega) _ _ _ rfl own6 f6 w6.heap.size (some ⟨gB, 0, none⟩) n cb (prs L) rfl hlL hsL hoL (by unfold maxLen; omega) (by omega) ?u3)
              case u3 =>
                intro A8 c8 w8 own8 f8 g8
                try simp only [Nat.zero_add, List.nil_append] at own8
                have qs3 := rSet_any p _ (hs.set (b + 1) (.slice (some ⟨gB, 0, none⟩) n cb)) [.slice A8 (nR + n) c8] b 2 1 1 (some ⟨w8.heap.size, 0, none⟩) _ (HD5.out.fr (f8.alloc (.cells #[.slice A8 (nR + n) c8] 47)) (fun e => e) (fun _ _ e => e)) ((Sl.made w8 47 #[.slice A8 (nR + n) c8]).more (by simp)) rfl (by rw [List.length_set]; omega) (by intro u hu; simp at hu; subst hu; rfl) (by omega) (by rw [List.length_set]; omega)
                rw [set_take _ _ _ _ (by omega), set_drop _ _ _ _ (by omega)] at qs3
                have HO8 := Lib.hid own8
                have H8 := Lib.hid f8
                have hs8 := f8.size
                have hs5w := F5.out.size
                clear own6 f6 own8 f8 g8 HO5 HD5 HS2 HsL hsL hoR hoL hlR hlL
                go_wp2_with fail
                refine qs3.mono ?_
                rintro e w9 ⟨rfl, v9, hd9, f9, hb9⟩
                have HR : Hid (∃ R', RS w9 R' p (delP P k) ∧ Fr (fun x => x = p) w w9 ∧ ∀ x, R' x → R x ∨ w.heap.size ≤ x) := Lib.hid (by
                  rw [HD3.out]
                  have F9 : Fr (fun x => x = p) w w9 := (F5.out.trans' (H8.out.alloc (.cells #[.slice A8 (nR + n) c8] 47)) (fun _ _ e => e.elim)).trans' f9 (fun _ _ e => e)
                  have o9 : w9.ownsRow w5.heap.size 50 2 (.slice A8 (nR + n) c8) (nR + n) (prs (P.getD b []) ++ prs L) := own_fr (HO8.out.alloc _) f9 (fun x e e2 => by have := (HO8.out.lt x e).1; omega)
                  refine rs_one Hd0.out hll Hpg.out hR1 hR3 hR4 (by omega) F9 hd9 ?_ (fun x e => by have := (o9.lt x e).1; omega) (fun x e => by have := hb9 x e; simp at this; omega)
                  unfold PgO
                  rw [List.length_append, ← Hn.out, ← HnR.out, prs_app]
                  exact own_base o9 (Nat.zero_le _))
                clear qs3 hd9 f9 hb9 HO8 H8 F5
                go_wp2
                go_ret
                exact ⟨rfl, HR.out⟩
          · have h4i : ¬ (nR : Int) + (n : Int) ≤ 4 := by omega
            rw [if_neg h4] at HD3
            have HR := Lib.hid (HRone.out HD3.out)
            clear HPg hnb HS2 hD2 HRone
            go_wp2
            go_ret
            exact ⟨rfl, HR.out⟩
        · have HR := Lib.hid (HRone.out (by rw [hD2, if_neg (fun e => h0 e.1)]))
          clear HPg hnb hD2 HRone
          go_wp2
          go_ret
          exact ⟨rfl, HR.out⟩
end Go.Proofs.Ytenmiociinogeaa
