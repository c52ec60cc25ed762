/- Package class: getClass. -/
import Derived.Deep.CutRange
import Derived.Test.YtnlmhcfkipkegaaGst11
namespace Go.Proofs.Ytnlmhcfkipkegaa
open Go.RowKit

variable {G : Nat → Prop}
theorem onlyY {w : World} {X : Nat} (i : Nat) (u : Value) : Fr (Only X) w (w.setCell ⟨X, i, none⟩ u) := (Fr.refl (Only X) w).setCell (p := ⟨X, i, none⟩) (.inl rfl) u
theorem gotL_le (st : Option (List Nat)) : (gotL st).length ≤ 8 := by
  unfold gotL
  split
  · rw [lsN_len]
    exact gotN_le st
  · simp
theorem gotFL_le (st : Option (List Nat)) : (gotFL st).length ≤ 4 := by
  unfold gotFL
  split
  · rw [lsF_len]
    exact gotFN_le st
  · simp
/-- A step of few instructions and spans. -/
def FewP (s : List Ins × List Fsp) : Prop := s.1.length ≤ 8 ∧ s.2.length ≤ 4
theorem pV_few (st : Option (List Nat)) : FewP (pV st) := ⟨gotL_le st, gotFL_le _⟩
theorem lsS_few (k : Nat) (st : Option (List Nat)) : ∀ s ∈ lsS k st, FewP s := by
  induction k with
  | zero => intro s hs; cases hs
  | succ k ih =>
    intro s hs
    rw [lsS, List.mem_append, List.mem_singleton] at hs
    rcases hs with hs | rfl
    · exact ih s hs
    · exact pV_few _
theorem lsU_few (k : Nat) (st : Option (List Nat)) : ∀ s ∈ lsU k st, FewP s := by
  induction k with
  | zero => intro s hs; cases hs
  | succ k ih =>
    intro s hs
    rw [lsU, List.mem_append, List.mem_singleton] at hs
    rcases hs with hs | rfl
    · exact ih s hs
    · exact pV_few _
theorem clN_le (st : Option (List Nat)) : clN st ≤ 4 := gotFN_le _
theorem few_of_p {c : Cls} {st : Option (List Nat)} (h : c.p = pcR st) : c.Few ∧ c.steps.length ≤ 4 ∧ c.comps.length ≤ 4 := by
  have hs : c.steps.map Stp.p = lsS (clN st) (cS 4 (cS 3 (txS st))) := congrArg PC.steps h
  have hu : c.comps.map Stp.p = lsU (clN st) (cS 4 (cS 3 (txS st))) := congrArg PC.comps h
  have l1 := congrArg List.length hs
  have l2 := congrArg List.length hu
  rw [List.length_map, lsS_len] at l1
  rw [List.length_map, lsU_len] at l2
  have hn := clN_le st
  have f1 : ∀ s ∈ c.steps, FewP s.p := fun s hs' => lsS_few _ _ _ (by rw [← hs]; exact List.mem_map_of_mem hs')
  have f2 : ∀ s ∈ c.comps, FewP s.p := fun s hs' => lsU_few _ _ _ (by rw [← hu]; exact List.mem_map_of_mem hs')
  refine ⟨⟨by omega, by omega, fun s hs' => ?_, fun s hs' => ?_⟩, by omega, by omega⟩
  · have := f1 s hs'
    exact ⟨Nat.le_trans this.1 (by omega), Nat.le_trans this.2 (by omega)⟩
  · have := f2 s hs'
    exact ⟨Nat.le_trans this.1 (by omega), Nat.le_trans this.2 (by omega)⟩

/-- A class that was read, whether it may be or not. -/
def GotCl (G : Nat → Prop) (w : World) (p : Nat) (st : Option (List Nat)) (e : Ending) (w' : World) : Prop :=
  ∃ c : Cls, e = .returned c.agg ∧ c.p = pcR st ∧ (∀ V, Fr (fun i => i < w.heap.size) w' V → c.Ok V) ∧ Rdq G w' p (fS (clS st)) ∧ Fr (Only p) w w'

set_option maxRecDepth 100000 in
set_option maxHeartbeats 8000000 in
theorem getClass_any (p : Nat) (st : Option (List Nat)) (w : World) (hr : Rdq G w p st) (hG : ∀ k, G k → k < w.heap.size) : Calls Try.prog 22 #[.pointer (some ⟨p, 0, none⟩)] w (GotCl G w p st) := by
  have hpl := hr.lt
  have f0 : Fr No w (w.alloc (.cells #[.string ⟨#[]⟩, .int .i64 0, .slice none 0 0, .slice none 0 0, .bool false] 31)) := (Fr.refl _ _).alloc _
  have b0 := Bk.made w 31 #[.string ⟨#[]⟩, .int .i64 0, .slice none 0 0, .slice none 0 0, .bool false]
  have C1 := Lib.hid (text11 p st _ (hr.frG f0 (fun e => e) (fun _ _ e => e)))
  have F0 := Lib.hid (f0.weak (S' := Only p) (fun _ _ h => h.elim))
  have B0 := Lib.hid b0
  have HG := Lib.hid hG
  clear hr hG f0 b0
  go_enter Try.func22, Try.ntmps22
  go_wp2_with fail
  refine (C1.out).mono ?_
  rintro e w1 ⟨rfl, r1, f1⟩
  obtain ⟨nm, hnm⟩ : ∃ z, Hid (z = txV st) := ⟨_, Lib.hid rfl⟩
  obtain ⟨s1, hs1⟩ : ∃ z, Hid (z = txS st) := ⟨_, Lib.hid rfl⟩
  rw [← hnm.out]
  rw [← hs1.out] at r1
  have C2 := Lib.hid (count9 p 3 s1 w1 r1 (by omega))
  have B1 := Lib.hid (B0.out.fr f1 (fun e => by have e : w.heap.size = p := e; omega))
  have F1 := Lib.hid (F0.out.trans' f1 (fun _ _ h => h))
  clear r1 f1 C1
  go_wp2_with fail
  refine (C2.out).mono ?_
  rintro e w2 ⟨rfl, r2, f2⟩
  obtain ⟨a, ha⟩ : ∃ z, Hid (z = cV 3 s1) := ⟨_, Lib.hid rfl⟩
  obtain ⟨s2, hs2⟩ : ∃ z, Hid (z = cS 3 s1) := ⟨_, Lib.hid rfl⟩
  rw [← ha.out]
  rw [← hs2.out] at r2
  have f3 : Fr No w2 (w2.alloc (.cells #[.string nm, .int .i64 a, .slice none 0 0, .slice none 0 0, .bool false] 31)) := (Fr.refl _ _).alloc _
  have C3 := Lib.hid (count9 p 4 s2 _ (r2.frG f3 (fun e => e) (fun _ _ e => e)) (by omega))
  have B2 := Lib.hid ((B1.out.fr f2 (fun e => by have e : w.heap.size = p := e; omega)).fr f3 (fun e => e))
  have X2 := Lib.hid (Bk.made w2 31 #[.string nm, .int .i64 a, .slice none 0 0, .slice none 0 0, .bool false])
  have F2 := Lib.hid ((F1.out.trans' f2 (fun _ _ h => h)).trans' f3 (fun _ _ h => h.elim))
  have hC : w.heap.size < w2.heap.size := by have := (B1.out.fr f2 (fun e => by have e : w.heap.size = p := e; omega)).lt; exact this
  obtain ⟨C, hCe⟩ : ∃ C, Hid (C = w2.heap.size) := ⟨_, Lib.hid rfl⟩
  clear r2 f2 f3 C2
  go_wp2_with fail
  refine (C3.out).mono ?_
  rintro e w3 ⟨rfl, r3, f3⟩
  obtain ⟨n, hn⟩ : ∃ n, Hid (n = gotFN s2) := ⟨_, Lib.hid rfl⟩
  obtain ⟨s3, hs3⟩ : ∃ z, Hid (z = cS 4 s2) := ⟨_, Lib.hid rfl⟩
  have hcv : cV 4 s2 = (n : Int) := by rw [hn.out]; rfl
  have hn4 : n ≤ 4 := by rw [hn.out]; exact gotFN_le s2
  rw [hcv]
  rw [← hs3.out] at r3
  rw [← hCe.out] at hC ⊢
  have HK : Hid (K11 G w w3 C p nm a none 0 none 0 [] [] 0 0 s3) := Lib.hid ⟨B2.out.fr f3 (fun e => by have e : w.heap.size = p := e; omega), by rw [hCe.out]; exact X2.out.fr f3 (fun e => by have e : w2.heap.size = p := e; rw [hCe.out] at hC; omega), World.ownsRow_nil _ _ _ _, World.ownsRow_nil _ _ _ _, fun i h => by simp [Value.ownBlock] at h, fun s h => by simp at h, fun s h => by simp at h, r3, F2.out.trans' f3 (fun _ _ h => h), hC⟩
  have HP : Hid (pcR st = ⟨nm, a, lsS n s3, lsU n s3, fV (stC n s3)⟩ ∧ clS st = stC n s3) := Lib.hid (by
    have e1 : clN st = n := by rw [hn.out, hs2.out, hs1.out]; rfl
    have e2 : cS 4 (cS 3 (txS st)) = s3 := by rw [hs3.out, hs2.out, hs1.out]
    refine ⟨?_, by rw [clS, e1, e2]⟩
    rw [pcR, clS, e1, e2, hnm.out, ha.out, hs1.out])
  clear r3 f3 C3 hcv F2 X2 B2 F1 B1 F0 B0
  go_wp2
  go_loopw [11] (fun i wr => ∃ (k : Nat) (sA : Option Addr) (sc : Nat) (uA : Option Addr) (uc : Nat) (ss us : List Stp), k ≤ n ∧ i = .int .i64 k ∧ Hid (ss.map Stp.p = lsS k s3 ∧ us.map Stp.p = lsU k s3) ∧ Hid (K11 G w wr C p nm a sA sc uA uc ss us k k (stC k s3))) (fun i _ => n - (intOf i).toNat)
  case atStart => exact ⟨0, none, 0, none, 0, [], [], Nat.zero_le _, rfl, Lib.hid ⟨rfl, rfl⟩, HK⟩
  case round =>
    obtain ⟨k, sA, sc, uA, uc, ss, us, hk, rfl, hls, hK⟩ := hrel
    by_cases hlt : k < n
    · have hgr := hK.out.fr.size
      have hD := hK.out.quiet ((Fr.refl No wr).drew)
      have HD := Lib.hid hD
      have CS := Lib.hid (getStep_any p (stC k s3) _ hD.rr (fun i hi => by have := HG.out i hi; have := hD.fr.size; omega))
      have hCl := hK.out.cls.lt
      have x2 := hK.out.cls.cell 2
      simp at x2
      clear hD HK
      go_wp2_with fail
      go_cut [] from 12 to 27 (fun wx => ∃ (A : Option Addr) (c : Nat) (x : Stp), Hid (K11 G w wx C p nm a A c uA uc (ss ++ [x]) us (k + 1) k (pS (stC k s3))) ∧ Hid (x.p = pV (stC k s3)))
      case first =>
        go_region_law (first
          | (refine step_append_elem rfl _ _ 29 rfl w.heap.size 55 _ 2 48 Try.underlying29 info_stp rfl (by omega) (.slice sA k sc) k (ss.flatMap Stp.cells) #[.slice x.cA x.code.length x.cc, .slice x.fA x.foot.length x.fc] rfl (stp_one x) rfl w4.heap.size rfl rfl K1.out.own1 (by unfold maxLen; omega) (by omega) (by have := K1.out.fr.size; exact this) ?_
             intro A' c' w5 o5 f5 g5
             have h5 := K1.out.appS hpl HG.out hX.out o5 f5 g5
             have H5 := Lib.hid h5.2
             have y2 := h5.1.cell 2
             have y3 := h5.1.frozen 2
             have y4 := h5.1.lt
             simp at y2)
          | (go_simp
             go_at_call 41
             refine (CS.out).mono ?_
             rintro e w4 ⟨x, rfl, hx, hxo, r4, f4⟩
             have k1 := HD.out.call hpl f4 r4
             have K1 := Lib.hid k1
             have hX : Hid (x.Own w4 w.heap.size) := Lib.hid ⟨own_weak hxo.code (by have := HD.out.fr.size; exact this), own_weak hxo.foot (by have := HD.out.fr.size; exact this)⟩
             have c2 := k1.cls.cell 2
             have c3 := k1.cls.lt
             have c4 := (k1.cls.fr ((Fr.refl No w4).alloc (.cells #[.slice x.cA x.code.length x.cc, .slice x.fA x.foot.length x.fc] 55)) (fun e => e)).cell 2
             simp at c2 c4
             have Hx := Lib.hid hx
             unfold Stp.agg
             clear k1 hx hxo r4 f4))
        all_goals
          go_wp2
          go_meet
          exact ⟨A', c', x, H5, Hx⟩
      case rest =>
        obtain ⟨B, d, x, K2, Hx⟩ := hcut
        obtain ⟨t1, ht1⟩ : ∃ z, Hid (z = pS (stC k s3)) := ⟨_, Lib.hid rfl⟩
        rw [← ht1.out] at K2
        rename_i wb _
        have hgr2 := K2.out.fr.size
        have hD2 := K2.out.quiet ((Fr.refl No _).drew)
        have HD2 := Lib.hid hD2
        have CS2 := Lib.hid (getStep_any p t1 _ hD2.rr (fun i hi => by have := HG.out i hi; have := hD2.fr.size; omega))
        have hCl2 := K2.out.cls.lt
        have x3 := K2.out.cls.cell 3
        simp at x3
        clear hD2 hK HD CS x2 hCl
        go_wp2_with fail
        go_region_law (first
          | (refine step_append_elem rfl _ _ 29 rfl w.heap.size 55 _ 2 48 Try.underlying29 info_stp rfl (by omega) (.slice uA k uc) k (us.flatMap Stp.cells) #[.slice y.cA y.code.length y.cc, .slice y.fA y.foot.length y.fc] rfl (stp_one y) rfl w4.heap.size rfl rfl K1.out.own2 (by unfold maxLen; omega) (by omega) (by have := K1.out.fr.size; exact this) ?_
             intro A' c' w5 o5 f5 g5
             have h5 := K1.out.appU hpl HG.out hX.out o5 f5 g5
             have H5 := Lib.hid h5.2
             have y2 := h5.1.cell 3
             have y3 := h5.1.frozen 3
             have y4 := h5.1.lt
             simp at y2)
          | (go_simp
             go_at_call 41
             refine (CS2.out).mono ?_
             rintro e w4 ⟨y, rfl, hx, hxo, r4, f4⟩
             have k1 := HD2.out.call hpl f4 r4
             have K1 := Lib.hid k1
             have hX : Hid (y.Own w4 w.heap.size) := Lib.hid ⟨own_weak hxo.code (by have := HD2.out.fr.size; exact this), own_weak hxo.foot (by have := HD2.out.fr.size; exact this)⟩
             have c2 := k1.cls.cell 3
             have c3 := k1.cls.lt
             have c4 := (k1.cls.fr ((Fr.refl No w4).alloc (.cells #[.slice y.cA y.code.length y.cc, .slice y.fA y.foot.length y.fc] 55)) (fun e => e)).cell 3
             simp at c2 c4
             have Hy := Lib.hid hx
             unfold Stp.agg
             clear k1 hx hxo r4 f4))
        all_goals
          have Hlsn : Hid ((ss ++ [x]).map Stp.p = lsS (k + 1) s3 ∧ (us ++ [y]).map Stp.p = lsU (k + 1) s3) := Lib.hid (by
            rw [List.map_append, List.map_append, hls.out.1, hls.out.2, lsS, lsU]
            simp [Hx.out, Hy.out, ht1.out])
          have Hst : Hid (stC (k + 1) s3 = pS t1) := Lib.hid (by rw [stC, ht1.out])
          clear o5 f5 g5 h5 hls
          go_wp2
          go_roundw
          case rel => exact ⟨k + 1, B, d, A', c', ss ++ [x], us ++ [y], by omega, by go_num, Hlsn, by rw [Hst.out]; exact H5⟩
          case measure => simp [intOf]; omega
    · obtain rfl : k = n := by omega
      have CF := Lib.hid (flag10 p (stC k s3) wr hK.out.rr)
      go_wp2_with fail
      refine (CF.out).mono ?_
      rintro e w7 ⟨rfl, r7, f7⟩
      obtain ⟨fb, hfb⟩ : ∃ z, Hid (z = fV (stC k s3)) := ⟨_, Lib.hid rfl⟩
      obtain ⟨p7, hp7⟩ : ∃ z, Hid (z = fS (stC k s3)) := ⟨_, Lib.hid rfl⟩
      rw [← hfb.out]
      rw [← hp7.out] at r7
      have K7 := Lib.hid (hK.out.call hpl f7 r7)
      have lX7 := K7.out.cls.lt
      have z7 := K7.out.cls.frozen 4
      have k7 := K7.out.cls.cell 4
      have k0 := K7.out.cls.cell 0
      have k1 := K7.out.cls.cell 1
      have k2 := K7.out.cls.cell 2
      have k3 := K7.out.cls.cell 3
      have q0 := K7.out.res.cell 0
      have q1 := K7.out.res.cell 1
      have q2 := K7.out.res.cell 2
      have q3 := K7.out.res.cell 3
      have q4 := K7.out.res.cell 4
      have z0 := K7.out.res.frozen 0
      have z1 := K7.out.res.frozen 1
      have z2 := K7.out.res.frozen 2
      have z3 := K7.out.res.frozen 3
      have z4 := K7.out.res.frozen 4
      simp at k7 k0 k1 k2 k3 q0 q1 q2 q3 q4
      have hk1 : Hid (ss.length = k) := Lib.hid (by have := congrArg List.length hls.out.1; rw [List.length_map, lsS_len] at this; exact this)
      have hk2 : Hid (us.length = k) := Lib.hid (by have := congrArg List.length hls.out.2; rw [List.length_map, lsU_len] at this; exact this)
      have hcp : Hid (Cls.p ⟨nm, a, sA, ss, sc, uA, us, uc, fb⟩ = pcR st) := Lib.hid (by rw [HP.out.1, Cls.p, hls.out.1, hls.out.2, ← hfb.out])
      have hca : Hid (Cls.agg ⟨nm, a, sA, ss, sc, uA, us, uc, fb⟩ = .agg #[.string nm, .int .i64 a, .slice sA k sc, .slice uA k uc, .bool fb]) := Lib.hid (by simp only [Cls.agg, hk1.out, hk2.out])
      have hne : ¬ C = w.heap.size := by omega
      have hne2 : ¬ w.heap.size = C := by omega
      have hl7 : w.heap.size < w7.heap.size := K7.out.res.lt
      have HFin : Hid (∀ W, Fr (fun i => i = w.heap.size ∨ i = C) w7 W → GotCl G w p st (.returned (.agg #[.string nm, .int .i64 a, .slice sA k sc, .slice uA k uc, .bool fb])) W) := Lib.hid (fun W hf => by
        have ap : ∀ {e : TypeId} {size n : Nat} {v : Value} {xs : List Value}, w7.ownsRow w.heap.size e size v n xs → e ≠ 31 → ∀ i, v.ownBlock = some i → ¬ (i = w.heap.size ∨ i = C) := by
          intro e size n v xs ho ht i hi hh
          rcases hh with rfl | rfl
          · exact own_apart ho K7.out.res ht hi
          · exact own_apart ho K7.out.cls ht hi
        have e1 : fS (clS st) = p7 := by rw [HP.out.2, hp7.out]
        have o1 := own_fr K7.out.own1 hf (ap K7.out.own1 (by decide))
        have o2 := own_fr K7.out.own2 hf (ap K7.out.own2 (by decide))
        have o3 : ∀ s ∈ ss, s.Own W w.heap.size := fun s hs => (K7.out.in1 s hs).fr hf (ap (K7.out.in1 s hs).code (by decide)) (ap (K7.out.in1 s hs).foot (by decide))
        have o4 : ∀ s ∈ us, s.Own W w.heap.size := fun s hs => (K7.out.in2 s hs).fr hf (ap (K7.out.in2 s hs).code (by decide)) (ap (K7.out.in2 s hs).foot (by decide))
        refine ⟨⟨nm, a, sA, ss, sc, uA, us, uc, fb⟩, by rw [hca.out], hcp.out, fun V hV => ?_, ?_, K7.out.fr.trans' hf (fun i hi e => by rcases e with e | e <;> omega)⟩
        · have lo : ∀ {e : TypeId} {size n : Nat} {v : Value} {xs : List Value}, W.ownsRow w.heap.size e size v n xs → ∀ i, v.ownBlock = some i → ¬ i < w.heap.size := fun ho i hi h => by have := (ho.lt i hi).1; omega
          exact ⟨⟨Sl.ofOwn (own_fr o1 hV (lo o1)), fun s hs => ((o3 s hs).fr hV (lo (o3 s hs).code) (lo (o3 s hs).foot)).ok⟩, ⟨Sl.ofOwn (own_fr o2 hV (lo o2)), fun s hs => ((o4 s hs).fr hV (lo (o4 s hs).code) (lo (o4 s hs).foot)).ok⟩⟩
        rw [e1]
        exact K7.out.rr.frG hf (fun e => by rcases e with e | e <;> omega) (fun i hi e => by have := HG.out i hi; rcases e with e | e <;> omega))
      have hbX := ((((((K7.out.res.fr (onlyY (X := C) 4 (.bool fb)) (fun e => by have e : w.heap.size = C := e; omega)).put 0 (.string nm)).put 1 (.int .i64 a)).put 2 (.slice sA k sc)).put 3 (.slice uA k uc)).put 4 (.bool fb))
      simp at hbX
      have HbX := Lib.hid hbX
      have hfX : Fr (fun i => i = w.heap.size ∨ i = C) w7 ((((((w7.setCell ⟨C, 4, none⟩ (.bool fb)).setCell ⟨w.heap.size, 0, none⟩ (.string nm)).setCell ⟨w.heap.size, 1, none⟩ (.int .i64 a)).setCell ⟨w.heap.size, 2, none⟩ (.slice sA k sc)).setCell ⟨w.heap.size, 3, none⟩ (.slice uA k uc)).setCell ⟨w.heap.size, 4, none⟩ (.bool fb)) :=
        ((((((Fr.refl (fun i => i = w.heap.size ∨ i = C) w7).setCell (p := ⟨C, 4, none⟩) (.inl (.inr rfl)) _).setCell (p := ⟨w.heap.size, 0, none⟩) (.inl (.inl rfl)) _).setCell (p := ⟨w.heap.size, 1, none⟩) (.inl (.inl rfl)) _).setCell (p := ⟨w.heap.size, 2, none⟩) (.inl (.inl rfl)) _).setCell (p := ⟨w.heap.size, 3, none⟩) (.inl (.inl rfl)) _).setCell (p := ⟨w.heap.size, 4, none⟩) (.inl (.inl rfl)) _
      have HG9 := Lib.hid (HFin.out _ hfX)
      clear hls hK CF r7 f7 hk1 hk2 hcp hca hbX hfX HFin
      go_wp2
      have m0 := HbX.out.cell 0
      have m1 := HbX.out.cell 1
      have m2 := HbX.out.cell 2
      have m3 := HbX.out.cell 3
      have m4 := HbX.out.cell 4
      simp at m0 m1 m2 m3 m4
      exact bodyPost_ret (v := .agg #[.string nm, .int .i64 a, .slice sA k sc, .slice uA k uc, .bool fb]) (by simp [results, Try.results22, go_sem, m0, m1, m2, m3, m4]) rfl HG9.out
end Go.Proofs.Ytnlmhcfkipkegaa
