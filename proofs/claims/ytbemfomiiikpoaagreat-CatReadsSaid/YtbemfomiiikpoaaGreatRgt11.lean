/- What the document reads as a class. -/
import Derived.Test.YtbemfomiiikpoaaGreatPrs11
import Derived.Test.YtbemfomiiikpoaaGreatRmy11
namespace Go.Proofs.YtbemfomiiikpoaaGreat
open Go.RowKit

/-- A class that was read. -/
def GotC (w : World) (B q : Nat) (st : Option (List Nat)) (e : Ending) (w' : World) : Prop :=
  ∃ c : Cls, e = .returned (.tuple #[c.agg, .bool (clR st).isSome]) ∧ c.p = ((clR st).map (·.1)).getD PC.zero ∧ c.Ok w' ∧ RR w' B q ((clR st).map (·.2)) ∧ Fr (Only q) w w'
/-- The same, told so that it bears what is turned elsewhere later. -/
def GotCO (w : World) (B q : Nat) (st : Option (List Nat)) (e : Ending) (w' : World) : Prop :=
  ∃ c : Cls, e = .returned (.tuple #[c.agg, .bool (clR st).isSome]) ∧ c.p = ((clR st).map (·.1)).getD PC.zero ∧ (∀ V, Fr (fun i => i < w.heap.size) w' V → c.Ok V) ∧ RR w' B q ((clR st).map (·.2)) ∧ Fr (Only q) w w'
theorem field4 (k n m x : Int) (s : ByteArray) (D : Option Addr) (d c : Nat) (W : World) : (Instr.field 77 (.agg #[.int .i64 k, .int .i64 n, .int .i64 m, .int .i64 x, .string s, .slice D d c]) 4).run Tryz.prog W = .ok (.string s) W := by kernel_rfl
theorem RR.var {w : World} {B q X : Nat} {st : Option (List Nat)} (h : RR w B q st) (hq : q < X) (hB : B ≤ X) (i : Nat) (u : Value) : RR (w.setCell ⟨X, i, none⟩ u) B q st :=
  h.fr ((Fr.refl (Only X) w).setCell (p := ⟨X, i, none⟩) (.inl rfl) u) (fun e => by have e : q = X := e; omega) (fun j e => by have e : j = X := e; omega)
theorem onlyX {w : World} {X : Nat} (i : Nat) (u : Value) : Fr (Only X) w (w.setCell ⟨X, i, none⟩ u) := (Fr.refl (Only X) w).setCell (p := ⟨X, i, none⟩) (.inl rfl) u

set_option maxRecDepth 100000 in
set_option maxHeartbeats 8000000 in
theorem refGet11_own (q B : Nat) (st : Option (List Nat)) (w : World) (hr : RR w B q st) (hl : ∀ xs, st = some xs → xs.length ≤ 1000000) : Calls Tryz.prog 33 #[.pointer (some ⟨q, 0, none⟩)] w (GotCO w B q st) := by
  have hql := hr.lt
  have hBq : B ≤ q := by obtain ⟨_, _, _, _, k2, _⟩ := hr; exact k2
  have fl1 := field1
  have fl4 := field4
  have hfa : Fr No w ((w.alloc (.cells #[.string ⟨#[]⟩, .int .i64 0, .slice none 0 0, .slice none 0 0, .bool false] 59)).alloc (.cells #[.string ⟨#[]⟩, .int .i64 0, .slice none 0 0, .slice none 0 0, .bool false] 59)) := ((Fr.refl _ _).alloc _).alloc _
  have bR0 : Bk ((w.alloc (.cells #[.string ⟨#[]⟩, .int .i64 0, .slice none 0 0, .slice none 0 0, .bool false] 59)).alloc (.cells #[.string ⟨#[]⟩, .int .i64 0, .slice none 0 0, .slice none 0 0, .bool false] 59)) w.heap.size 59 #[.string ⟨#[]⟩, .int .i64 0, .slice none 0 0, .slice none 0 0, .bool false] := (Bk.made w _ _).fr ((Fr.refl No _).alloc _) (fun e => e)
  have bX0 : Bk ((w.alloc (.cells #[.string ⟨#[]⟩, .int .i64 0, .slice none 0 0, .slice none 0 0, .bool false] 59)).alloc (.cells #[.string ⟨#[]⟩, .int .i64 0, .slice none 0 0, .slice none 0 0, .bool false] 59)) (w.heap.size + 1) 59 #[.string ⟨#[]⟩, .int .i64 0, .slice none 0 0, .slice none 0 0, .bool false] := by
    have h := Bk.made (w.alloc (.cells #[.string ⟨#[]⟩, .int .i64 0, .slice none 0 0, .slice none 0 0, .bool false] 59)) 59 #[.string ⟨#[]⟩, .int .i64 0, .slice none 0 0, .slice none 0 0, .bool false]
    simpa using h
  have C1 := Lib.hid (itemT_any 0 q B st _ (hr.fr hfa (fun e => e) (fun _ e => e.elim)) hl)
  have HF0 := Lib.hid (hfa.weak (S' := Only q) (fun _ _ h => h.elim))
  have HR0 := Lib.hid bR0
  have HX0 := Lib.hid bX0
  clear hr hl bR0 bX0 hfa
  go_enter Tryz.func33, Tryz.ntmps33
  go_wp2_with fail
  refine (C1.out).mono ?_
  rintro e w1 ⟨j1, j2, j3, j4, D, d, dc, rfl, r1, f1⟩
  obtain ⟨nm, hnm⟩ : ∃ nm, Hid (nm = txV st) := ⟨_, Lib.hid rfl⟩
  obtain ⟨s1, hs1⟩ : ∃ s1, Hid (s1 = txS st) := ⟨_, Lib.hid rfl⟩
  rw [← hnm.out]
  rw [← hs1.out] at r1
  have bX1 := HX0.out.fr f1 (fun e => by have e : w.heap.size + 1 = q := e; omega)
  have bR1 := HR0.out.fr f1 (fun e => by have e : w.heap.size = q := e; omega)
  have lX1 := bX1.lt
  have zX1 := bX1.frozen 0
  have kX1 := bX1.cell 0
  simp at kX1
  have HX2 : Hid (Bk (w1.setCell ⟨w.heap.size + 1, 0, none⟩ (.string nm)) (w.heap.size + 1) 59 #[.string nm, .int .i64 0, .slice none 0 0, .slice none 0 0, .bool false]) := Lib.hid (bX1.put 0 _)
  have HR2 := Lib.hid (bR1.fr (onlyX (X := w.heap.size + 1) 0 (.string nm)) (fun e => by have e : w.heap.size = w.heap.size + 1 := e; omega))
  have HF2 := Lib.hid ((HF0.out.trans' f1 (fun _ _ h => h)).setCell (p := ⟨w.heap.size + 1, 0, none⟩) (.inr (by simp)) (.string nm))
  have C2 := Lib.hid (itemN_any 3 q B s1 _ (r1.var (X := w.heap.size + 1) (by omega) (by omega) 0 (.string nm)) (by omega))
  clear bX1 bR1 r1 f1 C1
  go_wp2_with fail
  refine (C2.out).mono ?_
  rintro e w3 ⟨j5, j6, j7, rfl, r3, f3⟩
  obtain ⟨a, ha⟩ : ∃ a, Hid (a = cV 3 s1) := ⟨_, Lib.hid rfl⟩
  obtain ⟨s2, hs2⟩ : ∃ s2, Hid (s2 = cS 3 s1) := ⟨_, Lib.hid rfl⟩
  rw [← ha.out]
  rw [← hs2.out] at r3
  simp only [itV]
  have bX3 := HX2.out.fr f3 (fun e => by have e : w.heap.size + 1 = q := e; omega)
  have bR3 := HR2.out.fr f3 (fun e => by have e : w.heap.size = q := e; omega)
  have lX3 := bX3.lt
  have zX3 := bX3.frozen 1
  have kX3 := bX3.cell 1
  simp at kX3
  have HX4 : Hid (Bk (w3.setCell ⟨w.heap.size + 1, 1, none⟩ (.int .i64 a)) (w.heap.size + 1) 59 #[.string nm, .int .i64 a, .slice none 0 0, .slice none 0 0, .bool false]) := Lib.hid (bX3.put 1 _)
  have HR4 := Lib.hid (bR3.fr (onlyX (X := w.heap.size + 1) 1 (.int .i64 a)) (fun e => by have e : w.heap.size = w.heap.size + 1 := e; omega))
  have HF4 := Lib.hid ((HF2.out.trans' f3 (fun _ _ h => h)).setCell (p := ⟨w.heap.size + 1, 1, none⟩) (.inr (by simp)) (.int .i64 a))
  have C3 := Lib.hid (itemN_any 4 q B s2 _ (r3.var (X := w.heap.size + 1) (by omega) (by omega) 1 (.int .i64 a)) (by omega))
  clear bX3 bR3 r3 f3 C2 zX1 kX1 lX1
  go_wp2_with fail
  refine (C3.out).mono ?_
  rintro e w5 ⟨j8, j9, j10, rfl, r5, f5⟩
  obtain ⟨n, hn⟩ : ∃ n, Hid (n = gotFN s2) := ⟨_, Lib.hid rfl⟩
  obtain ⟨s3, hs3⟩ : ∃ s3, Hid (s3 = cS 4 s2) := ⟨_, Lib.hid rfl⟩
  have hcv : cV 4 s2 = (n : Int) := by rw [hn.out]; rfl
  have hn4 : n ≤ 4 := by rw [hn.out]; exact gotFN_le s2
  rw [hcv]
  rw [← hs3.out] at r5
  simp only [itV]
  have HG : Hid (G11 w w5 B q nm a none 0 none 0 [] [] 0 s3) := Lib.hid ⟨HR4.out.fr f5 (fun e => by have e : w.heap.size = q := e; omega), HX4.out.fr f5 (fun e => by have e : w.heap.size + 1 = q := e; omega), World.ownsRow_nil _ _ _ _, World.ownsRow_nil _ _ _ _, fun i h => by simp [Value.ownBlock] at h, fun s h => by simp at h, fun s h => by simp at h, r5, HF4.out.trans' f5 (fun _ _ h => h)⟩
  have HP : Hid (pcR st = ⟨nm, a, lsS n s3, lsU n s3, fV (stC n s3)⟩ ∧ clS st = stC n s3) := Lib.hid (by
    have e1 : clN st = n := by rw [hn.out, hs2.out, hs1.out]; rfl
    have e2 : cS 4 (cS 3 (txS st)) = s3 := by rw [hs3.out, hs2.out, hs1.out]
    refine ⟨?_, by rw [clS, e1, e2]⟩
    rw [pcR, clS, e1, e2, hnm.out, ha.out, hs1.out])
  clear r5 f5 C3 hcv zX3 kX3 lX3 HX0 HR0 HF0 HX2 HR2 HF2 HX4 HR4 HF4
  go_wp2
  go_loopw [6] (fun i wr => ∃ (k : Nat) (sA : Option Addr) (sc : Nat) (uA : Option Addr) (uc : Nat) (ss us : List Stp), k ≤ n ∧ i = .int .i64 k ∧ Hid (ss.map Stp.p = lsS k s3 ∧ us.map Stp.p = lsU k s3) ∧ Hid (G11 w wr B q nm a sA sc uA uc ss us k (stC k s3))) (fun i _ => n - (intOf i).toNat)
  case atStart => exact ⟨0, none, 0, none, 0, [], [], Nat.zero_le _, rfl, Lib.hid ⟨rfl, rfl⟩, HG.out⟩
  case round =>
    obtain ⟨k, sA, sc, uA, uc, ss, us, hk, rfl, hls, hg⟩ := hrel
    by_cases hlt : k < n
    · have hgr := hg.out.fr.size
      have hfz : Fr No wr ((wr.alloc (.cells #[.slice none 0 0, .slice none 0 0] 56)).alloc (.cells #[.slice none 0 0, .slice none 0 0] 56)) := ((Fr.refl _ _).alloc _).alloc _
      have H0 : Hid (R11 w ((wr.alloc (.cells #[.slice none 0 0, .slice none 0 0] 56)).alloc (.cells #[.slice none 0 0, .slice none 0 0] 56)) B q wr.heap.size (wr.heap.size + 1) nm a sA sc uA uc ss us k (stC k s3) ⟨none, [], 0, none, [], 0⟩ ⟨none, [], 0, none, [], 0⟩) := Lib.hid ⟨hg.out.quiet hfz, (Bk.made wr _ _).fr ((Fr.refl No _).alloc _) (fun e => e), by
          have h := Bk.made (wr.alloc (.cells #[.slice none 0 0, .slice none 0 0] 56)) 56 #[.slice none 0 0, .slice none 0 0]
          simpa using h, ⟨World.ownsRow_nil _ _ _ _, World.ownsRow_nil _ _ _ _⟩, ⟨World.ownsRow_nil _ _ _ _, World.ownsRow_nil _ _ _ _⟩, fun i hi => (hg.out.own1.lt i hi).2, fun i hi => (hg.out.own2.lt i hi).2, hg.out.cls.lt, Nat.lt_succ_self _⟩
      have hwb0 : w.heap.size ≤ ((wr.alloc (.cells #[.slice none 0 0, .slice none 0 0] 56)).alloc (.cells #[.slice none 0 0, .slice none 0 0] 56)).heap.size := by simp; omega
      have HW0 := Lib.hid hwb0
      clear hfz hwb0
      have D1 := Lib.hid (refGet_own q B (stC k s3) _ H0.out.g.rr)
      go_wp2_with fail
      refine (D1.out).mono ?_
      rintro e v1 ⟨A1, c1, rfl, o1, r1, f1⟩
      obtain ⟨t1, ht1⟩ : ∃ z, Hid (z = gotL (stC k s3)) := ⟨_, Lib.hid rfl⟩
      obtain ⟨p1, hp1⟩ : ∃ z, Hid (z = gotS (stC k s3)) := ⟨_, Lib.hid rfl⟩
      rw [← ht1.out] at o1 ⊢
      rw [← hp1.out] at r1
      have K1 := H0.out.call hql f1 r1
      have lS1 := K1.sb.lt
      have zS1 := K1.sb.frozen 0
      have kS1 := K1.sb.cell 0
      simp at kS1
      have H1 := Lib.hid (K1.s0 hql hBq HW0.out o1)
      have HW1 : Hid (w.heap.size ≤ (v1.setCell ⟨wr.heap.size, 0, none⟩ (.slice A1 t1.length c1)).heap.size) := Lib.hid (by have := H1.out.g.fr.size; exact this)
      clear o1 r1 f1 K1 D1
      have D2 := Lib.hid (refGet10_own q B p1 _ H1.out.g.rr)
      go_wp2_with fail
      refine (D2.out).mono ?_
      rintro e v2 ⟨A2, c2, rfl, o2, r2, f2⟩
      obtain ⟨t2, ht2⟩ : ∃ z, Hid (z = gotFL p1) := ⟨_, Lib.hid rfl⟩
      obtain ⟨p2, hp2⟩ : ∃ z, Hid (z = gotFS p1) := ⟨_, Lib.hid rfl⟩
      rw [← ht2.out] at o2 ⊢
      rw [← hp2.out] at r2
      have K2 := H1.out.call hql f2 r2
      have lS2 := K2.sb.lt
      have zS2 := K2.sb.frozen 1
      have kS2 := K2.sb.cell 1
      simp at kS2
      have H2 := Lib.hid (K2.s1 hql hBq HW1.out o2)
      have HW2 : Hid (w.heap.size ≤ (v2.setCell ⟨wr.heap.size, 1, none⟩ (.slice A2 t2.length c2)).heap.size) := Lib.hid (by have := H2.out.g.fr.size; exact this)
      clear o2 r2 f2 K2 D2 lS1 zS1 kS1
      have D3 := Lib.hid (refGet_own q B p2 _ H2.out.g.rr)
      go_wp2_with fail
      refine (D3.out).mono ?_
      rintro e v3 ⟨A3, c3, rfl, o3, r3, f3⟩
      obtain ⟨t3, ht3⟩ : ∃ z, Hid (z = gotL p2) := ⟨_, Lib.hid rfl⟩
      obtain ⟨p3, hp3⟩ : ∃ z, Hid (z = gotS p2) := ⟨_, Lib.hid rfl⟩
      rw [← ht3.out] at o3 ⊢
      rw [← hp3.out] at r3
      have K3 := H2.out.call hql f3 r3
      have lS3 := K3.ub.lt
      have zS3 := K3.ub.frozen 0
      have kS3 := K3.ub.cell 0
      simp at kS3
      have H3 := Lib.hid (K3.u0 hql hBq HW2.out o3)
      have HW3 : Hid (w.heap.size ≤ (v3.setCell ⟨(wr.heap.size + 1), 0, none⟩ (.slice A3 t3.length c3)).heap.size) := Lib.hid (by have := H3.out.g.fr.size; exact this)
      clear o3 r3 f3 K3 D3 lS2 zS2 kS2
      have D4 := Lib.hid (refGet10_own q B p3 _ H3.out.g.rr)
      go_wp2_with fail
      refine (D4.out).mono ?_
      rintro e v4 ⟨A4, c4, rfl, o4, r4, f4⟩
      obtain ⟨t4, ht4⟩ : ∃ z, Hid (z = gotFL p3) := ⟨_, Lib.hid rfl⟩
      obtain ⟨p4, hp4⟩ : ∃ z, Hid (z = gotFS p3) := ⟨_, Lib.hid rfl⟩
      rw [← ht4.out] at o4 ⊢
      rw [← hp4.out] at r4
      have K4 := H3.out.call hql f4 r4
      have lS4 := K4.ub.lt
      have zS4 := K4.ub.frozen 1
      have kS4 := K4.ub.cell 1
      simp at kS4
      have H4 := Lib.hid (K4.u1 hql hBq HW3.out o4)
      have HW4 : Hid (w.heap.size ≤ (v4.setCell ⟨(wr.heap.size + 1), 1, none⟩ (.slice A4 t4.length c4)).heap.size) := Lib.hid (by have := H4.out.g.fr.size; exact this)
      clear o4 r4 f4 K4 D4 lS3 zS3 kS3
      have x2 := H4.out.g.cls.cell 2
      have y0 := H4.out.sb.cell 0
      have y1 := H4.out.sb.cell 1
      have lX := H4.out.g.cls.lt
      have lS := H4.out.sb.lt
      have lU := H4.out.ub.lt
      simp at x2 y0 y1
      have hu1 := stp_one ⟨A1, t1, c1, A2, t2, c2⟩
      have hu2 := stp_one ⟨A3, t3, c3, A4, t4, c4⟩
      go_wp2_with (first
        | (at_builtin
           refine wpList_append_elem rfl _ _ _ rfl w.heap.size 56 _ 2 48 Tryz.underlying57 info_stp rfl (by omega) (.slice sA k sc) k (ss.flatMap Stp.cells) #[.slice A1 t1.length c1, .slice A2 t2.length c2] rfl hu1 rfl v4.heap.size (by simp) rfl H4.out.g.own1 (by unfold maxLen; omega) (by omega) HW4.out ?_
           intro A5 c5 v5 o5 f5 g5
           have h5 := H4.out.app' hql hBq o5 f5 g5
           have H5 := Lib.hid h5.2
           obtain ⟨⟨l5, z5, k5⟩, -⟩ := h5
           obtain ⟨x3, y2, y3, lX5, lU5⟩ := H5.out.facts
           dsimp only at y2 y3
           clear o5 f5 g5)
        | (at_builtin
           refine wpList_append_elem rfl _ _ _ rfl w.heap.size 56 _ 2 48 Tryz.underlying57 info_stp rfl (by omega) (.slice uA k uc) k (us.flatMap Stp.cells) #[.slice A3 t3.length c3, .slice A4 t4.length c4] rfl hu2 rfl v5.heap.size (by simp) rfl H5.out.own2 (by unfold maxLen; omega) (by omega) (by have := H5.out.fr.size; exact this) ?_
           intro A6 c6 v6 o6 f6 g6
           have h6 := H5.out.app' hql hBq o6 f6 g6
           have H6 := Lib.hid h6.2
           obtain ⟨⟨l6, z6, k6⟩, -⟩ := h6
           clear o6 f6 g6))
      go_roundw
      case rel =>
        have e1 : stC (k + 1) s3 = p4 := by rw [stC, pS, pS, hp4.out, hp3.out, hp2.out, hp1.out]
        refine ⟨k + 1, A5, c5, A6, c6, ss ++ [⟨A1, t1, c1, A2, t2, c2⟩], us ++ [⟨A3, t3, c3, A4, t4, c4⟩], by omega, by go_num, Lib.hid ⟨?_, ?_⟩, ?_⟩
        · rw [List.map_append, hls.out.1, lsS]
          simp [Stp.p, pV, ht1.out, ht2.out, hp1.out]
        · rw [List.map_append, hls.out.2, lsU]
          simp [Stp.p, pV, pS, ht3.out, ht4.out, hp1.out, hp2.out, hp3.out]
        · rw [e1]
          exact H6
      case measure => simp [intOf]; omega
    · obtain rfl : k = n := by omega
      have CF := Lib.hid (itemF_any q B (stC k s3) wr hg.out.rr)
      have hsz := hg.out.fr.size
      go_wp2_with fail
      refine (CF.out).mono ?_
      rintro e w7 ⟨j11, nf, j12, j13, rfl, hnf, r7, f7⟩
      obtain ⟨fb, hfb⟩ : ∃ z, Hid (z = fV (stC k s3)) := ⟨_, Lib.hid rfl⟩
      obtain ⟨p7, hp7⟩ : ∃ z, Hid (z = fS (stC k s3)) := ⟨_, Lib.hid rfl⟩
      rw [← hfb.out] at hnf
      rw [← hp7.out] at r7
      simp only [itV]
      have G7 := Lib.hid (hg.out.call hql f7 r7)
      have lX7 := G7.out.cls.lt
      have z7 := G7.out.cls.frozen 4
      have k7 := G7.out.cls.cell 4
      simp at k7
      have hk1 : Hid (ss.length = k) := Lib.hid (by have := congrArg List.length hls.out.1; rw [List.length_map, lsS_len] at this; exact this)
      have hk2 : Hid (us.length = k) := Lib.hid (by have := congrArg List.length hls.out.2; rw [List.length_map, lsU_len] at this; exact this)
      have bX8 : Bk (w7.setCell ⟨w.heap.size + 1, 4, none⟩ (.bool fb)) (w.heap.size + 1) 59 #[.string nm, .int .i64 a, .slice sA k sc, .slice uA k uc, .bool fb] := G7.out.cls.put 4 _
      have bR8 := G7.out.res.fr (onlyX (X := w.heap.size + 1) 4 (.bool fb)) (fun e => by have e : w.heap.size = w.heap.size + 1 := e; omega)
      have r8 := G7.out.rr.var (X := w.heap.size + 1) (by omega) (by omega) 4 (.bool fb)
      have F8 := G7.out.fr.setCell (p := ⟨w.heap.size + 1, 4, none⟩) (.inr (by simp)) (.bool fb)
      have hcOk : Hid (Cls.Ok (w7.setCell ⟨w.heap.size + 1, 4, none⟩ (.bool fb)) ⟨nm, a, sA, ss, sc, uA, us, uc, fb⟩) := Lib.hid ⟨⟨Sl.ofOwn (own_fr G7.out.own1 (onlyX (X := w.heap.size + 1) 4 (.bool fb)) (fun i hi e => by have e : i = w.heap.size + 1 := e; subst e; exact own_apart G7.out.own1 G7.out.cls (by decide) hi)), fun s hs => ((G7.out.in1 s hs).varC (onlyX (X := w.heap.size + 1) 4 (.bool fb)) G7.out.cls).ok⟩, ⟨Sl.ofOwn (own_fr G7.out.own2 (onlyX (X := w.heap.size + 1) 4 (.bool fb)) (fun i hi e => by have e : i = w.heap.size + 1 := e; subst e; exact own_apart G7.out.own2 G7.out.cls (by decide) hi)), fun s hs => ((G7.out.in2 s hs).varC (onlyX (X := w.heap.size + 1) 4 (.bool fb)) G7.out.cls).ok⟩⟩
      have hcp : Hid (Cls.p ⟨nm, a, sA, ss, sc, uA, us, uc, fb⟩ = pcR st) := Lib.hid (by rw [HP.out.1, Cls.p, hls.out.1, hls.out.2, ← hfb.out])
      have hcl : Hid (clR st = if (pcR st).ok = true then p7.map fun r => (pcR st, r) else none) := Lib.hid (by rw [clR, HP.out.2, hp7.out])
      have hca : Hid (Cls.agg ⟨nm, a, sA, ss, sc, uA, us, uc, fb⟩ = .agg #[.string nm, .int .i64 a, .slice sA k sc, .slice uA k uc, .bool fb]) := Lib.hid (by simp only [Cls.agg, hk1.out, hk2.out])
      obtain ⟨A9, n9, c9, b9, -, h9⟩ := r8.reads
      have d1 := b9.cell 1
      have zq := b9.frozen 1
      have lq8 := b9.lt
      simp at d1
      have lX8 := bX8.lt
      have lR8 := bR8.lt
      have hne : ¬ w.heap.size = q := by omega
      have hne' : ¬ q = w.heap.size := by omega
      have hne2 : ¬ w.heap.size + 1 = q := by omega
      have hzero : Hid (Cls.p ⟨⟨#[]⟩, 0, none, [], 0, none, [], 0, false⟩ = PC.zero) := Lib.hid rfl
      have HOK : Hid (∀ W, Fr (fun i => i ≤ w.heap.size + 1) w7 W → Cls.Ok W ⟨nm, a, sA, ss, sc, uA, us, uc, fb⟩) := Lib.hid (fun W hf => by
        have ap : ∀ {e : TypeId} {size n : Nat} {v : Value} {xs : List Value}, w7.ownsRow w.heap.size e size v n xs → e ≠ 59 → ∀ i, v.ownBlock = some i → ¬ (i ≤ w.heap.size + 1) := by
          intro e size n v xs ho hne i hi hh
          have h0 := (ho.lt i hi).1
          have hh2 : i = w.heap.size ∨ i = w.heap.size + 1 := by omega
          rcases hh2 with rfl | rfl
          · exact own_apart ho G7.out.res hne hi
          · exact own_apart ho G7.out.cls hne hi
        exact ⟨⟨Sl.ofOwn (own_fr G7.out.own1 hf (ap G7.out.own1 (by decide))), fun s hs => ((G7.out.in1 s hs).fr hf (ap (G7.out.in1 s hs).code (by decide)) (ap (G7.out.in1 s hs).foot (by decide))).ok⟩, ⟨Sl.ofOwn (own_fr G7.out.own2 hf (ap G7.out.own2 (by decide))), fun s hs => ((G7.out.in2 s hs).fr hf (ap (G7.out.in2 s hs).code (by decide)) (ap (G7.out.in2 s hs).foot (by decide))).ok⟩⟩)
      have Hr8 := Lib.hid r8
      have HbX := Lib.hid bX8
      have HbR := Lib.hid bR8
      have Hb9 := Lib.hid b9
      have HF8 := Lib.hid F8
      have H9 := Lib.hid h9
      clear G7 CF r7 f7 h9 F8 hsz
      cases hp : p7 with
      | none =>
        have hno : Hid (clR st = none) := Lib.hid (by rw [hcl.out, hp]; simp)
        rw [hp] at d1
        simp only [Option.isNone_none] at d1
        have y0 := bR8.frozen 0
        have y1 := bR8.frozen 1
        have y2 := bR8.frozen 2
        have y3 := bR8.frozen 3
        have y4 := bR8.frozen 4
        have u0 := bR8.cell 0
        have u1 := bR8.cell 1
        have u2 := bR8.cell 2
        have u3 := bR8.cell 3
        have u4 := bR8.cell 4
        simp at u0 u1 u2 u3 u4
        have bq : Bk ((w7.setCell ⟨w.heap.size + 1, 4, none⟩ (.bool fb)).setCell ⟨q, 1, none⟩ (.bool true)) q 46 #[.slice A9 n9 c9, .bool true] := b9.put 1 _
        have bRq := bR8.fr (onlyX (X := q) 1 (.bool true)) hne
        have FQ := HF8.out.setCell (p := ⟨q, 1, none⟩) (.inl rfl) (.bool true)
        have bF := (((((bRq.put 0 (.string ⟨#[]⟩)).put 1 (.int .i64 0)).put 2 (.slice none 0 0)).put 3 (.slice none 0 0)).put 4 (.bool false))
        have m0 := bF.cell 0
        have m1 := bF.cell 1
        have m2 := bF.cell 2
        have m3 := bF.cell 3
        have m4 := bF.cell 4
        simp at m0 m1 m2 m3 m4
        have hFR : Fr (Only w.heap.size) ((w7.setCell ⟨w.heap.size + 1, 4, none⟩ (.bool fb)).setCell ⟨q, 1, none⟩ (.bool true)) (((((((w7.setCell ⟨w.heap.size + 1, 4, none⟩ (.bool fb)).setCell ⟨q, 1, none⟩ (.bool true)).setCell ⟨w.heap.size, 0, none⟩ (.string ⟨#[]⟩)).setCell ⟨w.heap.size, 1, none⟩ (.int .i64 0)).setCell ⟨w.heap.size, 2, none⟩ (.slice none 0 0)).setCell ⟨w.heap.size, 3, none⟩ (.slice none 0 0)).setCell ⟨w.heap.size, 4, none⟩ (.bool false)) := (((((Fr.refl (Only w.heap.size) ((w7.setCell ⟨w.heap.size + 1, 4, none⟩ (.bool fb)).setCell ⟨q, 1, none⟩ (.bool true))).setCell (p := ⟨w.heap.size, 0, none⟩) (.inl rfl) (.string ⟨#[]⟩)).setCell (p := ⟨w.heap.size, 1, none⟩) (.inl rfl) (.int .i64 0)).setCell (p := ⟨w.heap.size, 2, none⟩) (.inl rfl) (.slice none 0 0)).setCell (p := ⟨w.heap.size, 3, none⟩) (.inl rfl) (.slice none 0 0)).setCell (p := ⟨w.heap.size, 4, none⟩) (.inl rfl) (.bool false)
        have bqF := bq.fr hFR (fun e => by have e : q = w.heap.size := e; omega)
        have HE : Hid (GotCO w B q st (.returned (.tuple #[.agg #[.string ⟨#[]⟩, .int .i64 0, .slice none 0 0, .slice none 0 0, .bool false], .bool false])) (((((((w7.setCell ⟨w.heap.size + 1, 4, none⟩ (.bool fb)).setCell ⟨q, 1, none⟩ (.bool true)).setCell ⟨w.heap.size, 0, none⟩ (.string ⟨#[]⟩)).setCell ⟨w.heap.size, 1, none⟩ (.int .i64 0)).setCell ⟨w.heap.size, 2, none⟩ (.slice none 0 0)).setCell ⟨w.heap.size, 3, none⟩ (.slice none 0 0)).setCell ⟨w.heap.size, 4, none⟩ (.bool false))) := Lib.hid ⟨⟨⟨#[]⟩, 0, none, [], 0, none, [], 0, false⟩, by rw [hno.out]; rfl, by rw [hno.out, hzero.out]; rfl, fun V _ => ⟨⟨Sl.nil _ _ _, fun s h => by simp at h⟩, ⟨Sl.nil _ _ _, fun s h => by simp at h⟩⟩, by rw [hno.out]; exact ⟨A9, n9, c9, bqF, hBq, fun xs e => by cases e⟩, FQ.trans' hFR (fun i hi e => by have e : i = w.heap.size := e; omega)⟩
        clear bF hFR bqF
        go_wp2
        exact bodyPost_ret (v := .tuple #[.agg #[.string ⟨#[]⟩, .int .i64 0, .slice none 0 0, .slice none 0 0, .bool false], .bool false]) (by simp [results, Tryz.results33, go_sem, m0, m1, m2, m3, m4]) rfl HE.out
      | some r =>
        rw [hp] at d1
        simp only [Option.isNone_some] at d1
        have CM := Lib.hid (refMay11_any ⟨nm, a, sA, ss, sc, uA, us, uc, fb⟩ _ hcOk.out)
        rw [hca.out, hcp.out] at CM
        have q0 := bX8.cell 0
        have q1 := bX8.cell 1
        have q2 := bX8.cell 2
        have q3 := bX8.cell 3
        have q4 := bX8.cell 4
        simp at q0 q1 q2 q3 q4
        obtain ⟨ok, hok⟩ : ∃ z, Hid (z = (pcR st).ok) := ⟨_, Lib.hid rfl⟩
        rw [← hok.out] at CM
        cases ok
        case false =>
          have hno : Hid (clR st = none) := Lib.hid (by rw [hcl.out, if_neg (by rw [← hok.out]; simp)])
          go_wp2_with fail
          refine (CM.out).mono ?_
          rintro e w9 ⟨rfl, f9⟩
          have b9' := Hb9.out.fr f9 (fun e => e)
          have bR9 := HbR.out.fr f9 (fun e => e)
          have lq9 := b9'.lt
          have lR9 := bR9.lt
          have zq9 := b9'.frozen 1
          have kq9 := b9'.cell 1
          simp at kq9
          have y0' := bR9.frozen 0
          have y1' := bR9.frozen 1
          have y2' := bR9.frozen 2
          have y3' := bR9.frozen 3
          have y4' := bR9.frozen 4
          have u0' := bR9.cell 0
          have u1' := bR9.cell 1
          have u2' := bR9.cell 2
          have u3' := bR9.cell 3
          have u4' := bR9.cell 4
          simp at u0' u1' u2' u3' u4'
          have bq : Bk (w9.setCell ⟨q, 1, none⟩ (.bool true)) q 46 #[.slice A9 n9 c9, .bool true] := b9'.put 1 _
          have bRq := bR9.fr (onlyX (X := q) 1 (.bool true)) hne
          have FQ := (HF8.out.trans' f9 (fun _ _ e => e.elim)).setCell (p := ⟨q, 1, none⟩) (.inl rfl) (.bool true)
          have bF := (((((bRq.put 0 (.string ⟨#[]⟩)).put 1 (.int .i64 0)).put 2 (.slice none 0 0)).put 3 (.slice none 0 0)).put 4 (.bool false))
          have m0 := bF.cell 0
          have m1 := bF.cell 1
          have m2 := bF.cell 2
          have m3 := bF.cell 3
          have m4 := bF.cell 4
          simp at m0 m1 m2 m3 m4
          have hFR : Fr (Only w.heap.size) (w9.setCell ⟨q, 1, none⟩ (.bool true)) ((((((w9.setCell ⟨q, 1, none⟩ (.bool true)).setCell ⟨w.heap.size, 0, none⟩ (.string ⟨#[]⟩)).setCell ⟨w.heap.size, 1, none⟩ (.int .i64 0)).setCell ⟨w.heap.size, 2, none⟩ (.slice none 0 0)).setCell ⟨w.heap.size, 3, none⟩ (.slice none 0 0)).setCell ⟨w.heap.size, 4, none⟩ (.bool false)) := (((((Fr.refl (Only w.heap.size) (w9.setCell ⟨q, 1, none⟩ (.bool true))).setCell (p := ⟨w.heap.size, 0, none⟩) (.inl rfl) (.string ⟨#[]⟩)).setCell (p := ⟨w.heap.size, 1, none⟩) (.inl rfl) (.int .i64 0)).setCell (p := ⟨w.heap.size, 2, none⟩) (.inl rfl) (.slice none 0 0)).setCell (p := ⟨w.heap.size, 3, none⟩) (.inl rfl) (.slice none 0 0)).setCell (p := ⟨w.heap.size, 4, none⟩) (.inl rfl) (.bool false)
          have bqF := bq.fr hFR (fun e => by have e : q = w.heap.size := e; omega)
          have HE : Hid (GotCO w B q st (.returned (.tuple #[.agg #[.string ⟨#[]⟩, .int .i64 0, .slice none 0 0, .slice none 0 0, .bool false], .bool false])) ((((((w9.setCell ⟨q, 1, none⟩ (.bool true)).setCell ⟨w.heap.size, 0, none⟩ (.string ⟨#[]⟩)).setCell ⟨w.heap.size, 1, none⟩ (.int .i64 0)).setCell ⟨w.heap.size, 2, none⟩ (.slice none 0 0)).setCell ⟨w.heap.size, 3, none⟩ (.slice none 0 0)).setCell ⟨w.heap.size, 4, none⟩ (.bool false))) := Lib.hid ⟨⟨⟨#[]⟩, 0, none, [], 0, none, [], 0, false⟩, by rw [hno.out]; rfl, by rw [hno.out, hzero.out]; rfl, fun V _ => ⟨⟨Sl.nil _ _ _, fun s h => by simp at h⟩, ⟨Sl.nil _ _ _, fun s h => by simp at h⟩⟩, by rw [hno.out]; exact ⟨A9, n9, c9, bqF, hBq, fun xs e => by cases e⟩, FQ.trans' hFR (fun i hi e => by have e : i = w.heap.size := e; omega)⟩
          clear bF hFR bqF
          go_wp2
          exact bodyPost_ret (v := .tuple #[.agg #[.string ⟨#[]⟩, .int .i64 0, .slice none 0 0, .slice none 0 0, .bool false], .bool false]) (by simp [results, Tryz.results33, go_sem, m0, m1, m2, m3, m4]) rfl HE.out
        case true =>
          have hyes : Hid (clR st = some (pcR st, r)) := Lib.hid (by rw [hcl.out, if_pos (by rw [← hok.out]), hp]; rfl)
          go_wp2_with fail
          refine (CM.out).mono ?_
          rintro e w9 ⟨rfl, f9⟩
          have bX9 := HbX.out.fr f9 (fun e => e)
          have bR9 := HbR.out.fr f9 (fun e => e)
          have lX9 := bX9.lt
          have lR9 := bR9.lt
          have y0' := bR9.frozen 0
          have y1' := bR9.frozen 1
          have y2' := bR9.frozen 2
          have y3' := bR9.frozen 3
          have y4' := bR9.frozen 4
          have u0' := bR9.cell 0
          have u1' := bR9.cell 1
          have u2' := bR9.cell 2
          have u3' := bR9.cell 3
          have u4' := bR9.cell 4
          simp at u0' u1' u2' u3' u4'
          have x0 := bX9.cell 0
          have x1 := bX9.cell 1
          have x2 := bX9.cell 2
          have x3 := bX9.cell 3
          have x4 := bX9.cell 4
          simp at x0 x1 x2 x3 x4
          have bF := (((((bR9.put 0 (.string nm)).put 1 (.int .i64 a)).put 2 (.slice sA k sc)).put 3 (.slice uA k uc)).put 4 (.bool fb))
          have m0 := bF.cell 0
          have m1 := bF.cell 1
          have m2 := bF.cell 2
          have m3 := bF.cell 3
          have m4 := bF.cell 4
          simp at m0 m1 m2 m3 m4
          have hFR : Fr (Only w.heap.size) w9 (((((w9.setCell ⟨w.heap.size, 0, none⟩ (.string nm)).setCell ⟨w.heap.size, 1, none⟩ (.int .i64 a)).setCell ⟨w.heap.size, 2, none⟩ (.slice sA k sc)).setCell ⟨w.heap.size, 3, none⟩ (.slice uA k uc)).setCell ⟨w.heap.size, 4, none⟩ (.bool fb)) := (((((Fr.refl (Only w.heap.size) w9).setCell (p := ⟨w.heap.size, 0, none⟩) (.inl rfl) (.string nm)).setCell (p := ⟨w.heap.size, 1, none⟩) (.inl rfl) (.int .i64 a)).setCell (p := ⟨w.heap.size, 2, none⟩) (.inl rfl) (.slice sA k sc)).setCell (p := ⟨w.heap.size, 3, none⟩) (.inl rfl) (.slice uA k uc)).setCell (p := ⟨w.heap.size, 4, none⟩) (.inl rfl) (.bool fb)
          have hFA : Fr (fun i => i = w.heap.size ∨ i = w.heap.size + 1) w7 (((((w9.setCell ⟨w.heap.size, 0, none⟩ (.string nm)).setCell ⟨w.heap.size, 1, none⟩ (.int .i64 a)).setCell ⟨w.heap.size, 2, none⟩ (.slice sA k sc)).setCell ⟨w.heap.size, 3, none⟩ (.slice uA k uc)).setCell ⟨w.heap.size, 4, none⟩ (.bool fb)) := (((onlyX (X := w.heap.size + 1) 4 (.bool fb)).weak (S' := fun i => i = w.heap.size ∨ i = w.heap.size + 1) (fun i _ e => .inr e)).trans' f9 (fun _ _ e => e.elim)).trans' hFR (fun i _ e => .inl e)
          have hrr := (Hr8.out.fr f9 (fun e => e) (fun _ e => e.elim)).fr hFR (fun e => by have e : q = w.heap.size := e; omega) (fun i e => by have e : i = w.heap.size := e; omega)
          have HE : Hid (GotCO w B q st (.returned (.tuple #[.agg #[.string nm, .int .i64 a, .slice sA k sc, .slice uA k uc, .bool fb], .bool true])) (((((w9.setCell ⟨w.heap.size, 0, none⟩ (.string nm)).setCell ⟨w.heap.size, 1, none⟩ (.int .i64 a)).setCell ⟨w.heap.size, 2, none⟩ (.slice sA k sc)).setCell ⟨w.heap.size, 3, none⟩ (.slice uA k uc)).setCell ⟨w.heap.size, 4, none⟩ (.bool fb))) := Lib.hid ⟨⟨nm, a, sA, ss, sc, uA, us, uc, fb⟩, by rw [hyes.out, hca.out]; rfl, by rw [hyes.out, hcp.out]; rfl, fun V hV => HOK.out V ((hFA.weak (S' := fun i => i ≤ w.heap.size + 1) (fun i _ e => by rcases e with e | e <;> omega)).trans' (hV.weak (S' := fun i => i ≤ w.heap.size + 1) (fun i _ e => by have e : i < w.heap.size := e; omega)) (fun _ _ e => e)), by rw [hyes.out]; rw [hp] at hrr; exact hrr, (HF8.out.trans' f9 (fun _ _ e => e.elim)).trans' hFR (fun i hi e => by have e : i = w.heap.size := e; omega)⟩
          clear bF hFR hFA hrr
          go_wp2
          exact bodyPost_ret (v := .tuple #[.agg #[.string nm, .int .i64 a, .slice sA k sc, .slice uA k uc, .bool fb], .bool true]) (by simp [results, Tryz.results33, go_sem, m0, m1, m2, m3, m4]) rfl HE.out
theorem refGet11_any (q B : Nat) (st : Option (List Nat)) (w : World) (hr : RR w B q st) (hl : ∀ xs, st = some xs → xs.length ≤ 1000000) : Calls Tryz.prog 33 #[.pointer (some ⟨q, 0, none⟩)] w (GotC w B q st) :=
  (refGet11_own q B st w hr hl).mono fun _ _ ⟨c, h1, h2, h3, h4, h5⟩ => ⟨c, h1, h2, h3 _ (Fr.refl _ _), h4, h5⟩
end Go.Proofs.YtbemfomiiikpoaaGreat
