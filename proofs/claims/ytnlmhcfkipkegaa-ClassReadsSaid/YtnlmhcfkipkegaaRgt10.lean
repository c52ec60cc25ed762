/- What the document's own reader reads as a flag. -/
import Derived.Test.YtnlmhcfkipkegaaRrd9
import Derived.Test.YtnlmhcfkipkegaaPrg10
namespace Go.Proofs.Ytnlmhcfkipkegaa
open Go.RowKit

set_option maxHeartbeats 2000000 in
theorem rd9_2 (u : Nat) (xs : List Nat) (A : Option Addr) (n c B : Nat) (w : World) (hBw : B ≤ w.heap.size) (hsl : Sl w B A (u64s (u :: xs))) (hn : xs.length + 1 = n) (hnc : n ≤ c) (hcm : c ≤ maxLen) :
    Calls Try.prog 45 #[.slice A n c, .int .i64 2, .int .i64 0] w (Rd9 w B (u :: xs) (cI 1 (u :: xs))) := by
  obtain ⟨ad, rfl, hadw0, hc0⟩ := hsl.wordB (k := 0) (by simp)
  have hadw : ad.block < w.heap.size := Nat.lt_of_lt_of_le hadw0 hBw
  have hc0 : w.cell? ad = some (.int .u64 u) := hc0
  have hs1 := sl_tail9 (c := c) hsl (by omega) (fun _ _ => rfl)
  obtain ⟨i0, hi0, hz0, hz1, hz2⟩ := info_parts info43
  have hrs := fun W => run_slice_from9 (P := Try.prog) 22 57 i0 Try.underlying22 hi0 hz1 (some ad) n c 1 1 rfl (by omega) W
  generalize (if c = 1 then some ad else (some ad).map (·.add 1)) = A1 at *
  have Hs1 := Lib.hid hs1
  have Hn := Lib.hid hn
  have Hcm := Lib.hid hcm
  have hn0 : 1 ≤ n := by omega
  have hnz : ((n : Int) == 0) = false := by rw [beq_eq_false_iff_ne]; omega
  clear hsl hn hs1 hi0 hz0 hz1 hz2 hcm hadw0
  by_cases hum : (u : Int) ≤ 1
  · have hd2 : decide (1 < (u : Int)) = false := by simp; omega
    have hcn : Hid (cI 1 (u :: xs) = some (((u : Int), 0), xs)) := Lib.hid (by simp only [cI, cntR]; rw [if_pos (by omega)]; rfl)
    go_enter Try.func45, Try.ntmps45
    go_wp2
    have hxl : xs.length = n - 1 := by have := Hn.out; omega
    refine bodyPost_ret (v := .tuple #[.agg #[.int .i64 2, .int .i64 u, .int .i64 0, .int .i64 0, .string ⟨#[]⟩, .slice none 0 0], .slice A1 (n - 1) (c - 1), .bool true]) (by simp [results, Try.results45, go_sem]) rfl ⟨by repeat (first | exact Fr.refl _ _ | refine Fr.alloc ?_ _ | refine Fr.setCell ?_ (.inr (by simp)) _), .inl ⟨2, u, 0, 0, xs, A1, c - 1, hcn.out, by rw [hxl]; rfl, Hs1.out, by omega, by have := Hcm.out; omega, by simp⟩⟩
  · have hd2 : decide (1 < (u : Int)) = true := by simp; omega
    have hcn : Hid (cI 1 (u :: xs) = none) := Lib.hid (by simp only [cI, cntR]; rw [if_neg (by omega)]; rfl)
    go_enter Try.func45, Try.ntmps45
    go_wp2
    refine bodyPost_ret (v := .tuple #[.agg #[.int .i64 2, .int .i64 0, .int .i64 0, .int .i64 0, .string ⟨#[]⟩, .slice none 0 0], .slice (some ad) n c, .bool false]) (by simp [results, Try.results45, go_sem]) rfl ⟨by repeat (first | exact Fr.refl _ _ | refine Fr.alloc ?_ _ | refine Fr.setCell ?_ (.inr (by simp)) _), .inr ⟨2, 0, 0, 0, _, hcn.out, rfl⟩⟩

theorem fS_cS (st : Option (List Nat)) : fS st = cS 1 st ∧ (((cV 1 st) == 1) = fV st) := by
  match st with
  | none => exact ⟨rfl, rfl⟩
  | some [] => exact ⟨rfl, rfl⟩
  | some (u :: r) =>
    by_cases h : u ≤ 1
    · have h1 : 0 ≤ (1 : Int) ∧ (u : Int) ≤ 1 := by omega
      have e1 : flagR (some (u :: r)) = some (u == 1, r) := by simp only [flagR]; rw [if_pos h]
      have e2 : cntR 1 (some (u :: r)) = some (u, r) := by simp only [cntR]; rw [if_pos h1]
      refine ⟨by rw [fS, cS, e1, e2]; rfl, ?_⟩
      rw [fV, cV, e1, e2]
      simp only [Option.map_some, Option.getD_some]
      rw [Bool.eq_iff_iff, beq_iff_eq, beq_iff_eq]
      omega
    · have h1 : ¬ (0 ≤ (1 : Int) ∧ (u : Int) ≤ 1) := by omega
      have e1 : flagR (some (u :: r)) = none := by simp only [flagR]; rw [if_neg h]
      have e2 : cntR 1 (some (u :: r)) = none := by simp only [cntR]; rw [if_neg h1]
      refine ⟨by rw [fS, cS, e1, e2]; rfl, ?_⟩
      rw [fV, cV, e1, e2]
      rfl
/-- A flag, as the document's reader reads it: a number that is 1, or isn't. -/
theorem itemF_any (q B : Nat) (st : Option (List Nat)) (w : World) (hr : RR w B q st) :
    Calls Try.prog 25 #[.pointer (some ⟨q, 0, none⟩), .int .i64 2, .int .i64 0] w fun e w' => ∃ k n m x : Int, e = .returned (itV k n m x) ∧ (n == 1) = fV st ∧ RR w' B q (fS st) ∧ Fr (Only q) w w' := by
  have h : Calls Try.prog 25 #[.pointer (some ⟨q, 0, none⟩), .int .i64 2, .int .i64 0] w (Itm w B q (cO 1 st)) := by
    cases st with
    | none => exact item_none 2 0 q B w hr
    | some xs =>
      refine item_some 2 0 q B xs (cI 1 xs) w hr (fun A n c W hW hs h1 h2 h3 => ?_) (cI_64 hr.words)
      have hBW : B ≤ W.heap.size := by obtain ⟨_, _, _, k1, k2, _⟩ := hr; have := k1.lt; have := hW.size; omega
      match xs, h1, hs with
      | [], h1, _ =>
        obtain rfl : n = 0 := by simpa using h1.symm
        exact rd9_nil 2 0 A c B W
      | u :: r, h1, hs => exact rd9_2 u r A n c B W hBW hs (by simpa using h1) h2 h3
  refine h.mono fun e w' h => ?_
  obtain ⟨k, m', h1, h2, h3⟩ := h
  have e1 : (((cO 1 st).map (·.1)).getD (0, 0)).1 = cV 1 st := by
    cases st with
    | none => rfl
    | some xs =>
      simp only [cO, Option.bind_some, cI, cV]
      cases cntR 1 (some xs) <;> rfl
  have e2 : (cO 1 st).map (·.2) = cS 1 st := by
    cases st with
    | none => rfl
    | some xs =>
      simp only [cO, Option.bind_some, cI, cS]
      cases cntR 1 (some xs) <;> rfl
  rw [e1] at h1
  rw [e2, ← (fS_cS st).1] at h2
  exact ⟨k, _, m', _, h1, (fS_cS st).2, h2, h3⟩
end Go.Proofs.Ytnlmhcfkipkegaa
/- What the document's own reader reads as a footprint. -/
namespace Go.Proofs.Ytnlmhcfkipkegaa
open Go.RowKit

theorem info_fsp : (Try.prog.info? 97).map (fun i => (i.zero, i.size, i.bytes)) = some (some (.agg #[.int .i64 0, .int .i64 0, .int .i64 0, .int .i64 0, .bool false]), 5, 40) := by kernel_rfl
theorem fsp_one (f : Fsp) : ∀ u ∈ f.cells.toArray.toList, u.oneCell' = true := by
  intro u hu
  simp only [Fsp.cells, List.mem_cons, List.not_mem_nil, or_false] at hu
  rcases hu with rfl | rfl | rfl | rfl | rfl <;> rfl
/-- What a span of templates is, of its parts. -/
theorem fspR_parts {s s1 s2 s3 s4 s5 : Option (List Nat)} {a b c d : Int} (ha : a = gV s) (h1 : s1 = gS s) (hb : b = cV 999 s1) (h2 : s2 = cS 999 s1) (hc : c = gV s2) (h3 : s3 = gS s2) (hd : d = cV 999 s3) (h4 : s4 = cS 999 s3) (h5 : s5 = if far9 a ∨ far9 c then none else s4) :
    (fspR s).map (·.2) = fS s5 ∧ ∀ q, fspR s = some q → q.1 = ⟨a, b, c, d, fV s5⟩ := by
  by_cases fa : far9 a
  · have e1 : keyR s = none := by rw [keyR, ← ha, if_pos fa]
    have e2 : kS s = none := by rw [kS, e1]; rfl
    have e3 : fspR s = none := by rw [fspR, e2]; rfl
    have e4 : s5 = none := by rw [h5, if_pos (.inl fa)]
    rw [e3, e4]
    exact ⟨rfl, fun q h => by cases h⟩
  · have k1 : keyR s = (cntR 999 s1).map fun q => ((a, (q.1 : Int)), q.2) := by rw [keyR, ← ha, if_neg fa, ← h1]
    have e2 : kS s = s2 := by rw [kS, k1, h2, cS, Option.map_map]; rfl
    by_cases fc : far9 c
    · have e1 : keyR s2 = none := by rw [keyR, ← hc, if_pos fc]
      have e3 : fspR s = none := by rw [fspR, e2, kS, e1]; rfl
      have e4 : s5 = none := by rw [h5, if_pos (.inr fc)]
      rw [e3, e4]
      exact ⟨rfl, fun q h => by cases h⟩
    · have k2 : keyR s2 = (cntR 999 s3).map fun q => ((c, (q.1 : Int)), q.2) := by rw [keyR, ← hc, if_neg fc, ← h3]
      have e3 : kS s2 = s4 := by rw [kS, k2, h4, cS, Option.map_map]; rfl
      have e4 : s5 = s4 := by rw [h5, if_neg (fun h => h.elim fa fc)]
      have e5 : fspR s = (flagR s4).map fun q => (⟨(kV s).1, (kV s).2, (kV s2).1, (kV s2).2, q.1⟩, q.2) := by rw [fspR, e2, e3]
      refine ⟨by rw [e5, e4, Option.map_map]; rfl, fun q hq => ?_⟩
      rw [e5] at hq
      cases h7 : flagR s4 with
      | none => rw [h7] at hq; cases hq
      | some z =>
        rw [h7] at hq
        simp only [Option.map_some, Option.some.injEq] at hq
        have n4 : s4.isSome = true := by
          cases s4 with
          | none => cases h7
          | some _ => rfl
        have m4 : ∃ y, cntR 999 s3 = some y := by
          rw [h4, cS] at n4
          cases h8 : cntR 999 s3 with
          | none => rw [h8] at n4; cases n4
          | some y => exact ⟨y, rfl⟩
        obtain ⟨y4, h8⟩ := m4
        have n2 : s2.isSome = true := by
          cases h9 : s2 with
          | none =>
            rw [h3, h9] at h8
            cases h8
          | some _ => rfl
        have m2 : ∃ y, cntR 999 s1 = some y := by
          rw [h2, cS] at n2
          cases h9 : cntR 999 s1 with
          | none => rw [h9] at n2; cases n2
          | some y => exact ⟨y, rfl⟩
        obtain ⟨y2, h9⟩ := m2
        have v1 : kV s = (a, b) := by rw [kV, k1, h9, hb, cV, h9]; rfl
        have v2 : kV s2 = (c, d) := by rw [kV, k2, h8, hd, cV, h8]; rfl
        rw [← hq, v1, v2, e4, fV, h7]
        rfl

/-- A footprint that the document's reader read. -/
def GotFQ (w : World) (B q : Nat) (st : Option (List Nat)) (e : Ending) (w' : World) : Prop :=
  ∃ A c, e = .returned (.slice A (gotFL st).length c) ∧ Sl w' w'.heap.size A ((gotFL st).flatMap Fsp.cells) ∧ RR w' B q (gotFS st) ∧ Fr (Only q) w w'
/-- The same, as a row of the call's own. -/
def GotFQO (w : World) (B q : Nat) (st : Option (List Nat)) (e : Ending) (w' : World) : Prop :=
  ∃ A c, e = .returned (.slice A (gotFL st).length c) ∧ w'.ownsRow w.heap.size 97 5 (.slice A (gotFL st).length c) (gotFL st).length ((gotFL st).flatMap Fsp.cells) ∧ RR w' B q (gotFS st) ∧ Fr (Only q) w w'
/-- What stands while a span is being read. -/
structure Mid10 (w0 w : World) (B q : Nat) (A : Option Addr) (k c : Nat) (L : List Fsp) (s : Option (List Nat)) : Prop where
  own : w.ownsRow w0.heap.size 97 5 (.slice A k c) k (L.flatMap Fsp.cells)
  rr : RR w B q s
  fr : Fr (Only q) w0 w
theorem Mid10.call {w0 w w' : World} {B q : Nat} {A : Option Addr} {k c : Nat} {L : List Fsp} {s s' : Option (List Nat)} (h : Mid10 w0 w B q A k c L s) (hq : q < w0.heap.size) (hf : Fr (Only q) w w') (hr : RR w' B q s') : Mid10 w0 w' B q A k c L s' :=
  ⟨own_fr h.own hf (fun i hi e => by have e : i = q := e; have := (h.own.lt i hi).1; omega), hr, h.fr.trans' hf (fun _ _ e => e)⟩

set_option maxHeartbeats 4000000 in
theorem refGet10_own (q B : Nat) (st : Option (List Nat)) (w : World) (hr : RR w B q st) : Calls Try.prog 27 #[.pointer (some ⟨q, 0, none⟩)] w (GotFQO w B q st) := by
  have hql := hr.lt
  have hBq : B ≤ q := by obtain ⟨_, _, _, _, k2, _⟩ := hr; exact k2
  have Hr := Lib.hid hr
  have fl1 := field1
  have fl3 := field3
  clear hr
  go_enter Try.func27, Try.ntmps27
  go_wp2_with fail
  refine (itemN_any 4 q B st _ Hr.out (by omega)).mono ?_
  rintro e w1 ⟨j1, j2, j3, rfl, q1, f1⟩
  obtain ⟨s1, h1⟩ : ∃ s1, Hid (s1 = cS 4 st) := ⟨_, Lib.hid rfl⟩
  obtain ⟨n, hn⟩ : ∃ n, Hid (n = gotFN st) := ⟨_, Lib.hid rfl⟩
  have hcv : cV 4 st = (n : Int) := by rw [hn.out]; rfl
  have hn4 : n ≤ 4 := by rw [hn.out]; exact gotFN_le st
  rw [← h1.out] at q1
  rw [hcv]
  simp only [itV]
  have HS : Hid (gotFS st = stF n s1) := Lib.hid (by rw [gotFS, hn.out, h1.out])
  have HL : Hid (gotFL st = if (stF n s1).isSome = true then lsF n s1 else []) := Lib.hid (by rw [gotFL, gotFS, hn.out, h1.out])
  have Q1 := Lib.hid q1
  have F1 := Lib.hid f1
  clear q1 f1 hcv Hr
  go_wp2
  go_loopw [4, 5] (fun out i wr => ∃ (k : Nat) (A : Option Addr) (c : Nat) (L : List Fsp), k ≤ n ∧ i = .int .i64 k ∧ out = .slice A k c ∧ Hid (L.length = k ∧ Mid10 w wr B q A k c L (stF k s1) ∧ ((stF k s1).isSome = true → L = lsF k s1))) (fun _ i _ => n - (intOf i).toNat)
  case atStart => exact ⟨0, none, 0, [], Nat.zero_le _, rfl, rfl, Lib.hid ⟨rfl, ⟨World.ownsRow_nil _ _ _ _, Q1.out, F1.out⟩, fun _ => rfl⟩⟩
  case round =>
    obtain ⟨k, A, c, L, hk, rfl, rfl, hst⟩ := hrel
    by_cases hlt : k < n
    · obtain ⟨hl, hm0, hL⟩ := hst.out
      have Hl := Lib.hid hl
      have HLk := Lib.hid hL
      have M0 := Lib.hid hm0
      obtain ⟨s, hs⟩ : ∃ s, Hid (s = stF k s1) := ⟨_, Lib.hid rfl⟩
      rw [← hs.out] at M0
      clear hl hm0 hL hst
      go_wp2_with fail
      refine (itemS_any q B s _ M0.out.rr).mono ?_
      rintro e w2 ⟨j1, j2, j3, rfl, r1, f1⟩
      obtain ⟨t1, ht1⟩ : ∃ z, Hid (z = gS s) := ⟨_, Lib.hid rfl⟩
      obtain ⟨va, gva⟩ : ∃ z, Hid (z = gV s) := ⟨_, Lib.hid rfl⟩
      rw [← ht1.out] at r1
      rw [← gva.out]
      simp only [itV]
      have M1 := Lib.hid (M0.out.call hql f1 r1)
      clear r1 f1
      go_wp2_with fail
      refine (itemN_any 999 q B t1 _ M1.out.rr (by omega)).mono ?_
      rintro e w3 ⟨j1, j2, j3, rfl, r1, f1⟩
      obtain ⟨t2, ht2⟩ : ∃ z, Hid (z = cS 999 t1) := ⟨_, Lib.hid rfl⟩
      obtain ⟨vb, gvb⟩ : ∃ z, Hid (z = cV 999 t1) := ⟨_, Lib.hid rfl⟩
      rw [← ht2.out] at r1
      rw [← gvb.out]
      simp only [itV]
      have M2 := Lib.hid (M1.out.call hql f1 r1)
      clear r1 f1
      go_wp2_with fail
      refine (itemS_any q B t2 _ M2.out.rr).mono ?_
      rintro e w4 ⟨j1, j2, j3, rfl, r1, f1⟩
      obtain ⟨t3, ht3⟩ : ∃ z, Hid (z = gS t2) := ⟨_, Lib.hid rfl⟩
      obtain ⟨vc, gvc⟩ : ∃ z, Hid (z = gV t2) := ⟨_, Lib.hid rfl⟩
      rw [← ht3.out] at r1
      rw [← gvc.out]
      simp only [itV]
      have M3 := Lib.hid (M2.out.call hql f1 r1)
      clear r1 f1
      go_wp2_with fail
      refine (itemN_any 999 q B t3 _ M3.out.rr (by omega)).mono ?_
      rintro e w5 ⟨j1, j2, j3, rfl, r1, f1⟩
      obtain ⟨t4, ht4⟩ : ∃ z, Hid (z = cS 999 t3) := ⟨_, Lib.hid rfl⟩
      obtain ⟨vd, gvd⟩ : ∃ z, Hid (z = cV 999 t3) := ⟨_, Lib.hid rfl⟩
      rw [← ht4.out] at r1
      rw [← gvd.out]
      simp only [itV]
      have M4 := Lib.hid (M3.out.call hql f1 r1)
      clear r1 f1
      obtain ⟨t5, ht5⟩ : ∃ z, Hid (z = if far9 va ∨ far9 vc then none else t4) := ⟨_, Lib.hid rfl⟩
      by_cases hfar : far9 va ∨ far9 vc
      · have e5 : t5 = none := by rw [ht5.out, if_pos hfar]
        obtain ⟨A9, n9, c9, b9, b8, -⟩ := M4.out.rr
        have z1 := b9.frozen 1
        have c1 := b9.cell 1
        simp at c1
        have hb1 := b9.put 1 (.bool true)
        simp at hb1
        have hfq : Fr (Only q) w5 (w5.setCell ⟨q, 1, none⟩ (.bool true)) := (Fr.refl (Only q) w5).setCell (p := ⟨q, 1, none⟩) (.inl rfl) _
        have M5 : Hid (Mid10 w (w5.setCell ⟨q, 1, none⟩ (.bool true)) B q A k c L t5) := Lib.hid (M4.out.call hql hfq (by rw [e5]; exact ⟨A9, n9, c9, hb1, b8, fun ys e => by cases e⟩))
        clear b9 hb1 hfq e5
        have hways : va < -1 ∨ (¬ va < -1 ∧ 255 < va) ∨ (¬ va < -1 ∧ ¬ 255 < va ∧ vc < -1) ∨ (¬ va < -1 ∧ ¬ 255 < va ∧ ¬ vc < -1 ∧ 255 < vc) := by
          unfold far9 at hfar
          omega
        clear hfar
        rcases hways with h | ⟨h, h2⟩ | ⟨h, h2, h3⟩ | ⟨h, h2, h3, h4⟩
        · have d1 : decide (va < -1) = true := by simpa using h
          go_wp2_with fail
          refine (itemF_any q B t5 _ M5.out.rr).mono ?_
          rintro e w7 ⟨j1, nf, j2, j3, rfl, hnf, r1, f1⟩
          have M6 := Lib.hid (M5.out.call hql f1 r1)
          clear r1 f1
          obtain ⟨vf, hvf⟩ : ∃ z, Hid (z = fV t5) := ⟨_, Lib.hid rfl⟩
          rw [← hvf.out] at hnf
          simp only [itV]
          have hu1 := fsp_one ⟨va, vb, vc, vd, vf⟩
          have hsz := M6.out.fr.size
          go_wp2_with (at_builtin; (refine wpList_append_elem rfl _ _ _ rfl w.heap.size 97 _ 5 40 Try.underlying53 info_fsp rfl (by omega) (.slice A k c) k (L.flatMap Fsp.cells) #[.int .i64 va, .int .i64 vb, .int .i64 vc, .int .i64 vd, .bool vf] rfl hu1 rfl w7.heap.size (by simp) rfl M6.out.own (by unfold maxLen; omega) (by omega) hsz ?_; intro A3 c3 w9 hown3 hf3 hg3))
          obtain ⟨p1, p2⟩ := fspR_parts gva.out ht1.out gvb.out ht2.out gvc.out ht3.out gvd.out ht4.out ht5.out
          have F9 : Fr (Only q) w w9 := M6.out.fr.trans' hf3 (fun i hi e => by have := (M6.out.own.lt i e).1; omega)
          have R9 : RR w9 B q (stF (k + 1) s1) := by
            have e1 : stF (k + 1) s1 = fS t5 := by rw [stF, ← hs.out, p1]
            rw [e1]
            exact M6.out.rr.fr hf3 (fun e => by have := (M6.out.own.lt q e).1; omega) (fun i e => by have := (M6.out.own.lt i e).1; omega)
          have HN := Lib.hid (lsF_next HLk.out (fun y hy => by rw [← hs.out] at hy; exact p2 y hy))
          rw [← hvf.out] at HN
          go_roundw
          case rel =>
            refine ⟨k + 1, A3, c3, L ++ [⟨va, vb, vc, vd, vf⟩], by omega, by go_num, rfl, Lib.hid ⟨by simp [Hl.out], ⟨?_, R9, F9⟩, HN.out⟩⟩
            rw [List.flatMap_append]
            simpa [Fsp.cells] using hown3
          case measure => simp [intOf]; omega
        · have d1 : decide (va < -1) = false := by simpa using h
          have d2 : decide (255 < va) = true := by simpa using h2
          go_wp2_with fail
          refine (itemF_any q B t5 _ M5.out.rr).mono ?_
          rintro e w7 ⟨j1, nf, j2, j3, rfl, hnf, r1, f1⟩
          have M6 := Lib.hid (M5.out.call hql f1 r1)
          clear r1 f1
          obtain ⟨vf, hvf⟩ : ∃ z, Hid (z = fV t5) := ⟨_, Lib.hid rfl⟩
          rw [← hvf.out] at hnf
          simp only [itV]
          have hu1 := fsp_one ⟨va, vb, vc, vd, vf⟩
          have hsz := M6.out.fr.size
          go_wp2_with (at_builtin; (refine wpList_append_elem rfl _ _ _ rfl w.heap.size 97 _ 5 40 Try.underlying53 info_fsp rfl (by omega) (.slice A k c) k (L.flatMap Fsp.cells) #[.int .i64 va, .int .i64 vb, .int .i64 vc, .int .i64 vd, .bool vf] rfl hu1 rfl w7.heap.size (by simp) rfl M6.out.own (by unfold maxLen; omega) (by omega) hsz ?_; intro A3 c3 w9 hown3 hf3 hg3))
          obtain ⟨p1, p2⟩ := fspR_parts gva.out ht1.out gvb.out ht2.out gvc.out ht3.out gvd.out ht4.out ht5.out
          have F9 : Fr (Only q) w w9 := M6.out.fr.trans' hf3 (fun i hi e => by have := (M6.out.own.lt i e).1; omega)
          have R9 : RR w9 B q (stF (k + 1) s1) := by
            have e1 : stF (k + 1) s1 = fS t5 := by rw [stF, ← hs.out, p1]
            rw [e1]
            exact M6.out.rr.fr hf3 (fun e => by have := (M6.out.own.lt q e).1; omega) (fun i e => by have := (M6.out.own.lt i e).1; omega)
          have HN := Lib.hid (lsF_next HLk.out (fun y hy => by rw [← hs.out] at hy; exact p2 y hy))
          rw [← hvf.out] at HN
          go_roundw
          case rel =>
            refine ⟨k + 1, A3, c3, L ++ [⟨va, vb, vc, vd, vf⟩], by omega, by go_num, rfl, Lib.hid ⟨by simp [Hl.out], ⟨?_, R9, F9⟩, HN.out⟩⟩
            rw [List.flatMap_append]
            simpa [Fsp.cells] using hown3
          case measure => simp [intOf]; omega
        · have d1 : decide (va < -1) = false := by simpa using h
          have d2 : decide (255 < va) = false := by simpa using h2
          have d3 : decide (vc < -1) = true := by simpa using h3
          go_wp2_with fail
          refine (itemF_any q B t5 _ M5.out.rr).mono ?_
          rintro e w7 ⟨j1, nf, j2, j3, rfl, hnf, r1, f1⟩
          have M6 := Lib.hid (M5.out.call hql f1 r1)
          clear r1 f1
          obtain ⟨vf, hvf⟩ : ∃ z, Hid (z = fV t5) := ⟨_, Lib.hid rfl⟩
          rw [← hvf.out] at hnf
          simp only [itV]
          have hu1 := fsp_one ⟨va, vb, vc, vd, vf⟩
          have hsz := M6.out.fr.size
          go_wp2_with (at_builtin; (refine wpList_append_elem rfl _ _ _ rfl w.heap.size 97 _ 5 40 Try.underlying53 info_fsp rfl (by omega) (.slice A k c) k (L.flatMap Fsp.cells) #[.int .i64 va, .int .i64 vb, .int .i64 vc, .int .i64 vd, .bool vf] rfl hu1 rfl w7.heap.size (by simp) rfl M6.out.own (by unfold maxLen; omega) (by omega) hsz ?_; intro A3 c3 w9 hown3 hf3 hg3))
          obtain ⟨p1, p2⟩ := fspR_parts gva.out ht1.out gvb.out ht2.out gvc.out ht3.out gvd.out ht4.out ht5.out
          have F9 : Fr (Only q) w w9 := M6.out.fr.trans' hf3 (fun i hi e => by have := (M6.out.own.lt i e).1; omega)
          have R9 : RR w9 B q (stF (k + 1) s1) := by
            have e1 : stF (k + 1) s1 = fS t5 := by rw [stF, ← hs.out, p1]
            rw [e1]
            exact M6.out.rr.fr hf3 (fun e => by have := (M6.out.own.lt q e).1; omega) (fun i e => by have := (M6.out.own.lt i e).1; omega)
          have HN := Lib.hid (lsF_next HLk.out (fun y hy => by rw [← hs.out] at hy; exact p2 y hy))
          rw [← hvf.out] at HN
          go_roundw
          case rel =>
            refine ⟨k + 1, A3, c3, L ++ [⟨va, vb, vc, vd, vf⟩], by omega, by go_num, rfl, Lib.hid ⟨by simp [Hl.out], ⟨?_, R9, F9⟩, HN.out⟩⟩
            rw [List.flatMap_append]
            simpa [Fsp.cells] using hown3
          case measure => simp [intOf]; omega
        · have d1 : decide (va < -1) = false := by simpa using h
          have d2 : decide (255 < va) = false := by simpa using h2
          have d3 : decide (vc < -1) = false := by simpa using h3
          have d4 : decide (255 < vc) = true := by simpa using h4
          go_wp2_with fail
          refine (itemF_any q B t5 _ M5.out.rr).mono ?_
          rintro e w7 ⟨j1, nf, j2, j3, rfl, hnf, r1, f1⟩
          have M6 := Lib.hid (M5.out.call hql f1 r1)
          clear r1 f1
          obtain ⟨vf, hvf⟩ : ∃ z, Hid (z = fV t5) := ⟨_, Lib.hid rfl⟩
          rw [← hvf.out] at hnf
          simp only [itV]
          have hu1 := fsp_one ⟨va, vb, vc, vd, vf⟩
          have hsz := M6.out.fr.size
          go_wp2_with (at_builtin; (refine wpList_append_elem rfl _ _ _ rfl w.heap.size 97 _ 5 40 Try.underlying53 info_fsp rfl (by omega) (.slice A k c) k (L.flatMap Fsp.cells) #[.int .i64 va, .int .i64 vb, .int .i64 vc, .int .i64 vd, .bool vf] rfl hu1 rfl w7.heap.size (by simp) rfl M6.out.own (by unfold maxLen; omega) (by omega) hsz ?_; intro A3 c3 w9 hown3 hf3 hg3))
          obtain ⟨p1, p2⟩ := fspR_parts gva.out ht1.out gvb.out ht2.out gvc.out ht3.out gvd.out ht4.out ht5.out
          have F9 : Fr (Only q) w w9 := M6.out.fr.trans' hf3 (fun i hi e => by have := (M6.out.own.lt i e).1; omega)
          have R9 : RR w9 B q (stF (k + 1) s1) := by
            have e1 : stF (k + 1) s1 = fS t5 := by rw [stF, ← hs.out, p1]
            rw [e1]
            exact M6.out.rr.fr hf3 (fun e => by have := (M6.out.own.lt q e).1; omega) (fun i e => by have := (M6.out.own.lt i e).1; omega)
          have HN := Lib.hid (lsF_next HLk.out (fun y hy => by rw [← hs.out] at hy; exact p2 y hy))
          rw [← hvf.out] at HN
          go_roundw
          case rel =>
            refine ⟨k + 1, A3, c3, L ++ [⟨va, vb, vc, vd, vf⟩], by omega, by go_num, rfl, Lib.hid ⟨by simp [Hl.out], ⟨?_, R9, F9⟩, HN.out⟩⟩
            rw [List.flatMap_append]
            simpa [Fsp.cells] using hown3
          case measure => simp [intOf]; omega
      · have e5 : t5 = t4 := by rw [ht5.out, if_neg hfar]
        have M5 : Hid (Mid10 w w5 B q A k c L t5) := Lib.hid (by rw [e5]; exact M4.out)
        have hno : ¬ va < -1 ∧ ¬ 255 < va ∧ ¬ vc < -1 ∧ ¬ 255 < vc := by
          unfold far9 at hfar
          omega
        clear hfar e5
        have d1 : decide (va < -1) = false := by simpa using hno.1
        have d2 : decide (255 < va) = false := by simpa using hno.2.1
        have d3 : decide (vc < -1) = false := by simpa using hno.2.2.1
        have d4 : decide (255 < vc) = false := by simpa using hno.2.2.2
        go_wp2_with fail
        refine (itemF_any q B t5 _ M5.out.rr).mono ?_
        rintro e w7 ⟨j1, nf, j2, j3, rfl, hnf, r1, f1⟩
        have M6 := Lib.hid (M5.out.call hql f1 r1)
        clear r1 f1
        obtain ⟨vf, hvf⟩ : ∃ z, Hid (z = fV t5) := ⟨_, Lib.hid rfl⟩
        rw [← hvf.out] at hnf
        simp only [itV]
        have hu1 := fsp_one ⟨va, vb, vc, vd, vf⟩
        have hsz := M6.out.fr.size
        go_wp2_with (at_builtin; (refine wpList_append_elem rfl _ _ _ rfl w.heap.size 97 _ 5 40 Try.underlying53 info_fsp rfl (by omega) (.slice A k c) k (L.flatMap Fsp.cells) #[.int .i64 va, .int .i64 vb, .int .i64 vc, .int .i64 vd, .bool vf] rfl hu1 rfl w7.heap.size (by simp) rfl M6.out.own (by unfold maxLen; omega) (by omega) hsz ?_; intro A3 c3 w9 hown3 hf3 hg3))
        obtain ⟨p1, p2⟩ := fspR_parts gva.out ht1.out gvb.out ht2.out gvc.out ht3.out gvd.out ht4.out ht5.out
        have F9 : Fr (Only q) w w9 := M6.out.fr.trans' hf3 (fun i hi e => by have := (M6.out.own.lt i e).1; omega)
        have R9 : RR w9 B q (stF (k + 1) s1) := by
          have e1 : stF (k + 1) s1 = fS t5 := by rw [stF, ← hs.out, p1]
          rw [e1]
          exact M6.out.rr.fr hf3 (fun e => by have := (M6.out.own.lt q e).1; omega) (fun i e => by have := (M6.out.own.lt i e).1; omega)
        have HN := Lib.hid (lsF_next HLk.out (fun y hy => by rw [← hs.out] at hy; exact p2 y hy))
        rw [← hvf.out] at HN
        go_roundw
        case rel =>
          refine ⟨k + 1, A3, c3, L ++ [⟨va, vb, vc, vd, vf⟩], by omega, by go_num, rfl, Lib.hid ⟨by simp [Hl.out], ⟨?_, R9, F9⟩, HN.out⟩⟩
          rw [List.flatMap_append]
          simpa [Fsp.cells] using hown3
        case measure => simp [intOf]; omega
    · obtain rfl : k = n := by omega
      obtain ⟨hl, hm0, hL⟩ := hst.out
      have Hl := Lib.hid hl
      have HLk := Lib.hid hL
      have M0 := Lib.hid hm0
      obtain ⟨A9, n9, c9, b9, -, -⟩ := hm0.rr
      have d1 := b9.cell 1
      simp at d1
      clear hl hm0 hL hst b9
      cases hs : stF k s1 with
      | none =>
        rw [hs] at d1
        simp only [Option.isNone_none] at d1
        go_wp2
        go_ret
        have e1 : gotFL st = [] := by rw [HL.out, hs]; rfl
        refine ⟨none, 0, by rw [e1]; rfl, by rw [e1]; exact World.ownsRow_nil _ _ _ _, by rw [HS.out]; exact M0.out.rr, M0.out.fr⟩
      | some ys =>
        rw [hs] at d1
        simp only [Option.isNone_some] at d1
        go_wp2
        go_ret
        have e1 : gotFL st = L := by rw [HL.out, if_pos (by rw [hs]; rfl), HLk.out (by rw [hs]; rfl)]
        refine ⟨A, c, by rw [e1, Hl.out]; rfl, by rw [e1, Hl.out]; exact M0.out.own, by rw [HS.out]; exact M0.out.rr, M0.out.fr⟩
theorem refGet10_any (q B : Nat) (st : Option (List Nat)) (w : World) (hr : RR w B q st) : Calls Try.prog 27 #[.pointer (some ⟨q, 0, none⟩)] w (GotFQ w B q st) :=
  (refGet10_own q B st w hr).mono fun _ _ h => by
    obtain ⟨A, c, h1, h2, h3, h4⟩ := h
    exact ⟨A, c, h1, Sl.ofOwn h2, h3, h4⟩
end Go.Proofs.Ytnlmhcfkipkegaa
