/- What package foot reads as a footprint. -/
import Derived.Test.YtnlmhcfkipkegaaGreatPut10
import Derived.Test.YtnlmhcfkipkegaaGreatGet9
import Derived.Test.YtnlmhcfkipkegaaGreatRgt10
namespace Go.Proofs.YtnlmhcfkipkegaaGreat
open Go.RowKit

section
variable {G : Nat → Prop}
set_option maxHeartbeats 1000000 in
theorem getKey10_any (p : Nat) (st : Option (List Nat)) (w : World) (hr : Rdq G w p st) (hG : ∀ k, G k → k < w.heap.size) : Calls Tryz.prog 82 #[.pointer (some ⟨p, 0, none⟩)] w (Got G w p (keyR st) kcell) := by
  have hf0 : Fr No w (w.alloc (.cells #[.int .i64 0, .int .i64 0] 43)) := (Fr.refl _ _).alloc _
  have hr0 := hr.fr hf0 (fun e => e) (fun _ e => e.elim)
  have hpl := hr.lt
  have C1 := Lib.hid (signed9 p st _ hr0)
  have Hk : Hid (keyR st = if far9 (gV st) then none else (cntR 999 (gS st)).map fun q => ((gV st, (q.1 : Int)), q.2)) := Lib.hid rfl
  clear hr hr0
  generalize gV st = a at *
  generalize gS st = s1 at *
  obtain ⟨s2, hs2⟩ : ∃ s2, Hid (s2 = if far9 a then none else s1) := ⟨_, Lib.hid rfl⟩
  have hend : Hid (∀ w2 w3 : World, Rdq G w2 p s2 → Fr (Only p) w w2 → w.heap.size < w2.heap.size → Bk w2 w.heap.size 43 #[.int .i64 0, .int .i64 0] → Rdq G w3 p (cS 999 s2) → Fr (Only p) w2 w3 →
      Got G w p (keyR st) kcell (.returned (.agg #[.int .i64 a, .int .i64 (cV 999 s2)])) ((w3.setCell ⟨w.heap.size, 0, none⟩ (.int .i64 a)).setCell ⟨w.heap.size, 1, none⟩ (.int .i64 (cV 999 s2)))) := Lib.hid (by
    intro w2 w3 r2 f2 hlt hb2 r3 f3
    have hfw : Fr (Only p) w w3 := f2.trans' f3 (fun _ _ h => h)
    have hg : Got G w p (keyR st) kcell (.returned (.agg #[.int .i64 a, .int .i64 (cV 999 s2)])) w3 := by
      by_cases h : far9 a
      · have e2 : s2 = none := by rw [hs2.out, if_pos h]
        refine ⟨(a, cV 999 s2), rfl, fun q hq => ?_, ?_, hfw⟩
        · rw [Hk.out, if_pos h] at hq
          cases hq
        · rw [Hk.out, if_pos h]
          rw [e2] at r3
          exact r3
      · have e2 : s2 = s1 := by rw [hs2.out, if_neg h]
        refine ⟨(a, cV 999 s2), rfl, fun q hq => ?_, ?_, hfw⟩
        · rw [Hk.out, if_neg h, ← e2] at hq
          cases h5 : cntR 999 s2 with
          | none => rw [h5] at hq; cases hq
          | some y =>
            rw [h5] at hq
            simp only [Option.map_some, Option.some.injEq] at hq
            rw [← hq, cV, h5]
            rfl
        · rw [Hk.out, if_neg h, ← e2, Option.map_map]
          exact r3
    have hf4 : Fr (Only w.heap.size) w3 ((w3.setCell ⟨w.heap.size, 0, none⟩ (.int .i64 a)).setCell ⟨w.heap.size, 1, none⟩ (.int .i64 (cV 999 s2))) := ((Fr.refl (Only w.heap.size) w3).setCell (p := ⟨w.heap.size, 0, none⟩) (.inl rfl) _).setCell (p := ⟨w.heap.size, 1, none⟩) (.inl rfl) _
    exact hg.set hf4 (Nat.le_refl _) hpl hG)
  by_cases hfar : far9 a
  · have Hs : Hid (s2 = none) := Lib.hid (by rw [hs2.out, if_pos hfar])
    have hcases : a < -1 ∨ (¬ a < -1 ∧ 255 < a) := by unfold far9 at hfar; omega
    have e1 : cS (-1) s1 = none := by rw [cS, cntR_neg]; rfl
    have e2 : cV (-1) s1 = 0 := by rw [cV, cntR_neg]; rfl
    have CC := Lib.hid (fun (W : World) (h : Rdq G W p s1) => (by
      have C := count9 p (-1) s1 W h (by omega)
      rw [e1, e2] at C
      exact C : Calls Tryz.prog 27 #[.pointer (some ⟨p, 0, none⟩), .int .i64 (-1)] W (Rdd G W p none (.int .i64 0))))
    clear hfar e1 e2
    rcases hcases with h1 | ⟨h1, h2⟩
    · have d1 : decide (a < -1) = true := by simpa using h1
      clear h1
      go_enter Tryz.func82, Tryz.ntmps82
      go_wp2_with fail
      refine (C1.out).mono ?_
      rintro e w1 ⟨rfl, hr1, hf1⟩
      have C2 := Lib.hid (CC.out w1 hr1)
      have HF1 := Lib.hid hf1
      clear hr1 hf1
      go_wp2_with fail
      refine (C2.out).mono ?_
      rintro e w2 ⟨rfl, hr2, hf2⟩
      have hf12 : Fr (Only p) w w2 := ((hf0.weak (fun _ _ h => h.elim)).trans' HF1.out (fun _ _ h => h)).trans' hf2 (fun _ _ h => h)
      have hlt2 : w.heap.size < w2.heap.size := by have h1 := HF1.out.size; have h2 := hf2.size; simp at h1; omega
      have hb2 : Bk w2 w.heap.size 43 #[.int .i64 0, .int .i64 0] := ((Bk.made w _ _).fr HF1.out (by simp [Only]; omega)).fr hf2 (by simp [Only]; omega)
      have hr2' : Rdq G w2 p s2 := by rw [Hs.out]; exact hr2
      have C3 := Lib.hid (count9 p 999 _ w2 hr2' (by omega))
      have He := Lib.hid (fun w3 => hend.out w2 w3 hr2' hf12 hlt2 hb2)
      have HB := Lib.hid hb2
      clear hr2 hr2' hf12 C2 C1 hf2
      go_wp2_with fail
      refine (C3.out).mono ?_
      rintro e w3 ⟨rfl, hr3, hf3⟩
      have HE := Lib.hid (He.out w3 hr3 hf3)
      have hb3 := HB.out.fr hf3 (by simp [Only]; omega)
      have hlt3 := hb3.lt
      have hz0 := hb3.frozen 0
      have hz1 := hb3.frozen 1
      have k0 := hb3.cell 0
      have k1 := hb3.cell 1
      simp at k0 k1
      generalize cV 999 s2 = b at *
      have hb4 := (hb3.put 0 (.int .i64 a)).put 1 (.int .i64 b)
      have m0 := hb4.cell 0
      have m1 := hb4.cell 1
      simp at m0 m1
      clear hr3 hf3 C3 hend He
      go_wp2
      exact bodyPost_ret (v := .agg #[.int .i64 a, .int .i64 b]) (by simp [results, Tryz.results82, go_sem, m0, m1]) rfl HE.out
    · have d1 : decide (a < -1) = false := by simpa using h1
      have d2 : decide (255 < a) = true := by simpa using h2
      clear h1 h2
      go_enter Tryz.func82, Tryz.ntmps82
      go_wp2_with fail
      refine (C1.out).mono ?_
      rintro e w1 ⟨rfl, hr1, hf1⟩
      have C2 := Lib.hid (CC.out w1 hr1)
      have HF1 := Lib.hid hf1
      clear hr1 hf1
      go_wp2_with fail
      refine (C2.out).mono ?_
      rintro e w2 ⟨rfl, hr2, hf2⟩
      have hf12 : Fr (Only p) w w2 := ((hf0.weak (fun _ _ h => h.elim)).trans' HF1.out (fun _ _ h => h)).trans' hf2 (fun _ _ h => h)
      have hlt2 : w.heap.size < w2.heap.size := by have h1 := HF1.out.size; have h2 := hf2.size; simp at h1; omega
      have hb2 : Bk w2 w.heap.size 43 #[.int .i64 0, .int .i64 0] := ((Bk.made w _ _).fr HF1.out (by simp [Only]; omega)).fr hf2 (by simp [Only]; omega)
      have hr2' : Rdq G w2 p s2 := by rw [Hs.out]; exact hr2
      have C3 := Lib.hid (count9 p 999 _ w2 hr2' (by omega))
      have He := Lib.hid (fun w3 => hend.out w2 w3 hr2' hf12 hlt2 hb2)
      have HB := Lib.hid hb2
      clear hr2 hr2' hf12 C2 C1 hf2
      go_wp2_with fail
      refine (C3.out).mono ?_
      rintro e w3 ⟨rfl, hr3, hf3⟩
      have HE := Lib.hid (He.out w3 hr3 hf3)
      have hb3 := HB.out.fr hf3 (by simp [Only]; omega)
      have hlt3 := hb3.lt
      have hz0 := hb3.frozen 0
      have hz1 := hb3.frozen 1
      have k0 := hb3.cell 0
      have k1 := hb3.cell 1
      simp at k0 k1
      generalize cV 999 s2 = b at *
      have hb4 := (hb3.put 0 (.int .i64 a)).put 1 (.int .i64 b)
      have m0 := hb4.cell 0
      have m1 := hb4.cell 1
      simp at m0 m1
      clear hr3 hf3 C3 hend He
      go_wp2
      exact bodyPost_ret (v := .agg #[.int .i64 a, .int .i64 b]) (by simp [results, Tryz.results82, go_sem, m0, m1]) rfl HE.out
  · have Hs : Hid (s2 = s1) := Lib.hid (by rw [hs2.out, if_neg hfar])
    have d1 : decide (a < -1) = false := by unfold far9 at hfar; simp; omega
    have d2 : decide (255 < a) = false := by unfold far9 at hfar; simp; omega
    clear hfar
    go_enter Tryz.func82, Tryz.ntmps82
    go_wp2_with fail
    refine (C1.out).mono ?_
    rintro e w1 ⟨rfl, hr1, hf1⟩
    have hf12 : Fr (Only p) w w1 := ((hf0.weak (fun _ _ h => h.elim)).trans' hf1 (fun _ _ h => h))
    have hlt2 : w.heap.size < w1.heap.size := by have h1 := hf1.size; simp at h1; omega
    have hb2 : Bk w1 w.heap.size 43 #[.int .i64 0, .int .i64 0] := ((Bk.made w _ _).fr hf1 (by simp [Only]; omega))
    have hr2' : Rdq G w1 p s2 := by rw [Hs.out]; exact hr1
    have C3 := Lib.hid (count9 p 999 _ w1 hr2' (by omega))
    have He := Lib.hid (fun w3 => hend.out w1 w3 hr2' hf12 hlt2 hb2)
    have HB := Lib.hid hb2
    clear hr1 hr2' hf12 C1 hf1
    go_wp2_with fail
    refine (C3.out).mono ?_
    rintro e w3 ⟨rfl, hr3, hf3⟩
    have HE := Lib.hid (He.out w3 hr3 hf3)
    have hb3 := HB.out.fr hf3 (by simp [Only]; omega)
    have hlt3 := hb3.lt
    have hz0 := hb3.frozen 0
    have hz1 := hb3.frozen 1
    have k0 := hb3.cell 0
    have k1 := hb3.cell 1
    simp at k0 k1
    generalize cV 999 s2 = b at *
    have hb4 := (hb3.put 0 (.int .i64 a)).put 1 (.int .i64 b)
    have m0 := hb4.cell 0
    have m1 := hb4.cell 1
    simp at m0 m1
    clear hr3 hf3 C3 hend He
    go_wp2
    exact bodyPost_ret (v := .agg #[.int .i64 a, .int .i64 b]) (by simp [results, Tryz.results82, go_sem, m0, m1]) rfl HE.out

theorem flagR_none : flagR none = none := rfl
/-- What a span of templates is, of its parts. -/
theorem fspR_of {s s1 s2 : Option (List Nat)} (h1 : s1 = kS s) (h2 : s2 = kS s1) {x y : Int × Int} (hx : ∀ q, keyR s = some q → q.1 = x) (hy : ∀ q, keyR s1 = some q → q.1 = y) :
    (fspR s).map (·.2) = fS s2 ∧ ∀ q, fspR s = some q → q.1 = ⟨x.1, x.2, y.1, y.2, fV s2⟩ := by
  have e : fspR s = (flagR s2).map fun q => (⟨(kV s).1, (kV s).2, (kV s1).1, (kV s1).2, q.1⟩, q.2) := by
    rw [h2, h1]
    rfl
  refine ⟨by rw [e, Option.map_map]; rfl, fun q hq => ?_⟩
  rw [e] at hq
  cases h5 : flagR s2 with
  | none => rw [h5] at hq; cases hq
  | some z =>
    rw [h5] at hq
    simp only [Option.map_some, Option.some.injEq] at hq
    have i2 : (kS s1).isSome = true := by
      rw [← h2]
      cases h6 : s2 with
      | none => rw [h6, flagR_none] at h5; cases h5
      | some _ => rfl
    obtain ⟨y1, e1, e2⟩ := kS_some i2
    have i1 : (kS s).isSome = true := by
      rw [← h1]
      cases h6 : s1 with
      | none => rw [h6, keyR_none] at e1; cases e1
      | some _ => rfl
    obtain ⟨y0, e3, e4⟩ := kS_some i1
    rw [← hq, e2, e4, hx _ e3, hy _ e1, fV, h5]
    rfl
/-- A footprint that was read. -/
def GotFP (G : Nat → Prop) (w : World) (p : Nat) (st : Option (List Nat)) (e : Ending) (w' : World) : Prop :=
  ∃ A c, e = .returned (.slice A (gotFL st).length c) ∧ Sl w' w'.heap.size A ((gotFL st).flatMap Fsp.cells) ∧ Rdq G w' p (gotFS st) ∧ Fr (Only p) w w'
/-- The same, as a row of the call's own. -/
def GotFPO (G : Nat → Prop) (w : World) (p : Nat) (st : Option (List Nat)) (e : Ending) (w' : World) : Prop :=
  ∃ A c, e = .returned (.slice A (gotFL st).length c) ∧ w'.ownsRow w.heap.size 79 5 (.slice A (gotFL st).length c) (gotFL st).length ((gotFL st).flatMap Fsp.cells) ∧ Rdq G w' p (gotFS st) ∧ Fr (Only p) w w'
set_option maxHeartbeats 2000000 in
theorem get10_own (p : Nat) (st : Option (List Nat)) (w : World) (hr : Rdq G w p st) (hG : ∀ k, G k → k < w.heap.size) : Calls Tryz.prog 68 #[.pointer (some ⟨p, 0, none⟩)] w (GotFPO G w p st) := by
  have hpl := hr.lt
  have Hr := Lib.hid hr
  clear hr
  go_enter Tryz.func68, Tryz.ntmps68
  go_wp2_with fail
  refine (count9 p 4 st _ Hr.out (by omega)).mono ?_
  rintro e w1 ⟨rfl, q1, f1⟩
  obtain ⟨s1, h1⟩ : ∃ s1, Hid (s1 = cS 4 st) := ⟨_, Lib.hid rfl⟩
  obtain ⟨n, hn⟩ : ∃ n, Hid (n = gotFN st) := ⟨_, Lib.hid rfl⟩
  have hcv : cV 4 st = (n : Int) := by rw [hn.out]; rfl
  have hn8 : n ≤ 4 := by rw [hn.out]; exact gotFN_le st
  rw [← h1.out] at q1
  rw [hcv]
  have HS : Hid (gotFS st = stF n s1) := Lib.hid (by rw [gotFS, hn.out, h1.out])
  have HL : Hid (gotFL st = if (stF n s1).isSome = true then lsF n s1 else []) := Lib.hid (by rw [gotFL, gotFS, hn.out, h1.out])
  have Q1 := Lib.hid q1
  have F1 := Lib.hid f1
  clear q1 f1 hcv Hr
  go_wp2
  go_loopw [3, 8] (fun out i wr => ∃ (k : Nat) (A : Option Addr) (c : Nat) (L : List Fsp), k ≤ n ∧ i = .int .i64 k ∧ out = .slice A k c ∧ Hid (L.length = k ∧ wr.ownsRow w.heap.size 79 5 (.slice A k c) k (L.flatMap Fsp.cells) ∧ Rdq G wr p (stF k s1) ∧ ((stF k s1).isSome = true → L = lsF k s1) ∧ Fr (Only p) w wr)) (fun _ i _ => n - (intOf i).toNat)
  case atStart => exact ⟨0, none, 0, [], Nat.zero_le _, rfl, rfl, Lib.hid ⟨rfl, World.ownsRow_nil _ _ _ _, Q1.out, fun _ => rfl, F1.out⟩⟩
  case round =>
    obtain ⟨k, A, c, L, hk, rfl, rfl, hst⟩ := hrel
    by_cases hlt : k < n
    · obtain ⟨hl, hown, hrd, hL, hfr⟩ := hst.out
      have Hown := Lib.hid hown
      have Hl := Lib.hid hl
      have HLk := Lib.hid hL
      have Hfr := Lib.hid hfr
      have hGr : ∀ i, G i → i < wr.heap.size := fun i hi => Nat.lt_of_lt_of_le (hG i hi) hfr.size
      have C1 := Lib.hid (getKey10_any p (stF k s1) wr hrd hGr)
      have hob : Hid (∀ i, (Value.slice A k c).ownBlock = some i → ¬ Only p i) := Lib.hid (fun i hi e => by have e : i = p := e; have := (hown.lt i hi).1; omega)
      clear hl hown hrd hL hfr
      go_wp2_with fail
      refine (C1.out).mono ?_
      rintro e w2 ⟨x, rfl, hx, q1, f1⟩
      obtain ⟨t1, ht1⟩ : ∃ t1, Hid (t1 = kS (stF k s1)) := ⟨_, Lib.hid rfl⟩
      have q1' : Rdq G w2 p t1 := by rw [ht1.out]; exact q1
      have C2 := Lib.hid (getKey10_any p t1 w2 q1' (fun i hi => Nat.lt_of_lt_of_le (hGr i hi) f1.size))
      have HX := Lib.hid hx
      have G1 := Lib.hid f1
      clear hx q1 q1' f1 C1
      obtain ⟨xa, xb⟩ := x
      simp only [kcell]
      go_wp2_with fail
      refine (C2.out).mono ?_
      rintro e w3 ⟨y, rfl, hy, q2, f2⟩
      obtain ⟨t2, ht2⟩ : ∃ t2, Hid (t2 = kS t1) := ⟨_, Lib.hid rfl⟩
      have q2' : Rdq G w3 p t2 := by rw [ht2.out]; exact q2
      have C3 := Lib.hid (flag10 p t2 w3 q2')
      have HY := Lib.hid hy
      have G2 : Hid (Fr (Only p) wr w3) := Lib.hid (G1.out.trans' f2 (fun _ _ h => h))
      clear hy q2 q2' f2 C2
      obtain ⟨ya, yb⟩ := y
      simp only [kcell]
      go_wp2_with fail
      refine (C3.out).mono ?_
      rintro e w4 ⟨rfl, q3, f3⟩
      obtain ⟨b, hb⟩ : ∃ b, Hid (b = fV t2) := ⟨_, Lib.hid rfl⟩
      rw [← hb.out]
      have f4 : Fr (Only p) wr w4 := G2.out.trans' f3 (fun _ _ h => h)
      have hown2 := own_fr Hown.out f4 hob.out
      obtain ⟨p1, p2⟩ := fspR_of ht1.out ht2.out HX.out HY.out
      have HN := Lib.hid (lsF_next HLk.out (x := ⟨xa, xb, ya, yb, b⟩) (fun q hq => by rw [hb.out]; exact p2 q hq))
      have Q2 : Hid (Rdq G w4 p (stF (k + 1) s1)) := Lib.hid (by rw [stF, p1]; exact q3)
      have F2 : Hid (Fr (Only p) w w4) := Lib.hid (Hfr.out.trans' f4 (fun _ _ h => h))
      clear q3 f3 f4 p1 p2 HX HY C3
      have hu1 := fsp_one ⟨xa, xb, ya, yb, b⟩
      go_wp2_with (at_builtin; (refine wpList_append_elem rfl _ _ _ rfl w.heap.size 79 _ 5 40 Tryz.underlying47 info_fsp rfl (by omega) (.slice A k c) k (L.flatMap Fsp.cells) #[.int .i64 xa, .int .i64 xb, .int .i64 ya, .int .i64 yb, .bool b] rfl hu1 rfl w4.heap.size rfl rfl hown2 (by unfold maxLen; omega) (by omega) (by have := F2.out.size; omega) ?_; intro A3 c3 w5 hown3 hf3 hg3))
      have hne3 := own_apart hown2 (show Bk w4 p 62 _ from Q2.out.reads.choose_spec.choose_spec.1) (by decide)
      have F3 : Fr (Only p) w w5 := F2.out.trans' hf3 (fun i hi e => by have := (hown2.lt i e).1; omega)
      have Q3 : Rdq G w5 p (stF (k + 1) s1) := Q2.out.frG hf3 hne3 (fun i hi e => by have h1 := hG i hi; have h2 := (hown2.lt i e).1; omega)
      go_roundw
      case rel =>
        refine ⟨k + 1, A3, c3, L ++ [⟨xa, xb, ya, yb, b⟩], by omega, by go_num, rfl, Lib.hid ⟨by simp [Hl.out], ?_, Q3, HN.out, F3⟩⟩
        rw [List.flatMap_append]
        simpa [Fsp.cells] using hown3
      case measure => simp [intOf]; omega
    · obtain rfl : k = n := by omega
      obtain ⟨hl, hown, hrd, hL, hfr⟩ := hst.out
      have Hown := Lib.hid hown
      have Hl := Lib.hid hl
      have HLk := Lib.hid hL
      have Hfr := Lib.hid hfr
      have Hrd := Lib.hid hrd
      have C := Lib.hid (qok_any p (stF k s1) wr hrd)
      clear hl hown hrd hL hfr hst
      cases hs : stF k s1 with
      | none =>
        rw [hs] at C
        go_wp2_with fail
        refine (C.out).mono ?_
        rintro e w2 ⟨rfl, rfl⟩
        go_wp2
        go_ret
        have e1 : gotFL st = [] := by rw [HL.out, hs]; rfl
        refine ⟨none, 0, by rw [e1]; rfl, by rw [e1]; exact World.ownsRow_nil _ _ _ _, by rw [HS.out]; exact Hrd.out, Hfr.out⟩
      | some ys =>
        rw [hs] at C
        go_wp2_with fail
        refine (C.out).mono ?_
        rintro e w2 ⟨rfl, rfl⟩
        go_wp2
        go_ret
        have e1 : gotFL st = L := by rw [HL.out, if_pos (by rw [hs]; rfl), HLk.out (by rw [hs]; rfl)]
        refine ⟨A, c, by rw [e1, Hl.out]; rfl, by rw [e1, Hl.out]; exact Hown.out, by rw [HS.out]; exact Hrd.out, Hfr.out⟩
theorem get10_any (p : Nat) (st : Option (List Nat)) (w : World) (hr : Rdq G w p st) (hG : ∀ k, G k → k < w.heap.size) : Calls Tryz.prog 68 #[.pointer (some ⟨p, 0, none⟩)] w (GotFP G w p st) :=
  (get10_own p st w hr hG).mono fun _ _ h => by
    obtain ⟨A, c, h1, h2, h3, h4⟩ := h
    exact ⟨A, c, h1, Sl.ofOwn h2, h3, h4⟩
end
end Go.Proofs.YtnlmhcfkipkegaaGreat
