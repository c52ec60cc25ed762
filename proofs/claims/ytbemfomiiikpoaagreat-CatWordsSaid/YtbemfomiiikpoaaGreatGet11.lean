/- What package foot reads as a footprint. -/
import Derived.Test.YtbemfomiiikpoaaGreatPut10
import Derived.Test.YtbemfomiiikpoaaGreatRgt10
import Derived.Deep.RegionLaw
import Derived.Test.YtbemfomiiikpoaaGreatPrs11
import Derived.Test.YtbemfomiiikpoaaGreatMy11
import Derived.Deep.CutRange
import Derived.Test.YtbemfomiiikpoaaGreatCodesR
import Derived.Test.YtbemfomiiikpoaaGreatCls11
namespace Go.Proofs.YtbemfomiiikpoaaGreat
open Go.RowKit

section
variable {G : Nat → Prop}
set_option maxHeartbeats 1000000 in
theorem getKey10_any (p : Nat) (st : Option (List Nat)) (w : World) (hr : Rdq G w p st) (hG : ∀ k, G k → k < w.heap.size) : Calls Tryz.prog 127 #[.pointer (some ⟨p, 0, none⟩)] w (Got G w p (keyR st) kcell) := by
  have hf0 : Fr No w (w.alloc (.cells #[.int .i64 0, .int .i64 0] 50)) := (Fr.refl _ _).alloc _
  have hr0 := hr.fr hf0 (fun e => e) (fun _ e => e.elim)
  have hpl := hr.lt
  have C1 := Lib.hid (signed9 p st _ hr0)
  have Hk : Hid (keyR st = if far9 (gV st) then none else (cntR 999 (gS st)).map fun q => ((gV st, (q.1 : Int)), q.2)) := Lib.hid rfl
  clear hr hr0
  generalize gV st = a at *
  generalize gS st = s1 at *
  obtain ⟨s2, hs2⟩ : ∃ s2, Hid (s2 = if far9 a then none else s1) := ⟨_, Lib.hid rfl⟩
  have hend : Hid (∀ w2 w3 : World, Rdq G w2 p s2 → Fr (Only p) w w2 → w.heap.size < w2.heap.size → Bk w2 w.heap.size 50 #[.int .i64 0, .int .i64 0] → Rdq G w3 p (cS 999 s2) → Fr (Only p) w2 w3 →
      Got G w p (keyR st) kcell (.returned (.agg #[.int .i64 a, .int .i64 (cV 999 s2)])) ((w3.setCell ⟨w.heap.size, 0, none⟩ (.int .i64 a)).setCell ⟨w.heap.size, 1, none⟩ (.int .i64 (cV 999 s2)))) := Lib.hid (by
    intro w2 w3 r2 f2 hlt hb2 r3 f3
    have hfw : Fr (Only p) w w3 := f2.trans' f3 (fun _ _ h => h)
    have hg : Got G w p (keyR st) kcell (.returned (.agg #[.int .i64 a, .int .i64 (cV 999 s2)])) w3 := by
      by_cases h : far9 a
      · have e2 : s2 = none := by rw [hs2.out, if_pos h]
        refine ⟨(a, cV 999 s2), rfl, fun q hq => ?_, ?_, hfw⟩
        · rw [Hk.out, if_pos h] at hq
          cases hq
        · rw [Hk.out, if_pos h]
          rw [e2] at r3
          exact r3
      · have e2 : s2 = s1 := by rw [hs2.out, if_neg h]
        refine ⟨(a, cV 999 s2), rfl, fun q hq => ?_, ?_, hfw⟩
        · rw [Hk.out, if_neg h, ← e2] at hq
          cases h5 : cntR 999 s2 with
          | none => rw [h5] at hq; cases hq
          | some y =>
            rw [h5] at hq
            simp only [Option.map_some, Option.some.injEq] at hq
            rw [← hq, cV, h5]
            rfl
        · rw [Hk.out, if_neg h, ← e2, Option.map_map]
          exact r3
    have hf4 : Fr (Only w.heap.size) w3 ((w3.setCell ⟨w.heap.size, 0, none⟩ (.int .i64 a)).setCell ⟨w.heap.size, 1, none⟩ (.int .i64 (cV 999 s2))) := ((Fr.refl (Only w.heap.size) w3).setCell (p := ⟨w.heap.size, 0, none⟩) (.inl rfl) _).setCell (p := ⟨w.heap.size, 1, none⟩) (.inl rfl) _
    exact hg.set hf4 (Nat.le_refl _) hpl hG)
  by_cases hfar : far9 a
  · have Hs : Hid (s2 = none) := Lib.hid (by rw [hs2.out, if_pos hfar])
    have hcases : a < -1 ∨ (¬ a < -1 ∧ 255 < a) := by unfold far9 at hfar; omega
    have e1 : cS (-1) s1 = none := by rw [cS, cntR_neg]; rfl
    have e2 : cV (-1) s1 = 0 := by rw [cV, cntR_neg]; rfl
    have CC := Lib.hid (fun (W : World) (h : Rdq G W p s1) => (by
      have C := count9 p (-1) s1 W h (by omega)
      rw [e1, e2] at C
      exact C : Calls Tryz.prog 28 #[.pointer (some ⟨p, 0, none⟩), .int .i64 (-1)] W (Rdd G W p none (.int .i64 0))))
    clear hfar e1 e2
    rcases hcases with h1 | ⟨h1, h2⟩
    · have d1 : decide (a < -1) = true := by simpa using h1
      clear h1
      go_enter Tryz.func127, Tryz.ntmps127
      go_wp2_with fail
      refine (C1.out).mono ?_
      rintro e w1 ⟨rfl, hr1, hf1⟩
      have C2 := Lib.hid (CC.out w1 hr1)
      have HF1 := Lib.hid hf1
      clear hr1 hf1
      go_wp2_with fail
      refine (C2.out).mono ?_
      rintro e w2 ⟨rfl, hr2, hf2⟩
      have hf12 : Fr (Only p) w w2 := ((hf0.weak (fun _ _ h => h.elim)).trans' HF1.out (fun _ _ h => h)).trans' hf2 (fun _ _ h => h)
      have hlt2 : w.heap.size < w2.heap.size := by have h1 := HF1.out.size; have h2 := hf2.size; simp at h1; omega
      have hb2 : Bk w2 w.heap.size 50 #[.int .i64 0, .int .i64 0] := ((Bk.made w _ _).fr HF1.out (by simp [Only]; omega)).fr hf2 (by simp [Only]; omega)
      have hr2' : Rdq G w2 p s2 := by rw [Hs.out]; exact hr2
      have C3 := Lib.hid (count9 p 999 _ w2 hr2' (by omega))
      have He := Lib.hid (fun w3 => hend.out w2 w3 hr2' hf12 hlt2 hb2)
      have HB := Lib.hid hb2
      clear hr2 hr2' hf12 C2 C1 hf2
      go_wp2_with fail
      refine (C3.out).mono ?_
      rintro e w3 ⟨rfl, hr3, hf3⟩
      have HE := Lib.hid (He.out w3 hr3 hf3)
      have hb3 := HB.out.fr hf3 (by simp [Only]; omega)
      have hlt3 := hb3.lt
      have hz0 := hb3.frozen 0
      have hz1 := hb3.frozen 1
      have k0 := hb3.cell 0
      have k1 := hb3.cell 1
      simp at k0 k1
      generalize cV 999 s2 = b at *
      have hb4 := (hb3.put 0 (.int .i64 a)).put 1 (.int .i64 b)
      have m0 := hb4.cell 0
      have m1 := hb4.cell 1
      simp at m0 m1
      clear hr3 hf3 C3 hend He
      go_wp2
      exact bodyPost_ret (v := .agg #[.int .i64 a, .int .i64 b]) (by simp [results, Tryz.results127, go_sem, m0, m1]) rfl HE.out
    · have d1 : decide (a < -1) = false := by simpa using h1
      have d2 : decide (255 < a) = true := by simpa using h2
      clear h1 h2
      go_enter Tryz.func127, Tryz.ntmps127
      go_wp2_with fail
      refine (C1.out).mono ?_
      rintro e w1 ⟨rfl, hr1, hf1⟩
      have C2 := Lib.hid (CC.out w1 hr1)
      have HF1 := Lib.hid hf1
      clear hr1 hf1
      go_wp2_with fail
      refine (C2.out).mono ?_
      rintro e w2 ⟨rfl, hr2, hf2⟩
      have hf12 : Fr (Only p) w w2 := ((hf0.weak (fun _ _ h => h.elim)).trans' HF1.out (fun _ _ h => h)).trans' hf2 (fun _ _ h => h)
      have hlt2 : w.heap.size < w2.heap.size := by have h1 := HF1.out.size; have h2 := hf2.size; simp at h1; omega
      have hb2 : Bk w2 w.heap.size 50 #[.int .i64 0, .int .i64 0] := ((Bk.made w _ _).fr HF1.out (by simp [Only]; omega)).fr hf2 (by simp [Only]; omega)
      have hr2' : Rdq G w2 p s2 := by rw [Hs.out]; exact hr2
      have C3 := Lib.hid (count9 p 999 _ w2 hr2' (by omega))
      have He := Lib.hid (fun w3 => hend.out w2 w3 hr2' hf12 hlt2 hb2)
      have HB := Lib.hid hb2
      clear hr2 hr2' hf12 C2 C1 hf2
      go_wp2_with fail
      refine (C3.out).mono ?_
      rintro e w3 ⟨rfl, hr3, hf3⟩
      have HE := Lib.hid (He.out w3 hr3 hf3)
      have hb3 := HB.out.fr hf3 (by simp [Only]; omega)
      have hlt3 := hb3.lt
      have hz0 := hb3.frozen 0
      have hz1 := hb3.frozen 1
      have k0 := hb3.cell 0
      have k1 := hb3.cell 1
      simp at k0 k1
      generalize cV 999 s2 = b at *
      have hb4 := (hb3.put 0 (.int .i64 a)).put 1 (.int .i64 b)
      have m0 := hb4.cell 0
      have m1 := hb4.cell 1
      simp at m0 m1
      clear hr3 hf3 C3 hend He
      go_wp2
      exact bodyPost_ret (v := .agg #[.int .i64 a, .int .i64 b]) (by simp [results, Tryz.results127, go_sem, m0, m1]) rfl HE.out
  · have Hs : Hid (s2 = s1) := Lib.hid (by rw [hs2.out, if_neg hfar])
    have d1 : decide (a < -1) = false := by unfold far9 at hfar; simp; omega
    have d2 : decide (255 < a) = false := by unfold far9 at hfar; simp; omega
    clear hfar
    go_enter Tryz.func127, Tryz.ntmps127
    go_wp2_with fail
    refine (C1.out).mono ?_
    rintro e w1 ⟨rfl, hr1, hf1⟩
    have hf12 : Fr (Only p) w w1 := ((hf0.weak (fun _ _ h => h.elim)).trans' hf1 (fun _ _ h => h))
    have hlt2 : w.heap.size < w1.heap.size := by have h1 := hf1.size; simp at h1; omega
    have hb2 : Bk w1 w.heap.size 50 #[.int .i64 0, .int .i64 0] := ((Bk.made w _ _).fr hf1 (by simp [Only]; omega))
    have hr2' : Rdq G w1 p s2 := by rw [Hs.out]; exact hr1
    have C3 := Lib.hid (count9 p 999 _ w1 hr2' (by omega))
    have He := Lib.hid (fun w3 => hend.out w1 w3 hr2' hf12 hlt2 hb2)
    have HB := Lib.hid hb2
    clear hr1 hr2' hf12 C1 hf1
    go_wp2_with fail
    refine (C3.out).mono ?_
    rintro e w3 ⟨rfl, hr3, hf3⟩
    have HE := Lib.hid (He.out w3 hr3 hf3)
    have hb3 := HB.out.fr hf3 (by simp [Only]; omega)
    have hlt3 := hb3.lt
    have hz0 := hb3.frozen 0
    have hz1 := hb3.frozen 1
    have k0 := hb3.cell 0
    have k1 := hb3.cell 1
    simp at k0 k1
    generalize cV 999 s2 = b at *
    have hb4 := (hb3.put 0 (.int .i64 a)).put 1 (.int .i64 b)
    have m0 := hb4.cell 0
    have m1 := hb4.cell 1
    simp at m0 m1
    clear hr3 hf3 C3 hend He
    go_wp2
    exact bodyPost_ret (v := .agg #[.int .i64 a, .int .i64 b]) (by simp [results, Tryz.results127, go_sem, m0, m1]) rfl HE.out

theorem flagR_none : flagR none = none := rfl
/-- What a span of templates is, of its parts. -/
theorem fspR_of {s s1 s2 : Option (List Nat)} (h1 : s1 = kS s) (h2 : s2 = kS s1) {x y : Int × Int} (hx : ∀ q, keyR s = some q → q.1 = x) (hy : ∀ q, keyR s1 = some q → q.1 = y) :
    (fspR s).map (·.2) = fS s2 ∧ ∀ q, fspR s = some q → q.1 = ⟨x.1, x.2, y.1, y.2, fV s2⟩ := by
  have e : fspR s = (flagR s2).map fun q => (⟨(kV s).1, (kV s).2, (kV s1).1, (kV s1).2, q.1⟩, q.2) := by
    rw [h2, h1]
    rfl
  refine ⟨by rw [e, Option.map_map]; rfl, fun q hq => ?_⟩
  rw [e] at hq
  cases h5 : flagR s2 with
  | none => rw [h5] at hq; cases hq
  | some z =>
    rw [h5] at hq
    simp only [Option.map_some, Option.some.injEq] at hq
    have i2 : (kS s1).isSome = true := by
      rw [← h2]
      cases h6 : s2 with
      | none => rw [h6, flagR_none] at h5; cases h5
      | some _ => rfl
    obtain ⟨y1, e1, e2⟩ := kS_some i2
    have i1 : (kS s).isSome = true := by
      rw [← h1]
      cases h6 : s1 with
      | none => rw [h6, keyR_none] at e1; cases e1
      | some _ => rfl
    obtain ⟨y0, e3, e4⟩ := kS_some i1
    rw [← hq, e2, e4, hx _ e3, hy _ e1, fV, h5]
    rfl
/-- A footprint that was read. -/
def GotFP (G : Nat → Prop) (w : World) (p : Nat) (st : Option (List Nat)) (e : Ending) (w' : World) : Prop :=
  ∃ A c, e = .returned (.slice A (gotFL st).length c) ∧ Sl w' w'.heap.size A ((gotFL st).flatMap Fsp.cells) ∧ Rdq G w' p (gotFS st) ∧ Fr (Only p) w w'
/-- The same, as a row of the call's own. -/
def GotFPO (G : Nat → Prop) (w : World) (p : Nat) (st : Option (List Nat)) (e : Ending) (w' : World) : Prop :=
  ∃ A c, e = .returned (.slice A (gotFL st).length c) ∧ w'.ownsRow w.heap.size 125 5 (.slice A (gotFL st).length c) (gotFL st).length ((gotFL st).flatMap Fsp.cells) ∧ Rdq G w' p (gotFS st) ∧ Fr (Only p) w w'
set_option maxHeartbeats 2000000 in
theorem get10_own (p : Nat) (st : Option (List Nat)) (w : World) (hr : Rdq G w p st) (hG : ∀ k, G k → k < w.heap.size) : Calls Tryz.prog 113 #[.pointer (some ⟨p, 0, none⟩)] w (GotFPO G w p st) := by
  have hpl := hr.lt
  have Hr := Lib.hid hr
  clear hr
  go_enter Tryz.func113, Tryz.ntmps113
  go_wp2_with fail
  refine (count9 p 4 st _ Hr.out (by omega)).mono ?_
  rintro e w1 ⟨rfl, q1, f1⟩
  obtain ⟨s1, h1⟩ : ∃ s1, Hid (s1 = cS 4 st) := ⟨_, Lib.hid rfl⟩
  obtain ⟨n, hn⟩ : ∃ n, Hid (n = gotFN st) := ⟨_, Lib.hid rfl⟩
  have hcv : cV 4 st = (n : Int) := by rw [hn.out]; rfl
  have hn8 : n ≤ 4 := by rw [hn.out]; exact gotFN_le st
  rw [← h1.out] at q1
  rw [hcv]
  have HS : Hid (gotFS st = stF n s1) := Lib.hid (by rw [gotFS, hn.out, h1.out])
  have HL : Hid (gotFL st = if (stF n s1).isSome = true then lsF n s1 else []) := Lib.hid (by rw [gotFL, gotFS, hn.out, h1.out])
  have Q1 := Lib.hid q1
  have F1 := Lib.hid f1
  clear q1 f1 hcv Hr
  go_wp2
  go_loopw [3, 8] (fun out i wr => ∃ (k : Nat) (A : Option Addr) (c : Nat) (L : List Fsp), k ≤ n ∧ i = .int .i64 k ∧ out = .slice A k c ∧ Hid (L.length = k ∧ wr.ownsRow w.heap.size 125 5 (.slice A k c) k (L.flatMap Fsp.cells) ∧ Rdq G wr p (stF k s1) ∧ ((stF k s1).isSome = true → L = lsF k s1) ∧ Fr (Only p) w wr)) (fun _ i _ => n - (intOf i).toNat)
  case atStart => exact ⟨0, none, 0, [], Nat.zero_le _, rfl, rfl, Lib.hid ⟨rfl, World.ownsRow_nil _ _ _ _, Q1.out, fun _ => rfl, F1.out⟩⟩
  case round =>
    obtain ⟨k, A, c, L, hk, rfl, rfl, hst⟩ := hrel
    by_cases hlt : k < n
    · obtain ⟨hl, hown, hrd, hL, hfr⟩ := hst.out
      have Hown := Lib.hid hown
      have Hl := Lib.hid hl
      have HLk := Lib.hid hL
      have Hfr := Lib.hid hfr
      have hGr : ∀ i, G i → i < wr.heap.size := fun i hi => Nat.lt_of_lt_of_le (hG i hi) hfr.size
      have C1 := Lib.hid (getKey10_any p (stF k s1) wr hrd hGr)
      have hob : Hid (∀ i, (Value.slice A k c).ownBlock = some i → ¬ Only p i) := Lib.hid (fun i hi e => by have e : i = p := e; have := (hown.lt i hi).1; omega)
      clear hl hown hrd hL hfr
      go_wp2_with fail
      refine (C1.out).mono ?_
      rintro e w2 ⟨x, rfl, hx, q1, f1⟩
      obtain ⟨t1, ht1⟩ : ∃ t1, Hid (t1 = kS (stF k s1)) := ⟨_, Lib.hid rfl⟩
      have q1' : Rdq G w2 p t1 := by rw [ht1.out]; exact q1
      have C2 := Lib.hid (getKey10_any p t1 w2 q1' (fun i hi => Nat.lt_of_lt_of_le (hGr i hi) f1.size))
      have HX := Lib.hid hx
      have G1 := Lib.hid f1
      clear hx q1 q1' f1 C1
      obtain ⟨xa, xb⟩ := x
      simp only [kcell]
      go_wp2_with fail
      refine (C2.out).mono ?_
      rintro e w3 ⟨y, rfl, hy, q2, f2⟩
      obtain ⟨t2, ht2⟩ : ∃ t2, Hid (t2 = kS t1) := ⟨_, Lib.hid rfl⟩
      have q2' : Rdq G w3 p t2 := by rw [ht2.out]; exact q2
      have C3 := Lib.hid (flag10 p t2 w3 q2')
      have HY := Lib.hid hy
      have G2 : Hid (Fr (Only p) wr w3) := Lib.hid (G1.out.trans' f2 (fun _ _ h => h))
      clear hy q2 q2' f2 C2
      obtain ⟨ya, yb⟩ := y
      simp only [kcell]
      go_wp2_with fail
      refine (C3.out).mono ?_
      rintro e w4 ⟨rfl, q3, f3⟩
      obtain ⟨b, hb⟩ : ∃ b, Hid (b = fV t2) := ⟨_, Lib.hid rfl⟩
      rw [← hb.out]
      have f4 : Fr (Only p) wr w4 := G2.out.trans' f3 (fun _ _ h => h)
      have hown2 := own_fr Hown.out f4 hob.out
      obtain ⟨p1, p2⟩ := fspR_of ht1.out ht2.out HX.out HY.out
      have HN := Lib.hid (lsF_next HLk.out (x := ⟨xa, xb, ya, yb, b⟩) (fun q hq => by rw [hb.out]; exact p2 q hq))
      have Q2 : Hid (Rdq G w4 p (stF (k + 1) s1)) := Lib.hid (by rw [stF, p1]; exact q3)
      have F2 : Hid (Fr (Only p) w w4) := Lib.hid (Hfr.out.trans' f4 (fun _ _ h => h))
      clear q3 f3 f4 p1 p2 HX HY C3
      have hu1 := fsp_one ⟨xa, xb, ya, yb, b⟩
      go_wp2_with (at_builtin; (refine wpList_append_elem rfl _ _ _ rfl w.heap.size 125 _ 5 40 Tryz.underlying54 info_fsp rfl (by omega) (.slice A k c) k (L.flatMap Fsp.cells) #[.int .i64 xa, .int .i64 xb, .int .i64 ya, .int .i64 yb, .bool b] rfl hu1 rfl w4.heap.size rfl rfl hown2 (by unfold maxLen; omega) (by omega) (by have := F2.out.size; omega) ?_; intro A3 c3 w5 hown3 hf3 hg3))
      have hne3 := own_apart hown2 (show Bk w4 p 72 _ from Q2.out.reads.choose_spec.choose_spec.1) (by decide)
      have F3 : Fr (Only p) w w5 := F2.out.trans' hf3 (fun i hi e => by have := (hown2.lt i e).1; omega)
      have Q3 : Rdq G w5 p (stF (k + 1) s1) := Q2.out.frG hf3 hne3 (fun i hi e => by have h1 := hG i hi; have h2 := (hown2.lt i e).1; omega)
      go_roundw
      case rel =>
        refine ⟨k + 1, A3, c3, L ++ [⟨xa, xb, ya, yb, b⟩], by omega, by go_num, rfl, Lib.hid ⟨by simp [Hl.out], ?_, Q3, HN.out, F3⟩⟩
        rw [List.flatMap_append]
        simpa [Fsp.cells] using hown3
      case measure => simp [intOf]; omega
    · obtain rfl : k = n := by omega
      obtain ⟨hl, hown, hrd, hL, hfr⟩ := hst.out
      have Hown := Lib.hid hown
      have Hl := Lib.hid hl
      have HLk := Lib.hid hL
      have Hfr := Lib.hid hfr
      have Hrd := Lib.hid hrd
      have C := Lib.hid (qok_any p (stF k s1) wr hrd)
      clear hl hown hrd hL hfr hst
      cases hs : stF k s1 with
      | none =>
        rw [hs] at C
        go_wp2_with fail
        refine (C.out).mono ?_
        rintro e w2 ⟨rfl, rfl⟩
        go_wp2
        go_ret
        have e1 : gotFL st = [] := by rw [HL.out, hs]; rfl
        refine ⟨none, 0, by rw [e1]; rfl, by rw [e1]; exact World.ownsRow_nil _ _ _ _, by rw [HS.out]; exact Hrd.out, Hfr.out⟩
      | some ys =>
        rw [hs] at C
        go_wp2_with fail
        refine (C.out).mono ?_
        rintro e w2 ⟨rfl, rfl⟩
        go_wp2
        go_ret
        have e1 : gotFL st = L := by rw [HL.out, if_pos (by rw [hs]; rfl), HLk.out (by rw [hs]; rfl)]
        refine ⟨A, c, by rw [e1, Hl.out]; rfl, by rw [e1, Hl.out]; exact Hown.out, by rw [HS.out]; exact Hrd.out, Hfr.out⟩
theorem get10_any (p : Nat) (st : Option (List Nat)) (w : World) (hr : Rdq G w p st) (hG : ∀ k, G k → k < w.heap.size) : Calls Tryz.prog 113 #[.pointer (some ⟨p, 0, none⟩)] w (GotFP G w p st) :=
  (get10_own p st w hr hG).mono fun _ _ h => by
    obtain ⟨A, c, h1, h2, h3, h4⟩ := h
    exact ⟨A, c, h1, Sl.ofOwn h2, h3, h4⟩
end
end Go.Proofs.YtbemfomiiikpoaaGreat
/- Package class: a step that is read; what stands while a class is read. -/
namespace Go.Proofs.YtbemfomiiikpoaaGreat
open Go.RowKit

theorem step_append_elem {P : Program} {w : World} {ops : Array Oper} {o : Oper} {a : Act} {K : Act → World → Prop} {Q : Exit → Act → World → Prop} {E : Prop} (hgd : o.guard = none) (s x : Operand) (t : TypeId)
    (ho : o.op = .call { callee := .builtin .append, args := #[s, x], argTypes := #[t, t] })
    (base : Nat) (e : TypeId) (z : Value) (size bytes : Nat) (ht : P.underlying t = some (.slice e)) (hinfo : (P.info? e).map (fun i => (i.zero, i.size, i.bytes)) = some (some z, size, bytes)) (hzs : z.cells.size = size) (hsz : 0 < size)
    (v : Value) (n : Nat) (xs : List Value) (us : Array Value) (hus : us.size = size) (hu : ∀ u ∈ us.toList, u.oneCell' = true) (hs : a.eval s = v) (H : Nat) (hH : w.heap.size = H) (hx : a.eval x = .slice (some ⟨H, 0, none⟩) 1 1) (hown : w.ownsRow base e size v n xs)
    (h63 : n + 1 ≤ maxLen) (hbytes : (n + 1) * bytes ≤ 140737488355328) (hbase : base ≤ w.heap.size)
    (h : ∀ A' c' w', w'.ownsRow base e size (.slice A' (n + 1) c') (n + 1) (xs ++ us.toList) → Fr (fun k => v.ownBlock = some k) w w' →
      ((Value.slice A' (n + 1) c').ownBlock = v.ownBlock ∨ ∃ k, (Value.slice A' (n + 1) c').ownBlock = some k ∧ w.heap.size ≤ k) → K (a.put o.dst (.slice A' (n + 1) c')) w') :
    if Region.wanted o (yielded ops a.tmps) = true then Oper.wp P o a (w.alloc (.cells us e)) K Q else E := by
  subst hH
  obtain ⟨i, hi, hz, hz1, hz2⟩ := info_parts hinfo
  refine step_append_src _ hgd s x t ho base e i z size bytes ht hi hz hz1 hz2 hzs hsz v n xs hs (hown.alloc _) (w.heap.size + 1) _ 1 1 us.toList hx (by simp [hus]) (Sl.made w e us) hu h63 hbytes (by simp; omega) ?_
  intro v' w' q1 q2 q3
  obtain ⟨A', c', rfl, -, -, -⟩ := own_shape q1
  refine h A' c' w' q1 (((Fr.refl _ w).alloc _).grown q2 (fun k hk => .inl hk)) ?_
  rcases q3 with q3 | q3
  · exact .inl q3
  · exact .inr ⟨_, q3, by simp⟩

variable {G : Nat → Prop}
/-- A step that was read. -/
def GotS (G : Nat → Prop) (w : World) (p : Nat) (st : Option (List Nat)) (e : Ending) (w' : World) : Prop :=
  ∃ s : Stp, e = .returned s.agg ∧ s.p = pV st ∧ s.Own w' w.heap.size ∧ Rdq G w' p (pS st) ∧ Fr (Only p) w w'
set_option maxHeartbeats 2000000 in
theorem getStep_any (p : Nat) (st : Option (List Nat)) (w : World) (hr : Rdq G w p st) (hG : ∀ k, G k → k < w.heap.size) : Calls Tryz.prog 97 #[.pointer (some ⟨p, 0, none⟩)] w (GotS G w p st) := by
  have hpl := hr.lt
  have f0 : Fr No w (w.alloc (.cells #[.slice none 0 0, .slice none 0 0] 56)) := (Fr.refl _ _).alloc _
  have b0 := Bk.made w 56 #[.slice none 0 0, .slice none 0 0]
  have C1 := Lib.hid (get_own p st _ (hr.frG f0 (fun e => e) (fun _ _ e => e)) (fun k hk => by have := hG k hk; simp; omega))
  have HG := Lib.hid hG
  clear hr hG
  go_enter Tryz.func97, Tryz.ntmps97
  go_wp2_with fail
  refine (C1.out).mono ?_
  rintro e w1 ⟨A1, c1, rfl, o1, r1, f1⟩
  obtain ⟨t1, ht1⟩ : ∃ z, Hid (z = gotL st) := ⟨_, Lib.hid rfl⟩
  obtain ⟨p1, hp1⟩ : ∃ z, Hid (z = gotS st) := ⟨_, Lib.hid rfl⟩
  rw [← ht1.out] at o1 ⊢
  rw [← hp1.out] at r1
  have b1 := b0.fr f1 (fun e => by have e : w.heap.size = p := e; omega)
  have hs1 := f1.size
  simp at hs1
  have C2 := Lib.hid (get10_own p p1 w1 r1 (fun k hk => by have := HG.out k hk; omega))
  have O1 := Lib.hid o1
  have F1 := Lib.hid ((f0.weak (S' := Only p) (fun _ _ h => h.elim)).trans' f1 (fun _ _ h => h))
  have B1 := Lib.hid b1
  clear r1 f1 o1 b1 b0 C1 f0
  go_wp2_with fail
  refine (C2.out).mono ?_
  rintro e w2 ⟨A2, c2, rfl, o2, r2, f2⟩
  obtain ⟨t2, ht2⟩ : ∃ z, Hid (z = gotFL p1) := ⟨_, Lib.hid rfl⟩
  obtain ⟨p2, hp2⟩ : ∃ z, Hid (z = gotFS p1) := ⟨_, Lib.hid rfl⟩
  rw [← ht2.out] at o2 ⊢
  rw [← hp2.out] at r2
  have b2 := B1.out.fr f2 (fun e => by have e : w.heap.size = p := e; omega)
  have l2 := b2.lt
  have x0 := b2.cell 0
  have x1 := b2.cell 1
  have z0 := b2.frozen 0
  have z1 := b2.frozen 1
  simp at x0 x1
  have fX : Fr (Only w.heap.size) w2 ((w2.setCell ⟨w.heap.size, 0, none⟩ (.slice A1 t1.length c1)).setCell ⟨w.heap.size, 1, none⟩ (.slice A2 t2.length c2)) := ((Fr.refl (Only w.heap.size) w2).setCell (p := ⟨w.heap.size, 0, none⟩) (.inl rfl) _).setCell (p := ⟨w.heap.size, 1, none⟩) (.inl rfl) _
  have hO : (⟨A1, t1, c1, A2, t2, c2⟩ : Stp).Own w2 w.heap.size := ⟨own_fr (own_weak O1.out (by simp)) f2 (fun i hi e => by have e : i = p := e; have := (O1.out.lt i hi).1; simp at this; omega), own_weak o2 (by omega)⟩
  have HFin : Hid (GotS G w p st (.returned (.agg #[.slice A1 t1.length c1, .slice A2 t2.length c2])) ((w2.setCell ⟨w.heap.size, 0, none⟩ (.slice A1 t1.length c1)).setCell ⟨w.heap.size, 1, none⟩ (.slice A2 t2.length c2))) := Lib.hid (by
    refine ⟨⟨A1, t1, c1, A2, t2, c2⟩, rfl, ?_, hO.var fX b2, ?_, (F1.out.trans' f2 (fun _ _ h => h)).trans' fX (fun i hi e => by have e : i = w.heap.size := e; omega)⟩
    · simp [Stp.p, pV, ht1.out, ht2.out, hp1.out]
    · have e1 : pS st = p2 := by rw [pS, hp2.out, hp1.out]
      rw [e1]
      exact r2.frG fX (fun e => by have e : p = w.heap.size := e; omega) (fun k hk e => by have e : k = w.heap.size := e; have := HG.out k hk; omega))
  have b3 : Bk ((w2.setCell ⟨w.heap.size, 0, none⟩ (.slice A1 t1.length c1)).setCell ⟨w.heap.size, 1, none⟩ (.slice A2 t2.length c2)) w.heap.size 56 #[.slice A1 t1.length c1, .slice A2 t2.length c2] := (b2.put 0 _).put 1 _
  have B3 := Lib.hid b3
  clear o2 r2 f2 b2 fX hO b3 C2
  go_wp2
  have m0 := B3.out.cell 0
  have m1 := B3.out.cell 1
  simp at m0 m1
  exact bodyPost_ret (v := .agg #[.slice A1 t1.length c1, .slice A2 t2.length c2]) (by simp [results, Tryz.results97, go_sem, m0, m1]) rfl HFin.out

/-- What stands while the steps of a class are read: the class, its two rows, the reader. -/
structure K11 (G : Nat → Prop) (w0 w : World) (C p : Nat) (nm : ByteArray) (a : Int) (sA : Option Addr) (sc : Nat) (uA : Option Addr) (uc : Nat) (ss us : List Stp) (k j : Nat) (st : Option (List Nat)) : Prop where
  res : Bk w w0.heap.size 59 #[.string ⟨#[]⟩, .int .i64 0, .slice none 0 0, .slice none 0 0, .bool false]
  cls : Bk w C 59 #[.string nm, .int .i64 a, .slice sA k sc, .slice uA j uc, .bool false]
  own1 : w.ownsRow w0.heap.size 56 2 (.slice sA k sc) k (ss.flatMap Stp.cells)
  own2 : w.ownsRow w0.heap.size 56 2 (.slice uA j uc) j (us.flatMap Stp.cells)
  apart : ∀ i, (Value.slice sA k sc).ownBlock = some i → (Value.slice uA j uc).ownBlock ≠ some i
  in1 : ∀ s ∈ ss, s.Own w w0.heap.size
  in2 : ∀ s ∈ us, s.Own w w0.heap.size
  rr : Rdq G w p st
  fr : Fr (Only p) w0 w
  hC : w0.heap.size < C
variable {w0 w w' : World} {C p k j sc uc : Nat} {nm : ByteArray} {a : Int} {sA uA : Option Addr} {ss us : List Stp} {st st' : Option (List Nat)} {x y : Stp}
theorem K11.call (h : K11 G w0 w C p nm a sA sc uA uc ss us k j st) (hp : p < w0.heap.size) (hf : Fr (Only p) w w') (hr : Rdq G w' p st') : K11 G w0 w' C p nm a sA sc uA uc ss us k j st' := by
  have hC := h.hC
  exact ⟨h.res.fr hf (fun e => by have e : w0.heap.size = p := e; omega), h.cls.fr hf (fun e => by have e : C = p := e; omega), own_fr h.own1 hf (fun i hi e => by have e : i = p := e; have := (h.own1.lt i hi).1; omega), own_fr h.own2 hf (fun i hi e => by have e : i = p := e; have := (h.own2.lt i hi).1; omega), h.apart, fun s hs => (h.in1 s hs).call hf hp, fun s hs => (h.in2 s hs).call hf hp, hr, h.fr.trans' hf (fun _ _ e => e), hC⟩
theorem K11.quiet (h : K11 G w0 w C p nm a sA sc uA uc ss us k j st) (hf : Fr No w w') : K11 G w0 w' C p nm a sA sc uA uc ss us k j st :=
  ⟨h.res.fr hf (fun e => e), h.cls.fr hf (fun e => e), own_fr h.own1 hf (fun _ _ e => e), own_fr h.own2 hf (fun _ _ e => e), h.apart, fun s hs => (h.in1 s hs).quiet hf, fun s hs => (h.in2 s hs).quiet hf, h.rr.frG hf (fun e => e) (fun _ _ e => e), h.fr.trans' hf (fun _ _ e => e.elim), h.hC⟩
/-- A step more. -/
theorem K11.appS {A : Option Addr} {c : Nat} (h : K11 G w0 w C p nm a sA sc uA uc ss us k j st) (hp : p < w0.heap.size) (hG : ∀ k, G k → k < w0.heap.size) (hx : x.Own w w0.heap.size) (ho : w'.ownsRow w0.heap.size 56 2 (.slice A (k + 1) c) (k + 1) (ss.flatMap Stp.cells ++ x.cells)) (hf : Fr (fun i => (Value.slice sA k sc).ownBlock = some i) w w')
    (hg : (Value.slice A (k + 1) c).ownBlock = (Value.slice sA k sc).ownBlock ∨ ∃ i, (Value.slice A (k + 1) c).ownBlock = some i ∧ w.heap.size ≤ i) :
    Bk w' C 59 #[.string nm, .int .i64 a, .slice sA k sc, .slice uA j uc, .bool false] ∧ K11 G w0 (w'.setCell ⟨C, 2, none⟩ (.slice A (k + 1) c)) C p nm a A c uA uc (ss ++ [x]) us (k + 1) j st := by
  have hC := h.hC
  have hX : Fr (Only C) w' (w'.setCell ⟨C, 2, none⟩ (.slice A (k + 1) c)) := (Fr.refl (Only C) w').setCell (p := ⟨C, 2, none⟩) (.inl rfl) _
  have hc := h.cls.fr hf (fun e => own_apart h.own1 h.cls (by decide) e)
  have hr := h.res.fr hf (fun e => own_apart h.own1 h.res (by decide) e)
  have h2 := own_fr h.own2 hf (fun i hi e => h.apart i e hi)
  have ho2 : w'.ownsRow w0.heap.size 56 2 (.slice A (k + 1) c) (k + 1) ((ss ++ [x]).flatMap Stp.cells) := by simpa using ho
  refine ⟨hc, hr.fr hX (fun e => by have e : w0.heap.size = C := e; omega), hc.put 2 _, own_fr ho2 hX (fun i hi e => by have e : i = C := e; subst e; exact own_apart ho2 hc (by decide) hi), own_fr h2 hX (fun i hi e => by have e : i = C := e; subst e; exact own_apart h2 hc (by decide) hi), fun i hi e => ?_, fun s hs => ?_, fun s hs => ((h.in2 s hs).row hf h.own1).varC hX hc, (h.rr.frG hf (fun e => by have := (h.own1.lt _ e).1; omega) (fun i hi e => by have := (h.own1.lt _ e).1; have := hG i hi; omega)).frG hX (fun e => by have e : p = C := e; omega) (fun i hi e => by have e : i = C := e; have := hG i hi; omega), (h.fr.trans' hf (fun i hi e => by have := (h.own1.lt _ e).1; omega)).trans' hX (fun i hi e => by have e : i = C := e; omega), hC⟩
  · rcases hg with hg | ⟨l, hg, hl⟩
    · rw [hg] at hi
      exact h.apart i hi e
    · rw [hg] at hi
      injection hi with hi
      have := (h.own2.lt _ e).2
      omega
  · rw [List.mem_append, List.mem_singleton] at hs
    rcases hs with hs | rfl
    · exact ((h.in1 s hs).row hf h.own1).varC hX hc
    · exact (hx.row hf h.own1).varC hX hc
theorem K11.appU {A : Option Addr} {c : Nat} (h : K11 G w0 w C p nm a sA sc uA uc ss us k j st) (hp : p < w0.heap.size) (hG : ∀ k, G k → k < w0.heap.size) (hx : x.Own w w0.heap.size) (ho : w'.ownsRow w0.heap.size 56 2 (.slice A (j + 1) c) (j + 1) (us.flatMap Stp.cells ++ x.cells)) (hf : Fr (fun i => (Value.slice uA j uc).ownBlock = some i) w w')
    (hg : (Value.slice A (j + 1) c).ownBlock = (Value.slice uA j uc).ownBlock ∨ ∃ i, (Value.slice A (j + 1) c).ownBlock = some i ∧ w.heap.size ≤ i) :
    Bk w' C 59 #[.string nm, .int .i64 a, .slice sA k sc, .slice uA j uc, .bool false] ∧ K11 G w0 (w'.setCell ⟨C, 3, none⟩ (.slice A (j + 1) c)) C p nm a sA sc A c ss (us ++ [x]) k (j + 1) st := by
  have hC := h.hC
  have hX : Fr (Only C) w' (w'.setCell ⟨C, 3, none⟩ (.slice A (j + 1) c)) := (Fr.refl (Only C) w').setCell (p := ⟨C, 3, none⟩) (.inl rfl) _
  have hc := h.cls.fr hf (fun e => own_apart h.own2 h.cls (by decide) e)
  have hr := h.res.fr hf (fun e => own_apart h.own2 h.res (by decide) e)
  have h2 := own_fr h.own1 hf (fun i hi e => h.apart i hi e)
  have ho2 : w'.ownsRow w0.heap.size 56 2 (.slice A (j + 1) c) (j + 1) ((us ++ [x]).flatMap Stp.cells) := by simpa using ho
  refine ⟨hc, hr.fr hX (fun e => by have e : w0.heap.size = C := e; omega), hc.put 3 _, own_fr h2 hX (fun i hi e => by have e : i = C := e; subst e; exact own_apart h2 hc (by decide) hi), own_fr ho2 hX (fun i hi e => by have e : i = C := e; subst e; exact own_apart ho2 hc (by decide) hi), fun i hi e => ?_, fun s hs => ((h.in1 s hs).row hf h.own2).varC hX hc, fun s hs => ?_, (h.rr.frG hf (fun e => by have := (h.own2.lt _ e).1; omega) (fun i hi e => by have := (h.own2.lt _ e).1; have := hG i hi; omega)).frG hX (fun e => by have e : p = C := e; omega) (fun i hi e => by have e : i = C := e; have := hG i hi; omega), (h.fr.trans' hf (fun i hi e => by have := (h.own2.lt _ e).1; omega)).trans' hX (fun i hi e => by have e : i = C := e; omega), hC⟩
  · rcases hg with hg | ⟨l, hg, hl⟩
    · rw [hg] at e
      exact h.apart i hi e
    · rw [hg] at e
      injection e with e
      have := (h.own1.lt _ hi).2
      omega
  · rw [List.mem_append, List.mem_singleton] at hs
    rcases hs with hs | rfl
    · exact ((h.in2 s hs).row hf h.own2).varC hX hc
    · exact (hx.row hf h.own2).varC hX hc
end Go.Proofs.YtbemfomiiikpoaaGreat
/- Package class: getClass. -/
namespace Go.Proofs.YtbemfomiiikpoaaGreat
open Go.RowKit

variable {G : Nat → Prop}
theorem onlyY {w : World} {X : Nat} (i : Nat) (u : Value) : Fr (Only X) w (w.setCell ⟨X, i, none⟩ u) := (Fr.refl (Only X) w).setCell (p := ⟨X, i, none⟩) (.inl rfl) u
theorem gotL_le (st : Option (List Nat)) : (gotL st).length ≤ 8 := by
  unfold gotL
  split
  · rw [lsN_len]
    exact gotN_le st
  · simp
theorem gotFL_le (st : Option (List Nat)) : (gotFL st).length ≤ 4 := by
  unfold gotFL
  split
  · rw [lsF_len]
    exact gotFN_le st
  · simp
/-- A step of few instructions and spans. -/
def FewP (s : List Ins × List Fsp) : Prop := s.1.length ≤ 8 ∧ s.2.length ≤ 4
theorem pV_few (st : Option (List Nat)) : FewP (pV st) := ⟨gotL_le st, gotFL_le _⟩
theorem lsS_few (k : Nat) (st : Option (List Nat)) : ∀ s ∈ lsS k st, FewP s := by
  induction k with
  | zero => intro s hs; cases hs
  | succ k ih =>
    intro s hs
    rw [lsS, List.mem_append, List.mem_singleton] at hs
    rcases hs with hs | rfl
    · exact ih s hs
    · exact pV_few _
theorem lsU_few (k : Nat) (st : Option (List Nat)) : ∀ s ∈ lsU k st, FewP s := by
  induction k with
  | zero => intro s hs; cases hs
  | succ k ih =>
    intro s hs
    rw [lsU, List.mem_append, List.mem_singleton] at hs
    rcases hs with hs | rfl
    · exact ih s hs
    · exact pV_few _
theorem clN_le (st : Option (List Nat)) : clN st ≤ 4 := gotFN_le _
theorem few_of_p {c : Cls} {st : Option (List Nat)} (h : c.p = pcR st) : c.Few ∧ c.steps.length ≤ 4 ∧ c.comps.length ≤ 4 := by
  have hs : c.steps.map Stp.p = lsS (clN st) (cS 4 (cS 3 (txS st))) := congrArg PC.steps h
  have hu : c.comps.map Stp.p = lsU (clN st) (cS 4 (cS 3 (txS st))) := congrArg PC.comps h
  have l1 := congrArg List.length hs
  have l2 := congrArg List.length hu
  rw [List.length_map, lsS_len] at l1
  rw [List.length_map, lsU_len] at l2
  have hn := clN_le st
  have f1 : ∀ s ∈ c.steps, FewP s.p := fun s hs' => lsS_few _ _ _ (by rw [← hs]; exact List.mem_map_of_mem hs')
  have f2 : ∀ s ∈ c.comps, FewP s.p := fun s hs' => lsU_few _ _ _ (by rw [← hu]; exact List.mem_map_of_mem hs')
  refine ⟨⟨by omega, by omega, fun s hs' => ?_, fun s hs' => ?_⟩, by omega, by omega⟩
  · have := f1 s hs'
    exact ⟨Nat.le_trans this.1 (by omega), Nat.le_trans this.2 (by omega)⟩
  · have := f2 s hs'
    exact ⟨Nat.le_trans this.1 (by omega), Nat.le_trans this.2 (by omega)⟩

/-- A class that was read, whether it may be or not. -/
def GotCl (G : Nat → Prop) (w : World) (p : Nat) (st : Option (List Nat)) (e : Ending) (w' : World) : Prop :=
  ∃ c : Cls, e = .returned c.agg ∧ c.p = pcR st ∧ (∀ V, Fr (fun i => i < w.heap.size) w' V → c.Ok V) ∧ Rdq G w' p (fS (clS st)) ∧ Fr (Only p) w w'

set_option maxRecDepth 100000 in
set_option maxHeartbeats 8000000 in
theorem getClass_any (p : Nat) (st : Option (List Nat)) (w : World) (hr : Rdq G w p st) (hG : ∀ k, G k → k < w.heap.size) : Calls Tryz.prog 79 #[.pointer (some ⟨p, 0, none⟩)] w (GotCl G w p st) := by
  have hpl := hr.lt
  have f0 : Fr No w (w.alloc (.cells #[.string ⟨#[]⟩, .int .i64 0, .slice none 0 0, .slice none 0 0, .bool false] 59)) := (Fr.refl _ _).alloc _
  have b0 := Bk.made w 59 #[.string ⟨#[]⟩, .int .i64 0, .slice none 0 0, .slice none 0 0, .bool false]
  have C1 := Lib.hid (text11 p st _ (hr.frG f0 (fun e => e) (fun _ _ e => e)))
  have F0 := Lib.hid (f0.weak (S' := Only p) (fun _ _ h => h.elim))
  have B0 := Lib.hid b0
  have HG := Lib.hid hG
  clear hr hG f0 b0
  go_enter Tryz.func79, Tryz.ntmps79
  go_wp2_with fail
  refine (C1.out).mono ?_
  rintro e w1 ⟨rfl, r1, f1⟩
  obtain ⟨nm, hnm⟩ : ∃ z, Hid (z = txV st) := ⟨_, Lib.hid rfl⟩
  obtain ⟨s1, hs1⟩ : ∃ z, Hid (z = txS st) := ⟨_, Lib.hid rfl⟩
  rw [← hnm.out]
  rw [← hs1.out] at r1
  have C2 := Lib.hid (count9 p 3 s1 w1 r1 (by omega))
  have B1 := Lib.hid (B0.out.fr f1 (fun e => by have e : w.heap.size = p := e; omega))
  have F1 := Lib.hid (F0.out.trans' f1 (fun _ _ h => h))
  clear r1 f1 C1
  go_wp2_with fail
  refine (C2.out).mono ?_
  rintro e w2 ⟨rfl, r2, f2⟩
  obtain ⟨a, ha⟩ : ∃ z, Hid (z = cV 3 s1) := ⟨_, Lib.hid rfl⟩
  obtain ⟨s2, hs2⟩ : ∃ z, Hid (z = cS 3 s1) := ⟨_, Lib.hid rfl⟩
  rw [← ha.out]
  rw [← hs2.out] at r2
  have f3 : Fr No w2 (w2.alloc (.cells #[.string nm, .int .i64 a, .slice none 0 0, .slice none 0 0, .bool false] 59)) := (Fr.refl _ _).alloc _
  have C3 := Lib.hid (count9 p 4 s2 _ (r2.frG f3 (fun e => e) (fun _ _ e => e)) (by omega))
  have B2 := Lib.hid ((B1.out.fr f2 (fun e => by have e : w.heap.size = p := e; omega)).fr f3 (fun e => e))
  have X2 := Lib.hid (Bk.made w2 59 #[.string nm, .int .i64 a, .slice none 0 0, .slice none 0 0, .bool false])
  have F2 := Lib.hid ((F1.out.trans' f2 (fun _ _ h => h)).trans' f3 (fun _ _ h => h.elim))
  have hC : w.heap.size < w2.heap.size := by have := (B1.out.fr f2 (fun e => by have e : w.heap.size = p := e; omega)).lt; exact this
  obtain ⟨C, hCe⟩ : ∃ C, Hid (C = w2.heap.size) := ⟨_, Lib.hid rfl⟩
  clear r2 f2 f3 C2
  go_wp2_with fail
  refine (C3.out).mono ?_
  rintro e w3 ⟨rfl, r3, f3⟩
  obtain ⟨n, hn⟩ : ∃ n, Hid (n = gotFN s2) := ⟨_, Lib.hid rfl⟩
  obtain ⟨s3, hs3⟩ : ∃ z, Hid (z = cS 4 s2) := ⟨_, Lib.hid rfl⟩
  have hcv : cV 4 s2 = (n : Int) := by rw [hn.out]; rfl
  have hn4 : n ≤ 4 := by rw [hn.out]; exact gotFN_le s2
  rw [hcv]
  rw [← hs3.out] at r3
  rw [← hCe.out] at hC ⊢
  have HK : Hid (K11 G w w3 C p nm a none 0 none 0 [] [] 0 0 s3) := Lib.hid ⟨B2.out.fr f3 (fun e => by have e : w.heap.size = p := e; omega), by rw [hCe.out]; exact X2.out.fr f3 (fun e => by have e : w2.heap.size = p := e; rw [hCe.out] at hC; omega), World.ownsRow_nil _ _ _ _, World.ownsRow_nil _ _ _ _, fun i h => by simp [Value.ownBlock] at h, fun s h => by simp at h, fun s h => by simp at h, r3, F2.out.trans' f3 (fun _ _ h => h), hC⟩
  have HP : Hid (pcR st = ⟨nm, a, lsS n s3, lsU n s3, fV (stC n s3)⟩ ∧ clS st = stC n s3) := Lib.hid (by
    have e1 : clN st = n := by rw [hn.out, hs2.out, hs1.out]; rfl
    have e2 : cS 4 (cS 3 (txS st)) = s3 := by rw [hs3.out, hs2.out, hs1.out]
    refine ⟨?_, by rw [clS, e1, e2]⟩
    rw [pcR, clS, e1, e2, hnm.out, ha.out, hs1.out])
  clear r3 f3 C3 hcv F2 X2 B2 F1 B1 F0 B0
  go_wp2
  go_loopw [11] (fun i wr => ∃ (k : Nat) (sA : Option Addr) (sc : Nat) (uA : Option Addr) (uc : Nat) (ss us : List Stp), k ≤ n ∧ i = .int .i64 k ∧ Hid (ss.map Stp.p = lsS k s3 ∧ us.map Stp.p = lsU k s3) ∧ Hid (K11 G w wr C p nm a sA sc uA uc ss us k k (stC k s3))) (fun i _ => n - (intOf i).toNat)
  case atStart => exact ⟨0, none, 0, none, 0, [], [], Nat.zero_le _, rfl, Lib.hid ⟨rfl, rfl⟩, HK⟩
  case round =>
    obtain ⟨k, sA, sc, uA, uc, ss, us, hk, rfl, hls, hK⟩ := hrel
    by_cases hlt : k < n
    · have hgr := hK.out.fr.size
      have hD := hK.out.quiet ((Fr.refl No wr).drew)
      have HD := Lib.hid hD
      have CS := Lib.hid (getStep_any p (stC k s3) _ hD.rr (fun i hi => by have := HG.out i hi; have := hD.fr.size; omega))
      have hCl := hK.out.cls.lt
      have x2 := hK.out.cls.cell 2
      simp at x2
      clear hD HK
      go_wp2_with fail
      go_cut [] from 12 to 27 (fun wx => ∃ (A : Option Addr) (c : Nat) (x : Stp), Hid (K11 G w wx C p nm a A c uA uc (ss ++ [x]) us (k + 1) k (pS (stC k s3))) ∧ Hid (x.p = pV (stC k s3)))
      case first =>
        go_region_law (first
          | (refine step_append_elem rfl _ _ 57 rfl w.heap.size 56 _ 2 48 Tryz.underlying57 info_stp rfl (by omega) (.slice sA k sc) k (ss.flatMap Stp.cells) #[.slice x.cA x.code.length x.cc, .slice x.fA x.foot.length x.fc] rfl (stp_one x) rfl w4.heap.size rfl rfl K1.out.own1 (by unfold maxLen; omega) (by omega) (by have := K1.out.fr.size; exact this) ?_
             intro A' c' w5 o5 f5 g5
             have h5 := K1.out.appS hpl HG.out hX.out o5 f5 g5
             have H5 := Lib.hid h5.2
             have y2 := h5.1.cell 2
             have y3 := h5.1.frozen 2
             have y4 := h5.1.lt
             simp at y2)
          | (go_simp
             go_at_call 97
             refine (CS.out).mono ?_
             rintro e w4 ⟨x, rfl, hx, hxo, r4, f4⟩
             have k1 := HD.out.call hpl f4 r4
             have K1 := Lib.hid k1
             have hX : Hid (x.Own w4 w.heap.size) := Lib.hid ⟨own_weak hxo.code (by have := HD.out.fr.size; exact this), own_weak hxo.foot (by have := HD.out.fr.size; exact this)⟩
             have c2 := k1.cls.cell 2
             have c3 := k1.cls.lt
             have c4 := (k1.cls.fr ((Fr.refl No w4).alloc (.cells #[.slice x.cA x.code.length x.cc, .slice x.fA x.foot.length x.fc] 56)) (fun e => e)).cell 2
             simp at c2 c4
             have Hx := Lib.hid hx
             unfold Stp.agg
             clear k1 hx hxo r4 f4))
        all_goals
          go_wp2
          go_meet
          exact ⟨A', c', x, H5, Hx⟩
      case rest =>
        obtain ⟨B, d, x, K2, Hx⟩ := hcut
        obtain ⟨t1, ht1⟩ : ∃ z, Hid (z = pS (stC k s3)) := ⟨_, Lib.hid rfl⟩
        rw [← ht1.out] at K2
        rename_i wb _
        have hgr2 := K2.out.fr.size
        have hD2 := K2.out.quiet ((Fr.refl No _).drew)
        have HD2 := Lib.hid hD2
        have CS2 := Lib.hid (getStep_any p t1 _ hD2.rr (fun i hi => by have := HG.out i hi; have := hD2.fr.size; omega))
        have hCl2 := K2.out.cls.lt
        have x3 := K2.out.cls.cell 3
        simp at x3
        clear hD2 hK HD CS x2 hCl
        go_wp2_with fail
        go_region_law (first
          | (refine step_append_elem rfl _ _ 57 rfl w.heap.size 56 _ 2 48 Tryz.underlying57 info_stp rfl (by omega) (.slice uA k uc) k (us.flatMap Stp.cells) #[.slice y.cA y.code.length y.cc, .slice y.fA y.foot.length y.fc] rfl (stp_one y) rfl w4.heap.size rfl rfl K1.out.own2 (by unfold maxLen; omega) (by omega) (by have := K1.out.fr.size; exact this) ?_
             intro A' c' w5 o5 f5 g5
             have h5 := K1.out.appU hpl HG.out hX.out o5 f5 g5
             have H5 := Lib.hid h5.2
             have y2 := h5.1.cell 3
             have y3 := h5.1.frozen 3
             have y4 := h5.1.lt
             simp at y2)
          | (go_simp
             go_at_call 97
             refine (CS2.out).mono ?_
             rintro e w4 ⟨y, rfl, hx, hxo, r4, f4⟩
             have k1 := HD2.out.call hpl f4 r4
             have K1 := Lib.hid k1
             have hX : Hid (y.Own w4 w.heap.size) := Lib.hid ⟨own_weak hxo.code (by have := HD2.out.fr.size; exact this), own_weak hxo.foot (by have := HD2.out.fr.size; exact this)⟩
             have c2 := k1.cls.cell 3
             have c3 := k1.cls.lt
             have c4 := (k1.cls.fr ((Fr.refl No w4).alloc (.cells #[.slice y.cA y.code.length y.cc, .slice y.fA y.foot.length y.fc] 56)) (fun e => e)).cell 3
             simp at c2 c4
             have Hy := Lib.hid hx
             unfold Stp.agg
             clear k1 hx hxo r4 f4))
        all_goals
          have Hlsn : Hid ((ss ++ [x]).map Stp.p = lsS (k + 1) s3 ∧ (us ++ [y]).map Stp.p = lsU (k + 1) s3) := Lib.hid (by
            rw [List.map_append, List.map_append, hls.out.1, hls.out.2, lsS, lsU]
            simp [Hx.out, Hy.out, ht1.out])
          have Hst : Hid (stC (k + 1) s3 = pS t1) := Lib.hid (by rw [stC, ht1.out])
          clear o5 f5 g5 h5 hls
          go_wp2
          go_roundw
          case rel => exact ⟨k + 1, B, d, A', c', ss ++ [x], us ++ [y], by omega, by go_num, Hlsn, by rw [Hst.out]; exact H5⟩
          case measure => simp [intOf]; omega
    · obtain rfl : k = n := by omega
      have CF := Lib.hid (flag10 p (stC k s3) wr hK.out.rr)
      go_wp2_with fail
      refine (CF.out).mono ?_
      rintro e w7 ⟨rfl, r7, f7⟩
      obtain ⟨fb, hfb⟩ : ∃ z, Hid (z = fV (stC k s3)) := ⟨_, Lib.hid rfl⟩
      obtain ⟨p7, hp7⟩ : ∃ z, Hid (z = fS (stC k s3)) := ⟨_, Lib.hid rfl⟩
      rw [← hfb.out]
      rw [← hp7.out] at r7
      have K7 := Lib.hid (hK.out.call hpl f7 r7)
      have lX7 := K7.out.cls.lt
      have z7 := K7.out.cls.frozen 4
      have k7 := K7.out.cls.cell 4
      have k0 := K7.out.cls.cell 0
      have k1 := K7.out.cls.cell 1
      have k2 := K7.out.cls.cell 2
      have k3 := K7.out.cls.cell 3
      have q0 := K7.out.res.cell 0
      have q1 := K7.out.res.cell 1
      have q2 := K7.out.res.cell 2
      have q3 := K7.out.res.cell 3
      have q4 := K7.out.res.cell 4
      have z0 := K7.out.res.frozen 0
      have z1 := K7.out.res.frozen 1
      have z2 := K7.out.res.frozen 2
      have z3 := K7.out.res.frozen 3
      have z4 := K7.out.res.frozen 4
      simp at k7 k0 k1 k2 k3 q0 q1 q2 q3 q4
      have hk1 : Hid (ss.length = k) := Lib.hid (by have := congrArg List.length hls.out.1; rw [List.length_map, lsS_len] at this; exact this)
      have hk2 : Hid (us.length = k) := Lib.hid (by have := congrArg List.length hls.out.2; rw [List.length_map, lsU_len] at this; exact this)
      have hcp : Hid (Cls.p ⟨nm, a, sA, ss, sc, uA, us, uc, fb⟩ = pcR st) := Lib.hid (by rw [HP.out.1, Cls.p, hls.out.1, hls.out.2, ← hfb.out])
      have hca : Hid (Cls.agg ⟨nm, a, sA, ss, sc, uA, us, uc, fb⟩ = .agg #[.string nm, .int .i64 a, .slice sA k sc, .slice uA k uc, .bool fb]) := Lib.hid (by simp only [Cls.agg, hk1.out, hk2.out])
      have hne : ¬ C = w.heap.size := by omega
      have hne2 : ¬ w.heap.size = C := by omega
      have hl7 : w.heap.size < w7.heap.size := K7.out.res.lt
      have HFin : Hid (∀ W, Fr (fun i => i = w.heap.size ∨ i = C) w7 W → GotCl G w p st (.returned (.agg #[.string nm, .int .i64 a, .slice sA k sc, .slice uA k uc, .bool fb])) W) := Lib.hid (fun W hf => by
        have ap : ∀ {e : TypeId} {size n : Nat} {v : Value} {xs : List Value}, w7.ownsRow w.heap.size e size v n xs → e ≠ 59 → ∀ i, v.ownBlock = some i → ¬ (i = w.heap.size ∨ i = C) := by
          intro e size n v xs ho ht i hi hh
          rcases hh with rfl | rfl
          · exact own_apart ho K7.out.res ht hi
          · exact own_apart ho K7.out.cls ht hi
        have e1 : fS (clS st) = p7 := by rw [HP.out.2, hp7.out]
        have o1 := own_fr K7.out.own1 hf (ap K7.out.own1 (by decide))
        have o2 := own_fr K7.out.own2 hf (ap K7.out.own2 (by decide))
        have o3 : ∀ s ∈ ss, s.Own W w.heap.size := fun s hs => (K7.out.in1 s hs).fr hf (ap (K7.out.in1 s hs).code (by decide)) (ap (K7.out.in1 s hs).foot (by decide))
        have o4 : ∀ s ∈ us, s.Own W w.heap.size := fun s hs => (K7.out.in2 s hs).fr hf (ap (K7.out.in2 s hs).code (by decide)) (ap (K7.out.in2 s hs).foot (by decide))
        refine ⟨⟨nm, a, sA, ss, sc, uA, us, uc, fb⟩, by rw [hca.out], hcp.out, fun V hV => ?_, ?_, K7.out.fr.trans' hf (fun i hi e => by rcases e with e | e <;> omega)⟩
        · have lo : ∀ {e : TypeId} {size n : Nat} {v : Value} {xs : List Value}, W.ownsRow w.heap.size e size v n xs → ∀ i, v.ownBlock = some i → ¬ i < w.heap.size := fun ho i hi h => by have := (ho.lt i hi).1; omega
          exact ⟨⟨Sl.ofOwn (own_fr o1 hV (lo o1)), fun s hs => ((o3 s hs).fr hV (lo (o3 s hs).code) (lo (o3 s hs).foot)).ok⟩, ⟨Sl.ofOwn (own_fr o2 hV (lo o2)), fun s hs => ((o4 s hs).fr hV (lo (o4 s hs).code) (lo (o4 s hs).foot)).ok⟩⟩
        rw [e1]
        exact K7.out.rr.frG hf (fun e => by rcases e with e | e <;> omega) (fun i hi e => by have := HG.out i hi; rcases e with e | e <;> omega))
      have hbX := ((((((K7.out.res.fr (onlyY (X := C) 4 (.bool fb)) (fun e => by have e : w.heap.size = C := e; omega)).put 0 (.string nm)).put 1 (.int .i64 a)).put 2 (.slice sA k sc)).put 3 (.slice uA k uc)).put 4 (.bool fb))
      simp at hbX
      have HbX := Lib.hid hbX
      have hfX : Fr (fun i => i = w.heap.size ∨ i = C) w7 ((((((w7.setCell ⟨C, 4, none⟩ (.bool fb)).setCell ⟨w.heap.size, 0, none⟩ (.string nm)).setCell ⟨w.heap.size, 1, none⟩ (.int .i64 a)).setCell ⟨w.heap.size, 2, none⟩ (.slice sA k sc)).setCell ⟨w.heap.size, 3, none⟩ (.slice uA k uc)).setCell ⟨w.heap.size, 4, none⟩ (.bool fb)) :=
        ((((((Fr.refl (fun i => i = w.heap.size ∨ i = C) w7).setCell (p := ⟨C, 4, none⟩) (.inl (.inr rfl)) _).setCell (p := ⟨w.heap.size, 0, none⟩) (.inl (.inl rfl)) _).setCell (p := ⟨w.heap.size, 1, none⟩) (.inl (.inl rfl)) _).setCell (p := ⟨w.heap.size, 2, none⟩) (.inl (.inl rfl)) _).setCell (p := ⟨w.heap.size, 3, none⟩) (.inl (.inl rfl)) _).setCell (p := ⟨w.heap.size, 4, none⟩) (.inl (.inl rfl)) _
      have HG9 := Lib.hid (HFin.out _ hfX)
      clear hls hK CF r7 f7 hk1 hk2 hcp hca hbX hfX HFin
      go_wp2
      have m0 := HbX.out.cell 0
      have m1 := HbX.out.cell 1
      have m2 := HbX.out.cell 2
      have m3 := HbX.out.cell 3
      have m4 := HbX.out.cell 4
      simp at m0 m1 m2 m3 m4
      exact bodyPost_ret (v := .agg #[.string nm, .int .i64 a, .slice sA k sc, .slice uA k uc, .bool fb]) (by simp [results, Tryz.results79, go_sem, m0, m1, m2, m3, m4]) rfl HG9.out
end Go.Proofs.YtbemfomiiikpoaaGreat
/- Package class: is all right in a reader? -/
namespace Go.Proofs.YtbemfomiiikpoaaGreat
open Go.RowKit

variable {G : Nat → Prop}
set_option maxRecDepth 100000 in
set_option maxHeartbeats 1000000 in
theorem isRight_any (p : Nat) (st : Option (List Nat)) (w : World) (hr : Rdq G w p st) :
    Calls Tryz.prog 80 #[.iface 34 (.pointer (some ⟨p, 0, none⟩))] w fun e w' => e = .returned (.bool st.isSome) ∧ w = w' := by
  have C1 := Lib.hid (qok_any p st w hr)
  have hta : ∀ W : World, (Instr.typeAssert (.iface 34 (.pointer (some ⟨p, 0, none⟩))) 20 147 true).run Tryz.prog W = .ok (.tuple #[.iface 34 (.pointer (some ⟨p, 0, none⟩)), .bool true]) W := fun W => by kernel_rfl
  go_enter Tryz.func80, Tryz.ntmps80
  go_wp2_with fail
  refine (C1.out).mono ?_
  rintro e w' ⟨rfl, rfl⟩
  go_wp2
  go_ret
  exact ⟨rfl, rfl⟩
end Go.Proofs.YtbemfomiiikpoaaGreat
/- Package class: Get. -/
namespace Go.Proofs.YtbemfomiiikpoaaGreat
open Go.RowKit

variable {G : Nat → Prop}
theorem cS_less (st : Option (List Nat)) : cS (-1) st = none := by
  unfold cS
  match st with
  | none => simp [cntR]
  | some [] => simp [cntR]
  | some (n :: r) =>
    have h : ¬ ((n : Int) ≤ -1) := by omega
    simp [cntR, h]
/-- What Get tells: a class that may be, or a zero one. -/
def GotC11 (G : Nat → Prop) (w : World) (p : Nat) (st : Option (List Nat)) (e : Ending) (w' : World) : Prop :=
  ∃ c : Cls, e = .returned (.tuple #[c.agg, .bool (clR st).isSome]) ∧ c.p = ((clR st).map (·.1)).getD PC.zero ∧ (∀ V, Fr (fun i => i < w.heap.size) w' V → c.Ok V) ∧ c.Few ∧ Rdq G w' p ((clR st).map (·.2)) ∧ Fr (Only p) w w'
def Cls.zero : Cls := ⟨⟨#[]⟩, 0, none, [], 0, none, [], 0, false⟩
theorem zero_ok (w : World) : Cls.zero.Ok w := ⟨⟨fun h => absurd rfl h, fun s hs => by cases hs⟩, ⟨fun h => absurd rfl h, fun s hs => by cases hs⟩⟩
theorem zero_few : Cls.zero.Few := ⟨by decide, by decide, fun s hs => (by cases hs), fun s hs => (by cases hs)⟩
theorem zero_p : Cls.zero.p = PC.zero := rfl

/-- The zero class is told. -/
theorem zero_fin {p : Nat} {st : Option (List Nat)} {w W : World} (hb : Bk W w.heap.size 59 #[.string ⟨#[]⟩, .int .i64 0, .slice none 0 0, .slice none 0 0, .bool false]) (hr : Rdq G W p none) (hf : Fr (Only p) w W) (h : clR st = none) (hp : p < w.heap.size) (hG : ∀ k, G k → k < w.heap.size) :
    GotC11 G w p st (.returned (.tuple #[.agg #[.string ⟨#[]⟩, .int .i64 0, .slice none 0 0, .slice none 0 0, .bool false], .bool false])) (((((W.setCell ⟨w.heap.size, 0, none⟩ (.string ⟨#[]⟩)).setCell ⟨w.heap.size, 1, none⟩ (.int .i64 0)).setCell ⟨w.heap.size, 2, none⟩ (.slice none 0 0)).setCell ⟨w.heap.size, 3, none⟩ (.slice none 0 0)).setCell ⟨w.heap.size, 4, none⟩ (.bool false)) ∧ Bk (((((W.setCell ⟨w.heap.size, 0, none⟩ (.string ⟨#[]⟩)).setCell ⟨w.heap.size, 1, none⟩ (.int .i64 0)).setCell ⟨w.heap.size, 2, none⟩ (.slice none 0 0)).setCell ⟨w.heap.size, 3, none⟩ (.slice none 0 0)).setCell ⟨w.heap.size, 4, none⟩ (.bool false)) w.heap.size 59 #[.string ⟨#[]⟩, .int .i64 0, .slice none 0 0, .slice none 0 0, .bool false] := by
  have hbX := ((((hb.put 0 (.string ⟨#[]⟩)).put 1 (.int .i64 0)).put 2 (.slice none 0 0)).put 3 (.slice none 0 0)).put 4 (.bool false)
  simp at hbX
  have hfX : Fr (Only w.heap.size) W (((((W.setCell ⟨w.heap.size, 0, none⟩ (.string ⟨#[]⟩)).setCell ⟨w.heap.size, 1, none⟩ (.int .i64 0)).setCell ⟨w.heap.size, 2, none⟩ (.slice none 0 0)).setCell ⟨w.heap.size, 3, none⟩ (.slice none 0 0)).setCell ⟨w.heap.size, 4, none⟩ (.bool false)) :=
    (((((Fr.refl (Only w.heap.size) W).setCell (p := ⟨w.heap.size, 0, none⟩) (.inl rfl) _).setCell (p := ⟨w.heap.size, 1, none⟩) (.inl rfl) _).setCell (p := ⟨w.heap.size, 2, none⟩) (.inl rfl) _).setCell (p := ⟨w.heap.size, 3, none⟩) (.inl rfl) _).setCell (p := ⟨w.heap.size, 4, none⟩) (.inl rfl) _
  refine ⟨⟨Cls.zero, by rw [h]; rfl, by rw [h]; rfl, fun V _ => zero_ok V, zero_few, ?_, hf.trans' hfX (fun i hi e => by have e : i = w.heap.size := e; omega)⟩, hbX⟩
  rw [h]
  exact hr.frG hfX (fun e => by have e : p = w.heap.size := e; omega) (fun i hi e => by have e : i = w.heap.size := e; have := hG i hi; omega)

set_option maxRecDepth 100000 in
set_option maxHeartbeats 4000000 in
theorem get11_any (p : Nat) (st : Option (List Nat)) (w : World) (hr : Rdq G w p st) (hG : ∀ k, G k → k < w.heap.size) : Calls Tryz.prog 51 #[.pointer (some ⟨p, 0, none⟩)] w (GotC11 G w p st) := by
  have hpl := hr.lt
  have f0 : Fr No w (w.alloc (.cells #[.string ⟨#[]⟩, .int .i64 0, .slice none 0 0, .slice none 0 0, .bool false] 59)) := (Fr.refl _ _).alloc _
  have b0 := Bk.made w 59 #[.string ⟨#[]⟩, .int .i64 0, .slice none 0 0, .slice none 0 0, .bool false]
  have C1 := Lib.hid (getClass_any p st _ (hr.frG f0 (fun e => e) (fun _ _ e => e)) (fun k hk => by have := hG k hk; simp; omega))
  have F0 := Lib.hid (f0.weak (S' := Only p) (fun _ _ h => h.elim))
  have B0 := Lib.hid b0
  have HG := Lib.hid hG
  have HD : Hid (clR st = if (pcR st).ok = true then (fS (clS st)).map fun r => (pcR st, r) else none) := Lib.hid rfl
  clear hr hG f0 b0
  go_enter Tryz.func51, Tryz.ntmps51
  go_wp2_with fail
  refine (C1.out).mono ?_
  rintro e w1 ⟨c, rfl, hcp, hok, r1, f1⟩
  have hfew := (few_of_p hcp).1
  have B1 := Lib.hid (B0.out.fr f1 (fun e => by have e : w.heap.size = p := e; omega))
  have F1 := Lib.hid (F0.out.trans' f1 (fun _ _ h => h))
  have CM := Lib.hid (fun (W : World) (h : Fr No w1 W) => may11_any c W (hok W (h.weak (fun _ _ e => e.elim))) hfew)
  rw [hcp] at CM
  have Hok := Lib.hid hok
  have Hcp := Lib.hid hcp
  have Hfew := Lib.hid hfew
  have f2 : Fr No w1 (w1.alloc (.cells c.cells.toArray 59)) := (Fr.refl _ _).alloc _
  have C2 := Lib.hid (isRight_any p (fS (clS st)) _ (r1.frG f2 (fun e => e) (fun _ _ e => e)))
  have R1 := Lib.hid r1
  have hsz := B1.out.lt
  clear hcp hok hfew r1 f1 f2 C1 B0 F0
  obtain ⟨nm, a, A, ss, sc, U, us, uc, res⟩ := c
  unfold Cls.agg at CM ⊢
  unfold Cls.cells at C2
  simp only at CM C2 ⊢
  obtain ⟨ok, hok⟩ : ∃ b, Hid ((pcR st).ok = b) := ⟨_, Lib.hid rfl⟩
  obtain ⟨s1, hs1⟩ : ∃ z, Hid (fS (clS st) = z) := ⟨_, Lib.hid rfl⟩
  rw [hok.out] at CM
  rw [hs1.out] at C2 R1
  have HD2 : Hid (clR st = if ok = true then s1.map fun r => (pcR st, r) else none) := Lib.hid (by rw [HD.out, hok.out, hs1.out])
  clear HD hs1
  go_wp2_with fail
  refine (C2.out).mono ?_
  rintro e w2 ⟨rfl, hw2⟩
  subst hw2
  have f2 : Fr No w1 (w1.alloc (.cells #[.string nm, .int .i64 a, .slice A ss.length sc, .slice U us.length uc, .bool res] 59)) := (Fr.refl _ _).alloc _
  have B2 := Lib.hid (B1.out.fr f2 (fun e => e))
  have R2 := Lib.hid (R1.out.frG f2 (fun e => e) (fun _ _ e => e))
  have F2 := Lib.hid (F1.out.trans' f2 (fun _ _ h => h.elim))
  have X2 := Lib.hid (Bk.made w1 59 #[.string nm, .int .i64 a, .slice A ss.length sc, .slice U us.length uc, .bool res])
  have D2 := Lib.hid (CM.out _ f2)
  have HF := Lib.hid f2
  clear f2 C2 B1 F1 R1 CM
  cases s1 with
  | none =>
    have Hno : Hid (clR st = none) := Lib.hid (by rw [HD2.out]; cases ok <;> rfl)
    have C3 := Lib.hid (count9 p (-1) none _ R2.out (by omega))
    go_wp2_with fail
    refine (C3.out).mono ?_
    rintro e w3 ⟨rfl, r3, f3⟩
    rw [cS_less] at r3
    have B3 := Lib.hid (B2.out.fr f3 (fun e => by have e : w.heap.size = p := e; omega))
    have R3 := Lib.hid r3
    have F3 := Lib.hid (F2.out.trans' f3 (fun _ _ h => h))
    clear r3 f3 C3 B2 F2 X2
    have HZ := Lib.hid (zero_fin B3.out R3.out F3.out Hno.out hpl HG.out)
    have lz := B3.out.lt
    have z0 := B3.out.frozen 0
    have z1 := B3.out.frozen 1
    have z2 := B3.out.frozen 2
    have z3 := B3.out.frozen 3
    have z4 := B3.out.frozen 4
    have q0 := B3.out.cell 0
    have q1 := B3.out.cell 1
    have q2 := B3.out.cell 2
    have q3 := B3.out.cell 3
    have q4 := B3.out.cell 4
    simp at q0 q1 q2 q3 q4
    go_wp2
    have m0 := HZ.out.2.cell 0
    have m1 := HZ.out.2.cell 1
    have m2 := HZ.out.2.cell 2
    have m3 := HZ.out.2.cell 3
    have m4 := HZ.out.2.cell 4
    simp at m0 m1 m2 m3 m4
    exact bodyPost_ret (v := .tuple #[.agg #[.string ⟨#[]⟩, .int .i64 0, .slice none 0 0, .slice none 0 0, .bool false], .bool false]) (by simp [results, Tryz.results51, go_sem, m0, m1, m2, m3, m4]) rfl HZ.out.1
  | some xs =>
    go_wp2_with fail
    refine (D2.out).mono ?_
    rintro e w3 ⟨rfl, f3⟩
    have B3 := Lib.hid (B2.out.fr f3 (fun e => e))
    have R3 := Lib.hid (R2.out.frG f3 (fun e => e) (fun _ _ e => e))
    have F3 := Lib.hid (F2.out.trans' f3 (fun _ _ h => h.elim))
    have X3 := Lib.hid (X2.out.fr f3 (fun e => e))
    have HF3 := Lib.hid (HF.out.trans' f3 (fun _ _ e => e))
    clear f3 D2 B2 R2 F2 X2 HF
    cases ok
    · have Hno : Hid (clR st = none) := Lib.hid (by rw [HD2.out]; rfl)
      have C3 := Lib.hid (count9 p (-1) (some xs) _ R3.out (by omega))
      go_wp2_with fail
      refine (C3.out).mono ?_
      rintro e w4 ⟨rfl, r4, f4⟩
      rw [cS_less] at r4
      have B4 := Lib.hid (B3.out.fr f4 (fun e => by have e : w.heap.size = p := e; omega))
      have R4 := Lib.hid r4
      have F4 := Lib.hid (F3.out.trans' f4 (fun _ _ h => h))
      clear r4 f4 C3 B3 F3 X3
      have HZ := Lib.hid (zero_fin B4.out R4.out F4.out Hno.out hpl HG.out)
      have lz := B4.out.lt
      have z0 := B4.out.frozen 0
      have z1 := B4.out.frozen 1
      have z2 := B4.out.frozen 2
      have z3 := B4.out.frozen 3
      have z4 := B4.out.frozen 4
      have q0 := B4.out.cell 0
      have q1 := B4.out.cell 1
      have q2 := B4.out.cell 2
      have q3 := B4.out.cell 3
      have q4 := B4.out.cell 4
      simp at q0 q1 q2 q3 q4
      go_wp2
      have m0 := HZ.out.2.cell 0
      have m1 := HZ.out.2.cell 1
      have m2 := HZ.out.2.cell 2
      have m3 := HZ.out.2.cell 3
      have m4 := HZ.out.2.cell 4
      simp at m0 m1 m2 m3 m4
      exact bodyPost_ret (v := .tuple #[.agg #[.string ⟨#[]⟩, .int .i64 0, .slice none 0 0, .slice none 0 0, .bool false], .bool false]) (by simp [results, Tryz.results51, go_sem, m0, m1, m2, m3, m4]) rfl HZ.out.1
    · have Hyes : Hid (clR st = some (pcR st, xs)) := Lib.hid (by rw [HD2.out]; rfl)
      have lz := B3.out.lt
      have lx := X3.out.lt
      have z0 := B3.out.frozen 0
      have z1 := B3.out.frozen 1
      have z2 := B3.out.frozen 2
      have z3 := B3.out.frozen 3
      have z4 := B3.out.frozen 4
      have q0 := B3.out.cell 0
      have q1 := B3.out.cell 1
      have q2 := B3.out.cell 2
      have q3 := B3.out.cell 3
      have q4 := B3.out.cell 4
      have x0 := X3.out.cell 0
      have x1 := X3.out.cell 1
      have x2 := X3.out.cell 2
      have x3 := X3.out.cell 3
      have x4 := X3.out.cell 4
      simp at q0 q1 q2 q3 q4 x0 x1 x2 x3 x4
      have hbX := ((((B3.out.put 0 (.string nm)).put 1 (.int .i64 a)).put 2 (.slice A ss.length sc)).put 3 (.slice U us.length uc)).put 4 (.bool res)
      simp at hbX
      have hfX : Fr (Only w.heap.size) w3 (((((w3.setCell ⟨w.heap.size, 0, none⟩ (.string nm)).setCell ⟨w.heap.size, 1, none⟩ (.int .i64 a)).setCell ⟨w.heap.size, 2, none⟩ (.slice A ss.length sc)).setCell ⟨w.heap.size, 3, none⟩ (.slice U us.length uc)).setCell ⟨w.heap.size, 4, none⟩ (.bool res)) :=
        (((((Fr.refl (Only w.heap.size) w3).setCell (p := ⟨w.heap.size, 0, none⟩) (.inl rfl) _).setCell (p := ⟨w.heap.size, 1, none⟩) (.inl rfl) _).setCell (p := ⟨w.heap.size, 2, none⟩) (.inl rfl) _).setCell (p := ⟨w.heap.size, 3, none⟩) (.inl rfl) _).setCell (p := ⟨w.heap.size, 4, none⟩) (.inl rfl) _
      have HX := Lib.hid hbX
      have HFin : Hid (GotC11 G w p st (.returned (.tuple #[.agg #[.string nm, .int .i64 a, .slice A ss.length sc, .slice U us.length uc, .bool res], .bool true])) (((((w3.setCell ⟨w.heap.size, 0, none⟩ (.string nm)).setCell ⟨w.heap.size, 1, none⟩ (.int .i64 a)).setCell ⟨w.heap.size, 2, none⟩ (.slice A ss.length sc)).setCell ⟨w.heap.size, 3, none⟩ (.slice U us.length uc)).setCell ⟨w.heap.size, 4, none⟩ (.bool res))) := Lib.hid (by
        refine ⟨⟨nm, a, A, ss, sc, U, us, uc, res⟩, by rw [Hyes.out]; rfl, by rw [Hyes.out, Hcp.out]; rfl, fun V hV => Hok.out V ?_, Hfew.out, ?_, F3.out.trans' hfX (fun i hi e => by have e : i = w.heap.size := e; omega)⟩
        · exact ((HF3.out.weak (fun _ _ h => h.elim)).trans' (hfX.weak (fun i _ e => by have e : i = w.heap.size := e; simp; omega)) (fun _ _ h => h)).trans' (hV.weak (fun i _ e => by simp; omega)) (fun _ _ h => h)
        · rw [Hyes.out]
          exact R3.out.frG hfX (fun e => by have e : p = w.heap.size := e; omega) (fun i hi e => by have e : i = w.heap.size := e; have := HG.out i hi; omega))
      clear hbX hfX B3 X3
      go_wp2
      have m0 := HX.out.cell 0
      have m1 := HX.out.cell 1
      have m2 := HX.out.cell 2
      have m3 := HX.out.cell 3
      have m4 := HX.out.cell 4
      simp at m0 m1 m2 m3 m4
      exact bodyPost_ret (v := .tuple #[.agg #[.string nm, .int .i64 a, .slice A ss.length sc, .slice U us.length uc, .bool res], .bool true]) (by simp [results, Tryz.results51, go_sem, m0, m1, m2, m3, m4]) rfl HFin.out
end Go.Proofs.YtbemfomiiikpoaaGreat
