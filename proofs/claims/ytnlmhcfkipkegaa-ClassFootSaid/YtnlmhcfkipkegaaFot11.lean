/- Package class: Foot. -/
import Derived.Test.YtnlmhcfkipkegaaMy11
import Derived.Test.YtnlmhcfkipkegaaCov10
import Derived.Test.YtnlmhcfkipkegaaRft11
namespace Go.Proofs.Ytnlmhcfkipkegaa
open Go.RowKit

/-- Has a class plain lists for arguments? -/
def goodB (c : PC) (gs : List Int) : Bool := c.ok && (decide ((gs.length : Int) = c.args) && argsOk gs)
def footsP (fl : Bool) (gs : List Int) (l : List Stp) : List Span := plainOf (footsOf fl gs l)
theorem footsP_nil (fl : Bool) (gs : List Int) : footsP fl gs [] = [] := by
  unfold footsP
  apply List.eq_nil_of_length_eq_zero
  have h := plainOf_empty (footsOf fl gs [])
  have h2 : ¬ ∃ k, k < 1000 ∧ footsOf fl gs [] k = true := by rintro ⟨k, -, hk⟩; simp [footsOf] at hk
  exact Nat.eq_zero_of_not_pos (fun hp => h2 (h.1 hp))
theorem uni_plain (f g : Nat → Bool) : (plainOf fun k => keysOf (plainOf f) k || keysOf (plainOf g) k) = plainOf fun k => f k || g k := plainOf_congr (fun k hk => by rw [keysOf_plain f k hk, keysOf_plain g k hk])
theorem footsP_next {fl : Bool} {gs : List Int} {l : List Stp} {k : Nat} (hk : k < l.length) : (plainOf fun i => keysOf (footsP fl gs (l.take k)) i || keysOf (plainOf (keysOf (chosen fl gs l[k].foot))) i) = footsP fl gs (l.take (k + 1)) := by
  unfold footsP
  rw [uni_plain, List.take_succ_eq_append_getElem hk, footsOf_snoc]
theorem footsP_len (fl : Bool) (gs : List Int) (l : List Stp) : (footsP fl gs l).length ≤ 1000 := plainTo_len _ 1000
/-- The steps of a class that may be are right for arguments that may be. -/
theorem step_right {c : Cls} {gs : List Int} (h : goodB c.p gs = true) : ∀ s ∈ c.steps, footRight s.foot gs = true := by
  unfold goodB at h
  simp only [Bool.and_eq_true, decide_eq_true_eq] at h
  obtain ⟨h1, h2, h3⟩ := h
  unfold PC.ok Cls.p at h1
  simp only [Bool.and_eq_true, decide_eq_true_eq, List.length_map, List.all_eq_true] at h1
  obtain ⟨-, -, -, h4, h5⟩ := h1
  intro s hs
  obtain ⟨i, hi, rfl⟩ := List.getElem_of_mem hs
  have h6 : (c.steps[i].p, (c.comps[i]'(by omega)).p) ∈ (c.steps.map Stp.p).zip (c.comps.map Stp.p) := by
    rw [List.zip_map]
    refine List.mem_map.2 ⟨(c.steps[i], c.comps[i]'(by omega)), ?_, rfl⟩
    have h7 : i < (c.steps.zip c.comps).length := by rw [List.length_zip]; omega
    have := List.getElem_mem h7
    rwa [List.getElem_zip] at this
  have h8 := h5 _ h6
  unfold pairOk at h8
  simp only [Bool.and_eq_true] at h8
  unfold footRight
  rw [h3, h2]
  exact h8.2.1
theorem ok_steps {c : Cls} (h : c.p.ok = true) : 1 ≤ c.steps.length ∧ c.steps.length ≤ 4 := by
  unfold PC.ok Cls.p at h
  simp only [Bool.and_eq_true, decide_eq_true_eq, List.length_map] at h
  exact h.2.2.1
/-- What Foot tells (g: has it plain lists?). -/
def FootTo (g : Bool) (w : World) (gs : List Int) (l : List Stp) (e : Ending) (w' : World) : Prop :=
  Fr No w w' ∧ ((g = false ∧ e = .returned (.tuple #[.slice none 0 0, .slice none 0 0])) ∨
    (g = true ∧ ∃ A c1 B c2, e = .returned (.tuple #[.slice A (footsP false gs l).length c1, .slice B (footsP true gs l).length c2]) ∧ Sl w' w'.heap.size A (sps (footsP false gs l)) ∧ Sl w' w'.heap.size B (sps (footsP true gs l))))

set_option maxRecDepth 100000 in
set_option maxHeartbeats 4000000 in
theorem foot11_any (c : Cls) (gs : List Int) (A2 : Option Addr) (N c2 : Nat) (w : World) (hc : c.Ok w) (hf : c.Few) (hs2 : Sl w w.heap.size A2 (ints gs)) (hN : gs.length = N) (hNm : N ≤ 1099511627776) :
    Calls Try.prog 13 #[c.agg, .slice A2 N c2] w (FootTo (goodB c.p gs) w gs c.steps) := by
  have CM := Lib.hid (fun (W : World) (h : Fr No w W) => may11_any c W (hc.since h) hf)
  have HR := Lib.hid (fun h => step_right (c := c) (gs := gs) h)
  have HO := Lib.hid (fun h => ok_steps (c := c) h)
  have HG : Hid (goodB c.p gs = (c.p.ok && (decide ((gs.length : Int) = c.args) && argsOk gs))) := Lib.hid rfl
  have HS := Lib.hid (fun (W : World) (h : Fr No w W) => hc.steps.since h)
  have Hs2 := Lib.hid hs2
  have HN := Lib.hid hN
  have Hfi := Lib.hid hf.ins
  rw [hN] at HG
  generalize goodB c.p gs = g at *
  generalize c.p.ok = ok at *
  obtain ⟨nm, a, A, ss, sc, U, us, uc, res⟩ := c
  unfold Cls.agg at CM ⊢
  simp only at *
  obtain ⟨n, hn⟩ : ∃ n, Hid (n = ss.length) := ⟨_, Lib.hid rfl⟩
  rw [← hn.out] at CM HO ⊢
  generalize us.length = m at *
  have f0 : Fr No w (w.alloc (.cells #[.string nm, .int .i64 a, .slice A n sc, .slice U m uc, .bool res] 31)) := (Fr.refl _ _).alloc _
  have HB := Lib.hid (Bk.made w 31 #[.string nm, .int .i64 a, .slice A n sc, .slice U m uc, .bool res])
  have C1 := Lib.hid (CM.out _ f0)
  have F0 := Lib.hid f0
  clear hc hf hs2 hN f0 CM
  cases ok
  · have hg : g = false := by rw [HG.out]; rfl
    subst hg
    go_enter Try.func13, Try.ntmps13
    go_wp2_with fail
    refine (C1.out).mono ?_
    rintro e w1 ⟨rfl, f1⟩
    go_wp2
    go_ret2
    exact ⟨F0.out.trans' f1 (fun _ _ e => e), .inl ⟨rfl, rfl⟩⟩
  obtain ⟨hn1, hn4⟩ := HO.out rfl
  by_cases hna : (N : Int) = a
  case neg =>
    have hg : g = false := by rw [HG.out, decide_eq_false hna]; rfl
    have q1 : ((N : Int) != a) = true := by simpa using hna
    subst hg
    clear hna
    go_enter Try.func13, Try.ntmps13
    go_wp2_with fail
    refine (C1.out).mono ?_
    rintro e w1 ⟨rfl, f1⟩
    have b1 := HB.out.fr f1 (fun e => e)
    have y1 := b1.cell 1
    have l1 := b1.lt
    simp at y1
    go_wp2
    go_ret2
    exact ⟨F0.out.trans' f1 (fun _ _ e => e), .inl ⟨rfl, rfl⟩⟩
  have q1 : ((N : Int) != a) = false := by simpa using hna
  have HG2 : Hid (g = argsOk gs) := Lib.hid (by rw [HG.out, decide_eq_true hna]; rfl)
  clear hna HG
  have HSp := Lib.hid (fun (W : World) (h : Fr No w W) (s : Stp) (hs : s ∈ ss) => spans_any s.foot gs s.fA A2 s.foot.length s.fc N c2 W ((HS.out W h).all s hs).foot rfl (Hfi.out s hs).2 (Hs2.out.since h) HN.out hNm)
  cases g
  · go_enter Try.func13, Try.ntmps13
    go_wp2_with fail
    refine (C1.out).mono ?_
    rintro e w1 ⟨rfl, f1⟩
    have b1 := HB.out.fr f1 (fun e => e)
    have y1 := b1.cell 1
    have y2 := b1.cell 2
    have l1 := b1.lt
    simp at y1 y2
    have F1 := Lib.hid (F0.out.trans' f1 (fun _ _ e => e))
    clear f1 b1 C1 HB
    go_wp2
    obtain ⟨k, hk0⟩ : ∃ k : Nat, Hid (k = 0) := ⟨0, Lib.hid rfl⟩
    go_loopw [6, 7, 26] (fun rv wv iv wr => rv = .slice none 0 0 ∧ wv = .slice none 0 0 ∧ iv = .int .i64 (k : Int) ∧ wr = w1) (fun _ _ _ _ => 0)
    case atStart => exact ⟨rfl, rfl, by rw [hk0.out]; rfl, rfl⟩
    case round =>
      obtain ⟨rfl, rfl, rfl, rfl⟩ := hrel
      have hkl : k < ss.length := by rw [← hn.out, hk0.out]; omega
      obtain ⟨ad, e1, hab, c0, c1⟩ := (HS.out _ F1.out).sl.stp (k := k) hkl
      have hmem := List.getElem_mem hkl
      have hr0 : footRight ss[k].foot gs = false := by unfold footRight; rw [← HG2.out]; rfl
      have Hr0 := Lib.hid hr0
      have Hmem := Lib.hid hmem
      generalize ss[k] = s at *
      obtain ⟨sA, sl, sc', fA, sf, fc⟩ := s
      subst e1
      dsimp only at c0 c1 hr0
      have fb := (Fr.refl No wr).alloc (.cells #[.slice sA sl.length sc', .slice fA sf.length fc] 55)
      have D1 := Lib.hid (HSp.out _ (F1.out.trans' fb (fun _ _ e => e)) _ Hmem.out)
      have Fb := Lib.hid fb
      dsimp only at D1
      clear hmem hr0 fb y1 y2
      have hn0 : ((k : Nat) : Int) < (n : Int) := by rw [hk0.out]; omega
      go_wp2_with fail
      refine (D1.out).mono ?_
      rintro e w2 ⟨f2, h2⟩
      rcases h2 with ⟨-, rfl⟩ | ⟨h2, -⟩
      · go_wp2
        go_ret2
        exact ⟨(F1.out.trans' Fb.out (fun _ _ e => e)).trans' f2 (fun _ _ e => e), .inl ⟨rfl, rfl⟩⟩
      · have h3 := Hr0.out
        try dsimp only at h3
        rw [h2] at h3
        cases h3
  · have HR2 := Lib.hid (HR.out rfl)
    go_enter Try.func13, Try.ntmps13
    go_wp2_with fail
    refine (C1.out).mono ?_
    rintro e w1 ⟨rfl, f1⟩
    have b1 := HB.out.fr f1 (fun e => e)
    have y1 := b1.cell 1
    have y2 := b1.cell 2
    have l1 := b1.lt
    simp at y1 y2
    have F1 := Lib.hid (F0.out.trans' f1 (fun _ _ e => e))
    clear f1 b1 C1 HB
    go_wp2
    go_loopw [6, 7, 26] (fun rv wv iv wr => ∃ (k : Nat) (B1 : Option Addr) (d1 : Nat) (B2 : Option Addr) (d2 x1 x2 : Nat), k ≤ n ∧ iv = .int .i64 k ∧ rv = .slice B1 x1 d1 ∧ wv = .slice B2 x2 d2 ∧ Hid (x1 = (footsP false gs (ss.take k)).length ∧ x2 = (footsP true gs (ss.take k)).length) ∧ Hid (Sl wr wr.heap.size B1 (sps (footsP false gs (ss.take k))) ∧ Sl wr wr.heap.size B2 (sps (footsP true gs (ss.take k)))) ∧ Hid (Fr No w wr)) (fun _ _ iv _ => n - (intOf iv).toNat)
    case atStart => exact ⟨0, none, 0, none, 0, 0, 0, Nat.zero_le _, rfl, rfl, rfl, Lib.hid (by rw [List.take_zero, footsP_nil, footsP_nil]; exact ⟨rfl, rfl⟩), Lib.hid (by rw [List.take_zero, footsP_nil, footsP_nil]; exact ⟨fun h => absurd rfl h, fun h => absurd rfl h⟩), F1⟩
    case round =>
      obtain ⟨k, B1, d1, B2, d2, x1, x2, hk, rfl, rfl, rfl, hx, hsl, hfr⟩ := hrel
      by_cases hlt : k < n
      · have hkl : k < ss.length := by rw [← hn.out]; exact hlt
        obtain ⟨ad, e1, hab, c0, c1⟩ := (HS.out _ hfr.out).sl.stp (k := k) hkl
        have hmem := List.getElem_mem hkl
        have hr0 := HR2.out _ hmem
        have Hr0 := Lib.hid hr0
        have Hmem := Lib.hid hmem
        have HU1 := Lib.hid (footsP_next (fl := false) (gs := gs) hkl)
        have HU2 := Lib.hid (footsP_next (fl := true) (gs := gs) hkl)
        have L1 := Lib.hid (plainTo_len (keysOf (chosen false gs ss[k].foot)) 1000)
        have L2 := Lib.hid (plainTo_len (keysOf (chosen true gs ss[k].foot)) 1000)
        have L3 := Lib.hid (footsP_len false gs (ss.take k))
        have L4 := Lib.hid (footsP_len true gs (ss.take k))
        generalize ss[k] = s at *
        obtain ⟨R1, hR1⟩ : ∃ R, Hid (R = footsP false gs (ss.take (k + 1))) := ⟨_, Lib.hid rfl⟩
        obtain ⟨R2, hR2⟩ : ∃ R, Hid (R = footsP true gs (ss.take (k + 1))) := ⟨_, Lib.hid rfl⟩
        rw [← hR1.out] at HU1
        rw [← hR2.out] at HU2
        generalize footsP false gs (ss.take k) = P1 at *
        generalize footsP true gs (ss.take k) = P2 at *
        obtain ⟨sA, sl, sc', fA, sf, fc⟩ := s
        subst e1
        dsimp only at c0 c1 hr0
        have fb := (Fr.refl No wr).alloc (.cells #[.slice sA sl.length sc', .slice fA sf.length fc] 55)
        have D1 := Lib.hid (HSp.out _ (hfr.out.trans' fb (fun _ _ e => e)) _ Hmem.out)
        have Fb := Lib.hid fb
        dsimp only at D1 HU1 HU2 L1 L2
        clear hmem hr0 fb
        go_wp2_with fail
        refine (D1.out).mono ?_
        rintro e w2 ⟨f2, h2⟩
        rcases h2 with ⟨h2, -⟩ | ⟨-, C1', e1', C2', e2', rfl, s1, s2⟩
        · have h3 := Hr0.out
          try dsimp only at h3
          rw [h2] at h3
          cases h3
        obtain ⟨z1, hz1⟩ : ∃ z, Hid (z = plainOf (keysOf (chosen false gs sf))) := ⟨_, Lib.hid rfl⟩
        obtain ⟨z2, hz2⟩ : ∃ z, Hid (z = plainOf (keysOf (chosen true gs sf))) := ⟨_, Lib.hid rfl⟩
        rw [← hz1.out] at s1 HU1 ⊢
        rw [← hz2.out] at s2 HU2 ⊢
        have l1' : z1.length ≤ 1048576 := by rw [hz1.out]; exact Nat.le_trans L1.out (by omega)
        have l2' : z2.length ≤ 1048576 := by rw [hz2.out]; exact Nat.le_trans L2.out (by omega)
        have fw := Fb.out.trans' f2 (fun _ _ e => e)
        have D2 := Lib.hid (kUnion_any P1 z1 B1 C1' x1 d1 z1.length e1' w2 ⟨hsl.out.1.since fw, hx.out.1.symm, by have := L3.out; have := hx.out.1; omega⟩ ⟨s1, rfl, l1'⟩)
        rw [HU1.out] at D2
        have FW := Lib.hid (hfr.out.trans' fw (fun _ _ e => e))
        have T2 := Lib.hid (And.intro (hsl.out.2.since fw) s2)
        clear c0 c1 s1 s2 f2 fw D1
        go_wp2_with fail
        refine (D2.out).mono ?_
        rintro e w3 ⟨A3, c3, rfl, s3, f3⟩
        have D3 := Lib.hid (kUnion_any P2 z2 B2 C2' x2 d2 z2.length e2' w3 ⟨T2.out.1.since f3, hx.out.2.symm, by have := L4.out; have := hx.out.2; omega⟩ ⟨T2.out.2.since f3, rfl, l2'⟩)
        rw [HU2.out] at D3
        have S3 := Lib.hid s3
        have F3 := Lib.hid (FW.out.trans' f3 (fun _ _ e => e))
        clear s3 f3 D2 T2
        go_wp2_with fail
        refine (D3.out).mono ?_
        rintro e w4 ⟨A4, c4, rfl, s4, f4⟩
        have S4 := Lib.hid (And.intro (S3.out.since f4) s4)
        have F4 := Lib.hid (F3.out.trans' f4 (fun _ _ e => e))
        clear s4 f4 D3 S3 F3
        go_wp2
        go_roundw
        case rel => exact ⟨k + 1, A3, c3, A4, c4, R1.length, R2.length, by omega, by go_num, rfl, rfl, Lib.hid (by rw [← hR1.out, ← hR2.out]; exact ⟨rfl, rfl⟩), by rw [← hR1.out, ← hR2.out]; exact S4, F4⟩
        case measure => simp [intOf]; omega
      · obtain rfl : k = n := by omega
        have hall : ss.take k = ss := List.take_of_length_le (by rw [← hn.out]; exact Nat.le_refl _)
        rw [hall] at hx hsl
        obtain ⟨rfl, rfl⟩ := hx.out
        go_wp2
        go_ret2
        exact ⟨hfr.out, .inr ⟨rfl, B1, d1, B2, d2, rfl, hsl.out.1, hsl.out.2⟩⟩
end Go.Proofs.Ytnlmhcfkipkegaa
