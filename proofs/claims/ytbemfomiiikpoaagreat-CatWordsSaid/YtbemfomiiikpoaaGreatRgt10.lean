/- What package prog reads as a template, an instruction and a program. -/
import Derived.Test.YtbemfomiiikpoaaGreatRrd9
namespace Go.Proofs.YtbemfomiiikpoaaGreat
open Go.RowKit

section
variable {G : Nat → Prop}
theorem Rdd.to {w : World} {p : Nat} {st : Option (List Nat)} {v : Value} {e : Ending} {w' : World} (h : Rdd G w p st v e w') : e = .returned v ∧ Rdq G w' p st ∧ Fr (Only p) w w' := h
/-- What a call that reads leaves and tells: what was read, where it was right. -/
def Got {α : Type} (G : Nat → Prop) (w : World) (p : Nat) (o : Option (α × List Nat)) (f : α → Value) (e : Ending) (w' : World) : Prop :=
  ∃ x : α, e = .returned (f x) ∧ (∀ q, o = some q → q.1 = x) ∧ Rdq G w' p (o.map (·.2)) ∧ Fr (Only p) w w'
theorem Got.set {α : Type} {w w3 w4 : World} {p X : Nat} {o : Option (α × List Nat)} {f : α → Value} {e : Ending} (h : Got G w p o f e w3) (hf : Fr (Only X) w3 w4) (hX : w.heap.size ≤ X) (hp : p < w.heap.size) (hG : ∀ k, G k → k < w.heap.size) : Got G w p o f e w4 := by
  obtain ⟨x, h1, h2, h3, h4⟩ := h
  refine ⟨x, h1, h2, h3.frG hf (fun e => ?_) (fun k hk e => ?_), h4.trans' hf (fun i hi e => ?_)⟩
  · have e : p = X := e
    omega
  · have e : k = X := e
    have := hG k hk
    omega
  · have e : i = X := e
    omega
theorem count9 (p : Nat) (m : Int) (st : Option (List Nat)) (w : World) (hr : Rdq G w p st) (hm : -9223372036854775808 ≤ m ∧ m < 9223372036854775808) :
    Calls Tryz.prog 28 #[.pointer (some ⟨p, 0, none⟩), .int .i64 m] w (Rdd G w p (cS m st) (.int .i64 (cV m st))) := qcount_any p m st w hr hm
theorem signed9 (p : Nat) (st : Option (List Nat)) (w : World) (hr : Rdq G w p st) :
    Calls Tryz.prog 136 #[.pointer (some ⟨p, 0, none⟩)] w (Rdd G w p (gS st) (.int .i64 (gV st))) := qsigned_any p st w hr

set_option maxHeartbeats 400000 in
theorem fitting_any (a : Int) (p : Nat) (st : Option (List Nat)) (w : World) (hr : Rdq G w p st) :
    Calls Tryz.prog 138 #[.int .i64 a, .func (.func 28) #[.pointer (some ⟨p, 0, none⟩)] #[]] w (Rdd G w p (if far9 a then none else st) (.int .i64 (if far9 a then 0 else a))) := by
  by_cases h1 : a < -1
  · have d1 : decide (a < -1) = true := by simpa using h1
    have hf : far9 a := .inl h1
    have e1 : cS (-1) st = none := by rw [cS, cntR_neg]; rfl
    have e2 : cV (-1) st = 0 := by rw [cV, cntR_neg]; rfl
    have C := count9 p (-1) st w hr (by omega)
    rw [e1, e2] at C
    rw [if_pos hf, if_pos hf]
    clear hf e1 e2
    go_enter Tryz.func138, Tryz.ntmps138
    go_wp2_with fail
    refine C.mono ?_
    rintro e w1 ⟨rfl, q1, q2⟩
    go_wp2
    go_ret
    exact ⟨rfl, q1, q2⟩
  · have d1 : decide (a < -1) = false := by simpa using h1
    by_cases h2 : 255 < a
    · have d2 : decide (255 < a) = true := by simpa using h2
      have hf : far9 a := .inr h2
      have e1 : cS (-1) st = none := by rw [cS, cntR_neg]; rfl
      have e2 : cV (-1) st = 0 := by rw [cV, cntR_neg]; rfl
      have C := count9 p (-1) st w hr (by omega)
      rw [e1, e2] at C
      rw [if_pos hf, if_pos hf]
      clear hf e1 e2
      go_enter Tryz.func138, Tryz.ntmps138
      go_wp2_with fail
      refine C.mono ?_
      rintro e w1 ⟨rfl, q1, q2⟩
      go_wp2
      go_ret
      exact ⟨rfl, q1, q2⟩
    · have d2 : decide (255 < a) = false := by simpa using h2
      have hf : ¬ far9 a := by unfold far9; omega
      rw [if_neg hf, if_neg hf]
      clear hf
      go_enter Tryz.func138, Tryz.ntmps138
      go_wp2
      go_ret
      exact ⟨rfl, hr, Fr.refl _ _⟩

set_option maxHeartbeats 1000000 in
theorem getKey_any (p : Nat) (st : Option (List Nat)) (w : World) (hr : Rdq G w p st) (hG : ∀ k, G k → k < w.heap.size) : Calls Tryz.prog 135 #[.pointer (some ⟨p, 0, none⟩)] w (Got G w p (keyR st) kcell) := by
  have hf0 : Fr No w (w.alloc (.cells #[.int .i64 0, .int .i64 0] 50)) := (Fr.refl _ _).alloc _
  have hr0 := hr.fr hf0 (fun e => e) (fun _ e => e.elim)
  have hpl := hr.lt
  have C1 := Lib.hid (signed9 p st _ hr0)
  have Hk : Hid (keyR st = if far9 (gV st) then none else (cntR 999 (gS st)).map fun q => ((gV st, (q.1 : Int)), q.2)) := Lib.hid rfl
  have hmf : ∀ (fn : Fn) (first cap : Array Value) (w : World), (Instr.makeFunc fn first cap).run Tryz.prog w = .ok (.func fn first cap) w := fun _ _ _ _ => rfl
  clear hr hr0
  generalize gV st = a at *
  generalize gS st = s1 at *
  go_enter Tryz.func135, Tryz.ntmps135
  go_wp2_with fail
  refine (C1.out).mono ?_
  rintro e w1 ⟨rfl, hr1, hf1⟩
  have hC2 := fitting_any a p s1 w1 hr1
  obtain ⟨s2, hs2⟩ : ∃ s2, s2 = if far9 a then none else s1 := ⟨_, rfl⟩
  obtain ⟨a2, ha2⟩ : ∃ a2, a2 = if far9 a then 0 else a := ⟨_, rfl⟩
  rw [← hs2, ← ha2] at hC2
  have C2 := Lib.hid hC2
  have Hs2 := Lib.hid hs2
  have Ha2 := Lib.hid ha2
  clear hr1 hC2 hs2 ha2
  go_wp2_with fail
  refine (C2.out).mono ?_
  rintro e w2 ⟨rfl, hr2, hf2⟩
  have C3 := Lib.hid (count9 p 999 _ w2 hr2 (by omega))
  clear hr2 C2
  go_wp2_with fail
  refine (C3.out).mono ?_
  rintro e w3 ⟨rfl, hr3, hf3⟩
  have hfw : Fr (Only p) w w3 := (((hf0.weak (fun _ _ h => h.elim)).trans' hf1 (fun _ _ h => h)).trans' hf2 (fun _ _ h => h)).trans' hf3 (fun _ _ h => h)
  have hlt3 : w.heap.size < w3.heap.size := by have h1 := hf1.size; have h2 := hf2.size; have h3 := hf3.size; simp at h1; omega
  have hb3 : Bk w3 w.heap.size 50 #[.int .i64 0, .int .i64 0] := (((Bk.made w _ _).fr hf1 (by simp [Only]; omega)).fr hf2 (by simp [Only]; omega)).fr hf3 (by simp [Only]; omega)
  have hz0 := hb3.frozen 0
  have hz1 := hb3.frozen 1
  have k0 := hb3.cell 0
  have k1 := hb3.cell 1
  simp at k0 k1
  have Hr3 := Lib.hid hr3
  clear hr3 C3 C1
  obtain ⟨b, hb⟩ : ∃ b, Hid (b = cV 999 s2) := ⟨_, Lib.hid rfl⟩
  rw [← hb.out]
  have hend : Got G w p (keyR st) kcell (.returned (.agg #[.int .i64 a2, .int .i64 b])) w3 := by
    have h3 := Hr3.out
    by_cases h : far9 a
    · have e2 : s2 = none := by rw [Hs2.out, if_pos h]
      refine ⟨(a2, b), rfl, fun q hq => ?_, ?_, hfw⟩
      · rw [Hk.out, if_pos h] at hq
        cases hq
      · rw [Hk.out, if_pos h]
        rw [e2] at h3
        exact h3
    · have e2 : s2 = s1 := by rw [Hs2.out, if_neg h]
      have e3 : a2 = a := by rw [Ha2.out, if_neg h]
      refine ⟨(a2, b), rfl, fun q hq => ?_, ?_, hfw⟩
      · rw [Hk.out, if_neg h, ← e2] at hq
        cases h5 : cntR 999 s2 with
        | none => rw [h5] at hq; cases hq
        | some y =>
          rw [h5] at hq
          simp only [Option.map_some, Option.some.injEq] at hq
          rw [← hq, e3, hb.out, cV, h5]
          rfl
      · rw [Hk.out, if_neg h, ← e2, Option.map_map]
        exact h3
  have hb4 := (hb3.put 0 (.int .i64 a2)).put 1 (.int .i64 b)
  have m0 := hb4.cell 0
  have m1 := hb4.cell 1
  simp at m0 m1
  have hf4 : Fr (Only w.heap.size) w3 ((w3.setCell ⟨w.heap.size, 0, none⟩ (.int .i64 a2)).setCell ⟨w.heap.size, 1, none⟩ (.int .i64 b)) := ((Fr.refl (Only w.heap.size) w3).setCell (p := ⟨w.heap.size, 0, none⟩) (.inl rfl) _).setCell (p := ⟨w.heap.size, 1, none⟩) (.inl rfl) _
  have Hfin := Lib.hid (hend.set hf4 (Nat.le_refl _) hpl hG)
  go_wp2
  exact bodyPost_ret (v := .agg #[.int .i64 a2, .int .i64 b]) (by simp [results, Tryz.results135, go_sem, m0, m1]) rfl Hfin.out
theorem kS_some {s : Option (List Nat)} (h : (kS s).isSome = true) : ∃ y, keyR s = some y ∧ kV s = y.1 := by
  unfold kS at h
  unfold kV
  cases h1 : keyR s with
  | none => rw [h1] at h; cases h
  | some y => exact ⟨y, rfl, rfl⟩
theorem keyR_none : keyR none = none := rfl
/-- What an instruction is, of its parts. -/
theorem insR_parts {st s1 s2 s3 s4 s5 s6 : Option (List Nat)} (h1 : s1 = cS 255 st) (h2 : s2 = cS 255 s1) (h3 : s3 = cS 255 s2) (h4 : s4 = cS 255 s3) (h5 : s5 = kS s4) (h6 : s6 = kS s5) {x y : Int × Int} (hx : ∀ q, keyR s4 = some q → q.1 = x) (hy : ∀ q, keyR s5 = some q → q.1 = y) :
    (insR st).map (·.2) = gS s6 ∧ ∀ q, insR st = some q → q.1 = ⟨cV 255 st, cV 255 s1, cV 255 s2, cV 255 s3, x.1, x.2, y.1, y.2, gV s6⟩ := by
  have e : insR st = (sgnR s6).map fun q => (⟨cV 255 st, cV 255 s1, cV 255 s2, cV 255 s3, (kV s4).1, (kV s4).2, (kV s5).1, (kV s5).2, q.1⟩, q.2) := by
    rw [h6, h5, h4, h3, h2, h1]
    rfl
  refine ⟨by rw [e, Option.map_map]; rfl, fun q hq => ?_⟩
  rw [e] at hq
  cases h7 : sgnR s6 with
  | none => rw [h7] at hq; cases hq
  | some z =>
    rw [h7] at hq
    simp only [Option.map_some, Option.some.injEq] at hq
    have n6 : s6.isSome = true := by
      cases s6 with
      | none => cases h7
      | some _ => rfl
    rw [h6] at n6
    obtain ⟨y5, g1, g2⟩ := kS_some n6
    have n5 : s5.isSome = true := by
      cases s5 with
      | none => rw [keyR_none] at g1; cases g1
      | some _ => rfl
    rw [h5] at n5
    obtain ⟨y4, g3, g4⟩ := kS_some n5
    rw [← hq, g2, g4, hx y4 g3, hy y5 g1, gV, h7]
    rfl

set_option maxHeartbeats 2000000 in
theorem getInstr_any (p : Nat) (st : Option (List Nat)) (w : World) (hr : Rdq G w p st) (hG : ∀ k, G k → k < w.heap.size) : Calls Tryz.prog 126 #[.pointer (some ⟨p, 0, none⟩)] w (Got G w p (insR st) Ins.agg) := by
  have hf0 : Fr No w (w.alloc (.cells #[.int .i64 0, .int .i64 0, .int .i64 0, .int .i64 0, .int .i64 0, .int .i64 0, .int .i64 0, .int .i64 0, .int .i64 0] 52)) := (Fr.refl _ _).alloc _
  have hb0 := Bk.made w 52 #[.int .i64 0, .int .i64 0, .int .i64 0, .int .i64 0, .int .i64 0, .int .i64 0, .int .i64 0, .int .i64 0, .int .i64 0]
  have hr0 := Lib.hid (hr.fr hf0 (fun e => e) (fun _ e => e.elim))
  have hpl := hr.lt
  have Hb0 := Lib.hid hb0
  clear hr hb0
  go_enter Tryz.func126, Tryz.ntmps126
  go_wp2_with fail
  refine (count9 p 255 st _ hr0.out (by omega)).mono ?_
  rintro e w1 ⟨rfl, q1, f1⟩
  obtain ⟨s1, h1⟩ : ∃ s1, Hid (s1 = cS 255 st) := ⟨_, Lib.hid rfl⟩
  obtain ⟨v1, g1⟩ : ∃ v, Hid (v = cV 255 st) := ⟨_, Lib.hid rfl⟩
  rw [← h1.out] at q1
  rw [← g1.out]
  have Q1 := Lib.hid q1
  have F1 : Hid (Fr (Only p) w w1) := Lib.hid ((hf0.weak (fun _ _ h => h.elim)).trans' f1 (fun _ _ h => h))
  have B1 := Lib.hid (Hb0.out.fr f1 (by simp [Only]; omega))
  clear q1 f1
  go_wp2_with fail
  refine (count9 p 255 s1 _ Q1.out (by omega)).mono ?_
  rintro e w2 ⟨rfl, q1, f1⟩
  obtain ⟨s2, h2⟩ : ∃ s2, Hid (s2 = cS 255 s1) := ⟨_, Lib.hid rfl⟩
  obtain ⟨v2, g2⟩ : ∃ v, Hid (v = cV 255 s1) := ⟨_, Lib.hid rfl⟩
  rw [← h2.out] at q1
  rw [← g2.out]
  have Q2 := Lib.hid q1
  have F2 : Hid (Fr (Only p) w w2) := Lib.hid (F1.out.trans' f1 (fun _ _ h => h))
  have B2 := Lib.hid (B1.out.fr f1 (by simp [Only]; omega))
  clear q1 f1
  go_wp2_with fail
  refine (count9 p 255 s2 _ Q2.out (by omega)).mono ?_
  rintro e w3 ⟨rfl, q1, f1⟩
  obtain ⟨s3, h3⟩ : ∃ s3, Hid (s3 = cS 255 s2) := ⟨_, Lib.hid rfl⟩
  obtain ⟨v3, g3⟩ : ∃ v, Hid (v = cV 255 s2) := ⟨_, Lib.hid rfl⟩
  rw [← h3.out] at q1
  rw [← g3.out]
  have Q3 := Lib.hid q1
  have F3 : Hid (Fr (Only p) w w3) := Lib.hid (F2.out.trans' f1 (fun _ _ h => h))
  have B3 := Lib.hid (B2.out.fr f1 (by simp [Only]; omega))
  clear q1 f1
  go_wp2_with fail
  refine (count9 p 255 s3 _ Q3.out (by omega)).mono ?_
  rintro e w4 ⟨rfl, q1, f1⟩
  obtain ⟨s4, h4⟩ : ∃ s4, Hid (s4 = cS 255 s3) := ⟨_, Lib.hid rfl⟩
  obtain ⟨v4, g4⟩ : ∃ v, Hid (v = cV 255 s3) := ⟨_, Lib.hid rfl⟩
  rw [← h4.out] at q1
  rw [← g4.out]
  have Q4 := Lib.hid q1
  have F4 : Hid (Fr (Only p) w w4) := Lib.hid (F3.out.trans' f1 (fun _ _ h => h))
  have B4 := Lib.hid (B3.out.fr f1 (by simp [Only]; omega))
  clear q1 f1
  go_wp2_with fail
  refine (getKey_any p s4 _ Q4.out (fun k hk => Nat.lt_of_lt_of_le (hG k hk) F4.out.size)).mono ?_
  rintro e w5 ⟨x5, rfl, hx, q1, f1⟩
  obtain ⟨s5, h5⟩ : ∃ s5, Hid (s5 = kS s4) := ⟨_, Lib.hid rfl⟩
  have q1 : Rdq G w5 p s5 := by rw [h5.out]; exact q1
  have Q5 := Lib.hid q1
  have Hx := Lib.hid hx
  have F5 : Hid (Fr (Only p) w w5) := Lib.hid (F4.out.trans' f1 (fun _ _ h => h))
  have B5 := Lib.hid (B4.out.fr f1 (by simp [Only]; omega))
  clear q1 f1 hx
  go_wp2_with fail
  refine (getKey_any p s5 _ Q5.out (fun k hk => Nat.lt_of_lt_of_le (hG k hk) F5.out.size)).mono ?_
  rintro e w6 ⟨y5, rfl, hy, q1, f1⟩
  obtain ⟨s6, h6⟩ : ∃ s6, Hid (s6 = kS s5) := ⟨_, Lib.hid rfl⟩
  have q1 : Rdq G w6 p s6 := by rw [h6.out]; exact q1
  have Q6 := Lib.hid q1
  have Hy := Lib.hid hy
  have F6 : Hid (Fr (Only p) w w6) := Lib.hid (F5.out.trans' f1 (fun _ _ h => h))
  have B6 := Lib.hid (B5.out.fr f1 (by simp [Only]; omega))
  clear q1 f1 hy
  go_wp2_with fail
  refine (signed9 p s6 _ Q6.out).mono ?_
  rintro e w7 ⟨rfl, q1, f1⟩
  obtain ⟨v7, g7⟩ : ∃ v, Hid (v = gV s6) := ⟨_, Lib.hid rfl⟩
  rw [← g7.out]
  have B7 := B6.out.fr f1 (by simp [Only]; omega)
  have hend : Got G w p (insR st) Ins.agg (.returned (Ins.agg ⟨v1, v2, v3, v4, x5.1, x5.2, y5.1, y5.2, v7⟩)) w7 := by
    obtain ⟨z1, z2⟩ := insR_parts h1.out h2.out h3.out h4.out h5.out h6.out Hx.out Hy.out
    refine ⟨_, rfl, fun q hq => ?_, by rw [z1]; exact q1, F6.out.trans' f1 (fun _ _ h => h)⟩
    rw [z2 q hq, g1.out, g2.out, g3.out, g4.out, g7.out]
  obtain ⟨x1, x2⟩ := x5
  obtain ⟨y1, y2⟩ := y5
  dsimp only at hend
  have Hend := Lib.hid hend
  clear hend q1 f1 B1 B2 B3 B4 B5 B6 Q1 Q2 Q3 Q4 Q5 Q6 F1 F2 F3 F4 F5 F6 h1 h2 h3 h4 h5 h6 g1 g2 g3 g4 g7 Hx Hy hr0 Hb0 hf0
  simp only [kcell]
  have hlt7 := B7.lt
  have k0 := B7.cell 0
  have k1 := B7.cell 1
  have k2 := B7.cell 2
  have k3 := B7.cell 3
  have k4 := B7.cell 4
  have k5 := B7.cell 5
  have k6 := B7.cell 6
  have k7 := B7.cell 7
  have k8 := B7.cell 8
  have z0 := B7.frozen 0
  have z1 := B7.frozen 1
  have z2 := B7.frozen 2
  have z3 := B7.frozen 3
  have z4 := B7.frozen 4
  have z5 := B7.frozen 5
  have z6 := B7.frozen 6
  have z7 := B7.frozen 7
  have z8 := B7.frozen 8
  simp at k0 k1 k2 k3 k4 k5 k6 k7 k8
  have hf8 : Fr (Only w.heap.size) w7 (((((((((w7.setCell ⟨w.heap.size, 0, none⟩ (.int .i64 v1)).setCell ⟨w.heap.size, 1, none⟩ (.int .i64 v2)).setCell ⟨w.heap.size, 2, none⟩ (.int .i64 v3)).setCell ⟨w.heap.size, 3, none⟩ (.int .i64 v4)).setCell ⟨w.heap.size, 4, none⟩ (.int .i64 x1)).setCell ⟨w.heap.size, 5, none⟩ (.int .i64 x2)).setCell ⟨w.heap.size, 6, none⟩ (.int .i64 y1)).setCell ⟨w.heap.size, 7, none⟩ (.int .i64 y2)).setCell ⟨w.heap.size, 8, none⟩ (.int .i64 v7)) := ((((((((((Fr.refl (Only w.heap.size) w7).setCell (p := ⟨w.heap.size, 0, none⟩) (.inl rfl) (.int .i64 v1)).setCell (p := ⟨w.heap.size, 1, none⟩) (.inl rfl) (.int .i64 v2)).setCell (p := ⟨w.heap.size, 2, none⟩) (.inl rfl) (.int .i64 v3)).setCell (p := ⟨w.heap.size, 3, none⟩) (.inl rfl) (.int .i64 v4)).setCell (p := ⟨w.heap.size, 4, none⟩) (.inl rfl) (.int .i64 x1)).setCell (p := ⟨w.heap.size, 5, none⟩) (.inl rfl) (.int .i64 x2)).setCell (p := ⟨w.heap.size, 6, none⟩) (.inl rfl) (.int .i64 y1)).setCell (p := ⟨w.heap.size, 7, none⟩) (.inl rfl) (.int .i64 y2)).setCell (p := ⟨w.heap.size, 8, none⟩) (.inl rfl) (.int .i64 v7))
  have B8 := (((((((((B7.put 0 (.int .i64 v1)).put 1 (.int .i64 v2)).put 2 (.int .i64 v3)).put 3 (.int .i64 v4)).put 4 (.int .i64 x1)).put 5 (.int .i64 x2)).put 6 (.int .i64 y1)).put 7 (.int .i64 y2)).put 8 (.int .i64 v7))
  have m0 := B8.cell 0
  have m1 := B8.cell 1
  have m2 := B8.cell 2
  have m3 := B8.cell 3
  have m4 := B8.cell 4
  have m5 := B8.cell 5
  have m6 := B8.cell 6
  have m7 := B8.cell 7
  have m8 := B8.cell 8
  simp at m0 m1 m2 m3 m4 m5 m6 m7 m8
  have Hfin := Lib.hid (Hend.out.set hf8 (Nat.le_refl _) hpl hG)
  have M : Hid (_ ∧ _ ∧ _ ∧ _ ∧ _ ∧ _ ∧ _ ∧ _ ∧ _) := Lib.hid ⟨m0, m1, m2, m3, m4, m5, m6, m7, m8⟩
  clear m0 m1 m2 m3 m4 m5 m6 m7 m8 B8 hf8 Hend
  go_wp2
  obtain ⟨m0, m1, m2, m3, m4, m5, m6, m7, m8⟩ := M.out
  exact bodyPost_ret (v := .agg #[.int .i64 v1, .int .i64 v2, .int .i64 v3, .int .i64 v4, .int .i64 x1, .int .i64 x2, .int .i64 y1, .int .i64 y2, .int .i64 v7]) (by simp [results, Tryz.results126, go_sem, m0, m1, m2, m3, m4, m5, m6, m7, m8]) rfl Hfin.out

theorem info_ins : (Tryz.prog.info? 52).map (fun i => (i.zero, i.size, i.bytes)) = some (some (.agg #[.int .i64 0, .int .i64 0, .int .i64 0, .int .i64 0, .int .i64 0, .int .i64 0, .int .i64 0, .int .i64 0, .int .i64 0]), 9, 72) := by kernel_rfl
theorem ins_one (i : Ins) : ∀ u ∈ i.cells.toArray.toList, u.oneCell' = true := by
  intro u hu
  simp only [Ins.cells, List.mem_cons, List.not_mem_nil, or_false] at hu
  rcases hu with rfl | rfl | rfl | rfl | rfl | rfl | rfl | rfl | rfl <;> rfl
/-- A program that was read. -/
def GotP (G : Nat → Prop) (w : World) (p : Nat) (st : Option (List Nat)) (e : Ending) (w' : World) : Prop :=
  ∃ A c, e = .returned (.slice A (gotL st).length c) ∧ Sl w' w'.heap.size A ((gotL st).flatMap Ins.cells) ∧ Rdq G w' p (gotS st) ∧ Fr (Only p) w w'
/-- The same, as a row of the call's own. -/
def GotPO (G : Nat → Prop) (w : World) (p : Nat) (st : Option (List Nat)) (e : Ending) (w' : World) : Prop :=
  ∃ A c, e = .returned (.slice A (gotL st).length c) ∧ w'.ownsRow w.heap.size 52 9 (.slice A (gotL st).length c) (gotL st).length ((gotL st).flatMap Ins.cells) ∧ Rdq G w' p (gotS st) ∧ Fr (Only p) w w'
set_option maxHeartbeats 2000000 in
theorem get_own (p : Nat) (st : Option (List Nat)) (w : World) (hr : Rdq G w p st) (hG : ∀ k, G k → k < w.heap.size) : Calls Tryz.prog 112 #[.pointer (some ⟨p, 0, none⟩)] w (GotPO G w p st) := by
  have hpl := hr.lt
  have Hr := Lib.hid hr
  clear hr
  go_enter Tryz.func112, Tryz.ntmps112
  go_wp2_with fail
  refine (count9 p 8 st _ Hr.out (by omega)).mono ?_
  rintro e w1 ⟨rfl, q1, f1⟩
  obtain ⟨s1, h1⟩ : ∃ s1, Hid (s1 = cS 8 st) := ⟨_, Lib.hid rfl⟩
  obtain ⟨n, hn⟩ : ∃ n, Hid (n = gotN st) := ⟨_, Lib.hid rfl⟩
  have hcv : cV 8 st = (n : Int) := by rw [hn.out]; rfl
  have hn8 : n ≤ 8 := by rw [hn.out]; exact gotN_le st
  rw [← h1.out] at q1
  rw [hcv]
  have HS : Hid (gotS st = stN n s1) := Lib.hid (by rw [gotS, hn.out, h1.out])
  have HL : Hid (gotL st = if (stN n s1).isSome = true then lsN n s1 else []) := Lib.hid (by rw [gotL, gotS, hn.out, h1.out])
  have Q1 := Lib.hid q1
  have F1 := Lib.hid f1
  clear q1 f1 hcv Hr
  go_wp2
  go_loopw [3, 8] (fun out i wr => ∃ (k : Nat) (A : Option Addr) (c : Nat) (L : List Ins), k ≤ n ∧ i = .int .i64 k ∧ out = .slice A k c ∧ Hid (L.length = k ∧ wr.ownsRow w.heap.size 52 9 (.slice A k c) k (L.flatMap Ins.cells) ∧ Rdq G wr p (stN k s1) ∧ ((stN k s1).isSome = true → L = lsN k s1) ∧ Fr (Only p) w wr)) (fun _ i _ => n - (intOf i).toNat)
  case atStart => exact ⟨0, none, 0, [], Nat.zero_le _, rfl, rfl, Lib.hid ⟨rfl, World.ownsRow_nil _ _ _ _, Q1.out, fun _ => rfl, F1.out⟩⟩
  case round =>
    obtain ⟨k, A, c, L, hk, rfl, rfl, hst⟩ := hrel
    by_cases hlt : k < n
    · obtain ⟨hl, hown, hrd, hL, hfr⟩ := hst.out
      have Hown := Lib.hid hown
      have Hl := Lib.hid hl
      have HLk := Lib.hid hL
      have Hfr := Lib.hid hfr
      have C := Lib.hid (getInstr_any p (stN k s1) wr hrd (fun i hi => Nat.lt_of_lt_of_le (hG i hi) hfr.size))
      have hop : Hid (¬ Only p = (fun _ => True)) := Lib.hid (fun e => by have := congrFun e (p + 1); simp [Only] at this)
      have hob : Hid (∀ i, (Value.slice A k c).ownBlock = some i → ¬ Only p i) := Lib.hid (fun i hi e => by have e : i = p := e; have := (hown.lt i hi).1; omega)
      clear hl hown hrd hL hfr hop
      go_wp2_with fail
      refine (C.out).mono ?_
      rintro e w2 ⟨x, rfl, hx, q1, f1⟩
      have hown2 := own_fr Hown.out f1 hob.out
      have HX := Lib.hid (lsN_next HLk.out hx)
      have Q2 := Lib.hid q1
      have F2 : Hid (Fr (Only p) w w2) := Lib.hid (Hfr.out.trans' f1 (fun _ _ h => h))
      clear hx q1 f1
      obtain ⟨xo, xa, xb, xc, xka, xkb, xla, xlb, xx⟩ := x
      have hu1 := ins_one ⟨xo, xa, xb, xc, xka, xkb, xla, xlb, xx⟩
      simp only [Ins.agg]
      go_wp2_with (at_builtin; (refine wpList_append_elem rfl _ _ _ rfl w.heap.size 52 _ 9 72 Tryz.underlying53 info_ins rfl (by omega) (.slice A k c) k (L.flatMap Ins.cells) #[.int .i64 xo, .int .i64 xa, .int .i64 xb, .int .i64 xc, .int .i64 xka, .int .i64 xkb, .int .i64 xla, .int .i64 xlb, .int .i64 xx] rfl hu1 rfl w2.heap.size rfl rfl hown2 (by unfold maxLen; omega) (by omega) (by have := F2.out.size; omega) ?_; intro A3 c3 w3 hown3 hf3 hg3))
      have hne3 := own_apart hown2 (show Bk w2 p 72 _ from Q2.out.reads.choose_spec.choose_spec.1) (by decide)
      have F3 : Fr (Only p) w w3 := F2.out.trans' hf3 (fun i hi e => by have := (hown2.lt i e).1; omega)
      have Q3 : Rdq G w3 p (stN (k + 1) s1) := Q2.out.frG hf3 hne3 (fun i hi e => by have h1 := hG i hi; have h2 := (hown2.lt i e).1; omega)
      go_roundw
      case rel =>
        refine ⟨k + 1, A3, c3, L ++ [⟨xo, xa, xb, xc, xka, xkb, xla, xlb, xx⟩], by omega, by go_num, rfl, Lib.hid ⟨by simp [Hl.out], ?_, Q3, HX.out, F3⟩⟩
        rw [List.flatMap_append]
        simpa [Ins.cells] using hown3
      case measure => simp [intOf]; omega
    · obtain rfl : k = n := by omega
      obtain ⟨hl, hown, hrd, hL, hfr⟩ := hst.out
      have Hown := Lib.hid hown
      have Hl := Lib.hid hl
      have HLk := Lib.hid hL
      have Hfr := Lib.hid hfr
      have Hrd := Lib.hid hrd
      have C := Lib.hid (qok_any p (stN k s1) wr hrd)
      clear hl hown hrd hL hfr hst
      cases hs : stN k s1 with
      | none =>
        rw [hs] at C
        go_wp2_with fail
        refine (C.out).mono ?_
        rintro e w2 ⟨rfl, rfl⟩
        go_wp2
        go_ret
        have e1 : gotL st = [] := by rw [HL.out, hs]; rfl
        refine ⟨none, 0, by rw [e1]; rfl, by rw [e1]; exact World.ownsRow_nil _ _ _ _, by rw [HS.out]; exact Hrd.out, Hfr.out⟩
      | some ys =>
        rw [hs] at C
        go_wp2_with fail
        refine (C.out).mono ?_
        rintro e w2 ⟨rfl, rfl⟩
        go_wp2
        go_ret
        have e1 : gotL st = L := by rw [HL.out, if_pos (by rw [hs]; rfl), HLk.out (by rw [hs]; rfl)]
        refine ⟨A, c, by rw [e1, Hl.out]; rfl, by rw [e1, Hl.out]; exact Hown.out, by rw [HS.out]; exact Hrd.out, Hfr.out⟩
theorem get_any (p : Nat) (st : Option (List Nat)) (w : World) (hr : Rdq G w p st) (hG : ∀ k, G k → k < w.heap.size) : Calls Tryz.prog 112 #[.pointer (some ⟨p, 0, none⟩)] w (GotP G w p st) :=
  (get_own p st w hr hG).mono fun _ _ h => by
    obtain ⟨A, c, h1, h2, h3, h4⟩ := h
    exact ⟨A, c, h1, Sl.ofOwn h2, h3, h4⟩
end
end Go.Proofs.YtbemfomiiikpoaaGreat
/- What the document's own reader reads as a program. -/
namespace Go.Proofs.YtbemfomiiikpoaaGreat
open Go.RowKit

/-- What a call of the document's reader leaves and tells. -/
def GotR {α : Type} (w : World) (B q : Nat) (o : Option (α × List Nat)) (f : α → Value) (e : Ending) (w' : World) : Prop :=
  ∃ x : α, e = .returned (f x) ∧ (∀ y, o = some y → y.1 = x) ∧ RR w' B q (o.map (·.2)) ∧ Fr (Only q) w w'

set_option maxHeartbeats 2000000 in
theorem refKeyR_any (q B : Nat) (st : Option (List Nat)) (w : World) (hr : RR w B q st) : Calls Tryz.prog 86 #[.pointer (some ⟨q, 0, none⟩)] w (GotR w B q (keyR st) kcell) := by
  have hf0 : Fr No w (w.alloc (.cells #[.int .i64 0, .int .i64 0] 50)) := (Fr.refl _ _).alloc _
  have hX0 := Bk.made w 50 #[.int .i64 0, .int .i64 0]
  have hql := hr.lt
  have hBq : B ≤ q := by obtain ⟨_, _, _, _, k2, _⟩ := hr; exact k2
  have R0 := Lib.hid (hr.fr hf0 (fun e => e) (fun _ e => e.elim))
  have HX0 := Lib.hid hX0
  have Hk : Hid (keyR st = if far9 (gV st) then none else (cntR 999 (gS st)).map fun q => ((gV st, (q.1 : Int)), q.2)) := Lib.hid rfl
  have fl1 := field1
  have fl3 := field3
  clear hr hX0
  go_enter Tryz.func86, Tryz.ntmps86
  go_wp2_with fail
  refine (itemS_any q B st _ R0.out).mono ?_
  rintro e w1 ⟨z1, z2, z3, rfl, r1, f1⟩
  generalize gV st = a at *
  generalize gS st = s1 at *
  simp only [itV]
  have R1 := Lib.hid r1
  have F1 : Hid (Fr (Only q) w w1) := Lib.hid ((hf0.weak (fun _ _ h => h.elim)).trans' f1 (fun _ _ h => h))
  have X1 := Lib.hid (HX0.out.fr f1 (by simp [Only]; omega))
  clear r1 f1
  go_wp2_with fail
  refine (itemN_any 999 q B s1 _ R1.out (by omega)).mono ?_
  rintro e w2 ⟨y1, y2, y3, rfl, r2, f2⟩
  obtain ⟨b, hb⟩ : ∃ b, Hid (b = cV 999 s1) := ⟨_, Lib.hid rfl⟩
  rw [← hb.out]
  simp only [itV]
  have F2 : Hid (Fr (Only q) w w2) := Lib.hid (F1.out.trans' f2 (fun _ _ h => h))
  have X2 := X1.out.fr f2 (by simp [Only]; omega)
  have hfw := Lib.hid F2.out
  have HX2 := Lib.hid X2
  have hlt2 := X2.lt
  have u0 := X2.frozen 0
  have u1 := X2.frozen 1
  have c0 := X2.cell 0
  have c1 := X2.cell 1
  simp at c0 c1
  have R2 := Lib.hid r2
  clear r2 f2 X2 X1 HX0 R0 R1 F1
  have hset : ∀ w3 : World, Fr (Only w.heap.size) w2 w3 → Fr (Only q) w w3 := fun w3 h => F2.out.trans' h (fun i hi e => by have e : i = w.heap.size := e; omega)
  have Hset := Lib.hid hset
  clear hset
  by_cases h1 : a < -1 ∨ 255 < a
  · have hfar : far9 a := h1
    obtain ⟨A, n, c, b1, b2, b3⟩ := R2.out
    have z1 := b1.frozen 1
    have b4 := b1.put 1 (.bool true)
    have g1 := b1.cell 1
    simp at g1 b4
    have B4 := Lib.hid b4
    have B1 := Lib.hid b1
    have Hq : Hid (keyR st = none) := Lib.hid (by rw [Hk.out, if_pos hfar])
    have hqX : ¬ q = w.heap.size := by omega
    have hXq : ¬ w.heap.size = q := by omega
    have hq2 : q < w2.heap.size := b1.lt
    clear b1 b3 b4 hfar
    have Hend : Hid (GotR w B q (keyR st) kcell (.returned (kcell (a, b))) (((w2.setCell ⟨q, 1, none⟩ (.bool true)).setCell ⟨w.heap.size, 0, none⟩ (.int .i64 a)).setCell ⟨w.heap.size, 1, none⟩ (.int .i64 b))) := Lib.hid (by
      refine ⟨(a, b), rfl, fun y hy => (by rw [Hq.out] at hy; cases hy), ?_, ((F2.out.setCell (p := ⟨q, 1, none⟩) (.inl rfl) _).setCell (p := ⟨w.heap.size, 0, none⟩) (.inr (Nat.le_refl _)) _).setCell (p := ⟨w.heap.size, 1, none⟩) (.inr (Nat.le_refl _)) _⟩
      rw [Hq.out]
      have b5 := B4.out.fr (((Fr.refl (Only w.heap.size) (w2.setCell ⟨q, 1, none⟩ (.bool true))).setCell (p := ⟨w.heap.size, 0, none⟩) (.inl rfl) (.int .i64 a)).setCell (p := ⟨w.heap.size, 1, none⟩) (.inl rfl) (.int .i64 b)) (fun e => hqX e)
      exact ⟨A, n, c, b5, b2, fun ys e => by cases e⟩)
    have bX := (((HX2.out.fr ((Fr.refl (Only q) w2).setCell (p := ⟨q, 1, none⟩) (.inl rfl) (.bool true)) (fun e => hXq e)).put 0 (.int .i64 a)).put 1 (.int .i64 b))
    have m0 := bX.cell 0
    have m1 := bX.cell 1
    simp at m0 m1
    have M : Hid (_ ∧ _) := Lib.hid ⟨m0, m1⟩
    clear bX m0 m1
    by_cases h2 : a < -1
    · have d1 : decide (a < -1) = true := by simpa using h2
      clear h1
      go_wp2
      obtain ⟨m0, m1⟩ := M.out
      exact bodyPost_ret (v := .agg #[.int .i64 a, .int .i64 b]) (by simp [results, Tryz.results86, go_sem, m0, m1]) rfl Hend.out
    · have d1 : decide (a < -1) = false := by simpa using h2
      have d2 : decide (255 < a) = true := by simp; omega
      clear h1
      go_wp2
      obtain ⟨m0, m1⟩ := M.out
      exact bodyPost_ret (v := .agg #[.int .i64 a, .int .i64 b]) (by simp [results, Tryz.results86, go_sem, m0, m1]) rfl Hend.out
  · have d1 : decide (a < -1) = false := by simp; omega
    have d2 : decide (255 < a) = false := by simp; omega
    have hfar : ¬ far9 a := h1
    have Hq : Hid (keyR st = (cntR 999 s1).map fun q => ((a, (q.1 : Int)), q.2)) := Lib.hid (by rw [Hk.out, if_neg hfar])
    have Hend : Hid (GotR w B q (keyR st) kcell (.returned (kcell (a, b))) ((w2.setCell ⟨w.heap.size, 0, none⟩ (.int .i64 a)).setCell ⟨w.heap.size, 1, none⟩ (.int .i64 b))) := Lib.hid (by
      refine ⟨(a, b), rfl, fun y hy => ?_, ?_, (F2.out.setCell (p := ⟨w.heap.size, 0, none⟩) (.inr (Nat.le_refl _)) _).setCell (p := ⟨w.heap.size, 1, none⟩) (.inr (Nat.le_refl _)) _⟩
      · rw [Hq.out] at hy
        cases h5 : cntR 999 s1 with
        | none => rw [h5] at hy; cases hy
        | some z =>
          rw [h5] at hy
          simp only [Option.map_some, Option.some.injEq] at hy
          rw [← hy, hb.out, cV, h5]
          rfl
      · rw [Hq.out, Option.map_map]
        exact R2.out.fr (((Fr.refl (Only w.heap.size) w2).setCell (p := ⟨w.heap.size, 0, none⟩) (.inl rfl) (.int .i64 a)).setCell (p := ⟨w.heap.size, 1, none⟩) (.inl rfl) (.int .i64 b)) (fun e => by have e : q = w.heap.size := e; omega) (fun k e => by have e : k = w.heap.size := e; omega))
    have bX := (HX2.out.put 0 (.int .i64 a)).put 1 (.int .i64 b)
    have m0 := bX.cell 0
    have m1 := bX.cell 1
    simp at m0 m1
    have M : Hid (_ ∧ _) := Lib.hid ⟨m0, m1⟩
    clear bX m0 m1 h1 hfar
    go_wp2
    obtain ⟨m0, m1⟩ := M.out
    exact bodyPost_ret (v := .agg #[.int .i64 a, .int .i64 b]) (by simp [results, Tryz.results86, go_sem, m0, m1]) rfl Hend.out

/-- A program that the document's reader read. -/
def GotQ (w : World) (B q : Nat) (st : Option (List Nat)) (e : Ending) (w' : World) : Prop :=
  ∃ A c, e = .returned (.slice A (gotL st).length c) ∧ Sl w' w'.heap.size A ((gotL st).flatMap Ins.cells) ∧ RR w' B q (gotS st) ∧ Fr (Only q) w w'
/-- The same, as a row of the call's own. -/
def GotQO (w : World) (B q : Nat) (st : Option (List Nat)) (e : Ending) (w' : World) : Prop :=
  ∃ A c, e = .returned (.slice A (gotL st).length c) ∧ w'.ownsRow w.heap.size 52 9 (.slice A (gotL st).length c) (gotL st).length ((gotL st).flatMap Ins.cells) ∧ RR w' B q (gotS st) ∧ Fr (Only q) w w'
/-- The instruction that is being read: its cells, and what else stands. -/
structure Mid9 (w0 w : World) (B q X : Nat) (A : Option Addr) (k c : Nat) (L : List Ins) (b : Nat) (s : Option (List Nat)) (cs : Array Value) : Prop where
  bk : Bk w X 52 cs
  own : w.ownsRow b 52 9 (.slice A k c) k (L.flatMap Ins.cells)
  rr : RR w B q s
  fr : Fr (Only q) w0 w
theorem Mid9.call {w0 w w' : World} {B q X : Nat} {A : Option Addr} {k c : Nat} {L : List Ins} {b : Nat} {s s' : Option (List Nat)} {cs : Array Value} (h : Mid9 w0 w B q X A k c L b s cs) (hq : q < w0.heap.size) (hb : w0.heap.size ≤ b) (hX : w0.heap.size ≤ X) (hf : Fr (Only q) w w') (hr : RR w' B q s') : Mid9 w0 w' B q X A k c L b s' cs :=
  ⟨h.bk.fr hf (fun e => by have e : X = q := e; omega), own_fr h.own hf (fun i hi e => by have e : i = q := e; have := (h.own.lt i hi).1; omega), hr, h.fr.trans' hf (fun _ _ e => e)⟩
theorem Mid9.put {w0 w : World} {B q X : Nat} {A : Option Addr} {k c : Nat} {L : List Ins} {b : Nat} {s : Option (List Nat)} {cs : Array Value} (h : Mid9 w0 w B q X A k c L b s cs) (hq : q < w0.heap.size) (hBq : B ≤ q) (hX : w0.heap.size ≤ X) (hXo : (Value.slice A k c).ownBlock ≠ some X) (i : Nat) (u : Value) : Mid9 w0 (w.setCell ⟨X, i, none⟩ u) B q X A k c L b s (cs.setIfInBounds i u) := by
  have hf : Fr (Only X) w (w.setCell ⟨X, i, none⟩ u) := (Fr.refl (Only X) w).setCell (p := ⟨X, i, none⟩) (.inl rfl) u
  exact ⟨h.bk.put i u, own_fr h.own hf (fun j hj e => by have e : j = X := e; exact hXo (by rw [hj, e])), h.rr.fr hf (fun e => by have e : q = X := e; omega) (fun j e => by have e : j = X := e; omega), h.fr.trans' hf (fun j hj e => by have e : j = X := e; omega)⟩

set_option maxHeartbeats 4000000 in
theorem refGet_own (q B : Nat) (st : Option (List Nat)) (w : World) (hr : RR w B q st) : Calls Tryz.prog 61 #[.pointer (some ⟨q, 0, none⟩)] w (GotQO w B q st) := by
  have hql := hr.lt
  have hBq : B ≤ q := by obtain ⟨_, _, _, _, k2, _⟩ := hr; exact k2
  have Hr := Lib.hid hr
  have fl1 := field1
  have fl3 := field3
  clear hr
  go_enter Tryz.func61, Tryz.ntmps61
  go_wp2_with fail
  refine (itemN_any 8 q B st _ Hr.out (by omega)).mono ?_
  rintro e w1 ⟨j1, j2, j3, rfl, q1, f1⟩
  obtain ⟨s1, h1⟩ : ∃ s1, Hid (s1 = cS 8 st) := ⟨_, Lib.hid rfl⟩
  obtain ⟨n, hn⟩ : ∃ n, Hid (n = gotN st) := ⟨_, Lib.hid rfl⟩
  have hcv : cV 8 st = (n : Int) := by rw [hn.out]; rfl
  have hn8 : n ≤ 8 := by rw [hn.out]; exact gotN_le st
  rw [← h1.out] at q1
  rw [hcv]
  simp only [itV]
  have HS : Hid (gotS st = stN n s1) := Lib.hid (by rw [gotS, hn.out, h1.out])
  have HL : Hid (gotL st = if (stN n s1).isSome = true then lsN n s1 else []) := Lib.hid (by rw [gotL, gotS, hn.out, h1.out])
  have Q1 := Lib.hid q1
  have F1 := Lib.hid f1
  clear q1 f1 hcv Hr
  go_wp2
  go_loopw [4, 5] (fun out i wr => ∃ (k : Nat) (A : Option Addr) (c : Nat) (L : List Ins), k ≤ n ∧ i = .int .i64 k ∧ out = .slice A k c ∧ Hid (L.length = k ∧ wr.ownsRow w.heap.size 52 9 (.slice A k c) k (L.flatMap Ins.cells) ∧ RR wr B q (stN k s1) ∧ ((stN k s1).isSome = true → L = lsN k s1) ∧ Fr (Only q) w wr)) (fun _ i _ => n - (intOf i).toNat)
  case atStart => exact ⟨0, none, 0, [], Nat.zero_le _, rfl, rfl, Lib.hid ⟨rfl, World.ownsRow_nil _ _ _ _, Q1.out, fun _ => rfl, F1.out⟩⟩
  case round =>
    obtain ⟨k, A, c, L, hk, rfl, rfl, hst⟩ := hrel
    by_cases hlt : k < n
    · obtain ⟨hl, hown, hrd, hL, hfr⟩ := hst.out
      have Hl := Lib.hid hl
      have HLk := Lib.hid hL
      have hXw : w.heap.size ≤ wr.heap.size := hfr.size
      have hXo : (Value.slice A k c).ownBlock ≠ some wr.heap.size := fun e => by have := own_lt hown e; omega
      have M0 : Mid9 w (wr.alloc (.cells #[.int .i64 0, .int .i64 0, .int .i64 0, .int .i64 0, .int .i64 0, .int .i64 0, .int .i64 0, .int .i64 0, .int .i64 0] 52)) B q wr.heap.size A k c L w.heap.size (stN k s1) #[.int .i64 0, .int .i64 0, .int .i64 0, .int .i64 0, .int .i64 0, .int .i64 0, .int .i64 0, .int .i64 0, .int .i64 0] :=
        ⟨Bk.made wr _ _, hown.alloc _, hrd.fr ((Fr.refl No wr).alloc _) (fun e => e) (fun _ e => e.elim), hfr.alloc _⟩
      have HM0 := Lib.hid M0
      have HXo := Lib.hid hXo
      obtain ⟨s, hs⟩ : ∃ s, Hid (s = stN k s1) := ⟨_, Lib.hid rfl⟩
      rw [← hs.out] at HM0 M0
      clear hl hown hrd hL hfr M0 hXo hst
      obtain ⟨X, hX⟩ : ∃ X, Hid (X = wr.heap.size) := ⟨_, Lib.hid rfl⟩
      rw [← hX.out] at HM0 HXo hXw
      go_wp2_with fail
      rw [← hX.out]
      refine (itemN_any 255 q B s _ HM0.out.rr (by omega)).mono ?_
      rintro e w2 ⟨j1, j2, j3, rfl, r1, f1⟩
      obtain ⟨t1, ht1⟩ : ∃ z, Hid (z = cS 255 s) := ⟨_, Lib.hid rfl⟩
      obtain ⟨v1, gv1⟩ : ∃ z, Hid (z = cV 255 s) := ⟨_, Lib.hid rfl⟩
      rw [← ht1.out] at r1
      rw [← gv1.out]
      simp only [itV]
      have C1 := Lib.hid (HM0.out.call hql (Nat.le_refl _) hXw f1 r1)
      clear r1 f1
      have z0 := C1.out.bk.frozen 0
      have c0 := C1.out.bk.cell 0
      simp at c0
      have P1 := Lib.hid ((C1.out).put hql hBq hXw HXo.out 0 (.int .i64 v1))
      have HM1 : Hid (Mid9 w (w2.setCell ⟨X, 0, none⟩ (.int .i64 v1)) B q X A k c L w.heap.size t1 #[.int .i64 v1, .int .i64 0, .int .i64 0, .int .i64 0, .int .i64 0, .int .i64 0, .int .i64 0, .int .i64 0, .int .i64 0]) := Lib.hid (by simpa using P1.out)
      go_wp2_with fail
      refine (itemN_any 255 q B t1 _ HM1.out.rr (by omega)).mono ?_
      rintro e w3 ⟨j1, j2, j3, rfl, r1, f1⟩
      obtain ⟨t2, ht2⟩ : ∃ z, Hid (z = cS 255 t1) := ⟨_, Lib.hid rfl⟩
      obtain ⟨v2, gv2⟩ : ∃ z, Hid (z = cV 255 t1) := ⟨_, Lib.hid rfl⟩
      rw [← ht2.out] at r1
      rw [← gv2.out]
      simp only [itV]
      have C2 := Lib.hid (HM1.out.call hql (Nat.le_refl _) hXw f1 r1)
      clear r1 f1
      have z1 := C2.out.bk.frozen 1
      have c1 := C2.out.bk.cell 1
      simp at c1
      have P2 := Lib.hid ((C2.out).put hql hBq hXw HXo.out 1 (.int .i64 v2))
      have HM2 : Hid (Mid9 w (w3.setCell ⟨X, 1, none⟩ (.int .i64 v2)) B q X A k c L w.heap.size t2 #[.int .i64 v1, .int .i64 v2, .int .i64 0, .int .i64 0, .int .i64 0, .int .i64 0, .int .i64 0, .int .i64 0, .int .i64 0]) := Lib.hid (by simpa using P2.out)
      go_wp2_with fail
      refine (itemN_any 255 q B t2 _ HM2.out.rr (by omega)).mono ?_
      rintro e w4 ⟨j1, j2, j3, rfl, r1, f1⟩
      obtain ⟨t3, ht3⟩ : ∃ z, Hid (z = cS 255 t2) := ⟨_, Lib.hid rfl⟩
      obtain ⟨v3, gv3⟩ : ∃ z, Hid (z = cV 255 t2) := ⟨_, Lib.hid rfl⟩
      rw [← ht3.out] at r1
      rw [← gv3.out]
      simp only [itV]
      have C3 := Lib.hid (HM2.out.call hql (Nat.le_refl _) hXw f1 r1)
      clear r1 f1
      have z2 := C3.out.bk.frozen 2
      have c2 := C3.out.bk.cell 2
      simp at c2
      have P3 := Lib.hid ((C3.out).put hql hBq hXw HXo.out 2 (.int .i64 v3))
      have HM3 : Hid (Mid9 w (w4.setCell ⟨X, 2, none⟩ (.int .i64 v3)) B q X A k c L w.heap.size t3 #[.int .i64 v1, .int .i64 v2, .int .i64 v3, .int .i64 0, .int .i64 0, .int .i64 0, .int .i64 0, .int .i64 0, .int .i64 0]) := Lib.hid (by simpa using P3.out)
      go_wp2_with fail
      refine (itemN_any 255 q B t3 _ HM3.out.rr (by omega)).mono ?_
      rintro e w5 ⟨j1, j2, j3, rfl, r1, f1⟩
      obtain ⟨t4, ht4⟩ : ∃ z, Hid (z = cS 255 t3) := ⟨_, Lib.hid rfl⟩
      obtain ⟨v4, gv4⟩ : ∃ z, Hid (z = cV 255 t3) := ⟨_, Lib.hid rfl⟩
      rw [← ht4.out] at r1
      rw [← gv4.out]
      simp only [itV]
      have C4 := Lib.hid (HM3.out.call hql (Nat.le_refl _) hXw f1 r1)
      clear r1 f1
      have z3 := C4.out.bk.frozen 3
      have c3 := C4.out.bk.cell 3
      simp at c3
      have P4 := Lib.hid ((C4.out).put hql hBq hXw HXo.out 3 (.int .i64 v4))
      have HM4 : Hid (Mid9 w (w5.setCell ⟨X, 3, none⟩ (.int .i64 v4)) B q X A k c L w.heap.size t4 #[.int .i64 v1, .int .i64 v2, .int .i64 v3, .int .i64 v4, .int .i64 0, .int .i64 0, .int .i64 0, .int .i64 0, .int .i64 0]) := Lib.hid (by simpa using P4.out)
      go_wp2_with fail
      refine (refKeyR_any q B t4 _ HM4.out.rr).mono ?_
      rintro e w6 ⟨⟨x1, x2⟩, rfl, hx, r1, f1⟩
      obtain ⟨t5, ht5⟩ : ∃ z, Hid (z = kS t4) := ⟨_, Lib.hid rfl⟩
      have r1 : RR w6 B q t5 := by rw [ht5.out]; exact r1
      have Hx1 := Lib.hid hx
      clear hx
      simp only [kcell]
      have C5 := Lib.hid (HM4.out.call hql (Nat.le_refl _) hXw f1 r1)
      clear r1 f1
      have z4 := C5.out.bk.frozen 4
      have c4 := C5.out.bk.cell 4
      have z5 := C5.out.bk.frozen 5
      have c5 := C5.out.bk.cell 5
      simp at c4 c5
      have P5 := Lib.hid ((C5.out).put hql hBq hXw HXo.out 4 (.int .i64 x1))
      have P6 := Lib.hid ((P5.out).put hql hBq hXw HXo.out 5 (.int .i64 x2))
      have HM5 : Hid (Mid9 w ((w6.setCell ⟨X, 4, none⟩ (.int .i64 x1)).setCell ⟨X, 5, none⟩ (.int .i64 x2)) B q X A k c L w.heap.size t5 #[.int .i64 v1, .int .i64 v2, .int .i64 v3, .int .i64 v4, .int .i64 x1, .int .i64 x2, .int .i64 0, .int .i64 0, .int .i64 0]) := Lib.hid (by simpa using P6.out)
      go_wp2_with fail
      refine (refKeyR_any q B t5 _ HM5.out.rr).mono ?_
      rintro e w7 ⟨⟨y1, y2⟩, rfl, hx, r1, f1⟩
      obtain ⟨t6, ht6⟩ : ∃ z, Hid (z = kS t5) := ⟨_, Lib.hid rfl⟩
      have r1 : RR w7 B q t6 := by rw [ht6.out]; exact r1
      have Hy1 := Lib.hid hx
      clear hx
      simp only [kcell]
      have C6 := Lib.hid (HM5.out.call hql (Nat.le_refl _) hXw f1 r1)
      clear r1 f1
      have z6 := C6.out.bk.frozen 6
      have c6 := C6.out.bk.cell 6
      have z7 := C6.out.bk.frozen 7
      have c7 := C6.out.bk.cell 7
      simp at c6 c7
      have P7 := Lib.hid ((C6.out).put hql hBq hXw HXo.out 6 (.int .i64 y1))
      have P8 := Lib.hid ((P7.out).put hql hBq hXw HXo.out 7 (.int .i64 y2))
      have HM6 : Hid (Mid9 w ((w7.setCell ⟨X, 6, none⟩ (.int .i64 y1)).setCell ⟨X, 7, none⟩ (.int .i64 y2)) B q X A k c L w.heap.size t6 #[.int .i64 v1, .int .i64 v2, .int .i64 v3, .int .i64 v4, .int .i64 x1, .int .i64 x2, .int .i64 y1, .int .i64 y2, .int .i64 0]) := Lib.hid (by simpa using P8.out)
      go_wp2_with fail
      refine (itemS_any q B t6 _ HM6.out.rr).mono ?_
      rintro e w8 ⟨j1, j2, j3, rfl, r1, f1⟩
      obtain ⟨t7, ht7⟩ : ∃ z, Hid (z = gS t6) := ⟨_, Lib.hid rfl⟩
      obtain ⟨v7, gv7⟩ : ∃ z, Hid (z = gV t6) := ⟨_, Lib.hid rfl⟩
      rw [← ht7.out] at r1
      rw [← gv7.out]
      simp only [itV]
      have C7 := Lib.hid (HM6.out.call hql (Nat.le_refl _) hXw f1 r1)
      clear r1 f1
      have z8 := C7.out.bk.frozen 8
      have c8 := C7.out.bk.cell 8
      simp at c8
      have P9 := Lib.hid ((C7.out).put hql hBq hXw HXo.out 8 (.int .i64 v7))
      have HM7 : Hid (Mid9 w (w8.setCell ⟨X, 8, none⟩ (.int .i64 v7)) B q X A k c L w.heap.size t7 #[.int .i64 v1, .int .i64 v2, .int .i64 v3, .int .i64 v4, .int .i64 x1, .int .i64 x2, .int .i64 y1, .int .i64 y2, .int .i64 v7]) := Lib.hid (by simpa using P9.out)
      have b9 := HM7.out.bk
      have hlX := b9.lt
      have d0 := b9.cell 0
      have d1 := b9.cell 1
      have d2 := b9.cell 2
      have d3 := b9.cell 3
      have d4 := b9.cell 4
      have d5 := b9.cell 5
      have d6 := b9.cell 6
      have d7 := b9.cell 7
      have d8 := b9.cell 8
      simp at d0 d1 d2 d3 d4 d5 d6 d7 d8
      clear b9 z0 c0 z1 c1 z2 c2 z3 c3 z4 c4 z5 c5 z6 c6 z7 c7
      have hu1 := ins_one ⟨v1, v2, v3, v4, x1, x2, y1, y2, v7⟩
      have hsz := HM7.out.fr.size
      go_wp2_with (at_builtin; (refine wpList_append_elem rfl _ _ _ rfl w.heap.size 52 _ 9 72 Tryz.underlying53 info_ins rfl (by omega) (.slice A k c) k (L.flatMap Ins.cells) #[.int .i64 v1, .int .i64 v2, .int .i64 v3, .int .i64 v4, .int .i64 x1, .int .i64 x2, .int .i64 y1, .int .i64 y2, .int .i64 v7] rfl hu1 rfl w8.heap.size (by simp) rfl HM7.out.own (by unfold maxLen; omega) (by omega) hsz ?_; intro A3 c3 w9 hown3 hf3 hg3))
      obtain ⟨p1, p2⟩ := insR_parts ht1.out ht2.out ht3.out ht4.out ht5.out ht6.out Hx1.out Hy1.out
      have F9 : Fr (Only q) w w9 := HM7.out.fr.trans' hf3 (fun i hi e => by have := (HM7.out.own.lt i e).1; omega)
      have hBk : B ≤ w.heap.size := by omega
      have R9 : RR w9 B q (stN (k + 1) s1) := by
        have e1 : stN (k + 1) s1 = t7 := by rw [stN, ← hs.out, p1, ht7.out]
        rw [e1]
        exact HM7.out.rr.fr hf3 (fun e => by have := (HM7.out.own.lt q e).1; omega) (fun i e => by have := (HM7.out.own.lt i e).1; omega)
      have HN := Lib.hid (lsN_next HLk.out (fun y hy => by rw [← hs.out] at hy; exact p2 y hy))
      rw [← gv1.out, ← gv2.out, ← gv3.out, ← gv4.out, ← gv7.out] at HN
      go_roundw
      case rel =>
        refine ⟨k + 1, A3, c3, L ++ [⟨v1, v2, v3, v4, x1, x2, y1, y2, v7⟩], by omega, by go_num, rfl, Lib.hid ⟨by simp [Hl.out], ?_, R9, HN.out, F9⟩⟩
        rw [List.flatMap_append]
        simpa [Ins.cells] using hown3
      case measure => simp [intOf]; omega
    · obtain rfl : k = n := by omega
      obtain ⟨hl, hown, hrd, hL, hfr⟩ := hst.out
      have Hown := Lib.hid hown
      have Hl := Lib.hid hl
      have HLk := Lib.hid hL
      have Hfr := Lib.hid hfr
      have Hrd := Lib.hid hrd
      obtain ⟨A9, n9, c9, b9, -, -⟩ := hrd
      have d1 := b9.cell 1
      simp at d1
      clear hl hown hL hfr hst b9
      cases hs : stN k s1 with
      | none =>
        rw [hs] at d1
        simp only [Option.isNone_none] at d1
        go_wp2
        go_ret
        have e1 : gotL st = [] := by rw [HL.out, hs]; rfl
        refine ⟨none, 0, by rw [e1]; rfl, by rw [e1]; exact World.ownsRow_nil _ _ _ _, by rw [HS.out]; exact Hrd.out, Hfr.out⟩
      | some ys =>
        rw [hs] at d1
        simp only [Option.isNone_some] at d1
        go_wp2
        go_ret
        have e1 : gotL st = L := by rw [HL.out, if_pos (by rw [hs]; rfl), HLk.out (by rw [hs]; rfl)]
        refine ⟨A, c, by rw [e1, Hl.out]; rfl, by rw [e1, Hl.out]; exact Hown.out, by rw [HS.out]; exact Hrd.out, Hfr.out⟩
theorem refGet_any (q B : Nat) (st : Option (List Nat)) (w : World) (hr : RR w B q st) : Calls Tryz.prog 61 #[.pointer (some ⟨q, 0, none⟩)] w (GotQ w B q st) :=
  (refGet_own q B st w hr).mono fun _ _ h => by
    obtain ⟨A, c, h1, h2, h3, h4⟩ := h
    exact ⟨A, c, h1, Sl.ofOwn h2, h3, h4⟩
end Go.Proofs.YtbemfomiiikpoaaGreat
/- Footprints, purely: which may be; their words; what is read as one. -/
namespace Go.Proofs.YtbemfomiiikpoaaGreat
open Go.RowKit

/-- A span of templates. -/
structure Fsp where
  la : Int
  lb : Int
  ha : Int
  hb : Int
  wr : Bool
def Fsp.cells (f : Fsp) : List Value := [.int .i64 f.la, .int .i64 f.lb, .int .i64 f.ha, .int .i64 f.hb, .bool f.wr]
theorem Fsp.cells_len (f : Fsp) : f.cells.length = 5 := rfl
def Fsp.agg (f : Fsp) : Value := .agg #[.int .i64 f.la, .int .i64 f.lb, .int .i64 f.ha, .int .i64 f.hb, .bool f.wr]
structure Fsp.I (f : Fsp) : Prop where
  la : I64 f.la
  lb : I64 f.lb
  ha : I64 f.ha
  hb : I64 f.hb
theorem Sl.fsp {w : World} {B : Nat} {A : Option Addr} {l : List Fsp} (h : Sl w B A (l.flatMap Fsp.cells)) {k : Nat} (hk : k < l.length) :
    ∃ ad, A = some ad ∧ ad.block < B ∧ w.cell? (ad.add (k * 5)) = some (.int .i64 l[k].la) ∧ w.cell? ⟨(ad.add (k * 5)).block, (ad.add (k * 5)).off + 1, none⟩ = some (.int .i64 l[k].lb) ∧
      w.cell? ⟨(ad.add (k * 5)).block, (ad.add (k * 5)).off + 2, none⟩ = some (.int .i64 l[k].ha) ∧ w.cell? ⟨(ad.add (k * 5)).block, (ad.add (k * 5)).off + 3, none⟩ = some (.int .i64 l[k].hb) ∧
      w.cell? ⟨(ad.add (k * 5)).block, (ad.add (k * 5)).off + 4, none⟩ = some (.bool l[k].wr) := by
  obtain ⟨ad, e, hb, hc⟩ := h.row 5 Fsp.cells_len hk (by omega)
  exact ⟨ad, e, hb, hc 0 _ rfl, hc 1 _ rfl, hc 2 _ rfl, hc 3 _ rfl, hc 4 _ rfl⟩
/-- May a span of templates be, for so many arguments? -/
def fspOk (f : Fsp) (n : Int) : Bool := keyOk f.la f.lb n && keyOk f.ha f.hb n
/-- May a footprint be? -/
def footOk (l : List Fsp) (n : Int) : Bool := decide (0 ≤ n ∧ n ≤ 3) && (decide (l.length ≤ 4) && l.all fun f => fspOk f n)
/-- For arguments? -/
def footRight (l : List Fsp) (gs : List Int) : Bool := argsOk gs && footOk l gs.length
/-- The span that it is for arguments, as a pair of keys. -/
def fspOf (f : Fsp) (gs : List Int) : Int × Int := (keyOf f.la f.lb gs, keyOf f.ha f.hb gs)
/-- What it reads, and what it writes. -/
def footReads (l : List Fsp) (gs : List Int) : List (Int × Int) := l.map fun f => fspOf f gs
def footWrites (l : List Fsp) (gs : List Int) : List (Int × Int) := (l.filter fun f => f.wr).map fun f => fspOf f gs
theorem fspOf_range {f : Fsp} {gs : List Int} (hf : fspOk f gs.length = true) (ha : argsOk gs = true) : (0 ≤ (fspOf f gs).1 ∧ (fspOf f gs).1 ≤ 999) ∧ (0 ≤ (fspOf f gs).2 ∧ (fspOf f gs).2 ≤ 999) := by
  unfold fspOk at hf
  rw [Bool.and_eq_true] at hf
  exact ⟨keyOf_range hf.1 ha, keyOf_range hf.2 ha⟩
/-- Its words. -/
def flagW (b : Bool) : Nat := if b = true then 1 else 0
def wordsF1 (f : Fsp) : List Nat := [sgn f.la, f.lb.toNat, sgn f.ha, f.hb.toNat, flagW f.wr]
theorem wordsF1_len (f : Fsp) : (wordsF1 f).length = 5 := rfl
def wordsF (l : List Fsp) : List Nat := l.length :: l.flatMap wordsF1
theorem wordsF1_flat (l : List Fsp) : (l.flatMap wordsF1).length = l.length * 5 := by
  induction l with
  | nil => simp
  | cons x r ih => rw [List.flatMap_cons, List.length_append, wordsF1_len, ih, List.length_cons]; omega

/-- A flag that is read. -/
def fS (st : Option (List Nat)) : Option (List Nat) := (flagR st).map (·.2)
def fV (st : Option (List Nat)) : Bool := ((flagR st).map (·.1)).getD false
/-- A span of templates that is read. -/
def fspR (st : Option (List Nat)) : Option (Fsp × List Nat) := (flagR (kS (kS st))).map fun q => (⟨(kV st).1, (kV st).2, (kV (kS st)).1, (kV (kS st)).2, q.1⟩, q.2)
theorem fspR_none : fspR none = none := rfl
def stF : Nat → Option (List Nat) → Option (List Nat)
  | 0, st => st
  | k + 1, st => (fspR (stF k st)).map (·.2)
def lsF : Nat → Option (List Nat) → List Fsp
  | 0, _ => []
  | k + 1, st => lsF k st ++ [((fspR (stF k st)).map (·.1)).getD ⟨0, 0, 0, 0, false⟩]
theorem lsF_len (k : Nat) (st : Option (List Nat)) : (lsF k st).length = k := by
  induction k with
  | zero => rfl
  | succ k ih => simp [lsF, ih]
def gotFN (st : Option (List Nat)) : Nat := ((cntR 4 st).map (·.1)).getD 0
def gotFS (st : Option (List Nat)) : Option (List Nat) := stF (gotFN st) (cS 4 st)
def gotFL (st : Option (List Nat)) : List Fsp := if (gotFS st).isSome = true then lsF (gotFN st) (cS 4 st) else []
theorem gotFN_le (st : Option (List Nat)) : gotFN st ≤ 4 := by
  unfold gotFN
  match st with
  | none => simp [cntR]
  | some [] => simp [cntR]
  | some (u :: r) =>
    simp only [cntR]
    split
    · simp
      omega
    · simp
theorem lsF_next {k : Nat} {st : Option (List Nat)} {L : List Fsp} {x : Fsp} (h : (stF k st).isSome = true → L = lsF k st) (hx : ∀ q, fspR (stF k st) = some q → q.1 = x) : (stF (k + 1) st).isSome = true → L ++ [x] = lsF (k + 1) st := by
  intro h1
  cases h2 : fspR (stF k st) with
  | none => simp [stF, h2] at h1
  | some q =>
    have h3 : (stF k st).isSome = true := by
      cases h4 : stF k st with
      | none => rw [h4, fspR_none] at h2; cases h2
      | some _ => rfl
    rw [lsF, h2, h h3, ← hx q h2]
    rfl
theorem flagR_back (b : Bool) (r : List Nat) : flagR (some (flagW b :: r)) = some (b, r) := by
  cases b <;> simp [flagR, flagW]
/-- A span that fits what is read. -/
structure Fsp.Small (f : Fsp) : Prop where
  la : -1 ≤ f.la ∧ f.la ≤ 255
  lb : 0 ≤ f.lb ∧ f.lb ≤ 999
  ha : -1 ≤ f.ha ∧ f.ha ≤ 255
  hb : 0 ≤ f.hb ∧ f.hb ≤ 999
theorem fsmall_of_ok {f : Fsp} {n : Int} (hn : n ≤ 3) (h : fspOk f n = true) : f.Small := by
  unfold fspOk at h
  rw [Bool.and_eq_true, keyOk_iff, keyOk_iff] at h
  exact ⟨by omega, by omega, by omega, by omega⟩
theorem fspR_back {f : Fsp} (h : f.Small) (r : List Nat) : fspR (some (wordsF1 f ++ r)) = some (f, r) := by
  obtain ⟨la, lb, ha, hb, wr⟩ := f
  obtain ⟨h1, h2, h3, h4⟩ := h
  dsimp only at *
  simp only [wordsF1, List.cons_append, List.nil_append]
  have k1 := keyR_back h1 h2 (sgn ha :: hb.toNat :: flagW wr :: r)
  have k2 := keyR_back h3 h4 (flagW wr :: r)
  have s1 : kS (some (sgn la :: lb.toNat :: sgn ha :: hb.toNat :: flagW wr :: r)) = some (sgn ha :: hb.toNat :: flagW wr :: r) := by rw [kS, k1]; rfl
  have s2 : kS (some (sgn ha :: hb.toNat :: flagW wr :: r)) = some (flagW wr :: r) := by rw [kS, k2]; rfl
  have v1 : kV (some (sgn la :: lb.toNat :: sgn ha :: hb.toNat :: flagW wr :: r)) = (la, lb) := by rw [kV, k1]; rfl
  have v2 : kV (some (sgn ha :: hb.toNat :: flagW wr :: r)) = (ha, hb) := by rw [kV, k2]; rfl
  simp only [fspR, s1, s2, v1, v2, flagR_back, Option.map_some]
theorem stF_back {l : List Fsp} (h : ∀ i ∈ l, i.Small) (k : Nat) (hk : k ≤ l.length) : stF k (some (l.flatMap wordsF1)) = some ((l.drop k).flatMap wordsF1) ∧ lsF k (some (l.flatMap wordsF1)) = l.take k := by
  induction k with
  | zero => simp [stF, lsF]
  | succ k ih =>
    obtain ⟨e1, e2⟩ := ih (by omega)
    have hkl : k < l.length := by omega
    have e3 : fspR (stF k (some (l.flatMap wordsF1))) = some (l[k], (l.drop (k + 1)).flatMap wordsF1) := by
      rw [e1, List.drop_eq_getElem_cons hkl, List.flatMap_cons]
      exact fspR_back (h _ (List.getElem_mem hkl)) _
    rw [stF, lsF, e3, e2]
    exact ⟨rfl, (List.take_succ_eq_append_getElem hkl).symm⟩
theorem gotF_back {l : List Fsp} (h : ∀ i ∈ l, i.Small) (hl : l.length ≤ 4) : gotFS (some (wordsF l)) = some [] ∧ gotFL (some (wordsF l)) = l := by
  have e0 : cntR 4 (some (wordsF l)) = some (l.length, l.flatMap wordsF1) := by
    have := cntR_back (m := 4) (n := (l.length : Int)) (by omega) (l.flatMap wordsF1)
    simpa [wordsF] using this
  have e1 : gotFN (some (wordsF l)) = l.length := by rw [gotFN, e0]; rfl
  have e2 : cS 4 (some (wordsF l)) = some (l.flatMap wordsF1) := by rw [cS, e0]; rfl
  obtain ⟨q1, q2⟩ := stF_back h l.length (Nat.le_refl _)
  have e3 : gotFS (some (wordsF l)) = some [] := by
    rw [gotFS, e1, e2, q1]
    simp
  refine ⟨e3, ?_⟩
  rw [gotFL, e3, e1, e2, q2]
  simp
end Go.Proofs.YtbemfomiiikpoaaGreat
/- What the document's own reader reads as a flag. -/
namespace Go.Proofs.YtbemfomiiikpoaaGreat
open Go.RowKit

set_option maxHeartbeats 2000000 in
theorem rd9_2 (u : Nat) (xs : List Nat) (A : Option Addr) (n c B : Nat) (w : World) (hBw : B ≤ w.heap.size) (hsl : Sl w B A (u64s (u :: xs))) (hn : xs.length + 1 = n) (hnc : n ≤ c) (hcm : c ≤ maxLen) :
    Calls Tryz.prog 60 #[.slice A n c, .int .i64 2, .int .i64 0] w (Rd9 w B (u :: xs) (cI 1 (u :: xs))) := by
  obtain ⟨ad, rfl, hadw0, hc0⟩ := hsl.wordB (k := 0) (by simp)
  have hadw : ad.block < w.heap.size := Nat.lt_of_lt_of_le hadw0 hBw
  have hc0 : w.cell? ad = some (.int .u64 u) := hc0
  have hs1 := sl_tail9 (c := c) hsl (by omega) (fun _ _ => rfl)
  obtain ⟨i0, hi0, hz0, hz1, hz2⟩ := info_parts info43
  have hrs := fun W => run_slice_from9 (P := Tryz.prog) 29 70 i0 Tryz.underlying29 hi0 hz1 (some ad) n c 1 1 rfl (by omega) W
  generalize (if c = 1 then some ad else (some ad).map (·.add 1)) = A1 at *
  have Hs1 := Lib.hid hs1
  have Hn := Lib.hid hn
  have Hcm := Lib.hid hcm
  have hn0 : 1 ≤ n := by omega
  have hnz : ((n : Int) == 0) = false := by rw [beq_eq_false_iff_ne]; omega
  clear hsl hn hs1 hi0 hz0 hz1 hz2 hcm hadw0
  by_cases hum : (u : Int) ≤ 1
  · have hd2 : decide (1 < (u : Int)) = false := by simp; omega
    have hcn : Hid (cI 1 (u :: xs) = some (((u : Int), 0), xs)) := Lib.hid (by simp only [cI, cntR]; rw [if_pos (by omega)]; rfl)
    go_enter Tryz.func60, Tryz.ntmps60
    go_wp2
    have hxl : xs.length = n - 1 := by have := Hn.out; omega
    refine bodyPost_ret (v := .tuple #[.agg #[.int .i64 2, .int .i64 u, .int .i64 0, .int .i64 0, .string ⟨#[]⟩, .slice none 0 0], .slice A1 (n - 1) (c - 1), .bool true]) (by simp [results, Tryz.results60, go_sem]) rfl ⟨by repeat (first | exact Fr.refl _ _ | refine Fr.alloc ?_ _ | refine Fr.setCell ?_ (.inr (by simp)) _), .inl ⟨2, u, 0, 0, xs, A1, c - 1, hcn.out, by rw [hxl]; rfl, Hs1.out, by omega, by have := Hcm.out; omega, by simp⟩⟩
  · have hd2 : decide (1 < (u : Int)) = true := by simp; omega
    have hcn : Hid (cI 1 (u :: xs) = none) := Lib.hid (by simp only [cI, cntR]; rw [if_neg (by omega)]; rfl)
    go_enter Tryz.func60, Tryz.ntmps60
    go_wp2
    refine bodyPost_ret (v := .tuple #[.agg #[.int .i64 2, .int .i64 0, .int .i64 0, .int .i64 0, .string ⟨#[]⟩, .slice none 0 0], .slice (some ad) n c, .bool false]) (by simp [results, Tryz.results60, go_sem]) rfl ⟨by repeat (first | exact Fr.refl _ _ | refine Fr.alloc ?_ _ | refine Fr.setCell ?_ (.inr (by simp)) _), .inr ⟨2, 0, 0, 0, _, hcn.out, rfl⟩⟩

theorem fS_cS (st : Option (List Nat)) : fS st = cS 1 st ∧ (((cV 1 st) == 1) = fV st) := by
  match st with
  | none => exact ⟨rfl, rfl⟩
  | some [] => exact ⟨rfl, rfl⟩
  | some (u :: r) =>
    by_cases h : u ≤ 1
    · have h1 : 0 ≤ (1 : Int) ∧ (u : Int) ≤ 1 := by omega
      have e1 : flagR (some (u :: r)) = some (u == 1, r) := by simp only [flagR]; rw [if_pos h]
      have e2 : cntR 1 (some (u :: r)) = some (u, r) := by simp only [cntR]; rw [if_pos h1]
      refine ⟨by rw [fS, cS, e1, e2]; rfl, ?_⟩
      rw [fV, cV, e1, e2]
      simp only [Option.map_some, Option.getD_some]
      rw [Bool.eq_iff_iff, beq_iff_eq, beq_iff_eq]
      omega
    · have h1 : ¬ (0 ≤ (1 : Int) ∧ (u : Int) ≤ 1) := by omega
      have e1 : flagR (some (u :: r)) = none := by simp only [flagR]; rw [if_neg h]
      have e2 : cntR 1 (some (u :: r)) = none := by simp only [cntR]; rw [if_neg h1]
      refine ⟨by rw [fS, cS, e1, e2]; rfl, ?_⟩
      rw [fV, cV, e1, e2]
      rfl
/-- A flag, as the document's reader reads it: a number that is 1, or isn't. -/
theorem itemF_any (q B : Nat) (st : Option (List Nat)) (w : World) (hr : RR w B q st) :
    Calls Tryz.prog 32 #[.pointer (some ⟨q, 0, none⟩), .int .i64 2, .int .i64 0] w fun e w' => ∃ k n m x : Int, e = .returned (itV k n m x) ∧ (n == 1) = fV st ∧ RR w' B q (fS st) ∧ Fr (Only q) w w' := by
  have h : Calls Tryz.prog 32 #[.pointer (some ⟨q, 0, none⟩), .int .i64 2, .int .i64 0] w (Itm w B q (cO 1 st)) := by
    cases st with
    | none => exact item_none 2 0 q B w hr
    | some xs =>
      refine item_some 2 0 q B xs (cI 1 xs) w hr (fun A n c W hW hs h1 h2 h3 => ?_) (cI_64 hr.words)
      have hBW : B ≤ W.heap.size := by obtain ⟨_, _, _, k1, k2, _⟩ := hr; have := k1.lt; have := hW.size; omega
      match xs, h1, hs with
      | [], h1, _ =>
        obtain rfl : n = 0 := by simpa using h1.symm
        exact rd9_nil 2 0 A c B W
      | u :: r, h1, hs => exact rd9_2 u r A n c B W hBW hs (by simpa using h1) h2 h3
  refine h.mono fun e w' h => ?_
  obtain ⟨k, m', h1, h2, h3⟩ := h
  have e1 : (((cO 1 st).map (·.1)).getD (0, 0)).1 = cV 1 st := by
    cases st with
    | none => rfl
    | some xs =>
      simp only [cO, Option.bind_some, cI, cV]
      cases cntR 1 (some xs) <;> rfl
  have e2 : (cO 1 st).map (·.2) = cS 1 st := by
    cases st with
    | none => rfl
    | some xs =>
      simp only [cO, Option.bind_some, cI, cS]
      cases cntR 1 (some xs) <;> rfl
  rw [e1] at h1
  rw [e2, ← (fS_cS st).1] at h2
  exact ⟨k, _, m', _, h1, (fS_cS st).2, h2, h3⟩
end Go.Proofs.YtbemfomiiikpoaaGreat
/- What the document's own reader reads as a footprint. -/
namespace Go.Proofs.YtbemfomiiikpoaaGreat
open Go.RowKit

theorem info_fsp : (Tryz.prog.info? 125).map (fun i => (i.zero, i.size, i.bytes)) = some (some (.agg #[.int .i64 0, .int .i64 0, .int .i64 0, .int .i64 0, .bool false]), 5, 40) := by kernel_rfl
theorem fsp_one (f : Fsp) : ∀ u ∈ f.cells.toArray.toList, u.oneCell' = true := by
  intro u hu
  simp only [Fsp.cells, List.mem_cons, List.not_mem_nil, or_false] at hu
  rcases hu with rfl | rfl | rfl | rfl | rfl <;> rfl
/-- What a span of templates is, of its parts. -/
theorem fspR_parts {s s1 s2 s3 s4 s5 : Option (List Nat)} {a b c d : Int} (ha : a = gV s) (h1 : s1 = gS s) (hb : b = cV 999 s1) (h2 : s2 = cS 999 s1) (hc : c = gV s2) (h3 : s3 = gS s2) (hd : d = cV 999 s3) (h4 : s4 = cS 999 s3) (h5 : s5 = if far9 a ∨ far9 c then none else s4) :
    (fspR s).map (·.2) = fS s5 ∧ ∀ q, fspR s = some q → q.1 = ⟨a, b, c, d, fV s5⟩ := by
  by_cases fa : far9 a
  · have e1 : keyR s = none := by rw [keyR, ← ha, if_pos fa]
    have e2 : kS s = none := by rw [kS, e1]; rfl
    have e3 : fspR s = none := by rw [fspR, e2]; rfl
    have e4 : s5 = none := by rw [h5, if_pos (.inl fa)]
    rw [e3, e4]
    exact ⟨rfl, fun q h => by cases h⟩
  · have k1 : keyR s = (cntR 999 s1).map fun q => ((a, (q.1 : Int)), q.2) := by rw [keyR, ← ha, if_neg fa, ← h1]
    have e2 : kS s = s2 := by rw [kS, k1, h2, cS, Option.map_map]; rfl
    by_cases fc : far9 c
    · have e1 : keyR s2 = none := by rw [keyR, ← hc, if_pos fc]
      have e3 : fspR s = none := by rw [fspR, e2, kS, e1]; rfl
      have e4 : s5 = none := by rw [h5, if_pos (.inr fc)]
      rw [e3, e4]
      exact ⟨rfl, fun q h => by cases h⟩
    · have k2 : keyR s2 = (cntR 999 s3).map fun q => ((c, (q.1 : Int)), q.2) := by rw [keyR, ← hc, if_neg fc, ← h3]
      have e3 : kS s2 = s4 := by rw [kS, k2, h4, cS, Option.map_map]; rfl
      have e4 : s5 = s4 := by rw [h5, if_neg (fun h => h.elim fa fc)]
      have e5 : fspR s = (flagR s4).map fun q => (⟨(kV s).1, (kV s).2, (kV s2).1, (kV s2).2, q.1⟩, q.2) := by rw [fspR, e2, e3]
      refine ⟨by rw [e5, e4, Option.map_map]; rfl, fun q hq => ?_⟩
      rw [e5] at hq
      cases h7 : flagR s4 with
      | none => rw [h7] at hq; cases hq
      | some z =>
        rw [h7] at hq
        simp only [Option.map_some, Option.some.injEq] at hq
        have n4 : s4.isSome = true := by
          cases s4 with
          | none => cases h7
          | some _ => rfl
        have m4 : ∃ y, cntR 999 s3 = some y := by
          rw [h4, cS] at n4
          cases h8 : cntR 999 s3 with
          | none => rw [h8] at n4; cases n4
          | some y => exact ⟨y, rfl⟩
        obtain ⟨y4, h8⟩ := m4
        have n2 : s2.isSome = true := by
          cases h9 : s2 with
          | none =>
            rw [h3, h9] at h8
            cases h8
          | some _ => rfl
        have m2 : ∃ y, cntR 999 s1 = some y := by
          rw [h2, cS] at n2
          cases h9 : cntR 999 s1 with
          | none => rw [h9] at n2; cases n2
          | some y => exact ⟨y, rfl⟩
        obtain ⟨y2, h9⟩ := m2
        have v1 : kV s = (a, b) := by rw [kV, k1, h9, hb, cV, h9]; rfl
        have v2 : kV s2 = (c, d) := by rw [kV, k2, h8, hd, cV, h8]; rfl
        rw [← hq, v1, v2, e4, fV, h7]
        rfl

/-- A footprint that the document's reader read. -/
def GotFQ (w : World) (B q : Nat) (st : Option (List Nat)) (e : Ending) (w' : World) : Prop :=
  ∃ A c, e = .returned (.slice A (gotFL st).length c) ∧ Sl w' w'.heap.size A ((gotFL st).flatMap Fsp.cells) ∧ RR w' B q (gotFS st) ∧ Fr (Only q) w w'
/-- The same, as a row of the call's own. -/
def GotFQO (w : World) (B q : Nat) (st : Option (List Nat)) (e : Ending) (w' : World) : Prop :=
  ∃ A c, e = .returned (.slice A (gotFL st).length c) ∧ w'.ownsRow w.heap.size 125 5 (.slice A (gotFL st).length c) (gotFL st).length ((gotFL st).flatMap Fsp.cells) ∧ RR w' B q (gotFS st) ∧ Fr (Only q) w w'
/-- What stands while a span is being read. -/
structure Mid10 (w0 w : World) (B q : Nat) (A : Option Addr) (k c : Nat) (L : List Fsp) (s : Option (List Nat)) : Prop where
  own : w.ownsRow w0.heap.size 125 5 (.slice A k c) k (L.flatMap Fsp.cells)
  rr : RR w B q s
  fr : Fr (Only q) w0 w
theorem Mid10.call {w0 w w' : World} {B q : Nat} {A : Option Addr} {k c : Nat} {L : List Fsp} {s s' : Option (List Nat)} (h : Mid10 w0 w B q A k c L s) (hq : q < w0.heap.size) (hf : Fr (Only q) w w') (hr : RR w' B q s') : Mid10 w0 w' B q A k c L s' :=
  ⟨own_fr h.own hf (fun i hi e => by have e : i = q := e; have := (h.own.lt i hi).1; omega), hr, h.fr.trans' hf (fun _ _ e => e)⟩

set_option maxHeartbeats 4000000 in
theorem refGet10_own (q B : Nat) (st : Option (List Nat)) (w : World) (hr : RR w B q st) : Calls Tryz.prog 62 #[.pointer (some ⟨q, 0, none⟩)] w (GotFQO w B q st) := by
  have hql := hr.lt
  have hBq : B ≤ q := by obtain ⟨_, _, _, _, k2, _⟩ := hr; exact k2
  have Hr := Lib.hid hr
  have fl1 := field1
  have fl3 := field3
  clear hr
  go_enter Tryz.func62, Tryz.ntmps62
  go_wp2_with fail
  refine (itemN_any 4 q B st _ Hr.out (by omega)).mono ?_
  rintro e w1 ⟨j1, j2, j3, rfl, q1, f1⟩
  obtain ⟨s1, h1⟩ : ∃ s1, Hid (s1 = cS 4 st) := ⟨_, Lib.hid rfl⟩
  obtain ⟨n, hn⟩ : ∃ n, Hid (n = gotFN st) := ⟨_, Lib.hid rfl⟩
  have hcv : cV 4 st = (n : Int) := by rw [hn.out]; rfl
  have hn4 : n ≤ 4 := by rw [hn.out]; exact gotFN_le st
  rw [← h1.out] at q1
  rw [hcv]
  simp only [itV]
  have HS : Hid (gotFS st = stF n s1) := Lib.hid (by rw [gotFS, hn.out, h1.out])
  have HL : Hid (gotFL st = if (stF n s1).isSome = true then lsF n s1 else []) := Lib.hid (by rw [gotFL, gotFS, hn.out, h1.out])
  have Q1 := Lib.hid q1
  have F1 := Lib.hid f1
  clear q1 f1 hcv Hr
  go_wp2
  go_loopw [4, 5] (fun out i wr => ∃ (k : Nat) (A : Option Addr) (c : Nat) (L : List Fsp), k ≤ n ∧ i = .int .i64 k ∧ out = .slice A k c ∧ Hid (L.length = k ∧ Mid10 w wr B q A k c L (stF k s1) ∧ ((stF k s1).isSome = true → L = lsF k s1))) (fun _ i _ => n - (intOf i).toNat)
  case atStart => exact ⟨0, none, 0, [], Nat.zero_le _, rfl, rfl, Lib.hid ⟨rfl, ⟨World.ownsRow_nil _ _ _ _, Q1.out, F1.out⟩, fun _ => rfl⟩⟩
  case round =>
    obtain ⟨k, A, c, L, hk, rfl, rfl, hst⟩ := hrel
    by_cases hlt : k < n
    · obtain ⟨hl, hm0, hL⟩ := hst.out
      have Hl := Lib.hid hl
      have HLk := Lib.hid hL
      have M0 := Lib.hid hm0
      obtain ⟨s, hs⟩ : ∃ s, Hid (s = stF k s1) := ⟨_, Lib.hid rfl⟩
      rw [← hs.out] at M0
      clear hl hm0 hL hst
      go_wp2_with fail
      refine (itemS_any q B s _ M0.out.rr).mono ?_
      rintro e w2 ⟨j1, j2, j3, rfl, r1, f1⟩
      obtain ⟨t1, ht1⟩ : ∃ z, Hid (z = gS s) := ⟨_, Lib.hid rfl⟩
      obtain ⟨va, gva⟩ : ∃ z, Hid (z = gV s) := ⟨_, Lib.hid rfl⟩
      rw [← ht1.out] at r1
      rw [← gva.out]
      simp only [itV]
      have M1 := Lib.hid (M0.out.call hql f1 r1)
      clear r1 f1
      go_wp2_with fail
      refine (itemN_any 999 q B t1 _ M1.out.rr (by omega)).mono ?_
      rintro e w3 ⟨j1, j2, j3, rfl, r1, f1⟩
      obtain ⟨t2, ht2⟩ : ∃ z, Hid (z = cS 999 t1) := ⟨_, Lib.hid rfl⟩
      obtain ⟨vb, gvb⟩ : ∃ z, Hid (z = cV 999 t1) := ⟨_, Lib.hid rfl⟩
      rw [← ht2.out] at r1
      rw [← gvb.out]
      simp only [itV]
      have M2 := Lib.hid (M1.out.call hql f1 r1)
      clear r1 f1
      go_wp2_with fail
      refine (itemS_any q B t2 _ M2.out.rr).mono ?_
      rintro e w4 ⟨j1, j2, j3, rfl, r1, f1⟩
      obtain ⟨t3, ht3⟩ : ∃ z, Hid (z = gS t2) := ⟨_, Lib.hid rfl⟩
      obtain ⟨vc, gvc⟩ : ∃ z, Hid (z = gV t2) := ⟨_, Lib.hid rfl⟩
      rw [← ht3.out] at r1
      rw [← gvc.out]
      simp only [itV]
      have M3 := Lib.hid (M2.out.call hql f1 r1)
      clear r1 f1
      go_wp2_with fail
      refine (itemN_any 999 q B t3 _ M3.out.rr (by omega)).mono ?_
      rintro e w5 ⟨j1, j2, j3, rfl, r1, f1⟩
      obtain ⟨t4, ht4⟩ : ∃ z, Hid (z = cS 999 t3) := ⟨_, Lib.hid rfl⟩
      obtain ⟨vd, gvd⟩ : ∃ z, Hid (z = cV 999 t3) := ⟨_, Lib.hid rfl⟩
      rw [← ht4.out] at r1
      rw [← gvd.out]
      simp only [itV]
      have M4 := Lib.hid (M3.out.call hql f1 r1)
      clear r1 f1
      obtain ⟨t5, ht5⟩ : ∃ z, Hid (z = if far9 va ∨ far9 vc then none else t4) := ⟨_, Lib.hid rfl⟩
      by_cases hfar : far9 va ∨ far9 vc
      · have e5 : t5 = none := by rw [ht5.out, if_pos hfar]
        obtain ⟨A9, n9, c9, b9, b8, -⟩ := M4.out.rr
        have z1 := b9.frozen 1
        have c1 := b9.cell 1
        simp at c1
        have hb1 := b9.put 1 (.bool true)
        simp at hb1
        have hfq : Fr (Only q) w5 (w5.setCell ⟨q, 1, none⟩ (.bool true)) := (Fr.refl (Only q) w5).setCell (p := ⟨q, 1, none⟩) (.inl rfl) _
        have M5 : Hid (Mid10 w (w5.setCell ⟨q, 1, none⟩ (.bool true)) B q A k c L t5) := Lib.hid (M4.out.call hql hfq (by rw [e5]; exact ⟨A9, n9, c9, hb1, b8, fun ys e => by cases e⟩))
        clear b9 hb1 hfq e5
        have hways : va < -1 ∨ (¬ va < -1 ∧ 255 < va) ∨ (¬ va < -1 ∧ ¬ 255 < va ∧ vc < -1) ∨ (¬ va < -1 ∧ ¬ 255 < va ∧ ¬ vc < -1 ∧ 255 < vc) := by
          unfold far9 at hfar
          omega
        clear hfar
        rcases hways with h | ⟨h, h2⟩ | ⟨h, h2, h3⟩ | ⟨h, h2, h3, h4⟩
        · have d1 : decide (va < -1) = true := by simpa using h
          go_wp2_with fail
          refine (itemF_any q B t5 _ M5.out.rr).mono ?_
          rintro e w7 ⟨j1, nf, j2, j3, rfl, hnf, r1, f1⟩
          have M6 := Lib.hid (M5.out.call hql f1 r1)
          clear r1 f1
          obtain ⟨vf, hvf⟩ : ∃ z, Hid (z = fV t5) := ⟨_, Lib.hid rfl⟩
          rw [← hvf.out] at hnf
          simp only [itV]
          have hu1 := fsp_one ⟨va, vb, vc, vd, vf⟩
          have hsz := M6.out.fr.size
          go_wp2_with (at_builtin; (refine wpList_append_elem rfl _ _ _ rfl w.heap.size 125 _ 5 40 Tryz.underlying54 info_fsp rfl (by omega) (.slice A k c) k (L.flatMap Fsp.cells) #[.int .i64 va, .int .i64 vb, .int .i64 vc, .int .i64 vd, .bool vf] rfl hu1 rfl w7.heap.size (by simp) rfl M6.out.own (by unfold maxLen; omega) (by omega) hsz ?_; intro A3 c3 w9 hown3 hf3 hg3))
          obtain ⟨p1, p2⟩ := fspR_parts gva.out ht1.out gvb.out ht2.out gvc.out ht3.out gvd.out ht4.out ht5.out
          have F9 : Fr (Only q) w w9 := M6.out.fr.trans' hf3 (fun i hi e => by have := (M6.out.own.lt i e).1; omega)
          have R9 : RR w9 B q (stF (k + 1) s1) := by
            have e1 : stF (k + 1) s1 = fS t5 := by rw [stF, ← hs.out, p1]
            rw [e1]
            exact M6.out.rr.fr hf3 (fun e => by have := (M6.out.own.lt q e).1; omega) (fun i e => by have := (M6.out.own.lt i e).1; omega)
          have HN := Lib.hid (lsF_next HLk.out (fun y hy => by rw [← hs.out] at hy; exact p2 y hy))
          rw [← hvf.out] at HN
          go_roundw
          case rel =>
            refine ⟨k + 1, A3, c3, L ++ [⟨va, vb, vc, vd, vf⟩], by omega, by go_num, rfl, Lib.hid ⟨by simp [Hl.out], ⟨?_, R9, F9⟩, HN.out⟩⟩
            rw [List.flatMap_append]
            simpa [Fsp.cells] using hown3
          case measure => simp [intOf]; omega
        · have d1 : decide (va < -1) = false := by simpa using h
          have d2 : decide (255 < va) = true := by simpa using h2
          go_wp2_with fail
          refine (itemF_any q B t5 _ M5.out.rr).mono ?_
          rintro e w7 ⟨j1, nf, j2, j3, rfl, hnf, r1, f1⟩
          have M6 := Lib.hid (M5.out.call hql f1 r1)
          clear r1 f1
          obtain ⟨vf, hvf⟩ : ∃ z, Hid (z = fV t5) := ⟨_, Lib.hid rfl⟩
          rw [← hvf.out] at hnf
          simp only [itV]
          have hu1 := fsp_one ⟨va, vb, vc, vd, vf⟩
          have hsz := M6.out.fr.size
          go_wp2_with (at_builtin; (refine wpList_append_elem rfl _ _ _ rfl w.heap.size 125 _ 5 40 Tryz.underlying54 info_fsp rfl (by omega) (.slice A k c) k (L.flatMap Fsp.cells) #[.int .i64 va, .int .i64 vb, .int .i64 vc, .int .i64 vd, .bool vf] rfl hu1 rfl w7.heap.size (by simp) rfl M6.out.own (by unfold maxLen; omega) (by omega) hsz ?_; intro A3 c3 w9 hown3 hf3 hg3))
          obtain ⟨p1, p2⟩ := fspR_parts gva.out ht1.out gvb.out ht2.out gvc.out ht3.out gvd.out ht4.out ht5.out
          have F9 : Fr (Only q) w w9 := M6.out.fr.trans' hf3 (fun i hi e => by have := (M6.out.own.lt i e).1; omega)
          have R9 : RR w9 B q (stF (k + 1) s1) := by
            have e1 : stF (k + 1) s1 = fS t5 := by rw [stF, ← hs.out, p1]
            rw [e1]
            exact M6.out.rr.fr hf3 (fun e => by have := (M6.out.own.lt q e).1; omega) (fun i e => by have := (M6.out.own.lt i e).1; omega)
          have HN := Lib.hid (lsF_next HLk.out (fun y hy => by rw [← hs.out] at hy; exact p2 y hy))
          rw [← hvf.out] at HN
          go_roundw
          case rel =>
            refine ⟨k + 1, A3, c3, L ++ [⟨va, vb, vc, vd, vf⟩], by omega, by go_num, rfl, Lib.hid ⟨by simp [Hl.out], ⟨?_, R9, F9⟩, HN.out⟩⟩
            rw [List.flatMap_append]
            simpa [Fsp.cells] using hown3
          case measure => simp [intOf]; omega
        · have d1 : decide (va < -1) = false := by simpa using h
          have d2 : decide (255 < va) = false := by simpa using h2
          have d3 : decide (vc < -1) = true := by simpa using h3
          go_wp2_with fail
          refine (itemF_any q B t5 _ M5.out.rr).mono ?_
          rintro e w7 ⟨j1, nf, j2, j3, rfl, hnf, r1, f1⟩
          have M6 := Lib.hid (M5.out.call hql f1 r1)
          clear r1 f1
          obtain ⟨vf, hvf⟩ : ∃ z, Hid (z = fV t5) := ⟨_, Lib.hid rfl⟩
          rw [← hvf.out] at hnf
          simp only [itV]
          have hu1 := fsp_one ⟨va, vb, vc, vd, vf⟩
          have hsz := M6.out.fr.size
          go_wp2_with (at_builtin; (refine wpList_append_elem rfl _ _ _ rfl w.heap.size 125 _ 5 40 Tryz.underlying54 info_fsp rfl (by omega) (.slice A k c) k (L.flatMap Fsp.cells) #[.int .i64 va, .int .i64 vb, .int .i64 vc, .int .i64 vd, .bool vf] rfl hu1 rfl w7.heap.size (by simp) rfl M6.out.own (by unfold maxLen; omega) (by omega) hsz ?_; intro A3 c3 w9 hown3 hf3 hg3))
          obtain ⟨p1, p2⟩ := fspR_parts gva.out ht1.out gvb.out ht2.out gvc.out ht3.out gvd.out ht4.out ht5.out
          have F9 : Fr (Only q) w w9 := M6.out.fr.trans' hf3 (fun i hi e => by have := (M6.out.own.lt i e).1; omega)
          have R9 : RR w9 B q (stF (k + 1) s1) := by
            have e1 : stF (k + 1) s1 = fS t5 := by rw [stF, ← hs.out, p1]
            rw [e1]
            exact M6.out.rr.fr hf3 (fun e => by have := (M6.out.own.lt q e).1; omega) (fun i e => by have := (M6.out.own.lt i e).1; omega)
          have HN := Lib.hid (lsF_next HLk.out (fun y hy => by rw [← hs.out] at hy; exact p2 y hy))
          rw [← hvf.out] at HN
          go_roundw
          case rel =>
            refine ⟨k + 1, A3, c3, L ++ [⟨va, vb, vc, vd, vf⟩], by omega, by go_num, rfl, Lib.hid ⟨by simp [Hl.out], ⟨?_, R9, F9⟩, HN.out⟩⟩
            rw [List.flatMap_append]
            simpa [Fsp.cells] using hown3
          case measure => simp [intOf]; omega
        · have d1 : decide (va < -1) = false := by simpa using h
          have d2 : decide (255 < va) = false := by simpa using h2
          have d3 : decide (vc < -1) = false := by simpa using h3
          have d4 : decide (255 < vc) = true := by simpa using h4
          go_wp2_with fail
          refine (itemF_any q B t5 _ M5.out.rr).mono ?_
          rintro e w7 ⟨j1, nf, j2, j3, rfl, hnf, r1, f1⟩
          have M6 := Lib.hid (M5.out.call hql f1 r1)
          clear r1 f1
          obtain ⟨vf, hvf⟩ : ∃ z, Hid (z = fV t5) := ⟨_, Lib.hid rfl⟩
          rw [← hvf.out] at hnf
          simp only [itV]
          have hu1 := fsp_one ⟨va, vb, vc, vd, vf⟩
          have hsz := M6.out.fr.size
          go_wp2_with (at_builtin; (refine wpList_append_elem rfl _ _ _ rfl w.heap.size 125 _ 5 40 Tryz.underlying54 info_fsp rfl (by omega) (.slice A k c) k (L.flatMap Fsp.cells) #[.int .i64 va, .int .i64 vb, .int .i64 vc, .int .i64 vd, .bool vf] rfl hu1 rfl w7.heap.size (by simp) rfl M6.out.own (by unfold maxLen; omega) (by omega) hsz ?_; intro A3 c3 w9 hown3 hf3 hg3))
          obtain ⟨p1, p2⟩ := fspR_parts gva.out ht1.out gvb.out ht2.out gvc.out ht3.out gvd.out ht4.out ht5.out
          have F9 : Fr (Only q) w w9 := M6.out.fr.trans' hf3 (fun i hi e => by have := (M6.out.own.lt i e).1; omega)
          have R9 : RR w9 B q (stF (k + 1) s1) := by
            have e1 : stF (k + 1) s1 = fS t5 := by rw [stF, ← hs.out, p1]
            rw [e1]
            exact M6.out.rr.fr hf3 (fun e => by have := (M6.out.own.lt q e).1; omega) (fun i e => by have := (M6.out.own.lt i e).1; omega)
          have HN := Lib.hid (lsF_next HLk.out (fun y hy => by rw [← hs.out] at hy; exact p2 y hy))
          rw [← hvf.out] at HN
          go_roundw
          case rel =>
            refine ⟨k + 1, A3, c3, L ++ [⟨va, vb, vc, vd, vf⟩], by omega, by go_num, rfl, Lib.hid ⟨by simp [Hl.out], ⟨?_, R9, F9⟩, HN.out⟩⟩
            rw [List.flatMap_append]
            simpa [Fsp.cells] using hown3
          case measure => simp [intOf]; omega
      · have e5 : t5 = t4 := by rw [ht5.out, if_neg hfar]
        have M5 : Hid (Mid10 w w5 B q A k c L t5) := Lib.hid (by rw [e5]; exact M4.out)
        have hno : ¬ va < -1 ∧ ¬ 255 < va ∧ ¬ vc < -1 ∧ ¬ 255 < vc := by
          unfold far9 at hfar
          omega
        clear hfar e5
        have d1 : decide (va < -1) = false := by simpa using hno.1
        have d2 : decide (255 < va) = false := by simpa using hno.2.1
        have d3 : decide (vc < -1) = false := by simpa using hno.2.2.1
        have d4 : decide (255 < vc) = false := by simpa using hno.2.2.2
        go_wp2_with fail
        refine (itemF_any q B t5 _ M5.out.rr).mono ?_
        rintro e w7 ⟨j1, nf, j2, j3, rfl, hnf, r1, f1⟩
        have M6 := Lib.hid (M5.out.call hql f1 r1)
        clear r1 f1
        obtain ⟨vf, hvf⟩ : ∃ z, Hid (z = fV t5) := ⟨_, Lib.hid rfl⟩
        rw [← hvf.out] at hnf
        simp only [itV]
        have hu1 := fsp_one ⟨va, vb, vc, vd, vf⟩
        have hsz := M6.out.fr.size
        go_wp2_with (at_builtin; (refine wpList_append_elem rfl _ _ _ rfl w.heap.size 125 _ 5 40 Tryz.underlying54 info_fsp rfl (by omega) (.slice A k c) k (L.flatMap Fsp.cells) #[.int .i64 va, .int .i64 vb, .int .i64 vc, .int .i64 vd, .bool vf] rfl hu1 rfl w7.heap.size (by simp) rfl M6.out.own (by unfold maxLen; omega) (by omega) hsz ?_; intro A3 c3 w9 hown3 hf3 hg3))
        obtain ⟨p1, p2⟩ := fspR_parts gva.out ht1.out gvb.out ht2.out gvc.out ht3.out gvd.out ht4.out ht5.out
        have F9 : Fr (Only q) w w9 := M6.out.fr.trans' hf3 (fun i hi e => by have := (M6.out.own.lt i e).1; omega)
        have R9 : RR w9 B q (stF (k + 1) s1) := by
          have e1 : stF (k + 1) s1 = fS t5 := by rw [stF, ← hs.out, p1]
          rw [e1]
          exact M6.out.rr.fr hf3 (fun e => by have := (M6.out.own.lt q e).1; omega) (fun i e => by have := (M6.out.own.lt i e).1; omega)
        have HN := Lib.hid (lsF_next HLk.out (fun y hy => by rw [← hs.out] at hy; exact p2 y hy))
        rw [← hvf.out] at HN
        go_roundw
        case rel =>
          refine ⟨k + 1, A3, c3, L ++ [⟨va, vb, vc, vd, vf⟩], by omega, by go_num, rfl, Lib.hid ⟨by simp [Hl.out], ⟨?_, R9, F9⟩, HN.out⟩⟩
          rw [List.flatMap_append]
          simpa [Fsp.cells] using hown3
        case measure => simp [intOf]; omega
    · obtain rfl : k = n := by omega
      obtain ⟨hl, hm0, hL⟩ := hst.out
      have Hl := Lib.hid hl
      have HLk := Lib.hid hL
      have M0 := Lib.hid hm0
      obtain ⟨A9, n9, c9, b9, -, -⟩ := hm0.rr
      have d1 := b9.cell 1
      simp at d1
      clear hl hm0 hL hst b9
      cases hs : stF k s1 with
      | none =>
        rw [hs] at d1
        simp only [Option.isNone_none] at d1
        go_wp2
        go_ret
        have e1 : gotFL st = [] := by rw [HL.out, hs]; rfl
        refine ⟨none, 0, by rw [e1]; rfl, by rw [e1]; exact World.ownsRow_nil _ _ _ _, by rw [HS.out]; exact M0.out.rr, M0.out.fr⟩
      | some ys =>
        rw [hs] at d1
        simp only [Option.isNone_some] at d1
        go_wp2
        go_ret
        have e1 : gotFL st = L := by rw [HL.out, if_pos (by rw [hs]; rfl), HLk.out (by rw [hs]; rfl)]
        refine ⟨A, c, by rw [e1, Hl.out]; rfl, by rw [e1, Hl.out]; exact M0.out.own, by rw [HS.out]; exact M0.out.rr, M0.out.fr⟩
theorem refGet10_any (q B : Nat) (st : Option (List Nat)) (w : World) (hr : RR w B q st) : Calls Tryz.prog 62 #[.pointer (some ⟨q, 0, none⟩)] w (GotFQ w B q st) :=
  (refGet10_own q B st w hr).mono fun _ _ h => by
    obtain ⟨A, c, h1, h2, h3, h4⟩ := h
    exact ⟨A, c, h1, Sl.ofOwn h2, h3, h4⟩
end Go.Proofs.YtbemfomiiikpoaaGreat
