/- What package prog reads as a template, an instruction and a program. -/
import Derived.Test.YtnlmhcfkipkegaaGreatPrs9
namespace Go.Proofs.YtnlmhcfkipkegaaGreat
open Go.RowKit

section
variable {G : Nat → Prop}
theorem Rdd.to {w : World} {p : Nat} {st : Option (List Nat)} {v : Value} {e : Ending} {w' : World} (h : Rdd G w p st v e w') : e = .returned v ∧ Rdq G w' p st ∧ Fr (Only p) w w' := h
/-- What a call that reads leaves and tells: what was read, where it was right. -/
def Got {α : Type} (G : Nat → Prop) (w : World) (p : Nat) (o : Option (α × List Nat)) (f : α → Value) (e : Ending) (w' : World) : Prop :=
  ∃ x : α, e = .returned (f x) ∧ (∀ q, o = some q → q.1 = x) ∧ Rdq G w' p (o.map (·.2)) ∧ Fr (Only p) w w'
theorem Got.set {α : Type} {w w3 w4 : World} {p X : Nat} {o : Option (α × List Nat)} {f : α → Value} {e : Ending} (h : Got G w p o f e w3) (hf : Fr (Only X) w3 w4) (hX : w.heap.size ≤ X) (hp : p < w.heap.size) (hG : ∀ k, G k → k < w.heap.size) : Got G w p o f e w4 := by
  obtain ⟨x, h1, h2, h3, h4⟩ := h
  refine ⟨x, h1, h2, h3.frG hf (fun e => ?_) (fun k hk e => ?_), h4.trans' hf (fun i hi e => ?_)⟩
  · have e : p = X := e
    omega
  · have e : k = X := e
    have := hG k hk
    omega
  · have e : i = X := e
    omega
theorem count9 (p : Nat) (m : Int) (st : Option (List Nat)) (w : World) (hr : Rdq G w p st) (hm : -9223372036854775808 ≤ m ∧ m < 9223372036854775808) :
    Calls Tryz.prog 27 #[.pointer (some ⟨p, 0, none⟩), .int .i64 m] w (Rdd G w p (cS m st) (.int .i64 (cV m st))) := qcount_any p m st w hr hm
theorem signed9 (p : Nat) (st : Option (List Nat)) (w : World) (hr : Rdq G w p st) :
    Calls Tryz.prog 94 #[.pointer (some ⟨p, 0, none⟩)] w (Rdd G w p (gS st) (.int .i64 (gV st))) := qsigned_any p st w hr

set_option maxHeartbeats 400000 in
theorem fitting_any (a : Int) (p : Nat) (st : Option (List Nat)) (w : World) (hr : Rdq G w p st) :
    Calls Tryz.prog 101 #[.int .i64 a, .func (.func 27) #[.pointer (some ⟨p, 0, none⟩)] #[]] w (Rdd G w p (if far9 a then none else st) (.int .i64 (if far9 a then 0 else a))) := by
  by_cases h1 : a < -1
  · have d1 : decide (a < -1) = true := by simpa using h1
    have hf : far9 a := .inl h1
    have e1 : cS (-1) st = none := by rw [cS, cntR_neg]; rfl
    have e2 : cV (-1) st = 0 := by rw [cV, cntR_neg]; rfl
    have C := count9 p (-1) st w hr (by omega)
    rw [e1, e2] at C
    rw [if_pos hf, if_pos hf]
    clear hf e1 e2
    go_enter Tryz.func101, Tryz.ntmps101
    go_wp2_with fail
    refine C.mono ?_
    rintro e w1 ⟨rfl, q1, q2⟩
    go_wp2
    go_ret
    exact ⟨rfl, q1, q2⟩
  · have d1 : decide (a < -1) = false := by simpa using h1
    by_cases h2 : 255 < a
    · have d2 : decide (255 < a) = true := by simpa using h2
      have hf : far9 a := .inr h2
      have e1 : cS (-1) st = none := by rw [cS, cntR_neg]; rfl
      have e2 : cV (-1) st = 0 := by rw [cV, cntR_neg]; rfl
      have C := count9 p (-1) st w hr (by omega)
      rw [e1, e2] at C
      rw [if_pos hf, if_pos hf]
      clear hf e1 e2
      go_enter Tryz.func101, Tryz.ntmps101
      go_wp2_with fail
      refine C.mono ?_
      rintro e w1 ⟨rfl, q1, q2⟩
      go_wp2
      go_ret
      exact ⟨rfl, q1, q2⟩
    · have d2 : decide (255 < a) = false := by simpa using h2
      have hf : ¬ far9 a := by unfold far9; omega
      rw [if_neg hf, if_neg hf]
      clear hf
      go_enter Tryz.func101, Tryz.ntmps101
      go_wp2
      go_ret
      exact ⟨rfl, hr, Fr.refl _ _⟩

set_option maxHeartbeats 1000000 in
theorem getKey_any (p : Nat) (st : Option (List Nat)) (w : World) (hr : Rdq G w p st) (hG : ∀ k, G k → k < w.heap.size) : Calls Tryz.prog 93 #[.pointer (some ⟨p, 0, none⟩)] w (Got G w p (keyR st) kcell) := by
  have hf0 : Fr No w (w.alloc (.cells #[.int .i64 0, .int .i64 0] 43)) := (Fr.refl _ _).alloc _
  have hr0 := hr.fr hf0 (fun e => e) (fun _ e => e.elim)
  have hpl := hr.lt
  have C1 := Lib.hid (signed9 p st _ hr0)
  have Hk : Hid (keyR st = if far9 (gV st) then none else (cntR 999 (gS st)).map fun q => ((gV st, (q.1 : Int)), q.2)) := Lib.hid rfl
  have hmf : ∀ (fn : Fn) (first cap : Array Value) (w : World), (Instr.makeFunc fn first cap).run Tryz.prog w = .ok (.func fn first cap) w := fun _ _ _ _ => rfl
  clear hr hr0
  generalize gV st = a at *
  generalize gS st = s1 at *
  go_enter Tryz.func93, Tryz.ntmps93
  go_wp2_with fail
  refine (C1.out).mono ?_
  rintro e w1 ⟨rfl, hr1, hf1⟩
  have hC2 := fitting_any a p s1 w1 hr1
  obtain ⟨s2, hs2⟩ : ∃ s2, s2 = if far9 a then none else s1 := ⟨_, rfl⟩
  obtain ⟨a2, ha2⟩ : ∃ a2, a2 = if far9 a then 0 else a := ⟨_, rfl⟩
  rw [← hs2, ← ha2] at hC2
  have C2 := Lib.hid hC2
  have Hs2 := Lib.hid hs2
  have Ha2 := Lib.hid ha2
  clear hr1 hC2 hs2 ha2
  go_wp2_with fail
  refine (C2.out).mono ?_
  rintro e w2 ⟨rfl, hr2, hf2⟩
  have C3 := Lib.hid (count9 p 999 _ w2 hr2 (by omega))
  clear hr2 C2
  go_wp2_with fail
  refine (C3.out).mono ?_
  rintro e w3 ⟨rfl, hr3, hf3⟩
  have hfw : Fr (Only p) w w3 := (((hf0.weak (fun _ _ h => h.elim)).trans' hf1 (fun _ _ h => h)).trans' hf2 (fun _ _ h => h)).trans' hf3 (fun _ _ h => h)
  have hlt3 : w.heap.size < w3.heap.size := by have h1 := hf1.size; have h2 := hf2.size; have h3 := hf3.size; simp at h1; omega
  have hb3 : Bk w3 w.heap.size 43 #[.int .i64 0, .int .i64 0] := (((Bk.made w _ _).fr hf1 (by simp [Only]; omega)).fr hf2 (by simp [Only]; omega)).fr hf3 (by simp [Only]; omega)
  have hz0 := hb3.frozen 0
  have hz1 := hb3.frozen 1
  have k0 := hb3.cell 0
  have k1 := hb3.cell 1
  simp at k0 k1
  have Hr3 := Lib.hid hr3
  clear hr3 C3 C1
  obtain ⟨b, hb⟩ : ∃ b, Hid (b = cV 999 s2) := ⟨_, Lib.hid rfl⟩
  rw [← hb.out]
  have hend : Got G w p (keyR st) kcell (.returned (.agg #[.int .i64 a2, .int .i64 b])) w3 := by
    have h3 := Hr3.out
    by_cases h : far9 a
    · have e2 : s2 = none := by rw [Hs2.out, if_pos h]
      refine ⟨(a2, b), rfl, fun q hq => ?_, ?_, hfw⟩
      · rw [Hk.out, if_pos h] at hq
        cases hq
      · rw [Hk.out, if_pos h]
        rw [e2] at h3
        exact h3
    · have e2 : s2 = s1 := by rw [Hs2.out, if_neg h]
      have e3 : a2 = a := by rw [Ha2.out, if_neg h]
      refine ⟨(a2, b), rfl, fun q hq => ?_, ?_, hfw⟩
      · rw [Hk.out, if_neg h, ← e2] at hq
        cases h5 : cntR 999 s2 with
        | none => rw [h5] at hq; cases hq
        | some y =>
          rw [h5] at hq
          simp only [Option.map_some, Option.some.injEq] at hq
          rw [← hq, e3, hb.out, cV, h5]
          rfl
      · rw [Hk.out, if_neg h, ← e2, Option.map_map]
        exact h3
  have hb4 := (hb3.put 0 (.int .i64 a2)).put 1 (.int .i64 b)
  have m0 := hb4.cell 0
  have m1 := hb4.cell 1
  simp at m0 m1
  have hf4 : Fr (Only w.heap.size) w3 ((w3.setCell ⟨w.heap.size, 0, none⟩ (.int .i64 a2)).setCell ⟨w.heap.size, 1, none⟩ (.int .i64 b)) := ((Fr.refl (Only w.heap.size) w3).setCell (p := ⟨w.heap.size, 0, none⟩) (.inl rfl) _).setCell (p := ⟨w.heap.size, 1, none⟩) (.inl rfl) _
  have Hfin := Lib.hid (hend.set hf4 (Nat.le_refl _) hpl hG)
  go_wp2
  exact bodyPost_ret (v := .agg #[.int .i64 a2, .int .i64 b]) (by simp [results, Tryz.results93, go_sem, m0, m1]) rfl Hfin.out
theorem kS_some {s : Option (List Nat)} (h : (kS s).isSome = true) : ∃ y, keyR s = some y ∧ kV s = y.1 := by
  unfold kS at h
  unfold kV
  cases h1 : keyR s with
  | none => rw [h1] at h; cases h
  | some y => exact ⟨y, rfl, rfl⟩
theorem keyR_none : keyR none = none := rfl
/-- What an instruction is, of its parts. -/
theorem insR_parts {st s1 s2 s3 s4 s5 s6 : Option (List Nat)} (h1 : s1 = cS 255 st) (h2 : s2 = cS 255 s1) (h3 : s3 = cS 255 s2) (h4 : s4 = cS 255 s3) (h5 : s5 = kS s4) (h6 : s6 = kS s5) {x y : Int × Int} (hx : ∀ q, keyR s4 = some q → q.1 = x) (hy : ∀ q, keyR s5 = some q → q.1 = y) :
    (insR st).map (·.2) = gS s6 ∧ ∀ q, insR st = some q → q.1 = ⟨cV 255 st, cV 255 s1, cV 255 s2, cV 255 s3, x.1, x.2, y.1, y.2, gV s6⟩ := by
  have e : insR st = (sgnR s6).map fun q => (⟨cV 255 st, cV 255 s1, cV 255 s2, cV 255 s3, (kV s4).1, (kV s4).2, (kV s5).1, (kV s5).2, q.1⟩, q.2) := by
    rw [h6, h5, h4, h3, h2, h1]
    rfl
  refine ⟨by rw [e, Option.map_map]; rfl, fun q hq => ?_⟩
  rw [e] at hq
  cases h7 : sgnR s6 with
  | none => rw [h7] at hq; cases hq
  | some z =>
    rw [h7] at hq
    simp only [Option.map_some, Option.some.injEq] at hq
    have n6 : s6.isSome = true := by
      cases s6 with
      | none => cases h7
      | some _ => rfl
    rw [h6] at n6
    obtain ⟨y5, g1, g2⟩ := kS_some n6
    have n5 : s5.isSome = true := by
      cases s5 with
      | none => rw [keyR_none] at g1; cases g1
      | some _ => rfl
    rw [h5] at n5
    obtain ⟨y4, g3, g4⟩ := kS_some n5
    rw [← hq, g2, g4, hx y4 g3, hy y5 g1, gV, h7]
    rfl

set_option maxHeartbeats 2000000 in
theorem getInstr_any (p : Nat) (st : Option (List Nat)) (w : World) (hr : Rdq G w p st) (hG : ∀ k, G k → k < w.heap.size) : Calls Tryz.prog 81 #[.pointer (some ⟨p, 0, none⟩)] w (Got G w p (insR st) Ins.agg) := by
  have hf0 : Fr No w (w.alloc (.cells #[.int .i64 0, .int .i64 0, .int .i64 0, .int .i64 0, .int .i64 0, .int .i64 0, .int .i64 0, .int .i64 0, .int .i64 0] 45)) := (Fr.refl _ _).alloc _
  have hb0 := Bk.made w 45 #[.int .i64 0, .int .i64 0, .int .i64 0, .int .i64 0, .int .i64 0, .int .i64 0, .int .i64 0, .int .i64 0, .int .i64 0]
  have hr0 := Lib.hid (hr.fr hf0 (fun e => e) (fun _ e => e.elim))
  have hpl := hr.lt
  have Hb0 := Lib.hid hb0
  clear hr hb0
  go_enter Tryz.func81, Tryz.ntmps81
  go_wp2_with fail
  refine (count9 p 255 st _ hr0.out (by omega)).mono ?_
  rintro e w1 ⟨rfl, q1, f1⟩
  obtain ⟨s1, h1⟩ : ∃ s1, Hid (s1 = cS 255 st) := ⟨_, Lib.hid rfl⟩
  obtain ⟨v1, g1⟩ : ∃ v, Hid (v = cV 255 st) := ⟨_, Lib.hid rfl⟩
  rw [← h1.out] at q1
  rw [← g1.out]
  have Q1 := Lib.hid q1
  have F1 : Hid (Fr (Only p) w w1) := Lib.hid ((hf0.weak (fun _ _ h => h.elim)).trans' f1 (fun _ _ h => h))
  have B1 := Lib.hid (Hb0.out.fr f1 (by simp [Only]; omega))
  clear q1 f1
  go_wp2_with fail
  refine (count9 p 255 s1 _ Q1.out (by omega)).mono ?_
  rintro e w2 ⟨rfl, q1, f1⟩
  obtain ⟨s2, h2⟩ : ∃ s2, Hid (s2 = cS 255 s1) := ⟨_, Lib.hid rfl⟩
  obtain ⟨v2, g2⟩ : ∃ v, Hid (v = cV 255 s1) := ⟨_, Lib.hid rfl⟩
  rw [← h2.out] at q1
  rw [← g2.out]
  have Q2 := Lib.hid q1
  have F2 : Hid (Fr (Only p) w w2) := Lib.hid (F1.out.trans' f1 (fun _ _ h => h))
  have B2 := Lib.hid (B1.out.fr f1 (by simp [Only]; omega))
  clear q1 f1
  go_wp2_with fail
  refine (count9 p 255 s2 _ Q2.out (by omega)).mono ?_
  rintro e w3 ⟨rfl, q1, f1⟩
  obtain ⟨s3, h3⟩ : ∃ s3, Hid (s3 = cS 255 s2) := ⟨_, Lib.hid rfl⟩
  obtain ⟨v3, g3⟩ : ∃ v, Hid (v = cV 255 s2) := ⟨_, Lib.hid rfl⟩
  rw [← h3.out] at q1
  rw [← g3.out]
  have Q3 := Lib.hid q1
  have F3 : Hid (Fr (Only p) w w3) := Lib.hid (F2.out.trans' f1 (fun _ _ h => h))
  have B3 := Lib.hid (B2.out.fr f1 (by simp [Only]; omega))
  clear q1 f1
  go_wp2_with fail
  refine (count9 p 255 s3 _ Q3.out (by omega)).mono ?_
  rintro e w4 ⟨rfl, q1, f1⟩
  obtain ⟨s4, h4⟩ : ∃ s4, Hid (s4 = cS 255 s3) := ⟨_, Lib.hid rfl⟩
  obtain ⟨v4, g4⟩ : ∃ v, Hid (v = cV 255 s3) := ⟨_, Lib.hid rfl⟩
  rw [← h4.out] at q1
  rw [← g4.out]
  have Q4 := Lib.hid q1
  have F4 : Hid (Fr (Only p) w w4) := Lib.hid (F3.out.trans' f1 (fun _ _ h => h))
  have B4 := Lib.hid (B3.out.fr f1 (by simp [Only]; omega))
  clear q1 f1
  go_wp2_with fail
  refine (getKey_any p s4 _ Q4.out (fun k hk => Nat.lt_of_lt_of_le (hG k hk) F4.out.size)).mono ?_
  rintro e w5 ⟨x5, rfl, hx, q1, f1⟩
  obtain ⟨s5, h5⟩ : ∃ s5, Hid (s5 = kS s4) := ⟨_, Lib.hid rfl⟩
  have q1 : Rdq G w5 p s5 := by rw [h5.out]; exact q1
  have Q5 := Lib.hid q1
  have Hx := Lib.hid hx
  have F5 : Hid (Fr (Only p) w w5) := Lib.hid (F4.out.trans' f1 (fun _ _ h => h))
  have B5 := Lib.hid (B4.out.fr f1 (by simp [Only]; omega))
  clear q1 f1 hx
  go_wp2_with fail
  refine (getKey_any p s5 _ Q5.out (fun k hk => Nat.lt_of_lt_of_le (hG k hk) F5.out.size)).mono ?_
  rintro e w6 ⟨y5, rfl, hy, q1, f1⟩
  obtain ⟨s6, h6⟩ : ∃ s6, Hid (s6 = kS s5) := ⟨_, Lib.hid rfl⟩
  have q1 : Rdq G w6 p s6 := by rw [h6.out]; exact q1
  have Q6 := Lib.hid q1
  have Hy := Lib.hid hy
  have F6 : Hid (Fr (Only p) w w6) := Lib.hid (F5.out.trans' f1 (fun _ _ h => h))
  have B6 := Lib.hid (B5.out.fr f1 (by simp [Only]; omega))
  clear q1 f1 hy
  go_wp2_with fail
  refine (signed9 p s6 _ Q6.out).mono ?_
  rintro e w7 ⟨rfl, q1, f1⟩
  obtain ⟨v7, g7⟩ : ∃ v, Hid (v = gV s6) := ⟨_, Lib.hid rfl⟩
  rw [← g7.out]
  have B7 := B6.out.fr f1 (by simp [Only]; omega)
  have hend : Got G w p (insR st) Ins.agg (.returned (Ins.agg ⟨v1, v2, v3, v4, x5.1, x5.2, y5.1, y5.2, v7⟩)) w7 := by
    obtain ⟨z1, z2⟩ := insR_parts h1.out h2.out h3.out h4.out h5.out h6.out Hx.out Hy.out
    refine ⟨_, rfl, fun q hq => ?_, by rw [z1]; exact q1, F6.out.trans' f1 (fun _ _ h => h)⟩
    rw [z2 q hq, g1.out, g2.out, g3.out, g4.out, g7.out]
  obtain ⟨x1, x2⟩ := x5
  obtain ⟨y1, y2⟩ := y5
  dsimp only at hend
  have Hend := Lib.hid hend
  clear hend q1 f1 B1 B2 B3 B4 B5 B6 Q1 Q2 Q3 Q4 Q5 Q6 F1 F2 F3 F4 F5 F6 h1 h2 h3 h4 h5 h6 g1 g2 g3 g4 g7 Hx Hy hr0 Hb0 hf0
  simp only [kcell]
  have hlt7 := B7.lt
  have k0 := B7.cell 0
  have k1 := B7.cell 1
  have k2 := B7.cell 2
  have k3 := B7.cell 3
  have k4 := B7.cell 4
  have k5 := B7.cell 5
  have k6 := B7.cell 6
  have k7 := B7.cell 7
  have k8 := B7.cell 8
  have z0 := B7.frozen 0
  have z1 := B7.frozen 1
  have z2 := B7.frozen 2
  have z3 := B7.frozen 3
  have z4 := B7.frozen 4
  have z5 := B7.frozen 5
  have z6 := B7.frozen 6
  have z7 := B7.frozen 7
  have z8 := B7.frozen 8
  simp at k0 k1 k2 k3 k4 k5 k6 k7 k8
  have hf8 : Fr (Only w.heap.size) w7 (((((((((w7.setCell ⟨w.heap.size, 0, none⟩ (.int .i64 v1)).setCell ⟨w.heap.size, 1, none⟩ (.int .i64 v2)).setCell ⟨w.heap.size, 2, none⟩ (.int .i64 v3)).setCell ⟨w.heap.size, 3, none⟩ (.int .i64 v4)).setCell ⟨w.heap.size, 4, none⟩ (.int .i64 x1)).setCell ⟨w.heap.size, 5, none⟩ (.int .i64 x2)).setCell ⟨w.heap.size, 6, none⟩ (.int .i64 y1)).setCell ⟨w.heap.size, 7, none⟩ (.int .i64 y2)).setCell ⟨w.heap.size, 8, none⟩ (.int .i64 v7)) := ((((((((((Fr.refl (Only w.heap.size) w7).setCell (p := ⟨w.heap.size, 0, none⟩) (.inl rfl) (.int .i64 v1)).setCell (p := ⟨w.heap.size, 1, none⟩) (.inl rfl) (.int .i64 v2)).setCell (p := ⟨w.heap.size, 2, none⟩) (.inl rfl) (.int .i64 v3)).setCell (p := ⟨w.heap.size, 3, none⟩) (.inl rfl) (.int .i64 v4)).setCell (p := ⟨w.heap.size, 4, none⟩) (.inl rfl) (.int .i64 x1)).setCell (p := ⟨w.heap.size, 5, none⟩) (.inl rfl) (.int .i64 x2)).setCell (p := ⟨w.heap.size, 6, none⟩) (.inl rfl) (.int .i64 y1)).setCell (p := ⟨w.heap.size, 7, none⟩) (.inl rfl) (.int .i64 y2)).setCell (p := ⟨w.heap.size, 8, none⟩) (.inl rfl) (.int .i64 v7))
  have B8 := (((((((((B7.put 0 (.int .i64 v1)).put 1 (.int .i64 v2)).put 2 (.int .i64 v3)).put 3 (.int .i64 v4)).put 4 (.int .i64 x1)).put 5 (.int .i64 x2)).put 6 (.int .i64 y1)).put 7 (.int .i64 y2)).put 8 (.int .i64 v7))
  have m0 := B8.cell 0
  have m1 := B8.cell 1
  have m2 := B8.cell 2
  have m3 := B8.cell 3
  have m4 := B8.cell 4
  have m5 := B8.cell 5
  have m6 := B8.cell 6
  have m7 := B8.cell 7
  have m8 := B8.cell 8
  simp at m0 m1 m2 m3 m4 m5 m6 m7 m8
  have Hfin := Lib.hid (Hend.out.set hf8 (Nat.le_refl _) hpl hG)
  have M : Hid (_ ∧ _ ∧ _ ∧ _ ∧ _ ∧ _ ∧ _ ∧ _ ∧ _) := Lib.hid ⟨m0, m1, m2, m3, m4, m5, m6, m7, m8⟩
  clear m0 m1 m2 m3 m4 m5 m6 m7 m8 B8 hf8 Hend
  go_wp2
  obtain ⟨m0, m1, m2, m3, m4, m5, m6, m7, m8⟩ := M.out
  exact bodyPost_ret (v := .agg #[.int .i64 v1, .int .i64 v2, .int .i64 v3, .int .i64 v4, .int .i64 x1, .int .i64 x2, .int .i64 y1, .int .i64 y2, .int .i64 v7]) (by simp [results, Tryz.results81, go_sem, m0, m1, m2, m3, m4, m5, m6, m7, m8]) rfl Hfin.out

theorem info_ins : (Tryz.prog.info? 45).map (fun i => (i.zero, i.size, i.bytes)) = some (some (.agg #[.int .i64 0, .int .i64 0, .int .i64 0, .int .i64 0, .int .i64 0, .int .i64 0, .int .i64 0, .int .i64 0, .int .i64 0]), 9, 72) := by kernel_rfl
theorem ins_one (i : Ins) : ∀ u ∈ i.cells.toArray.toList, u.oneCell' = true := by
  intro u hu
  simp only [Ins.cells, List.mem_cons, List.not_mem_nil, or_false] at hu
  rcases hu with rfl | rfl | rfl | rfl | rfl | rfl | rfl | rfl | rfl <;> rfl
/-- A program that was read. -/
def GotP (G : Nat → Prop) (w : World) (p : Nat) (st : Option (List Nat)) (e : Ending) (w' : World) : Prop :=
  ∃ A c, e = .returned (.slice A (gotL st).length c) ∧ Sl w' w'.heap.size A ((gotL st).flatMap Ins.cells) ∧ Rdq G w' p (gotS st) ∧ Fr (Only p) w w'
/-- The same, as a row of the call's own. -/
def GotPO (G : Nat → Prop) (w : World) (p : Nat) (st : Option (List Nat)) (e : Ending) (w' : World) : Prop :=
  ∃ A c, e = .returned (.slice A (gotL st).length c) ∧ w'.ownsRow w.heap.size 45 9 (.slice A (gotL st).length c) (gotL st).length ((gotL st).flatMap Ins.cells) ∧ Rdq G w' p (gotS st) ∧ Fr (Only p) w w'
set_option maxHeartbeats 2000000 in
theorem get_own (p : Nat) (st : Option (List Nat)) (w : World) (hr : Rdq G w p st) (hG : ∀ k, G k → k < w.heap.size) : Calls Tryz.prog 67 #[.pointer (some ⟨p, 0, none⟩)] w (GotPO G w p st) := by
  have hpl := hr.lt
  have Hr := Lib.hid hr
  clear hr
  go_enter Tryz.func67, Tryz.ntmps67
  go_wp2_with fail
  refine (count9 p 8 st _ Hr.out (by omega)).mono ?_
  rintro e w1 ⟨rfl, q1, f1⟩
  obtain ⟨s1, h1⟩ : ∃ s1, Hid (s1 = cS 8 st) := ⟨_, Lib.hid rfl⟩
  obtain ⟨n, hn⟩ : ∃ n, Hid (n = gotN st) := ⟨_, Lib.hid rfl⟩
  have hcv : cV 8 st = (n : Int) := by rw [hn.out]; rfl
  have hn8 : n ≤ 8 := by rw [hn.out]; exact gotN_le st
  rw [← h1.out] at q1
  rw [hcv]
  have HS : Hid (gotS st = stN n s1) := Lib.hid (by rw [gotS, hn.out, h1.out])
  have HL : Hid (gotL st = if (stN n s1).isSome = true then lsN n s1 else []) := Lib.hid (by rw [gotL, gotS, hn.out, h1.out])
  have Q1 := Lib.hid q1
  have F1 := Lib.hid f1
  clear q1 f1 hcv Hr
  go_wp2
  go_loopw [3, 8] (fun out i wr => ∃ (k : Nat) (A : Option Addr) (c : Nat) (L : List Ins), k ≤ n ∧ i = .int .i64 k ∧ out = .slice A k c ∧ Hid (L.length = k ∧ wr.ownsRow w.heap.size 45 9 (.slice A k c) k (L.flatMap Ins.cells) ∧ Rdq G wr p (stN k s1) ∧ ((stN k s1).isSome = true → L = lsN k s1) ∧ Fr (Only p) w wr)) (fun _ i _ => n - (intOf i).toNat)
  case atStart => exact ⟨0, none, 0, [], Nat.zero_le _, rfl, rfl, Lib.hid ⟨rfl, World.ownsRow_nil _ _ _ _, Q1.out, fun _ => rfl, F1.out⟩⟩
  case round =>
    obtain ⟨k, A, c, L, hk, rfl, rfl, hst⟩ := hrel
    by_cases hlt : k < n
    · obtain ⟨hl, hown, hrd, hL, hfr⟩ := hst.out
      have Hown := Lib.hid hown
      have Hl := Lib.hid hl
      have HLk := Lib.hid hL
      have Hfr := Lib.hid hfr
      have C := Lib.hid (getInstr_any p (stN k s1) wr hrd (fun i hi => Nat.lt_of_lt_of_le (hG i hi) hfr.size))
      have hop : Hid (¬ Only p = (fun _ => True)) := Lib.hid (fun e => by have := congrFun e (p + 1); simp [Only] at this)
      have hob : Hid (∀ i, (Value.slice A k c).ownBlock = some i → ¬ Only p i) := Lib.hid (fun i hi e => by have e : i = p := e; have := (hown.lt i hi).1; omega)
      clear hl hown hrd hL hfr hop
      go_wp2_with fail
      refine (C.out).mono ?_
      rintro e w2 ⟨x, rfl, hx, q1, f1⟩
      have hown2 := own_fr Hown.out f1 hob.out
      have HX := Lib.hid (lsN_next HLk.out hx)
      have Q2 := Lib.hid q1
      have F2 : Hid (Fr (Only p) w w2) := Lib.hid (Hfr.out.trans' f1 (fun _ _ h => h))
      clear hx q1 f1
      obtain ⟨xo, xa, xb, xc, xka, xkb, xla, xlb, xx⟩ := x
      have hu1 := ins_one ⟨xo, xa, xb, xc, xka, xkb, xla, xlb, xx⟩
      simp only [Ins.agg]
      go_wp2_with (at_builtin; (refine wpList_append_elem rfl _ _ _ rfl w.heap.size 45 _ 9 72 Tryz.underlying46 info_ins rfl (by omega) (.slice A k c) k (L.flatMap Ins.cells) #[.int .i64 xo, .int .i64 xa, .int .i64 xb, .int .i64 xc, .int .i64 xka, .int .i64 xkb, .int .i64 xla, .int .i64 xlb, .int .i64 xx] rfl hu1 rfl w2.heap.size rfl rfl hown2 (by unfold maxLen; omega) (by omega) (by have := F2.out.size; omega) ?_; intro A3 c3 w3 hown3 hf3 hg3))
      have hne3 := own_apart hown2 (show Bk w2 p 62 _ from Q2.out.reads.choose_spec.choose_spec.1) (by decide)
      have F3 : Fr (Only p) w w3 := F2.out.trans' hf3 (fun i hi e => by have := (hown2.lt i e).1; omega)
      have Q3 : Rdq G w3 p (stN (k + 1) s1) := Q2.out.frG hf3 hne3 (fun i hi e => by have h1 := hG i hi; have h2 := (hown2.lt i e).1; omega)
      go_roundw
      case rel =>
        refine ⟨k + 1, A3, c3, L ++ [⟨xo, xa, xb, xc, xka, xkb, xla, xlb, xx⟩], by omega, by go_num, rfl, Lib.hid ⟨by simp [Hl.out], ?_, Q3, HX.out, F3⟩⟩
        rw [List.flatMap_append]
        simpa [Ins.cells] using hown3
      case measure => simp [intOf]; omega
    · obtain rfl : k = n := by omega
      obtain ⟨hl, hown, hrd, hL, hfr⟩ := hst.out
      have Hown := Lib.hid hown
      have Hl := Lib.hid hl
      have HLk := Lib.hid hL
      have Hfr := Lib.hid hfr
      have Hrd := Lib.hid hrd
      have C := Lib.hid (qok_any p (stN k s1) wr hrd)
      clear hl hown hrd hL hfr hst
      cases hs : stN k s1 with
      | none =>
        rw [hs] at C
        go_wp2_with fail
        refine (C.out).mono ?_
        rintro e w2 ⟨rfl, rfl⟩
        go_wp2
        go_ret
        have e1 : gotL st = [] := by rw [HL.out, hs]; rfl
        refine ⟨none, 0, by rw [e1]; rfl, by rw [e1]; exact World.ownsRow_nil _ _ _ _, by rw [HS.out]; exact Hrd.out, Hfr.out⟩
      | some ys =>
        rw [hs] at C
        go_wp2_with fail
        refine (C.out).mono ?_
        rintro e w2 ⟨rfl, rfl⟩
        go_wp2
        go_ret
        have e1 : gotL st = L := by rw [HL.out, if_pos (by rw [hs]; rfl), HLk.out (by rw [hs]; rfl)]
        refine ⟨A, c, by rw [e1, Hl.out]; rfl, by rw [e1, Hl.out]; exact Hown.out, by rw [HS.out]; exact Hrd.out, Hfr.out⟩
theorem get_any (p : Nat) (st : Option (List Nat)) (w : World) (hr : Rdq G w p st) (hG : ∀ k, G k → k < w.heap.size) : Calls Tryz.prog 67 #[.pointer (some ⟨p, 0, none⟩)] w (GotP G w p st) :=
  (get_own p st w hr hG).mono fun _ _ h => by
    obtain ⟨A, c, h1, h2, h3, h4⟩ := h
    exact ⟨A, c, h1, Sl.ofOwn h2, h3, h4⟩
end
end Go.Proofs.YtnlmhcfkipkegaaGreat
