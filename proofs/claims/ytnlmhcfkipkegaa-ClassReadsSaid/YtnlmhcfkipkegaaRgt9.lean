/- What the document's own reader reads as a program. -/
import Derived.Test.YtnlmhcfkipkegaaRrd9
import Derived.Test.YtnlmhcfkipkegaaGet9
namespace Go.Proofs.Ytnlmhcfkipkegaa
open Go.RowKit

/-- What a call of the document's reader leaves and tells. -/
def GotR {α : Type} (w : World) (B q : Nat) (o : Option (α × List Nat)) (f : α → Value) (e : Ending) (w' : World) : Prop :=
  ∃ x : α, e = .returned (f x) ∧ (∀ y, o = some y → y.1 = x) ∧ RR w' B q (o.map (·.2)) ∧ Fr (Only q) w w'

set_option maxHeartbeats 2000000 in
theorem refKeyR_any (q B : Nat) (st : Option (List Nat)) (w : World) (hr : RR w B q st) : Calls Try.prog 46 #[.pointer (some ⟨q, 0, none⟩)] w (GotR w B q (keyR st) kcell) := by
  have hf0 : Fr No w (w.alloc (.cells #[.int .i64 0, .int .i64 0] 49)) := (Fr.refl _ _).alloc _
  have hX0 := Bk.made w 49 #[.int .i64 0, .int .i64 0]
  have hql := hr.lt
  have hBq : B ≤ q := by obtain ⟨_, _, _, _, k2, _⟩ := hr; exact k2
  have R0 := Lib.hid (hr.fr hf0 (fun e => e) (fun _ e => e.elim))
  have HX0 := Lib.hid hX0
  have Hk : Hid (keyR st = if far9 (gV st) then none else (cntR 999 (gS st)).map fun q => ((gV st, (q.1 : Int)), q.2)) := Lib.hid rfl
  have fl1 := field1
  have fl3 := field3
  clear hr hX0
  go_enter Try.func46, Try.ntmps46
  go_wp2_with fail
  refine (itemS_any q B st _ R0.out).mono ?_
  rintro e w1 ⟨z1, z2, z3, rfl, r1, f1⟩
  generalize gV st = a at *
  generalize gS st = s1 at *
  simp only [itV]
  have R1 := Lib.hid r1
  have F1 : Hid (Fr (Only q) w w1) := Lib.hid ((hf0.weak (fun _ _ h => h.elim)).trans' f1 (fun _ _ h => h))
  have X1 := Lib.hid (HX0.out.fr f1 (by simp [Only]; omega))
  clear r1 f1
  go_wp2_with fail
  refine (itemN_any 999 q B s1 _ R1.out (by omega)).mono ?_
  rintro e w2 ⟨y1, y2, y3, rfl, r2, f2⟩
  obtain ⟨b, hb⟩ : ∃ b, Hid (b = cV 999 s1) := ⟨_, Lib.hid rfl⟩
  rw [← hb.out]
  simp only [itV]
  have F2 : Hid (Fr (Only q) w w2) := Lib.hid (F1.out.trans' f2 (fun _ _ h => h))
  have X2 := X1.out.fr f2 (by simp [Only]; omega)
  have hfw := Lib.hid F2.out
  have HX2 := Lib.hid X2
  have hlt2 := X2.lt
  have u0 := X2.frozen 0
  have u1 := X2.frozen 1
  have c0 := X2.cell 0
  have c1 := X2.cell 1
  simp at c0 c1
  have R2 := Lib.hid r2
  clear r2 f2 X2 X1 HX0 R0 R1 F1
  have hset : ∀ w3 : World, Fr (Only w.heap.size) w2 w3 → Fr (Only q) w w3 := fun w3 h => F2.out.trans' h (fun i hi e => by have e : i = w.heap.size := e; omega)
  have Hset := Lib.hid hset
  clear hset
  by_cases h1 : a < -1 ∨ 255 < a
  · have hfar : far9 a := h1
    obtain ⟨A, n, c, b1, b2, b3⟩ := R2.out
    have z1 := b1.frozen 1
    have b4 := b1.put 1 (.bool true)
    have g1 := b1.cell 1
    simp at g1 b4
    have B4 := Lib.hid b4
    have B1 := Lib.hid b1
    have Hq : Hid (keyR st = none) := Lib.hid (by rw [Hk.out, if_pos hfar])
    have hqX : ¬ q = w.heap.size := by omega
    have hXq : ¬ w.heap.size = q := by omega
    have hq2 : q < w2.heap.size := b1.lt
    clear b1 b3 b4 hfar
    have Hend : Hid (GotR w B q (keyR st) kcell (.returned (kcell (a, b))) (((w2.setCell ⟨q, 1, none⟩ (.bool true)).setCell ⟨w.heap.size, 0, none⟩ (.int .i64 a)).setCell ⟨w.heap.size, 1, none⟩ (.int .i64 b))) := Lib.hid (by
      refine ⟨(a, b), rfl, fun y hy => (by rw [Hq.out] at hy; cases hy), ?_, ((F2.out.setCell (p := ⟨q, 1, none⟩) (.inl rfl) _).setCell (p := ⟨w.heap.size, 0, none⟩) (.inr (Nat.le_refl _)) _).setCell (p := ⟨w.heap.size, 1, none⟩) (.inr (Nat.le_refl _)) _⟩
      rw [Hq.out]
      have b5 := B4.out.fr (((Fr.refl (Only w.heap.size) (w2.setCell ⟨q, 1, none⟩ (.bool true))).setCell (p := ⟨w.heap.size, 0, none⟩) (.inl rfl) (.int .i64 a)).setCell (p := ⟨w.heap.size, 1, none⟩) (.inl rfl) (.int .i64 b)) (fun e => hqX e)
      exact ⟨A, n, c, b5, b2, fun ys e => by cases e⟩)
    have bX := (((HX2.out.fr ((Fr.refl (Only q) w2).setCell (p := ⟨q, 1, none⟩) (.inl rfl) (.bool true)) (fun e => hXq e)).put 0 (.int .i64 a)).put 1 (.int .i64 b))
    have m0 := bX.cell 0
    have m1 := bX.cell 1
    simp at m0 m1
    have M : Hid (_ ∧ _) := Lib.hid ⟨m0, m1⟩
    clear bX m0 m1
    by_cases h2 : a < -1
    · have d1 : decide (a < -1) = true := by simpa using h2
      clear h1
      go_wp2
      obtain ⟨m0, m1⟩ := M.out
      exact bodyPost_ret (v := .agg #[.int .i64 a, .int .i64 b]) (by simp [results, Try.results46, go_sem, m0, m1]) rfl Hend.out
    · have d1 : decide (a < -1) = false := by simpa using h2
      have d2 : decide (255 < a) = true := by simp; omega
      clear h1
      go_wp2
      obtain ⟨m0, m1⟩ := M.out
      exact bodyPost_ret (v := .agg #[.int .i64 a, .int .i64 b]) (by simp [results, Try.results46, go_sem, m0, m1]) rfl Hend.out
  · have d1 : decide (a < -1) = false := by simp; omega
    have d2 : decide (255 < a) = false := by simp; omega
    have hfar : ¬ far9 a := h1
    have Hq : Hid (keyR st = (cntR 999 s1).map fun q => ((a, (q.1 : Int)), q.2)) := Lib.hid (by rw [Hk.out, if_neg hfar])
    have Hend : Hid (GotR w B q (keyR st) kcell (.returned (kcell (a, b))) ((w2.setCell ⟨w.heap.size, 0, none⟩ (.int .i64 a)).setCell ⟨w.heap.size, 1, none⟩ (.int .i64 b))) := Lib.hid (by
      refine ⟨(a, b), rfl, fun y hy => ?_, ?_, (F2.out.setCell (p := ⟨w.heap.size, 0, none⟩) (.inr (Nat.le_refl _)) _).setCell (p := ⟨w.heap.size, 1, none⟩) (.inr (Nat.le_refl _)) _⟩
      · rw [Hq.out] at hy
        cases h5 : cntR 999 s1 with
        | none => rw [h5] at hy; cases hy
        | some z =>
          rw [h5] at hy
          simp only [Option.map_some, Option.some.injEq] at hy
          rw [← hy, hb.out, cV, h5]
          rfl
      · rw [Hq.out, Option.map_map]
        exact R2.out.fr (((Fr.refl (Only w.heap.size) w2).setCell (p := ⟨w.heap.size, 0, none⟩) (.inl rfl) (.int .i64 a)).setCell (p := ⟨w.heap.size, 1, none⟩) (.inl rfl) (.int .i64 b)) (fun e => by have e : q = w.heap.size := e; omega) (fun k e => by have e : k = w.heap.size := e; omega))
    have bX := (HX2.out.put 0 (.int .i64 a)).put 1 (.int .i64 b)
    have m0 := bX.cell 0
    have m1 := bX.cell 1
    simp at m0 m1
    have M : Hid (_ ∧ _) := Lib.hid ⟨m0, m1⟩
    clear bX m0 m1 h1 hfar
    go_wp2
    obtain ⟨m0, m1⟩ := M.out
    exact bodyPost_ret (v := .agg #[.int .i64 a, .int .i64 b]) (by simp [results, Try.results46, go_sem, m0, m1]) rfl Hend.out

/-- A program that the document's reader read. -/
def GotQ (w : World) (B q : Nat) (st : Option (List Nat)) (e : Ending) (w' : World) : Prop :=
  ∃ A c, e = .returned (.slice A (gotL st).length c) ∧ Sl w' w'.heap.size A ((gotL st).flatMap Ins.cells) ∧ RR w' B q (gotS st) ∧ Fr (Only q) w w'
/-- The same, as a row of the call's own. -/
def GotQO (w : World) (B q : Nat) (st : Option (List Nat)) (e : Ending) (w' : World) : Prop :=
  ∃ A c, e = .returned (.slice A (gotL st).length c) ∧ w'.ownsRow w.heap.size 51 9 (.slice A (gotL st).length c) (gotL st).length ((gotL st).flatMap Ins.cells) ∧ RR w' B q (gotS st) ∧ Fr (Only q) w w'
/-- The instruction that is being read: its cells, and what else stands. -/
structure Mid9 (w0 w : World) (B q X : Nat) (A : Option Addr) (k c : Nat) (L : List Ins) (b : Nat) (s : Option (List Nat)) (cs : Array Value) : Prop where
  bk : Bk w X 51 cs
  own : w.ownsRow b 51 9 (.slice A k c) k (L.flatMap Ins.cells)
  rr : RR w B q s
  fr : Fr (Only q) w0 w
theorem Mid9.call {w0 w w' : World} {B q X : Nat} {A : Option Addr} {k c : Nat} {L : List Ins} {b : Nat} {s s' : Option (List Nat)} {cs : Array Value} (h : Mid9 w0 w B q X A k c L b s cs) (hq : q < w0.heap.size) (hb : w0.heap.size ≤ b) (hX : w0.heap.size ≤ X) (hf : Fr (Only q) w w') (hr : RR w' B q s') : Mid9 w0 w' B q X A k c L b s' cs :=
  ⟨h.bk.fr hf (fun e => by have e : X = q := e; omega), own_fr h.own hf (fun i hi e => by have e : i = q := e; have := (h.own.lt i hi).1; omega), hr, h.fr.trans' hf (fun _ _ e => e)⟩
theorem Mid9.put {w0 w : World} {B q X : Nat} {A : Option Addr} {k c : Nat} {L : List Ins} {b : Nat} {s : Option (List Nat)} {cs : Array Value} (h : Mid9 w0 w B q X A k c L b s cs) (hq : q < w0.heap.size) (hBq : B ≤ q) (hX : w0.heap.size ≤ X) (hXo : (Value.slice A k c).ownBlock ≠ some X) (i : Nat) (u : Value) : Mid9 w0 (w.setCell ⟨X, i, none⟩ u) B q X A k c L b s (cs.setIfInBounds i u) := by
  have hf : Fr (Only X) w (w.setCell ⟨X, i, none⟩ u) := (Fr.refl (Only X) w).setCell (p := ⟨X, i, none⟩) (.inl rfl) u
  exact ⟨h.bk.put i u, own_fr h.own hf (fun j hj e => by have e : j = X := e; exact hXo (by rw [hj, e])), h.rr.fr hf (fun e => by have e : q = X := e; omega) (fun j e => by have e : j = X := e; omega), h.fr.trans' hf (fun j hj e => by have e : j = X := e; omega)⟩

set_option maxHeartbeats 4000000 in
theorem refGet_own (q B : Nat) (st : Option (List Nat)) (w : World) (hr : RR w B q st) : Calls Try.prog 26 #[.pointer (some ⟨q, 0, none⟩)] w (GotQO w B q st) := by
  have hql := hr.lt
  have hBq : B ≤ q := by obtain ⟨_, _, _, _, k2, _⟩ := hr; exact k2
  have Hr := Lib.hid hr
  have fl1 := field1
  have fl3 := field3
  clear hr
  go_enter Try.func26, Try.ntmps26
  go_wp2_with fail
  refine (itemN_any 8 q B st _ Hr.out (by omega)).mono ?_
  rintro e w1 ⟨j1, j2, j3, rfl, q1, f1⟩
  obtain ⟨s1, h1⟩ : ∃ s1, Hid (s1 = cS 8 st) := ⟨_, Lib.hid rfl⟩
  obtain ⟨n, hn⟩ : ∃ n, Hid (n = gotN st) := ⟨_, Lib.hid rfl⟩
  have hcv : cV 8 st = (n : Int) := by rw [hn.out]; rfl
  have hn8 : n ≤ 8 := by rw [hn.out]; exact gotN_le st
  rw [← h1.out] at q1
  rw [hcv]
  simp only [itV]
  have HS : Hid (gotS st = stN n s1) := Lib.hid (by rw [gotS, hn.out, h1.out])
  have HL : Hid (gotL st = if (stN n s1).isSome = true then lsN n s1 else []) := Lib.hid (by rw [gotL, gotS, hn.out, h1.out])
  have Q1 := Lib.hid q1
  have F1 := Lib.hid f1
  clear q1 f1 hcv Hr
  go_wp2
  go_loopw [4, 5] (fun out i wr => ∃ (k : Nat) (A : Option Addr) (c : Nat) (L : List Ins), k ≤ n ∧ i = .int .i64 k ∧ out = .slice A k c ∧ Hid (L.length = k ∧ wr.ownsRow w.heap.size 51 9 (.slice A k c) k (L.flatMap Ins.cells) ∧ RR wr B q (stN k s1) ∧ ((stN k s1).isSome = true → L = lsN k s1) ∧ Fr (Only q) w wr)) (fun _ i _ => n - (intOf i).toNat)
  case atStart => exact ⟨0, none, 0, [], Nat.zero_le _, rfl, rfl, Lib.hid ⟨rfl, World.ownsRow_nil _ _ _ _, Q1.out, fun _ => rfl, F1.out⟩⟩
  case round =>
    obtain ⟨k, A, c, L, hk, rfl, rfl, hst⟩ := hrel
    by_cases hlt : k < n
    · obtain ⟨hl, hown, hrd, hL, hfr⟩ := hst.out
      have Hl := Lib.hid hl
      have HLk := Lib.hid hL
      have hXw : w.heap.size ≤ wr.heap.size := hfr.size
      have hXo : (Value.slice A k c).ownBlock ≠ some wr.heap.size := fun e => by have := own_lt hown e; omega
      have M0 : Mid9 w (wr.alloc (.cells #[.int .i64 0, .int .i64 0, .int .i64 0, .int .i64 0, .int .i64 0, .int .i64 0, .int .i64 0, .int .i64 0, .int .i64 0] 51)) B q wr.heap.size A k c L w.heap.size (stN k s1) #[.int .i64 0, .int .i64 0, .int .i64 0, .int .i64 0, .int .i64 0, .int .i64 0, .int .i64 0, .int .i64 0, .int .i64 0] :=
        ⟨Bk.made wr _ _, hown.alloc _, hrd.fr ((Fr.refl No wr).alloc _) (fun e => e) (fun _ e => e.elim), hfr.alloc _⟩
      have HM0 := Lib.hid M0
      have HXo := Lib.hid hXo
      obtain ⟨s, hs⟩ : ∃ s, Hid (s = stN k s1) := ⟨_, Lib.hid rfl⟩
      rw [← hs.out] at HM0 M0
      clear hl hown hrd hL hfr M0 hXo hst
      obtain ⟨X, hX⟩ : ∃ X, Hid (X = wr.heap.size) := ⟨_, Lib.hid rfl⟩
      rw [← hX.out] at HM0 HXo hXw
      go_wp2_with fail
      rw [← hX.out]
      refine (itemN_any 255 q B s _ HM0.out.rr (by omega)).mono ?_
      rintro e w2 ⟨j1, j2, j3, rfl, r1, f1⟩
      obtain ⟨t1, ht1⟩ : ∃ z, Hid (z = cS 255 s) := ⟨_, Lib.hid rfl⟩
      obtain ⟨v1, gv1⟩ : ∃ z, Hid (z = cV 255 s) := ⟨_, Lib.hid rfl⟩
      rw [← ht1.out] at r1
      rw [← gv1.out]
      simp only [itV]
      have C1 := Lib.hid (HM0.out.call hql (Nat.le_refl _) hXw f1 r1)
      clear r1 f1
      have z0 := C1.out.bk.frozen 0
      have c0 := C1.out.bk.cell 0
      simp at c0
      have P1 := Lib.hid ((C1.out).put hql hBq hXw HXo.out 0 (.int .i64 v1))
      have HM1 : Hid (Mid9 w (w2.setCell ⟨X, 0, none⟩ (.int .i64 v1)) B q X A k c L w.heap.size t1 #[.int .i64 v1, .int .i64 0, .int .i64 0, .int .i64 0, .int .i64 0, .int .i64 0, .int .i64 0, .int .i64 0, .int .i64 0]) := Lib.hid (by simpa using P1.out)
      go_wp2_with fail
      refine (itemN_any 255 q B t1 _ HM1.out.rr (by omega)).mono ?_
      rintro e w3 ⟨j1, j2, j3, rfl, r1, f1⟩
      obtain ⟨t2, ht2⟩ : ∃ z, Hid (z = cS 255 t1) := ⟨_, Lib.hid rfl⟩
      obtain ⟨v2, gv2⟩ : ∃ z, Hid (z = cV 255 t1) := ⟨_, Lib.hid rfl⟩
      rw [← ht2.out] at r1
      rw [← gv2.out]
      simp only [itV]
      have C2 := Lib.hid (HM1.out.call hql (Nat.le_refl _) hXw f1 r1)
      clear r1 f1
      have z1 := C2.out.bk.frozen 1
      have c1 := C2.out.bk.cell 1
      simp at c1
      have P2 := Lib.hid ((C2.out).put hql hBq hXw HXo.out 1 (.int .i64 v2))
      have HM2 : Hid (Mid9 w (w3.setCell ⟨X, 1, none⟩ (.int .i64 v2)) B q X A k c L w.heap.size t2 #[.int .i64 v1, .int .i64 v2, .int .i64 0, .int .i64 0, .int .i64 0, .int .i64 0, .int .i64 0, .int .i64 0, .int .i64 0]) := Lib.hid (by simpa using P2.out)
      go_wp2_with fail
      refine (itemN_any 255 q B t2 _ HM2.out.rr (by omega)).mono ?_
      rintro e w4 ⟨j1, j2, j3, rfl, r1, f1⟩
      obtain ⟨t3, ht3⟩ : ∃ z, Hid (z = cS 255 t2) := ⟨_, Lib.hid rfl⟩
      obtain ⟨v3, gv3⟩ : ∃ z, Hid (z = cV 255 t2) := ⟨_, Lib.hid rfl⟩
      rw [← ht3.out] at r1
      rw [← gv3.out]
      simp only [itV]
      have C3 := Lib.hid (HM2.out.call hql (Nat.le_refl _) hXw f1 r1)
      clear r1 f1
      have z2 := C3.out.bk.frozen 2
      have c2 := C3.out.bk.cell 2
      simp at c2
      have P3 := Lib.hid ((C3.out).put hql hBq hXw HXo.out 2 (.int .i64 v3))
      have HM3 : Hid (Mid9 w (w4.setCell ⟨X, 2, none⟩ (.int .i64 v3)) B q X A k c L w.heap.size t3 #[.int .i64 v1, .int .i64 v2, .int .i64 v3, .int .i64 0, .int .i64 0, .int .i64 0, .int .i64 0, .int .i64 0, .int .i64 0]) := Lib.hid (by simpa using P3.out)
      go_wp2_with fail
      refine (itemN_any 255 q B t3 _ HM3.out.rr (by omega)).mono ?_
      rintro e w5 ⟨j1, j2, j3, rfl, r1, f1⟩
      obtain ⟨t4, ht4⟩ : ∃ z, Hid (z = cS 255 t3) := ⟨_, Lib.hid rfl⟩
      obtain ⟨v4, gv4⟩ : ∃ z, Hid (z = cV 255 t3) := ⟨_, Lib.hid rfl⟩
      rw [← ht4.out] at r1
      rw [← gv4.out]
      simp only [itV]
      have C4 := Lib.hid (HM3.out.call hql (Nat.le_refl _) hXw f1 r1)
      clear r1 f1
      have z3 := C4.out.bk.frozen 3
      have c3 := C4.out.bk.cell 3
      simp at c3
      have P4 := Lib.hid ((C4.out).put hql hBq hXw HXo.out 3 (.int .i64 v4))
      have HM4 : Hid (Mid9 w (w5.setCell ⟨X, 3, none⟩ (.int .i64 v4)) B q X A k c L w.heap.size t4 #[.int .i64 v1, .int .i64 v2, .int .i64 v3, .int .i64 v4, .int .i64 0, .int .i64 0, .int .i64 0, .int .i64 0, .int .i64 0]) := Lib.hid (by simpa using P4.out)
      go_wp2_with fail
      refine (refKeyR_any q B t4 _ HM4.out.rr).mono ?_
      rintro e w6 ⟨⟨x1, x2⟩, rfl, hx, r1, f1⟩
      obtain ⟨t5, ht5⟩ : ∃ z, Hid (z = kS t4) := ⟨_, Lib.hid rfl⟩
      have r1 : RR w6 B q t5 := by rw [ht5.out]; exact r1
      have Hx1 := Lib.hid hx
      clear hx
      simp only [kcell]
      have C5 := Lib.hid (HM4.out.call hql (Nat.le_refl _) hXw f1 r1)
      clear r1 f1
      have z4 := C5.out.bk.frozen 4
      have c4 := C5.out.bk.cell 4
      have z5 := C5.out.bk.frozen 5
      have c5 := C5.out.bk.cell 5
      simp at c4 c5
      have P5 := Lib.hid ((C5.out).put hql hBq hXw HXo.out 4 (.int .i64 x1))
      have P6 := Lib.hid ((P5.out).put hql hBq hXw HXo.out 5 (.int .i64 x2))
      have HM5 : Hid (Mid9 w ((w6.setCell ⟨X, 4, none⟩ (.int .i64 x1)).setCell ⟨X, 5, none⟩ (.int .i64 x2)) B q X A k c L w.heap.size t5 #[.int .i64 v1, .int .i64 v2, .int .i64 v3, .int .i64 v4, .int .i64 x1, .int .i64 x2, .int .i64 0, .int .i64 0, .int .i64 0]) := Lib.hid (by simpa using P6.out)
      go_wp2_with fail
      refine (refKeyR_any q B t5 _ HM5.out.rr).mono ?_
      rintro e w7 ⟨⟨y1, y2⟩, rfl, hx, r1, f1⟩
      obtain ⟨t6, ht6⟩ : ∃ z, Hid (z = kS t5) := ⟨_, Lib.hid rfl⟩
      have r1 : RR w7 B q t6 := by rw [ht6.out]; exact r1
      have Hy1 := Lib.hid hx
      clear hx
      simp only [kcell]
      have C6 := Lib.hid (HM5.out.call hql (Nat.le_refl _) hXw f1 r1)
      clear r1 f1
      have z6 := C6.out.bk.frozen 6
      have c6 := C6.out.bk.cell 6
      have z7 := C6.out.bk.frozen 7
      have c7 := C6.out.bk.cell 7
      simp at c6 c7
      have P7 := Lib.hid ((C6.out).put hql hBq hXw HXo.out 6 (.int .i64 y1))
      have P8 := Lib.hid ((P7.out).put hql hBq hXw HXo.out 7 (.int .i64 y2))
      have HM6 : Hid (Mid9 w ((w7.setCell ⟨X, 6, none⟩ (.int .i64 y1)).setCell ⟨X, 7, none⟩ (.int .i64 y2)) B q X A k c L w.heap.size t6 #[.int .i64 v1, .int .i64 v2, .int .i64 v3, .int .i64 v4, .int .i64 x1, .int .i64 x2, .int .i64 y1, .int .i64 y2, .int .i64 0]) := Lib.hid (by simpa using P8.out)
      go_wp2_with fail
      refine (itemS_any q B t6 _ HM6.out.rr).mono ?_
      rintro e w8 ⟨j1, j2, j3, rfl, r1, f1⟩
      obtain ⟨t7, ht7⟩ : ∃ z, Hid (z = gS t6) := ⟨_, Lib.hid rfl⟩
      obtain ⟨v7, gv7⟩ : ∃ z, Hid (z = gV t6) := ⟨_, Lib.hid rfl⟩
      rw [← ht7.out] at r1
      rw [← gv7.out]
      simp only [itV]
      have C7 := Lib.hid (HM6.out.call hql (Nat.le_refl _) hXw f1 r1)
      clear r1 f1
      have z8 := C7.out.bk.frozen 8
      have c8 := C7.out.bk.cell 8
      simp at c8
      have P9 := Lib.hid ((C7.out).put hql hBq hXw HXo.out 8 (.int .i64 v7))
      have HM7 : Hid (Mid9 w (w8.setCell ⟨X, 8, none⟩ (.int .i64 v7)) B q X A k c L w.heap.size t7 #[.int .i64 v1, .int .i64 v2, .int .i64 v3, .int .i64 v4, .int .i64 x1, .int .i64 x2, .int .i64 y1, .int .i64 y2, .int .i64 v7]) := Lib.hid (by simpa using P9.out)
      have b9 := HM7.out.bk
      have hlX := b9.lt
      have d0 := b9.cell 0
      have d1 := b9.cell 1
      have d2 := b9.cell 2
      have d3 := b9.cell 3
      have d4 := b9.cell 4
      have d5 := b9.cell 5
      have d6 := b9.cell 6
      have d7 := b9.cell 7
      have d8 := b9.cell 8
      simp at d0 d1 d2 d3 d4 d5 d6 d7 d8
      clear b9 z0 c0 z1 c1 z2 c2 z3 c3 z4 c4 z5 c5 z6 c6 z7 c7
      have hu1 := ins_one ⟨v1, v2, v3, v4, x1, x2, y1, y2, v7⟩
      have hsz := HM7.out.fr.size
      go_wp2_with (at_builtin; (refine wpList_append_elem rfl _ _ _ rfl w.heap.size 51 _ 9 72 Try.underlying52 info_ins rfl (by omega) (.slice A k c) k (L.flatMap Ins.cells) #[.int .i64 v1, .int .i64 v2, .int .i64 v3, .int .i64 v4, .int .i64 x1, .int .i64 x2, .int .i64 y1, .int .i64 y2, .int .i64 v7] rfl hu1 rfl w8.heap.size (by simp) rfl HM7.out.own (by unfold maxLen; omega) (by omega) hsz ?_; intro A3 c3 w9 hown3 hf3 hg3))
      obtain ⟨p1, p2⟩ := insR_parts ht1.out ht2.out ht3.out ht4.out ht5.out ht6.out Hx1.out Hy1.out
      have F9 : Fr (Only q) w w9 := HM7.out.fr.trans' hf3 (fun i hi e => by have := (HM7.out.own.lt i e).1; omega)
      have hBk : B ≤ w.heap.size := by omega
      have R9 : RR w9 B q (stN (k + 1) s1) := by
        have e1 : stN (k + 1) s1 = t7 := by rw [stN, ← hs.out, p1, ht7.out]
        rw [e1]
        exact HM7.out.rr.fr hf3 (fun e => by have := (HM7.out.own.lt q e).1; omega) (fun i e => by have := (HM7.out.own.lt i e).1; omega)
      have HN := Lib.hid (lsN_next HLk.out (fun y hy => by rw [← hs.out] at hy; exact p2 y hy))
      rw [← gv1.out, ← gv2.out, ← gv3.out, ← gv4.out, ← gv7.out] at HN
      go_roundw
      case rel =>
        refine ⟨k + 1, A3, c3, L ++ [⟨v1, v2, v3, v4, x1, x2, y1, y2, v7⟩], by omega, by go_num, rfl, Lib.hid ⟨by simp [Hl.out], ?_, R9, HN.out, F9⟩⟩
        rw [List.flatMap_append]
        simpa [Ins.cells] using hown3
      case measure => simp [intOf]; omega
    · obtain rfl : k = n := by omega
      obtain ⟨hl, hown, hrd, hL, hfr⟩ := hst.out
      have Hown := Lib.hid hown
      have Hl := Lib.hid hl
      have HLk := Lib.hid hL
      have Hfr := Lib.hid hfr
      have Hrd := Lib.hid hrd
      obtain ⟨A9, n9, c9, b9, -, -⟩ := hrd
      have d1 := b9.cell 1
      simp at d1
      clear hl hown hL hfr hst b9
      cases hs : stN k s1 with
      | none =>
        rw [hs] at d1
        simp only [Option.isNone_none] at d1
        go_wp2
        go_ret
        have e1 : gotL st = [] := by rw [HL.out, hs]; rfl
        refine ⟨none, 0, by rw [e1]; rfl, by rw [e1]; exact World.ownsRow_nil _ _ _ _, by rw [HS.out]; exact Hrd.out, Hfr.out⟩
      | some ys =>
        rw [hs] at d1
        simp only [Option.isNone_some] at d1
        go_wp2
        go_ret
        have e1 : gotL st = L := by rw [HL.out, if_pos (by rw [hs]; rfl), HLk.out (by rw [hs]; rfl)]
        refine ⟨A, c, by rw [e1, Hl.out]; rfl, by rw [e1, Hl.out]; exact Hown.out, by rw [HS.out]; exact Hrd.out, Hfr.out⟩
theorem refGet_any (q B : Nat) (st : Option (List Nat)) (w : World) (hr : RR w B q st) : Calls Try.prog 26 #[.pointer (some ⟨q, 0, none⟩)] w (GotQ w B q st) :=
  (refGet_own q B st w hr).mono fun _ _ h => by
    obtain ⟨A, c, h1, h2, h3, h4⟩ := h
    exact ⟨A, c, h1, Sl.ofOwn h2, h3, h4⟩
end Go.Proofs.Ytnlmhcfkipkegaa
