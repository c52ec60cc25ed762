/- Package class: Get. -/
import Derived.Test.YtnlmhcfkipkegaaGtc11
import Derived.Test.YtnlmhcfkipkegaaIrT
namespace Go.Proofs.Ytnlmhcfkipkegaa
open Go.RowKit

variable {G : Nat → Prop}
theorem cS_less (st : Option (List Nat)) : cS (-1) st = none := by
  unfold cS
  match st with
  | none => simp [cntR]
  | some [] => simp [cntR]
  | some (n :: r) =>
    have h : ¬ ((n : Int) ≤ -1) := by omega
    simp [cntR, h]
/-- What Get tells: a class that may be, or a zero one. -/
def GotC11 (G : Nat → Prop) (w : World) (p : Nat) (st : Option (List Nat)) (e : Ending) (w' : World) : Prop :=
  ∃ c : Cls, e = .returned (.tuple #[c.agg, .bool (clR st).isSome]) ∧ c.p = ((clR st).map (·.1)).getD PC.zero ∧ (∀ V, Fr (fun i => i < w.heap.size) w' V → c.Ok V) ∧ c.Few ∧ Rdq G w' p ((clR st).map (·.2)) ∧ Fr (Only p) w w'
def Cls.zero : Cls := ⟨⟨#[]⟩, 0, none, [], 0, none, [], 0, false⟩
theorem zero_ok (w : World) : Cls.zero.Ok w := ⟨⟨fun h => absurd rfl h, fun s hs => by cases hs⟩, ⟨fun h => absurd rfl h, fun s hs => by cases hs⟩⟩
theorem zero_few : Cls.zero.Few := ⟨by decide, by decide, fun s hs => (by cases hs), fun s hs => (by cases hs)⟩
theorem zero_p : Cls.zero.p = PC.zero := rfl

/-- The zero class is told. -/
theorem zero_fin {p : Nat} {st : Option (List Nat)} {w W : World} (hb : Bk W w.heap.size 31 #[.string ⟨#[]⟩, .int .i64 0, .slice none 0 0, .slice none 0 0, .bool false]) (hr : Rdq G W p none) (hf : Fr (Only p) w W) (h : clR st = none) (hp : p < w.heap.size) (hG : ∀ k, G k → k < w.heap.size) :
    GotC11 G w p st (.returned (.tuple #[.agg #[.string ⟨#[]⟩, .int .i64 0, .slice none 0 0, .slice none 0 0, .bool false], .bool false])) (((((W.setCell ⟨w.heap.size, 0, none⟩ (.string ⟨#[]⟩)).setCell ⟨w.heap.size, 1, none⟩ (.int .i64 0)).setCell ⟨w.heap.size, 2, none⟩ (.slice none 0 0)).setCell ⟨w.heap.size, 3, none⟩ (.slice none 0 0)).setCell ⟨w.heap.size, 4, none⟩ (.bool false)) ∧ Bk (((((W.setCell ⟨w.heap.size, 0, none⟩ (.string ⟨#[]⟩)).setCell ⟨w.heap.size, 1, none⟩ (.int .i64 0)).setCell ⟨w.heap.size, 2, none⟩ (.slice none 0 0)).setCell ⟨w.heap.size, 3, none⟩ (.slice none 0 0)).setCell ⟨w.heap.size, 4, none⟩ (.bool false)) w.heap.size 31 #[.string ⟨#[]⟩, .int .i64 0, .slice none 0 0, .slice none 0 0, .bool false] := by
  have hbX := ((((hb.put 0 (.string ⟨#[]⟩)).put 1 (.int .i64 0)).put 2 (.slice none 0 0)).put 3 (.slice none 0 0)).put 4 (.bool false)
  simp at hbX
  have hfX : Fr (Only w.heap.size) W (((((W.setCell ⟨w.heap.size, 0, none⟩ (.string ⟨#[]⟩)).setCell ⟨w.heap.size, 1, none⟩ (.int .i64 0)).setCell ⟨w.heap.size, 2, none⟩ (.slice none 0 0)).setCell ⟨w.heap.size, 3, none⟩ (.slice none 0 0)).setCell ⟨w.heap.size, 4, none⟩ (.bool false)) :=
    (((((Fr.refl (Only w.heap.size) W).setCell (p := ⟨w.heap.size, 0, none⟩) (.inl rfl) _).setCell (p := ⟨w.heap.size, 1, none⟩) (.inl rfl) _).setCell (p := ⟨w.heap.size, 2, none⟩) (.inl rfl) _).setCell (p := ⟨w.heap.size, 3, none⟩) (.inl rfl) _).setCell (p := ⟨w.heap.size, 4, none⟩) (.inl rfl) _
  refine ⟨⟨Cls.zero, by rw [h]; rfl, by rw [h]; rfl, fun V _ => zero_ok V, zero_few, ?_, hf.trans' hfX (fun i hi e => by have e : i = w.heap.size := e; omega)⟩, hbX⟩
  rw [h]
  exact hr.frG hfX (fun e => by have e : p = w.heap.size := e; omega) (fun i hi e => by have e : i = w.heap.size := e; have := hG i hi; omega)

set_option maxRecDepth 100000 in
set_option maxHeartbeats 4000000 in
theorem get11_any (p : Nat) (st : Option (List Nat)) (w : World) (hr : Rdq G w p st) (hG : ∀ k, G k → k < w.heap.size) : Calls Try.prog 7 #[.pointer (some ⟨p, 0, none⟩)] w (GotC11 G w p st) := by
  have hpl := hr.lt
  have f0 : Fr No w (w.alloc (.cells #[.string ⟨#[]⟩, .int .i64 0, .slice none 0 0, .slice none 0 0, .bool false] 31)) := (Fr.refl _ _).alloc _
  have b0 := Bk.made w 31 #[.string ⟨#[]⟩, .int .i64 0, .slice none 0 0, .slice none 0 0, .bool false]
  have C1 := Lib.hid (getClass_any p st _ (hr.frG f0 (fun e => e) (fun _ _ e => e)) (fun k hk => by have := hG k hk; simp; omega))
  have F0 := Lib.hid (f0.weak (S' := Only p) (fun _ _ h => h.elim))
  have B0 := Lib.hid b0
  have HG := Lib.hid hG
  have HD : Hid (clR st = if (pcR st).ok = true then (fS (clS st)).map fun r => (pcR st, r) else none) := Lib.hid rfl
  clear hr hG f0 b0
  go_enter Try.func7, Try.ntmps7
  go_wp2_with fail
  refine (C1.out).mono ?_
  rintro e w1 ⟨c, rfl, hcp, hok, r1, f1⟩
  have hfew := (few_of_p hcp).1
  have B1 := Lib.hid (B0.out.fr f1 (fun e => by have e : w.heap.size = p := e; omega))
  have F1 := Lib.hid (F0.out.trans' f1 (fun _ _ h => h))
  have CM := Lib.hid (fun (W : World) (h : Fr No w1 W) => may11_any c W (hok W (h.weak (fun _ _ e => e.elim))) hfew)
  rw [hcp] at CM
  have Hok := Lib.hid hok
  have Hcp := Lib.hid hcp
  have Hfew := Lib.hid hfew
  have f2 : Fr No w1 (w1.alloc (.cells c.cells.toArray 31)) := (Fr.refl _ _).alloc _
  have C2 := Lib.hid (isRight_any p (fS (clS st)) _ (r1.frG f2 (fun e => e) (fun _ _ e => e)))
  have R1 := Lib.hid r1
  have hsz := B1.out.lt
  clear hcp hok hfew r1 f1 f2 C1 B0 F0
  obtain ⟨nm, a, A, ss, sc, U, us, uc, res⟩ := c
  unfold Cls.agg at CM ⊢
  unfold Cls.cells at C2
  simp only at CM C2 ⊢
  obtain ⟨ok, hok⟩ : ∃ b, Hid ((pcR st).ok = b) := ⟨_, Lib.hid rfl⟩
  obtain ⟨s1, hs1⟩ : ∃ z, Hid (fS (clS st) = z) := ⟨_, Lib.hid rfl⟩
  rw [hok.out] at CM
  rw [hs1.out] at C2 R1
  have HD2 : Hid (clR st = if ok = true then s1.map fun r => (pcR st, r) else none) := Lib.hid (by rw [HD.out, hok.out, hs1.out])
  clear HD hs1
  go_wp2_with fail
  refine (C2.out).mono ?_
  rintro e w2 ⟨rfl, hw2⟩
  subst hw2
  have f2 : Fr No w1 (w1.alloc (.cells #[.string nm, .int .i64 a, .slice A ss.length sc, .slice U us.length uc, .bool res] 31)) := (Fr.refl _ _).alloc _
  have B2 := Lib.hid (B1.out.fr f2 (fun e => e))
  have R2 := Lib.hid (R1.out.frG f2 (fun e => e) (fun _ _ e => e))
  have F2 := Lib.hid (F1.out.trans' f2 (fun _ _ h => h.elim))
  have X2 := Lib.hid (Bk.made w1 31 #[.string nm, .int .i64 a, .slice A ss.length sc, .slice U us.length uc, .bool res])
  have D2 := Lib.hid (CM.out _ f2)
  have HF := Lib.hid f2
  clear f2 C2 B1 F1 R1 CM
  cases s1 with
  | none =>
    have Hno : Hid (clR st = none) := Lib.hid (by rw [HD2.out]; cases ok <;> rfl)
    have C3 := Lib.hid (count9 p (-1) none _ R2.out (by omega))
    go_wp2_with fail
    refine (C3.out).mono ?_
    rintro e w3 ⟨rfl, r3, f3⟩
    rw [cS_less] at r3
    have B3 := Lib.hid (B2.out.fr f3 (fun e => by have e : w.heap.size = p := e; omega))
    have R3 := Lib.hid r3
    have F3 := Lib.hid (F2.out.trans' f3 (fun _ _ h => h))
    clear r3 f3 C3 B2 F2 X2
    have HZ := Lib.hid (zero_fin B3.out R3.out F3.out Hno.out hpl HG.out)
    have lz := B3.out.lt
    have z0 := B3.out.frozen 0
    have z1 := B3.out.frozen 1
    have z2 := B3.out.frozen 2
    have z3 := B3.out.frozen 3
    have z4 := B3.out.frozen 4
    have q0 := B3.out.cell 0
    have q1 := B3.out.cell 1
    have q2 := B3.out.cell 2
    have q3 := B3.out.cell 3
    have q4 := B3.out.cell 4
    simp at q0 q1 q2 q3 q4
    go_wp2
    have m0 := HZ.out.2.cell 0
    have m1 := HZ.out.2.cell 1
    have m2 := HZ.out.2.cell 2
    have m3 := HZ.out.2.cell 3
    have m4 := HZ.out.2.cell 4
    simp at m0 m1 m2 m3 m4
    exact bodyPost_ret (v := .tuple #[.agg #[.string ⟨#[]⟩, .int .i64 0, .slice none 0 0, .slice none 0 0, .bool false], .bool false]) (by simp [results, Try.results7, go_sem, m0, m1, m2, m3, m4]) rfl HZ.out.1
  | some xs =>
    go_wp2_with fail
    refine (D2.out).mono ?_
    rintro e w3 ⟨rfl, f3⟩
    have B3 := Lib.hid (B2.out.fr f3 (fun e => e))
    have R3 := Lib.hid (R2.out.frG f3 (fun e => e) (fun _ _ e => e))
    have F3 := Lib.hid (F2.out.trans' f3 (fun _ _ h => h.elim))
    have X3 := Lib.hid (X2.out.fr f3 (fun e => e))
    have HF3 := Lib.hid (HF.out.trans' f3 (fun _ _ e => e))
    clear f3 D2 B2 R2 F2 X2 HF
    cases ok
    · have Hno : Hid (clR st = none) := Lib.hid (by rw [HD2.out]; rfl)
      have C3 := Lib.hid (count9 p (-1) (some xs) _ R3.out (by omega))
      go_wp2_with fail
      refine (C3.out).mono ?_
      rintro e w4 ⟨rfl, r4, f4⟩
      rw [cS_less] at r4
      have B4 := Lib.hid (B3.out.fr f4 (fun e => by have e : w.heap.size = p := e; omega))
      have R4 := Lib.hid r4
      have F4 := Lib.hid (F3.out.trans' f4 (fun _ _ h => h))
      clear r4 f4 C3 B3 F3 X3
      have HZ := Lib.hid (zero_fin B4.out R4.out F4.out Hno.out hpl HG.out)
      have lz := B4.out.lt
      have z0 := B4.out.frozen 0
      have z1 := B4.out.frozen 1
      have z2 := B4.out.frozen 2
      have z3 := B4.out.frozen 3
      have z4 := B4.out.frozen 4
      have q0 := B4.out.cell 0
      have q1 := B4.out.cell 1
      have q2 := B4.out.cell 2
      have q3 := B4.out.cell 3
      have q4 := B4.out.cell 4
      simp at q0 q1 q2 q3 q4
      go_wp2
      have m0 := HZ.out.2.cell 0
      have m1 := HZ.out.2.cell 1
      have m2 := HZ.out.2.cell 2
      have m3 := HZ.out.2.cell 3
      have m4 := HZ.out.2.cell 4
      simp at m0 m1 m2 m3 m4
      exact bodyPost_ret (v := .tuple #[.agg #[.string ⟨#[]⟩, .int .i64 0, .slice none 0 0, .slice none 0 0, .bool false], .bool false]) (by simp [results, Try.results7, go_sem, m0, m1, m2, m3, m4]) rfl HZ.out.1
    · have Hyes : Hid (clR st = some (pcR st, xs)) := Lib.hid (by rw [HD2.out]; rfl)
      have lz := B3.out.lt
      have lx := X3.out.lt
      have z0 := B3.out.frozen 0
      have z1 := B3.out.frozen 1
      have z2 := B3.out.frozen 2
      have z3 := B3.out.frozen 3
      have z4 := B3.out.frozen 4
      have q0 := B3.out.cell 0
      have q1 := B3.out.cell 1
      have q2 := B3.out.cell 2
      have q3 := B3.out.cell 3
      have q4 := B3.out.cell 4
      have x0 := X3.out.cell 0
      have x1 := X3.out.cell 1
      have x2 := X3.out.cell 2
      have x3 := X3.out.cell 3
      have x4 := X3.out.cell 4
      simp at q0 q1 q2 q3 q4 x0 x1 x2 x3 x4
      have hbX := ((((B3.out.put 0 (.string nm)).put 1 (.int .i64 a)).put 2 (.slice A ss.length sc)).put 3 (.slice U us.length uc)).put 4 (.bool res)
      simp at hbX
      have hfX : Fr (Only w.heap.size) w3 (((((w3.setCell ⟨w.heap.size, 0, none⟩ (.string nm)).setCell ⟨w.heap.size, 1, none⟩ (.int .i64 a)).setCell ⟨w.heap.size, 2, none⟩ (.slice A ss.length sc)).setCell ⟨w.heap.size, 3, none⟩ (.slice U us.length uc)).setCell ⟨w.heap.size, 4, none⟩ (.bool res)) :=
        (((((Fr.refl (Only w.heap.size) w3).setCell (p := ⟨w.heap.size, 0, none⟩) (.inl rfl) _).setCell (p := ⟨w.heap.size, 1, none⟩) (.inl rfl) _).setCell (p := ⟨w.heap.size, 2, none⟩) (.inl rfl) _).setCell (p := ⟨w.heap.size, 3, none⟩) (.inl rfl) _).setCell (p := ⟨w.heap.size, 4, none⟩) (.inl rfl) _
      have HX := Lib.hid hbX
      have HFin : Hid (GotC11 G w p st (.returned (.tuple #[.agg #[.string nm, .int .i64 a, .slice A ss.length sc, .slice U us.length uc, .bool res], .bool true])) (((((w3.setCell ⟨w.heap.size, 0, none⟩ (.string nm)).setCell ⟨w.heap.size, 1, none⟩ (.int .i64 a)).setCell ⟨w.heap.size, 2, none⟩ (.slice A ss.length sc)).setCell ⟨w.heap.size, 3, none⟩ (.slice U us.length uc)).setCell ⟨w.heap.size, 4, none⟩ (.bool res))) := Lib.hid (by
        refine ⟨⟨nm, a, A, ss, sc, U, us, uc, res⟩, by rw [Hyes.out]; rfl, by rw [Hyes.out, Hcp.out]; rfl, fun V hV => Hok.out V ?_, Hfew.out, ?_, F3.out.trans' hfX (fun i hi e => by have e : i = w.heap.size := e; omega)⟩
        · exact ((HF3.out.weak (fun _ _ h => h.elim)).trans' (hfX.weak (fun i _ e => by have e : i = w.heap.size := e; simp; omega)) (fun _ _ h => h)).trans' (hV.weak (fun i _ e => by simp; omega)) (fun _ _ h => h)
        · rw [Hyes.out]
          exact R3.out.frG hfX (fun e => by have e : p = w.heap.size := e; omega) (fun i hi e => by have e : i = w.heap.size := e; have := HG.out i hi; omega))
      clear hbX hfX B3 X3
      go_wp2
      have m0 := HX.out.cell 0
      have m1 := HX.out.cell 1
      have m2 := HX.out.cell 2
      have m3 := HX.out.cell 3
      have m4 := HX.out.cell 4
      simp at m0 m1 m2 m3 m4
      exact bodyPost_ret (v := .tuple #[.agg #[.string nm, .int .i64 a, .slice A ss.length sc, .slice U us.length uc, .bool res], .bool true]) (by simp [results, Try.results7, go_sem, m0, m1, m2, m3, m4]) rfl HFin.out
end Go.Proofs.Ytnlmhcfkipkegaa
