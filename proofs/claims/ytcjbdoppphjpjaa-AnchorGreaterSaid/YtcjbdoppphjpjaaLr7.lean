/- The law 'AnchorGreater'. -/
import Derived.Test.YtcjbdoppphjpjaaLs7
namespace Go.Proofs.Ytcjbdoppphjpjaa
open Go.RowKit

def grD (a b : Anc) : Dv := ((Dv.new 2).write (parN a.n) (ancS a)).write (parN b.n) (ancS b)
theorem parN_0 {n : Int} (h : n % 2 = 0) : parN n = 0 := by unfold parN; rw [h]; rfl
theorem parN_1 {n : Int} (h : n % 2 = 1) : parN n = 1 := by unfold parN; rw [h]; rfl
/-- Of two anchors written the one that is told. -/
theorem grD_find (a b : Anc) (ha : ancOk a = true) (hb : ancOk b = true) (q : Bool) (hq : q = true ↔ a.n % 2 ≠ b.n % 2 ∧ b.n < a.n) : findV (grD a b) = .tuple #[(if q = true then a else b).val, .int .i64 0] := by
  have hv : ∀ x, findA ((grD a b).rd 0) ((grD a b).rd 1) = some x → findV (grD a b) = .tuple #[x.val, .int .i64 0] := fun x hx => by
    unfold findV
    rw [if_pos (by show 2 ≤ 2; omega), hx]
    rfl
  refine hv _ ?_
  rw [findA_pick]
  rcases (show a.n % 2 = 0 ∨ a.n % 2 = 1 by omega) with h1 | h1
  · rcases (show b.n % 2 = 0 ∨ b.n % 2 = 1 by omega) with h2 | h2
    · have e0 : (grD a b).rd 0 = ancS b := by unfold grD; rw [parN_0 h1, parN_0 h2]; rfl
      have e1 : (grD a b).rd 1 = zSec := by unfold grD; rw [parN_0 h1, parN_0 h2]; rfl
      rw [e0, e1, own_sec hb h2, readA_z, if_neg (by rw [hq]; omega)]
      rfl
    · have e0 : (grD a b).rd 0 = ancS a := by unfold grD; rw [parN_0 h1, parN_1 h2]; rfl
      have e1 : (grD a b).rd 1 = ancS b := by unfold grD; rw [parN_0 h1, parN_1 h2]; rfl
      rw [e0, e1, own_sec ha h1, own_sec hb h2]
      by_cases h3 : b.n < a.n
      · rw [pick_l h3, if_pos (by rw [hq]; omega)]
      · rw [pick_r h3, if_neg (by rw [hq]; omega)]
  · rcases (show b.n % 2 = 0 ∨ b.n % 2 = 1 by omega) with h2 | h2
    · have e0 : (grD a b).rd 0 = ancS b := by unfold grD; rw [parN_1 h1, parN_0 h2]; rfl
      have e1 : (grD a b).rd 1 = ancS a := by unfold grD; rw [parN_1 h1, parN_0 h2]; rfl
      rw [e0, e1, own_sec hb h2, own_sec ha h1]
      by_cases h3 : a.n < b.n
      · rw [pick_l h3, if_neg (by rw [hq]; omega)]
      · rw [pick_r h3, if_pos (by rw [hq]; omega)]
    · have e0 : (grD a b).rd 0 = zSec := by unfold grD; rw [parN_1 h1, parN_1 h2]; rfl
      have e1 : (grD a b).rd 1 = ancS b := by unfold grD; rw [parN_1 h1, parN_1 h2]; rfl
      rw [e0, e1, own_sec hb h2, readA_z, if_neg (by rw [hq]; omega)]
      rfl
set_option maxRecDepth 100000 in
set_option maxHeartbeats 4000000 in
theorem lawGreater_any (a b : Anc) (w : World) : Calls Try.prog 6 #[a.val, b.val] w fun e w' => e = .returned (.bool true) ∧ Fr No w w' := by
  have C0 := Lib.hid alive7_any
  have CA := Lib.hid (fun W => refMay7_any a W)
  have CB := Lib.hid (fun W => refMay7_any b W)
  have HW : Hid (ancOk a = true → ∀ (S : Nat → Prop) (d k : Nat) (D : Dv) W, 2 ≤ D.n → DD W S d D k 0 → Calls Try.prog 17 #[.pointer (some ⟨d, 0, none⟩), a.val] W fun e w' => e = .returned (.int .i64 0) ∧ ∃ S', DD w' S' d (D.write (parN a.n) (ancS a)) (k + 1) 0 ∧ Step S S' W w') := Lib.hid (fun h S d k D W h2 hd => anWrite_yes a h h2 W hd)
  have HX : Hid (ancOk b = true → ∀ (S : Nat → Prop) (d k : Nat) (D : Dv) W, 2 ≤ D.n → DD W S d D k 0 → Calls Try.prog 17 #[.pointer (some ⟨d, 0, none⟩), b.val] W fun e w' => e = .returned (.int .i64 0) ∧ ∃ S', DD w' S' d (D.write (parN b.n) (ancS b)) (k + 1) 0 ∧ Step S S' W w') := Lib.hid (fun h S d k D W h2 hd => anWrite_yes b h h2 W hd)
  obtain ⟨q, Hq⟩ : ∃ q : Bool, Hid (q = true ↔ a.n % 2 ≠ b.n % 2 ∧ b.n < a.n) := ⟨decide (a.n % 2 ≠ b.n % 2 ∧ b.n < a.n), Lib.hid (by simp)⟩
  have HV : Hid (ancOk a = true → ancOk b = true → findV (grD a b) = .tuple #[(if q = true then a else b).val, .int .i64 0]) := Lib.hid (fun ha hb => grD_find a b ha hb q Hq.out)
  have Ha : Hid (ancOk a = true → 1 ≤ a.n) := Lib.hid (fun h => ((ancOk_iff _).1 h).1)
  have Hb : Hid (ancOk b = true → 1 ≤ b.n) := Lib.hid (fun h => ((ancOk_iff _).1 h).1)
  obtain ⟨ka, Hka⟩ : ∃ ka, Hid (ancOk a = ka) := ⟨_, Lib.hid rfl⟩
  obtain ⟨kb, Hkb⟩ : ∃ kb, Hid (ancOk b = kb) := ⟨_, Lib.hid rfl⟩
  have HD : Hid (∀ D : Dv, D = grD a b → ((Dv.new 2).write (parN a.n) (ancS a)).write (parN b.n) (ancS b) = D) := Lib.hid (fun D h => h.symm)
  obtain ⟨a1, a2, a3, a4⟩ := a
  obtain ⟨b1, b2, b3, b4⟩ := b
  rw [Hka.out] at CA HW HV Ha
  rw [Hkb.out] at CB HX HV Hb
  simp only [Anc.val] at CA CB HW HX Hq Ha Hb ⊢
  have ba := (Bk.made w 23 #[.int .i64 a1, .int .i64 a2, .int .i64 a3, .int .i64 a4]).fr ((Fr.refl No _).alloc (.cells #[.int .i64 b1, .int .i64 b2, .int .i64 b3, .int .i64 b4] 23)) (fun e => e)
  have bb := Bk.made (w.alloc (.cells #[.int .i64 a1, .int .i64 a2, .int .i64 a3, .int .i64 a4] 23)) 23 #[.int .i64 b1, .int .i64 b2, .int .i64 b3, .int .i64 b4]
  rw [World.size_alloc] at bb
  have f0 : Fr No w ((w.alloc (.cells #[.int .i64 a1, .int .i64 a2, .int .i64 a3, .int .i64 a4] 23)).alloc (.cells #[.int .i64 b1, .int .i64 b2, .int .i64 b3, .int .i64 b4] 23)) := ((Fr.refl _ _).alloc _).alloc _
  go_enter Try.func6, Try.ntmps6
  go_wp2_with fail
  refine (C0.out _).mono ?_
  rintro e w1 ⟨rfl, f1⟩
  have F1 := Lib.hid (f0.trans' f1 (fun _ _ e => e))
  have BA1 := Lib.hid (ba.fr f1 (fun e => e))
  have BB1 := Lib.hid (bb.fr f1 (fun e => e))
  obtain ⟨x0, x1, x2, x3⟩ := bk4 BA1.out
  obtain ⟨y0, y1, y2, y3⟩ := bk4 BB1.out
  clear ba bb f0 f1 C0
  go_wp2_with fail
  refine (CA.out _).mono ?_
  rintro e w2 ⟨rfl, f2⟩
  have F2 := Lib.hid (F1.out.trans' f2 (fun _ _ e => e))
  have BA2 := Lib.hid (BA1.out.fr f2 (fun e => e))
  have BB2 := Lib.hid (BB1.out.fr f2 (fun e => e))
  clear x0 x1 x2 x3 y0 y1 y2 y3
  obtain ⟨x0, x1, x2, x3⟩ := bk4 BA2.out
  obtain ⟨y0, y1, y2, y3⟩ := bk4 BB2.out
  clear f2 F1 BA1 BB1 CA
  cases ka with
  | false =>
    go_wp2
    go_ret
    exact ⟨rfl, F2.out⟩
  | true =>
    go_wp2_with fail
    refine (CB.out _).mono ?_
    rintro e wb ⟨rfl, f3⟩
    have FB := Lib.hid (F2.out.trans' f3 (fun _ _ e => e))
    have BA := Lib.hid (BA2.out.fr f3 (fun e => e))
    have BB := Lib.hid (BB2.out.fr f3 (fun e => e))
    clear x0 x1 x2 x3 y0 y1 y2 y3 f3 F2 BA2 BB2 CB
    cases kb with
    | false =>
      go_wp2
      go_ret
      exact ⟨rfl, FB.out⟩
    | true =>
      go_wp2_with fail
      refine (dNew_yes 2 (by omega) (by omega) wb).mono ?_
      rintro e w3 ⟨S1, d, rfl, hD, hS⟩
      have E1 := Lib.hid (Env.begin (Fr.refl No wb) hD hS)
      obtain ⟨x0, x1, x2, x3⟩ := bk4 (BA.out.fr E1.out.fr (fun e => e))
      clear hD hS
      go_wp2_with fail
      refine (HW.out (by trivial) _ _ _ _ _ (by show 2 ≤ 2; omega) E1.out.dd).mono ?_
      rintro e w4 ⟨rfl, S2, hD, hS⟩
      have E2 := Lib.hid (E1.out.step hD hS)
      clear hD hS x0 x1 x2 x3 E1 HW
      obtain ⟨y0, y1, y2, y3⟩ := bk4 (BB.out.fr E2.out.fr (fun e => e))
      go_wp2_with fail
      refine (HX.out (by trivial) _ _ _ _ _ (by show 2 ≤ 2; omega) E2.out.dd).mono ?_
      rintro e w5 ⟨rfl, S3, hD, hS⟩
      have E3 := Lib.hid (E2.out.step hD hS)
      have CF := Lib.hid (fun W (hw : Fr No w5 W) => anFind_any W (E3.out.dd.quiet hw))
      have HV2 := HV.out (by trivial) (by trivial)
      simp only [grD] at HV2
      rw [HV2] at CF
      clear hD hS y0 y1 y2 y3 E2 HX HV HV2 HD
      have f6 : Fr No w5 (w5.alloc (.cells #[.int .i64 b1, .int .i64 b2, .int .i64 b3, .int .i64 b4] 23)) := (Fr.refl _ _).alloc _
      obtain ⟨u0, u1, u2, u3⟩ := bk4 (BB.out.fr E3.out.fr (fun e => e))
      obtain ⟨x0, x1, x2, x3⟩ := bk4 ((BA.out.fr E3.out.fr (fun e => e)).fr f6 (fun e => e))
      obtain ⟨y0, y1, y2, y3⟩ := bk4 ((BB.out.fr E3.out.fr (fun e => e)).fr f6 (fun e => e))
      have ta : Int.tmod a1 2 = a1 % 2 := by rw [Int.tmod_eq_emod_of_nonneg (by have := Ha.out (by trivial); omega)]
      have tb : Int.tmod b1 2 = b1 % 2 := by rw [Int.tmod_eq_emod_of_nonneg (by have := Hb.out (by trivial); omega)]
      have bw := Bk.made w5 23 #[.int .i64 b1, .int .i64 b2, .int .i64 b3, .int .i64 b4]
      have qe : ∀ x1 x2 x3 x4 W, (Op.equalIn 10000 23 (.agg #[.int .i64 x1, .int .i64 x2, .int .i64 x3, .int .i64 x4]) (.agg #[.int .i64 x1, .int .i64 x2, .int .i64 x3, .int .i64 x4])).run Try.prog W = .ok true W := fun x1 x2 x3 x4 W => by rw [eqAnc]; simp
      have HF := Lib.hid (FB.out.trans' E3.out.fr (fun _ _ e => e))
      by_cases hp : a1 % 2 = b1 % 2
      · have hp1 := decide_eq_true hp
        obtain rfl : q = false := by
          cases q with
          | false => rfl
          | true => exact absurd hp (Hq.out.1 rfl).1
        simp only [Bool.false_eq_true, if_false, Anc.val] at CF
        go_wp2_with fail
        refine (CF.out _ f6).mono ?_
        rintro e w7 ⟨rfl, f7⟩
        have f8 : Fr No (w5.alloc (.cells #[.int .i64 b1, .int .i64 b2, .int .i64 b3, .int .i64 b4] 23)) (w7.alloc (.cells #[.int .i64 b1, .int .i64 b2, .int .i64 b3, .int .i64 b4] 23)) := f7.alloc _
        obtain ⟨v0, v1, v2, v3⟩ := bk4 (bw.fr f8 (fun e => e))
        have FF := Lib.hid ((HF.out.trans' f6 (fun _ _ e => e)).trans' f8 (fun _ _ e => e))
        clear CF f6 f7 f8 bw HF FB BA BB E3
        go_wp2
        go_ret
        exact ⟨rfl, FF.out⟩
      · have hp1 := decide_eq_false hp
        by_cases hg : b1 < a1
        · have hg1 := decide_eq_true hg
          obtain rfl : q = true := Hq.out.2 ⟨hp, hg⟩
          simp only [if_true, Anc.val] at CF
          clear f6 bw
          have f6 : Fr No w5 (w5.alloc (.cells #[.int .i64 a1, .int .i64 a2, .int .i64 a3, .int .i64 a4] 23)) := (Fr.refl _ _).alloc _
          have bw := Bk.made w5 23 #[.int .i64 a1, .int .i64 a2, .int .i64 a3, .int .i64 a4]
          go_wp2_with fail
          refine (CF.out _ f6).mono ?_
          rintro e w7 ⟨rfl, f7⟩
          have f8 : Fr No (w5.alloc (.cells #[.int .i64 a1, .int .i64 a2, .int .i64 a3, .int .i64 a4] 23)) (w7.alloc (.cells #[.int .i64 a1, .int .i64 a2, .int .i64 a3, .int .i64 a4] 23)) := f7.alloc _
          obtain ⟨v0, v1, v2, v3⟩ := bk4 (bw.fr f8 (fun e => e))
          have FF := Lib.hid ((HF.out.trans' f6 (fun _ _ e => e)).trans' f8 (fun _ _ e => e))
          clear CF f6 f7 f8 bw HF FB BA BB E3
          go_wp2
          go_ret
          exact ⟨rfl, FF.out⟩
        · have hg1 := decide_eq_false hg
          obtain rfl : q = false := by
            cases q with
            | false => rfl
            | true => exact absurd (Hq.out.1 rfl).2 hg
          simp only [Bool.false_eq_true, if_false, Anc.val] at CF
          go_wp2_with fail
          refine (CF.out _ f6).mono ?_
          rintro e w7 ⟨rfl, f7⟩
          have f8 : Fr No (w5.alloc (.cells #[.int .i64 b1, .int .i64 b2, .int .i64 b3, .int .i64 b4] 23)) (w7.alloc (.cells #[.int .i64 b1, .int .i64 b2, .int .i64 b3, .int .i64 b4] 23)) := f7.alloc _
          obtain ⟨v0, v1, v2, v3⟩ := bk4 (bw.fr f8 (fun e => e))
          have FF := Lib.hid ((HF.out.trans' f6 (fun _ _ e => e)).trans' f8 (fun _ _ e => e))
          clear CF f6 f7 f8 bw HF FB BA BB E3
          go_wp2
          go_ret
          exact ⟨rfl, FF.out⟩
end Go.Proofs.Ytcjbdoppphjpjaa
