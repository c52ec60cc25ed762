/- Package anchor: the anchor whose sector this is. -/
import Derived.Test.YtcjbdoppphjpjaaSec7
import Derived.Test.YtcjbdoppphjpjaaArr8
namespace Go.Proofs.Ytcjbdoppphjpjaa
open Go.RowKit

theorem eq8 (a0 a1 a2 a3 a4 a5 a6 a7 b0 b1 b2 b3 b4 b5 b6 b7 : Int) (w : World) :
    (Op.equalIn 10000 25 (.agg #[.int .u64 a0, .int .u64 a1, .int .u64 a2, .int .u64 a3, .int .u64 a4, .int .u64 a5, .int .u64 a6, .int .u64 a7]) (.agg #[.int .u64 b0, .int .u64 b1, .int .u64 b2, .int .u64 b3, .int .u64 b4, .int .u64 b5, .int .u64 b6, .int .u64 b7])).run Try.prog w =
      .ok (a0 == b0 && (a1 == b1 && (a2 == b2 && (a3 == b3 && (a4 == b4 && (a5 == b5 && (a6 == b6 && a7 == b7))))))) w := by
  obtain ⟨i, hi, -⟩ := Option.map_eq_some_iff.1 (show (Try.prog.info? 24).map (·.size) = some 1 by kernel_rfl)
  exact run_equalIn_8 Try.underlying25 Try.underlying24 hi (by kernel_rfl) a0 a1 a2 a3 a4 a5 a6 a7 b0 b1 b2 b3 b4 b5 b6 b7 w
theorem w64_lt {u : Nat} (h : u < 9223372036854775808) : wrap64 (u : Int) = (u : Int) := by unfold wrap64; omega
theorem w64_I (u : Int) : -9223372036854775808 ≤ wrap64 u ∧ wrap64 u < 9223372036854775808 := by unfold wrap64; omega
theorem w64_pos {u : Nat} (h2 : u < 18446744073709551616) (h : 0 ≤ wrap64 (u : Int)) : wrap64 (u : Int) = (u : Int) := by unfold wrap64 at *; omega
section
variable {w : World} {g : Nat} {t : TypeId} {c0 c1 c2 c3 c4 c5 c6 c7 : Value}
theorem bk8 (h : Bk w g t #[c0, c1, c2, c3, c4, c5, c6, c7]) :
    w.cell? ⟨g, 0, none⟩ = some c0 ∧ w.cell? ⟨g, 1, none⟩ = some c1 ∧ w.cell? ⟨g, 2, none⟩ = some c2 ∧ w.cell? ⟨g, 3, none⟩ = some c3 ∧ w.cell? ⟨g, 4, none⟩ = some c4 ∧ w.cell? ⟨g, 5, none⟩ = some c5 ∧ w.cell? ⟨g, 6, none⟩ = some c6 ∧ w.cell? ⟨g, 7, none⟩ = some c7 :=
  ⟨h.cell 0, h.cell 1, h.cell 2, h.cell 3, h.cell 4, h.cell 5, h.cell 6, h.cell 7⟩
theorem bk4 (h : Bk w g t #[c0, c1, c2, c3]) : w.cell? ⟨g, 0, none⟩ = some c0 ∧ w.cell? ⟨g, 1, none⟩ = some c1 ∧ w.cell? ⟨g, 2, none⟩ = some c2 ∧ w.cell? ⟨g, 3, none⟩ = some c3 := ⟨h.cell 0, h.cell 1, h.cell 2, h.cell 3⟩
theorem fz4 (h : Bk w g t #[c0, c1, c2, c3]) : w.frozen? ⟨g, 0, none⟩ = false ∧ w.frozen? ⟨g, 1, none⟩ = false ∧ w.frozen? ⟨g, 2, none⟩ = false ∧ w.frozen? ⟨g, 3, none⟩ = false := ⟨h.frozen 0, h.frozen 1, h.frozen 2, h.frozen 3⟩
end
/-- An anchor that a sector tells, if it does; else a zero one. -/
def getA (o : Option Anc) : Anc := o.getD anc0
/-- Of what two sectors tell the one with the greater number. -/
def pickP : Option Anc → Option Anc → Option Anc
  | some x, some y => if y.n < x.n then some x else some y
  | some x, none => some x
  | none, y => y
theorem findA_pick (s t : List Nat) : findA s t = pickP (ownP 0 (readA s)) (ownP 1 (readA t)) := rfl
theorem readA_wrap (s0 s1 s2 s3 s4 s5 s6 s7 : Nat) (hs : Sec [s0, s1, s2, s3, s4, s5, s6, s7]) :
    (ancOk ⟨wrap64 s1, wrap64 s2, wrap64 s3, wrap64 s4⟩ = false ∧ readA [s0, s1, s2, s3, s4, s5, s6, s7] = none) ∨
    ((wrap64 s1 = s1 ∧ wrap64 s2 = s2 ∧ wrap64 s3 = s3 ∧ wrap64 s4 = s4) ∧ ancOk ⟨s1, s2, s3, s4⟩ = true) := by
  have l1 := hs.lt s1 (by simp)
  have l2 := hs.lt s2 (by simp)
  have l3 := hs.lt s3 (by simp)
  have l4 := hs.lt s4 (by simp)
  cases h : ancOk ⟨wrap64 s1, wrap64 s2, wrap64 s3, wrap64 s4⟩ with
  | true =>
    refine .inr ?_
    obtain ⟨h1, h2, h3, h4, h5, h6, h7⟩ := (ancOk_iff _).1 h
    simp only at h1 h2 h3 h4 h5 h6 h7
    have e1 := w64_pos l1 (by omega)
    have e2 := w64_pos l2 (by omega)
    have e3 := w64_pos l3 (by omega)
    have e4 := w64_pos l4 (by omega)
    rw [e1, e2, e3, e4] at h
    exact ⟨⟨e1, e2, e3, e4⟩, h⟩
  | false =>
    refine .inl ⟨rfl, ?_⟩
    cases hr : readA [s0, s1, s2, s3, s4, s5, s6, s7] with
    | none => rfl
    | some x =>
      obtain ⟨h1, h2⟩ := readA_some hr
      have he := ofSec_sec h1
      rw [h2] at he
      subst he
      obtain ⟨a1, a2, a3, a4, a5, a6, a7⟩ := (ancOk_iff _).1 h1
      simp only [ofSec, List.getD_cons_zero, List.getD_cons_succ] at a1 a2 a3 a4 a5 a6 a7 h1
      rw [w64_lt (show s1 < 9223372036854775808 by omega), w64_lt (show s2 < 9223372036854775808 by omega), w64_lt (show s3 < 9223372036854775808 by omega), w64_lt (show s4 < 9223372036854775808 by omega), h1] at h
      cases h
set_option maxRecDepth 100000 in
set_option maxHeartbeats 2000000 in
theorem anRead_lit (s0 s1 s2 s3 s4 s5 s6 s7 : Nat) (hs : Sec [s0, s1, s2, s3, s4, s5, s6, s7]) (w : World) :
    Calls Try.prog 9 #[.agg #[.int .u64 s0, .int .u64 s1, .int .u64 s2, .int .u64 s3, .int .u64 s4, .int .u64 s5, .int .u64 s6, .int .u64 s7]] w fun e w' =>
      e = .returned (.tuple #[(getA (readA [s0, s1, s2, s3, s4, s5, s6, s7])).val, .bool (readA [s0, s1, s2, s3, s4, s5, s6, s7]).isSome]) ∧ Fr No w w' := by
  rcases readA_wrap s0 s1 s2 s3 s4 s5 s6 s7 hs with ⟨hok, hr⟩ | ⟨⟨e1, e2, e3, e4⟩, hok⟩
  · rw [hr]
    have HS : Hid (∀ W, Calls Try.prog 8 #[.agg #[.int .i64 (wrap64 s1), .int .i64 (wrap64 s2), .int .i64 (wrap64 s3), .int .i64 (wrap64 s4)]] W fun e w' => e = .returned (.tuple #[.agg #[.int .u64 0, .int .u64 0, .int .u64 0, .int .u64 0, .int .u64 0, .int .u64 0, .int .u64 0, .int .u64 0], .bool false]) ∧ Fr No W w') := Lib.hid (fun W =>
      anSector_no ⟨wrap64 s1, wrap64 s2, wrap64 s3, wrap64 s4⟩ ⟨w64_I _, w64_I _, w64_I _, w64_I _⟩ hok W)
    clear hr hok hs
    have b1 := Bk.made (w.alloc (.cells #[.int .u64 s0, .int .u64 s1, .int .u64 s2, .int .u64 s3, .int .u64 s4, .int .u64 s5, .int .u64 s6, .int .u64 s7] 25)) 23 #[.int .i64 0, .int .i64 0, .int .i64 0, .int .i64 0]
    have b2 := b1.fr ((Fr.refl No _).alloc (.cells #[.int .i64 (wrap64 s1), .int .i64 (wrap64 s2), .int .i64 (wrap64 s3), .int .i64 (wrap64 s4)] 23)) (fun e => e)
    have f1 : Fr No w (((w.alloc (.cells #[.int .u64 s0, .int .u64 s1, .int .u64 s2, .int .u64 s3, .int .u64 s4, .int .u64 s5, .int .u64 s6, .int .u64 s7] 25)).alloc (.cells #[.int .i64 0, .int .i64 0, .int .i64 0, .int .i64 0] 23)).alloc (.cells #[.int .i64 (wrap64 s1), .int .i64 (wrap64 s2), .int .i64 (wrap64 s3), .int .i64 (wrap64 s4)] 23)) := (((Fr.refl _ _).alloc _).alloc _).alloc _
    rw [World.size_alloc] at b2
    clear b1
    go_enter Try.func9, Try.ntmps9
    go_wp2_with fail
    refine (HS.out _).mono ?_
    rintro e' w1 ⟨rfl, hf⟩
    have b3 := (b2.fr hf (fun e => e)).fr ((Fr.refl No _).alloc (.cells #[.int .u64 0, .int .u64 0, .int .u64 0, .int .u64 0, .int .u64 0, .int .u64 0, .int .u64 0, .int .u64 0] 25)) (fun e => e)
    have f3 : Fr No w (w1.alloc (.cells #[.int .u64 0, .int .u64 0, .int .u64 0, .int .u64 0, .int .u64 0, .int .u64 0, .int .u64 0, .int .u64 0] 25)) := (f1.trans' hf (fun _ _ e => e)).alloc _
    obtain ⟨z0, z1, z2, z3⟩ := bk4 b3
    obtain ⟨y0, y1, y2, y3⟩ := fz4 b3
    have F3 := Lib.hid f3
    clear HS b2 b3 f1 f3 hf
    go_wp2
    refine bodyPost_ret (v := .tuple #[.agg #[.int .i64 0, .int .i64 0, .int .i64 0, .int .i64 0], .bool false]) (by simp [results, Try.results9, go_sem, z0, z1, z2, z3]) rfl ?_
    refine ⟨rfl, ?_⟩
    repeat (first | with_reducible exact F3.out | refine Fr.setCell ?_ (.inr (Nat.le_succ _)) _)
  · have HS0 := fun W => anSector_yes ⟨s1, s2, s3, s4⟩ hok W
    have hof : ofSec [s0, s1, s2, s3, s4, s5, s6, s7] = ⟨s1, s2, s3, s4⟩ := rfl
    obtain ⟨mk, Hmk⟩ : ∃ mk, Hid (ancM ⟨s1, s2, s3, s4⟩ = mk) := ⟨_, Lib.hid rfl⟩
    have Hs : Hid (ancS ⟨s1, s2, s3, s4⟩ = [mk, s1, s2, s3, s4, 0, 0, 0]) := Lib.hid (by
      unfold ancS
      rw [Hmk.out]
      rfl)
    have HS : Hid (∀ W, Calls Try.prog 8 #[.agg #[.int .i64 s1, .int .i64 s2, .int .i64 s3, .int .i64 s4]] W fun e w' => e = .returned (.tuple #[.agg #[.int .u64 mk, .int .u64 s1, .int .u64 s2, .int .u64 s3, .int .u64 s4, .int .u64 0, .int .u64 0, .int .u64 0], .bool true]) ∧ Fr No W w') := Lib.hid (fun W => by
      have := HS0 W
      rw [Hs.out] at this
      exact this)
    obtain ⟨q, Hq⟩ : ∃ q : Bool, Hid (readOk [s0, s1, s2, s3, s4, s5, s6, s7] ↔ q = true) := ⟨decide (readOk [s0, s1, s2, s3, s4, s5, s6, s7]), Lib.hid (by simp)⟩
    have Hq2 : Hid (readOk [s0, s1, s2, s3, s4, s5, s6, s7] ↔ [mk, s1, s2, s3, s4, 0, 0, 0] = [s0, s1, s2, s3, s4, s5, s6, s7]) := Lib.hid (by
      unfold readOk
      rw [hof, Hs.out]
      exact ⟨fun h => h.2, fun h => ⟨hok, h⟩⟩)
    have q8 : ∀ W, (Op.equalIn 10000 25 (.agg #[.int .u64 mk, .int .u64 s1, .int .u64 s2, .int .u64 s3, .int .u64 s4, .int .u64 0, .int .u64 0, .int .u64 0]) (.agg #[.int .u64 s0, .int .u64 s1, .int .u64 s2, .int .u64 s3, .int .u64 s4, .int .u64 s5, .int .u64 s6, .int .u64 s7])).run Try.prog W = .ok q W := fun W => by
      rw [eq8]
      congr 1
      rw [Bool.eq_iff_iff, ← Hq.out, Hq2.out]
      simp
      omega
    have Hr : Hid (readA [s0, s1, s2, s3, s4, s5, s6, s7] = if q = true then some ⟨s1, s2, s3, s4⟩ else none) := Lib.hid (by
      unfold readA
      rw [hof]
      by_cases hc : readOk [s0, s1, s2, s3, s4, s5, s6, s7]
      · rw [if_pos hc, if_pos (Hq.out.1 hc)]
      · rw [if_neg hc, if_neg (fun e => hc (Hq.out.2 e))])
    rw [Hr.out]
    clear Hr Hq Hq2 hof HS0 hok hs Hs Hmk
    have b0 := ((Bk.made w 25 #[.int .u64 s0, .int .u64 s1, .int .u64 s2, .int .u64 s3, .int .u64 s4, .int .u64 s5, .int .u64 s6, .int .u64 s7]).fr ((Fr.refl No _).alloc (.cells #[.int .i64 0, .int .i64 0, .int .i64 0, .int .i64 0] 23)) (fun e => e)).fr ((Fr.refl No _).alloc (.cells #[.int .i64 s1, .int .i64 s2, .int .i64 s3, .int .i64 s4] 23)) (fun e => e)
    have b1 := (Bk.made (w.alloc (.cells #[.int .u64 s0, .int .u64 s1, .int .u64 s2, .int .u64 s3, .int .u64 s4, .int .u64 s5, .int .u64 s6, .int .u64 s7] 25)) 23 #[.int .i64 0, .int .i64 0, .int .i64 0, .int .i64 0]).fr ((Fr.refl No _).alloc (.cells #[.int .i64 s1, .int .i64 s2, .int .i64 s3, .int .i64 s4] 23)) (fun e => e)
    have b2 := Bk.made ((w.alloc (.cells #[.int .u64 s0, .int .u64 s1, .int .u64 s2, .int .u64 s3, .int .u64 s4, .int .u64 s5, .int .u64 s6, .int .u64 s7] 25)).alloc (.cells #[.int .i64 0, .int .i64 0, .int .i64 0, .int .i64 0] 23)) 23 #[.int .i64 s1, .int .i64 s2, .int .i64 s3, .int .i64 s4]
    have f1 : Fr No w (((w.alloc (.cells #[.int .u64 s0, .int .u64 s1, .int .u64 s2, .int .u64 s3, .int .u64 s4, .int .u64 s5, .int .u64 s6, .int .u64 s7] 25)).alloc (.cells #[.int .i64 0, .int .i64 0, .int .i64 0, .int .i64 0] 23)).alloc (.cells #[.int .i64 s1, .int .i64 s2, .int .i64 s3, .int .i64 s4] 23)) := (((Fr.refl _ _).alloc _).alloc _).alloc _
    rw [World.size_alloc] at b1
    rw [World.size_alloc, World.size_alloc] at b2
    go_enter Try.func9, Try.ntmps9
    go_wp2_with fail
    refine (HS.out _).mono ?_
    rintro e' w1 ⟨rfl, hf⟩
    have g : Fr No w1 (w1.alloc (.cells #[.int .u64 mk, .int .u64 s1, .int .u64 s2, .int .u64 s3, .int .u64 s4, .int .u64 0, .int .u64 0, .int .u64 0] 25)) := (Fr.refl _ _).alloc _
    obtain ⟨x0, x1, x2, x3, x4, x5, x6, x7⟩ := bk8 ((b0.fr hf (fun e => e)).fr g (fun e => e))
    have b3 := (b1.fr hf (fun e => e)).fr g (fun e => e)
    obtain ⟨z0, z1, z2, z3⟩ := bk4 b3
    obtain ⟨y0, y1, y2, y3⟩ := fz4 b3
    obtain ⟨v0, v1, v2, v3⟩ := bk4 ((b2.fr hf (fun e => e)).fr g (fun e => e))
    have F3 := Lib.hid ((f1.trans' hf (fun _ _ e => e)).trans' g (fun _ _ e => e))
    clear HS b0 b1 b2 b3 f1 g hf
    cases q with
    | true =>
      go_wp2
      refine bodyPost_ret (v := .tuple #[.agg #[.int .i64 s1, .int .i64 s2, .int .i64 s3, .int .i64 s4], .bool true]) (by simp [results, Try.results9, go_sem, z0, z1, z2, z3]) rfl ?_
      refine ⟨rfl, ?_⟩
      repeat (first | with_reducible exact F3.out | refine Fr.setCell ?_ (.inr (Nat.le_succ _)) _)
    | false =>
      go_wp2
      refine bodyPost_ret (v := .tuple #[.agg #[.int .i64 0, .int .i64 0, .int .i64 0, .int .i64 0], .bool false]) (by simp [results, Try.results9, go_sem, z0, z1, z2, z3]) rfl ?_
      refine ⟨rfl, ?_⟩
      repeat (first | with_reducible exact F3.out | refine Fr.setCell ?_ (.inr (Nat.le_succ _)) _)
theorem anRead_any (s : List Nat) (hs : Sec s) (w : World) : Calls Try.prog 9 #[secV s] w fun e w' => e = .returned (.tuple #[(getA (readA s)).val, .bool (readA s).isSome]) ∧ Fr No w w' := by
  obtain ⟨a, b, c, d, e, f, g, i, rfl⟩ := sec_lit hs
  exact anRead_lit a b c d e f g i hs w
end Go.Proofs.Ytcjbdoppphjpjaa
