/- The document's own Find. -/
import Derived.Test.YtcjbdoppphjpjaaRfr7
namespace Go.Proofs.Ytcjbdoppphjpjaa
open Go.RowKit

theorem ownP_none (b : Int) : ownP b none = none := rfl
theorem ownP_yes {b : Int} {x : Anc} (h : x.n % 2 = b) : ownP b (some x) = some x := by simp [ownP, h]
theorem ownP_no {b : Int} {x : Anc} (h : ¬ x.n % 2 = b) : ownP b (some x) = none := by
  unfold ownP
  rw [Option.filter_some, decide_eq_false h]
  rfl
theorem pick_l {x y : Anc} (h : y.n < x.n) : pickP (some x) (some y) = some x := if_pos h
theorem pick_r {x y : Anc} (h : ¬ y.n < x.n) : pickP (some x) (some y) = some y := if_neg h
set_option maxRecDepth 100000 in
set_option maxHeartbeats 4000000 in
theorem refFind7_any (s t : List Nat) (hs : Sec s) (ht : Sec t) (w : World) : Calls Try.prog 16 #[secV s, secV t] w fun e w' => e = .returned (.tuple #[(getA (findA s t)).val, .bool (findA s t).isSome]) ∧ Fr No w w' := by
  have CS := Lib.hid (fun W => refRead7_any s hs W)
  have CT := Lib.hid (fun W => refRead7_any t ht W)
  obtain ⟨R, HR0⟩ : ∃ R, Hid (findA s t = R) := ⟨_, Lib.hid rfl⟩
  have HR1 : Hid (R = pickP (ownP 0 (readA s)) (ownP 1 (readA t))) := Lib.hid (by rw [← HR0.out]; rfl)
  rw [HR0.out]
  have Ho : Hid (∀ x, readA s = some x → 1 ≤ x.n) := Lib.hid (fun x hx => ((ancOk_iff _).1 (readA_some hx).1).1)
  have Ho' : Hid (∀ x, readA t = some x → 1 ≤ x.n) := Lib.hid (fun x hx => ((ancOk_iff _).1 (readA_some hx).1).1)
  clear HR0
  generalize readA s = r at *
  generalize readA t = r' at *
  obtain ⟨s0, s1, s2, s3, s4, s5, s6, s7, rfl⟩ := sec_lit hs
  obtain ⟨t0, t1, t2, t3, t4, t5, t6, t7, rfl⟩ := sec_lit ht
  clear hs ht
  simp only [secV, secA, u64s, List.map_cons, List.map_nil] at CS CT ⊢
  have bs := ((Bk.made w 25 #[.int .u64 s0, .int .u64 s1, .int .u64 s2, .int .u64 s3, .int .u64 s4, .int .u64 s5, .int .u64 s6, .int .u64 s7]).fr ((Fr.refl No _).alloc (.cells #[.int .u64 t0, .int .u64 t1, .int .u64 t2, .int .u64 t3, .int .u64 t4, .int .u64 t5, .int .u64 t6, .int .u64 t7] 25)) (fun e => e)).fr ((Fr.refl No _).alloc (.cells #[.int .i64 0, .int .i64 0, .int .i64 0, .int .i64 0] 23)) (fun e => e)
  have bT := (Bk.made (w.alloc (.cells #[.int .u64 s0, .int .u64 s1, .int .u64 s2, .int .u64 s3, .int .u64 s4, .int .u64 s5, .int .u64 s6, .int .u64 s7] 25)) 25 #[.int .u64 t0, .int .u64 t1, .int .u64 t2, .int .u64 t3, .int .u64 t4, .int .u64 t5, .int .u64 t6, .int .u64 t7]).fr ((Fr.refl No _).alloc (.cells #[.int .i64 0, .int .i64 0, .int .i64 0, .int .i64 0] 23)) (fun e => e)
  have bR := Bk.made ((w.alloc (.cells #[.int .u64 s0, .int .u64 s1, .int .u64 s2, .int .u64 s3, .int .u64 s4, .int .u64 s5, .int .u64 s6, .int .u64 s7] 25)).alloc (.cells #[.int .u64 t0, .int .u64 t1, .int .u64 t2, .int .u64 t3, .int .u64 t4, .int .u64 t5, .int .u64 t6, .int .u64 t7] 25)) 23 #[.int .i64 0, .int .i64 0, .int .i64 0, .int .i64 0]
  have fa : Fr No w (((w.alloc (.cells #[.int .u64 s0, .int .u64 s1, .int .u64 s2, .int .u64 s3, .int .u64 s4, .int .u64 s5, .int .u64 s6, .int .u64 s7] 25)).alloc (.cells #[.int .u64 t0, .int .u64 t1, .int .u64 t2, .int .u64 t3, .int .u64 t4, .int .u64 t5, .int .u64 t6, .int .u64 t7] 25)).alloc (.cells #[.int .i64 0, .int .i64 0, .int .i64 0, .int .i64 0] 23)) := (((Fr.refl _ _).alloc _).alloc _).alloc _
  rw [World.size_alloc] at bT
  rw [World.size_alloc, World.size_alloc] at bR
  obtain ⟨wa, Hwa⟩ : ∃ wa, Hid (wa = (((w.alloc (.cells #[.int .u64 s0, .int .u64 s1, .int .u64 s2, .int .u64 s3, .int .u64 s4, .int .u64 s5, .int .u64 s6, .int .u64 s7] 25)).alloc (.cells #[.int .u64 t0, .int .u64 t1, .int .u64 t2, .int .u64 t3, .int .u64 t4, .int .u64 t5, .int .u64 t6, .int .u64 t7] 25)).alloc (.cells #[.int .i64 0, .int .i64 0, .int .i64 0, .int .i64 0] 23))) := ⟨_, Lib.hid rfl⟩
  obtain ⟨p0, p1, p2, p3, p4, p5, p6, p7⟩ := bk8 bs
  go_enter Try.func16, Try.ntmps16
  go_wp2_with fail
  rw [← Hwa.out] at bT bR fa ⊢
  have FA := Lib.hid fa
  have Hws : Hid (wa.heap.size = w.heap.size + 1 + 1 + 1) := Lib.hid (by rw [Hwa.out]; simp)
  clear Hwa bs fa p0 p1 p2 p3 p4 p5 p6 p7
  cases r with
  | none =>
    cases r' with
    | none =>
      have HR2 : Hid (R = none) := Lib.hid (by rw [HR1.out, ownP_none, ownP_none]; rfl)
      simp only [getA, Option.getD_none, Option.getD_some, Option.isSome_none, Option.isSome_some, anc0, Anc.val] at CS CT
      refine (CS.out _).mono ?_
      rintro e w1 ⟨rfl, f1⟩
      have g1 : Fr No wa (w1.alloc (.cells #[.int .i64 0, .int .i64 0, .int .i64 0, .int .i64 0] 23)) := f1.alloc _
      obtain ⟨q0, q1, q2, q3, q4, q5, q6, q7⟩ := bk8 (bT.fr g1 (fun e => e))
      have bx := Bk.made w1 23 #[.int .i64 0, .int .i64 0, .int .i64 0, .int .i64 0]
      clear f1
      go_wp2_with fail
      refine (CT.out _).mono ?_
      rintro e w2 ⟨rfl, f2⟩
      have g2 : Fr No (w1.alloc (.cells #[.int .i64 0, .int .i64 0, .int .i64 0, .int .i64 0] 23)) (w2.alloc (.cells #[.int .i64 0, .int .i64 0, .int .i64 0, .int .i64 0] 23)) := f2.alloc _
      obtain ⟨v0, v1, v2, v3⟩ := bk4 (bx.fr g2 (fun e => e))
      have by' := Bk.made w2 23 #[.int .i64 0, .int .i64 0, .int .i64 0, .int .i64 0]
      have bz := (bR.fr g1 (fun e => e)).fr g2 (fun e => e)
      obtain ⟨z0, z1, z2, z3⟩ := bk4 bz
      obtain ⟨k0, k1, k2, k3⟩ := fz4 bz
      obtain ⟨u0, u1, u2, u3⟩ := bk4 by'
      have F6 := Lib.hid ((FA.out.trans' g1 (fun _ _ e => e)).trans' g2 (fun _ _ e => e))
      clear CS CT FA f2 g1 g2 bx by' bz bT bR q0 q1 q2 q3 q4 q5 q6 q7
      clear Ho Ho' HR1 Hws
      go_wp2
      refine bodyPost_ret (v := .tuple #[.agg #[.int .i64 0, .int .i64 0, .int .i64 0, .int .i64 0], .bool false]) (by simp [results, Try.results16, go_sem, z0, z1, z2, z3]) rfl ?_
      refine ⟨by rw [HR2.out]; rfl, ?_⟩
      repeat (first | with_reducible exact F6.out | refine Fr.setCell ?_ (.inr (by show w.heap.size ≤ w.heap.size + 1 + 1; omega)) _)
    | some y =>
      obtain ⟨y1, y2, y3, y4⟩ := y
      simp only [getA, Option.getD_none, Option.getD_some, Option.isSome_none, Option.isSome_some, anc0, Anc.val] at CS CT
      refine (CS.out _).mono ?_
      rintro e w1 ⟨rfl, f1⟩
      have g1 : Fr No wa (w1.alloc (.cells #[.int .i64 0, .int .i64 0, .int .i64 0, .int .i64 0] 23)) := f1.alloc _
      obtain ⟨q0, q1, q2, q3, q4, q5, q6, q7⟩ := bk8 (bT.fr g1 (fun e => e))
      have bx := Bk.made w1 23 #[.int .i64 0, .int .i64 0, .int .i64 0, .int .i64 0]
      clear f1
      go_wp2_with fail
      refine (CT.out _).mono ?_
      rintro e w2 ⟨rfl, f2⟩
      have g2 : Fr No (w1.alloc (.cells #[.int .i64 0, .int .i64 0, .int .i64 0, .int .i64 0] 23)) (w2.alloc (.cells #[.int .i64 y1, .int .i64 y2, .int .i64 y3, .int .i64 y4] 23)) := f2.alloc _
      obtain ⟨v0, v1, v2, v3⟩ := bk4 (bx.fr g2 (fun e => e))
      have by' := Bk.made w2 23 #[.int .i64 y1, .int .i64 y2, .int .i64 y3, .int .i64 y4]
      have bz := (bR.fr g1 (fun e => e)).fr g2 (fun e => e)
      obtain ⟨z0, z1, z2, z3⟩ := bk4 bz
      obtain ⟨k0, k1, k2, k3⟩ := fz4 bz
      obtain ⟨u0, u1, u2, u3⟩ := bk4 by'
      have F6 := Lib.hid ((FA.out.trans' g1 (fun _ _ e => e)).trans' g2 (fun _ _ e => e))
      clear CS CT FA f2 g1 g2 bx by' bz bT bR q0 q1 q2 q3 q4 q5 q6 q7
      have hty : Int.tmod y1 2 = y1 % 2 := by rw [Int.tmod_eq_emod_of_nonneg (by have := Ho'.out _ rfl; simp only at this; omega)]
      by_cases hmy : y1 % 2 = 1
      · have hpy := decide_eq_true hmy
        have HR2 : Hid (R = some ⟨y1, y2, y3, y4⟩) := Lib.hid (by rw [HR1.out, ownP_none, ownP_yes (show (⟨y1, y2, y3, y4⟩ : Anc).n % 2 = 1 from hmy)]; rfl)
        clear Ho Ho' HR1 Hws
        go_wp2
        refine bodyPost_ret (v := .tuple #[.agg #[.int .i64 y1, .int .i64 y2, .int .i64 y3, .int .i64 y4], .bool true]) (by simp [results, Try.results16, go_sem, z0, z1, z2, z3]) rfl ?_
        refine ⟨by rw [HR2.out]; rfl, ?_⟩
        repeat (first | with_reducible exact F6.out | refine Fr.setCell ?_ (.inr (by show w.heap.size ≤ w.heap.size + 1 + 1; omega)) _)
      · have hpy := decide_eq_false hmy
        have HR2 : Hid (R = none) := Lib.hid (by rw [HR1.out, ownP_none, ownP_no (show ¬ (⟨y1, y2, y3, y4⟩ : Anc).n % 2 = 1 from hmy)]; rfl)
        clear Ho Ho' HR1 Hws
        go_wp2
        refine bodyPost_ret (v := .tuple #[.agg #[.int .i64 0, .int .i64 0, .int .i64 0, .int .i64 0], .bool false]) (by simp [results, Try.results16, go_sem, z0, z1, z2, z3]) rfl ?_
        refine ⟨by rw [HR2.out]; rfl, ?_⟩
        repeat (first | with_reducible exact F6.out | refine Fr.setCell ?_ (.inr (by show w.heap.size ≤ w.heap.size + 1 + 1; omega)) _)
  | some x =>
    obtain ⟨x1, x2, x3, x4⟩ := x
    cases r' with
    | none =>
      simp only [getA, Option.getD_none, Option.getD_some, Option.isSome_none, Option.isSome_some, anc0, Anc.val] at CS CT
      refine (CS.out _).mono ?_
      rintro e w1 ⟨rfl, f1⟩
      have g1 : Fr No wa (w1.alloc (.cells #[.int .i64 x1, .int .i64 x2, .int .i64 x3, .int .i64 x4] 23)) := f1.alloc _
      obtain ⟨q0, q1, q2, q3, q4, q5, q6, q7⟩ := bk8 (bT.fr g1 (fun e => e))
      have bx := Bk.made w1 23 #[.int .i64 x1, .int .i64 x2, .int .i64 x3, .int .i64 x4]
      clear f1
      go_wp2_with fail
      refine (CT.out _).mono ?_
      rintro e w2 ⟨rfl, f2⟩
      have g2 : Fr No (w1.alloc (.cells #[.int .i64 x1, .int .i64 x2, .int .i64 x3, .int .i64 x4] 23)) (w2.alloc (.cells #[.int .i64 0, .int .i64 0, .int .i64 0, .int .i64 0] 23)) := f2.alloc _
      obtain ⟨v0, v1, v2, v3⟩ := bk4 (bx.fr g2 (fun e => e))
      have by' := Bk.made w2 23 #[.int .i64 0, .int .i64 0, .int .i64 0, .int .i64 0]
      have bz := (bR.fr g1 (fun e => e)).fr g2 (fun e => e)
      obtain ⟨z0, z1, z2, z3⟩ := bk4 bz
      obtain ⟨k0, k1, k2, k3⟩ := fz4 bz
      obtain ⟨u0, u1, u2, u3⟩ := bk4 by'
      have F6 := Lib.hid ((FA.out.trans' g1 (fun _ _ e => e)).trans' g2 (fun _ _ e => e))
      clear CS CT FA f2 g1 g2 bx by' bz bT bR q0 q1 q2 q3 q4 q5 q6 q7
      have htx : Int.tmod x1 2 = x1 % 2 := by rw [Int.tmod_eq_emod_of_nonneg (by have := Ho.out _ rfl; simp only at this; omega)]
      by_cases hmx : x1 % 2 = 0
      · have hpx := decide_eq_true hmx
        have HR2 : Hid (R = some ⟨x1, x2, x3, x4⟩) := Lib.hid (by rw [HR1.out, ownP_yes (show (⟨x1, x2, x3, x4⟩ : Anc).n % 2 = 0 from hmx), ownP_none]; rfl)
        clear Ho Ho' HR1 Hws
        go_wp2
        refine bodyPost_ret (v := .tuple #[.agg #[.int .i64 x1, .int .i64 x2, .int .i64 x3, .int .i64 x4], .bool true]) (by simp [results, Try.results16, go_sem, z0, z1, z2, z3]) rfl ?_
        refine ⟨by rw [HR2.out]; rfl, ?_⟩
        repeat (first | with_reducible exact F6.out | refine Fr.setCell ?_ (.inr (by show w.heap.size ≤ w.heap.size + 1 + 1; omega)) _)
      · have hpx := decide_eq_false hmx
        have HR2 : Hid (R = none) := Lib.hid (by rw [HR1.out, ownP_no (show ¬ (⟨x1, x2, x3, x4⟩ : Anc).n % 2 = 0 from hmx), ownP_none]; rfl)
        clear Ho Ho' HR1 Hws
        go_wp2
        refine bodyPost_ret (v := .tuple #[.agg #[.int .i64 0, .int .i64 0, .int .i64 0, .int .i64 0], .bool false]) (by simp [results, Try.results16, go_sem, z0, z1, z2, z3]) rfl ?_
        refine ⟨by rw [HR2.out]; rfl, ?_⟩
        repeat (first | with_reducible exact F6.out | refine Fr.setCell ?_ (.inr (by show w.heap.size ≤ w.heap.size + 1 + 1; omega)) _)
    | some y =>
      obtain ⟨y1, y2, y3, y4⟩ := y
      simp only [getA, Option.getD_none, Option.getD_some, Option.isSome_none, Option.isSome_some, anc0, Anc.val] at CS CT
      refine (CS.out _).mono ?_
      rintro e w1 ⟨rfl, f1⟩
      have g1 : Fr No wa (w1.alloc (.cells #[.int .i64 x1, .int .i64 x2, .int .i64 x3, .int .i64 x4] 23)) := f1.alloc _
      obtain ⟨q0, q1, q2, q3, q4, q5, q6, q7⟩ := bk8 (bT.fr g1 (fun e => e))
      have bx := Bk.made w1 23 #[.int .i64 x1, .int .i64 x2, .int .i64 x3, .int .i64 x4]
      clear f1
      go_wp2_with fail
      refine (CT.out _).mono ?_
      rintro e w2 ⟨rfl, f2⟩
      have g2 : Fr No (w1.alloc (.cells #[.int .i64 x1, .int .i64 x2, .int .i64 x3, .int .i64 x4] 23)) (w2.alloc (.cells #[.int .i64 y1, .int .i64 y2, .int .i64 y3, .int .i64 y4] 23)) := f2.alloc _
      obtain ⟨v0, v1, v2, v3⟩ := bk4 (bx.fr g2 (fun e => e))
      have by' := Bk.made w2 23 #[.int .i64 y1, .int .i64 y2, .int .i64 y3, .int .i64 y4]
      have bz := (bR.fr g1 (fun e => e)).fr g2 (fun e => e)
      obtain ⟨z0, z1, z2, z3⟩ := bk4 bz
      obtain ⟨k0, k1, k2, k3⟩ := fz4 bz
      obtain ⟨u0, u1, u2, u3⟩ := bk4 by'
      have F6 := Lib.hid ((FA.out.trans' g1 (fun _ _ e => e)).trans' g2 (fun _ _ e => e))
      clear CS CT FA f2 g1 g2 bx by' bz bT bR q0 q1 q2 q3 q4 q5 q6 q7
      have htx : Int.tmod x1 2 = x1 % 2 := by rw [Int.tmod_eq_emod_of_nonneg (by have := Ho.out _ rfl; simp only at this; omega)]
      by_cases hmx : x1 % 2 = 0
      · have hpx := decide_eq_true hmx
        have hty : Int.tmod y1 2 = y1 % 2 := by rw [Int.tmod_eq_emod_of_nonneg (by have := Ho'.out _ rfl; simp only at this; omega)]
        by_cases hmy : y1 % 2 = 1
        · have hpy := decide_eq_true hmy
          by_cases hlt : y1 < x1
          · have hq := decide_eq_true hlt
            have HR2 : Hid (R = some ⟨x1, x2, x3, x4⟩) := Lib.hid (by rw [HR1.out, ownP_yes (show (⟨x1, x2, x3, x4⟩ : Anc).n % 2 = 0 from hmx), ownP_yes (show (⟨y1, y2, y3, y4⟩ : Anc).n % 2 = 1 from hmy)]; exact pick_l hlt)
            clear Ho Ho' HR1 Hws
            go_wp2
            refine bodyPost_ret (v := .tuple #[.agg #[.int .i64 x1, .int .i64 x2, .int .i64 x3, .int .i64 x4], .bool true]) (by simp [results, Try.results16, go_sem, z0, z1, z2, z3]) rfl ?_
            refine ⟨by rw [HR2.out]; rfl, ?_⟩
            repeat (first | with_reducible exact F6.out | refine Fr.setCell ?_ (.inr (by show w.heap.size ≤ w.heap.size + 1 + 1; omega)) _)
          · have hq := decide_eq_false hlt
            have HR2 : Hid (R = some ⟨y1, y2, y3, y4⟩) := Lib.hid (by rw [HR1.out, ownP_yes (show (⟨x1, x2, x3, x4⟩ : Anc).n % 2 = 0 from hmx), ownP_yes (show (⟨y1, y2, y3, y4⟩ : Anc).n % 2 = 1 from hmy)]; exact pick_r hlt)
            clear Ho Ho' HR1 Hws
            go_wp2
            refine bodyPost_ret (v := .tuple #[.agg #[.int .i64 y1, .int .i64 y2, .int .i64 y3, .int .i64 y4], .bool true]) (by simp [results, Try.results16, go_sem, z0, z1, z2, z3]) rfl ?_
            refine ⟨by rw [HR2.out]; rfl, ?_⟩
            repeat (first | with_reducible exact F6.out | refine Fr.setCell ?_ (.inr (by show w.heap.size ≤ w.heap.size + 1 + 1; omega)) _)
        · have hpy := decide_eq_false hmy
          have HR2 : Hid (R = some ⟨x1, x2, x3, x4⟩) := Lib.hid (by rw [HR1.out, ownP_yes (show (⟨x1, x2, x3, x4⟩ : Anc).n % 2 = 0 from hmx), ownP_no (show ¬ (⟨y1, y2, y3, y4⟩ : Anc).n % 2 = 1 from hmy)]; rfl)
          clear Ho Ho' HR1 Hws
          go_wp2
          refine bodyPost_ret (v := .tuple #[.agg #[.int .i64 x1, .int .i64 x2, .int .i64 x3, .int .i64 x4], .bool true]) (by simp [results, Try.results16, go_sem, z0, z1, z2, z3]) rfl ?_
          refine ⟨by rw [HR2.out]; rfl, ?_⟩
          repeat (first | with_reducible exact F6.out | refine Fr.setCell ?_ (.inr (by show w.heap.size ≤ w.heap.size + 1 + 1; omega)) _)
      · have hpx := decide_eq_false hmx
        have hty : Int.tmod y1 2 = y1 % 2 := by rw [Int.tmod_eq_emod_of_nonneg (by have := Ho'.out _ rfl; simp only at this; omega)]
        by_cases hmy : y1 % 2 = 1
        · have hpy := decide_eq_true hmy
          have HR2 : Hid (R = some ⟨y1, y2, y3, y4⟩) := Lib.hid (by rw [HR1.out, ownP_no (show ¬ (⟨x1, x2, x3, x4⟩ : Anc).n % 2 = 0 from hmx), ownP_yes (show (⟨y1, y2, y3, y4⟩ : Anc).n % 2 = 1 from hmy)]; rfl)
          clear Ho Ho' HR1 Hws
          go_wp2
          refine bodyPost_ret (v := .tuple #[.agg #[.int .i64 y1, .int .i64 y2, .int .i64 y3, .int .i64 y4], .bool true]) (by simp [results, Try.results16, go_sem, z0, z1, z2, z3]) rfl ?_
          refine ⟨by rw [HR2.out]; rfl, ?_⟩
          repeat (first | with_reducible exact F6.out | refine Fr.setCell ?_ (.inr (by show w.heap.size ≤ w.heap.size + 1 + 1; omega)) _)
        · have hpy := decide_eq_false hmy
          have HR2 : Hid (R = none) := Lib.hid (by rw [HR1.out, ownP_no (show ¬ (⟨x1, x2, x3, x4⟩ : Anc).n % 2 = 0 from hmx), ownP_no (show ¬ (⟨y1, y2, y3, y4⟩ : Anc).n % 2 = 1 from hmy)]; rfl)
          clear Ho Ho' HR1 Hws
          go_wp2
          refine bodyPost_ret (v := .tuple #[.agg #[.int .i64 0, .int .i64 0, .int .i64 0, .int .i64 0], .bool false]) (by simp [results, Try.results16, go_sem, z0, z1, z2, z3]) rfl ?_
          refine ⟨by rw [HR2.out]; rfl, ?_⟩
          repeat (first | with_reducible exact F6.out | refine Fr.setCell ?_ (.inr (by show w.heap.size ≤ w.heap.size + 1 + 1; omega)) _)
end Go.Proofs.Ytcjbdoppphjpjaa
