/- The law 'AnchorFinds'. -/
import Derived.Test.YtcjbdoppphjpjaaLs7
namespace Go.Proofs.Ytcjbdoppphjpjaa
open Go.RowKit

theorem findV_two (s t : List Nat) : findV (((Dv.new 3).write 0 s).write 1 t) = .tuple #[(getA (findA s t)).val, .int .i64 (errN (findA s t))] := by
  unfold findV
  rw [if_pos (by show 2 ≤ 3; omega)]
  rfl
theorem findV_one : findV (Dv.new 1) = .tuple #[.agg #[.int .i64 0, .int .i64 0, .int .i64 0, .int .i64 0], .int .i64 3] := by
  unfold findV
  rw [if_neg (by show ¬ 2 ≤ 1; omega)]
  rfl
set_option maxRecDepth 100000 in
set_option maxHeartbeats 4000000 in
theorem lawFinds_any (s0 s1 s2 s3 s4 s5 s6 s7 : Nat) (hs : Sec [s0, s1, s2, s3, s4, s5, s6, s7]) (t0 t1 t2 t3 t4 t5 t6 t7 : Nat) (ht : Sec [t0, t1, t2, t3, t4, t5, t6, t7]) (w : World) :
    Calls Try.prog 4 #[.agg #[.int .u64 s0, .int .u64 s1, .int .u64 s2, .int .u64 s3, .int .u64 s4, .int .u64 s5, .int .u64 s6, .int .u64 s7], .agg #[.int .u64 t0, .int .u64 t1, .int .u64 t2, .int .u64 t3, .int .u64 t4, .int .u64 t5, .int .u64 t6, .int .u64 t7]] w fun e w' => e = .returned (.bool true) ∧ Fr No w w' := by
  have C0 := Lib.hid alive7_any
  have CF := Lib.hid (fun W => refFind7_any [s0, s1, s2, s3, s4, s5, s6, s7] [t0, t1, t2, t3, t4, t5, t6, t7] hs ht W)
  have HV := findV_two [s0, s1, s2, s3, s4, s5, s6, s7] [t0, t1, t2, t3, t4, t5, t6, t7]
  have qa : ∀ x1 x2 x3 x4 W, (Op.equalIn 10000 23 (.agg #[.int .i64 x1, .int .i64 x2, .int .i64 x3, .int .i64 x4]) (.agg #[.int .i64 x1, .int .i64 x2, .int .i64 x3, .int .i64 x4])).run Try.prog W = .ok true W := fun x1 x2 x3 x4 W => by rw [eqAnc]; simp
  generalize findA [s0, s1, s2, s3, s4, s5, s6, s7] [t0, t1, t2, t3, t4, t5, t6, t7] = R at *
  obtain ⟨ok, Hok⟩ : ∃ ok : Bool, Hid (R.isSome = ok ∧ errN R = if ok = true then 0 else 5) := ⟨R.isSome, Lib.hid ⟨rfl, rfl⟩⟩
  rw [Hok.out.1] at CF
  rw [Hok.out.2] at HV
  generalize getA R = g at *
  obtain ⟨g1, g2, g3, g4⟩ := g
  simp only [secV, secA, u64s, List.map_cons, List.map_nil, Anc.val] at CF HV
  have HV0 := Lib.hid HV
  have bs := (Bk.made w 25 #[.int .u64 s0, .int .u64 s1, .int .u64 s2, .int .u64 s3, .int .u64 s4, .int .u64 s5, .int .u64 s6, .int .u64 s7]).fr ((Fr.refl No _).alloc (.cells #[.int .u64 t0, .int .u64 t1, .int .u64 t2, .int .u64 t3, .int .u64 t4, .int .u64 t5, .int .u64 t6, .int .u64 t7] 25)) (fun e => e)
  have bt := Bk.made (w.alloc (.cells #[.int .u64 s0, .int .u64 s1, .int .u64 s2, .int .u64 s3, .int .u64 s4, .int .u64 s5, .int .u64 s6, .int .u64 s7] 25)) 25 #[.int .u64 t0, .int .u64 t1, .int .u64 t2, .int .u64 t3, .int .u64 t4, .int .u64 t5, .int .u64 t6, .int .u64 t7]
  rw [World.size_alloc] at bt
  have f0 : Fr No w ((w.alloc (.cells #[.int .u64 s0, .int .u64 s1, .int .u64 s2, .int .u64 s3, .int .u64 s4, .int .u64 s5, .int .u64 s6, .int .u64 s7] 25)).alloc (.cells #[.int .u64 t0, .int .u64 t1, .int .u64 t2, .int .u64 t3, .int .u64 t4, .int .u64 t5, .int .u64 t6, .int .u64 t7] 25)) := ((Fr.refl _ _).alloc _).alloc _
  clear HV Hok
  go_enter Try.func4, Try.ntmps4
  go_wp2_with fail
  refine (C0.out _).mono ?_
  rintro e wb ⟨rfl, f1⟩
  have FB := Lib.hid (f0.trans' f1 (fun _ _ e => e))
  have BS := Lib.hid (bs.fr f1 (fun e => e))
  have BT := Lib.hid (bt.fr f1 (fun e => e))
  clear bs bt f0 f1 C0
  go_wp2_with fail
  refine (dNew_yes 3 (by omega) (by omega) wb).mono ?_
  rintro e w1 ⟨S1, d, rfl, hD, hS⟩
  have E1 := Lib.hid (Env.begin (Fr.refl No wb) hD hS)
  obtain ⟨x0, x1, x2, x3, x4, x5, x6, x7⟩ := bk8 (BS.out.fr E1.out.fr (fun e => e))
  clear hD hS
  go_wp2_with fail
  refine (dWrite_yes 0 (by show 0 < 3; omega) s0 s1 s2 s3 s4 s5 s6 s7 hs _ E1.out.dd).mono ?_
  rintro e w2 ⟨rfl, S2, hD, hS⟩
  have E2 := Lib.hid (E1.out.step hD hS)
  clear hD hS E1 x0 x1 x2 x3 x4 x5 x6 x7
  obtain ⟨x0, x1, x2, x3, x4, x5, x6, x7⟩ := bk8 (BT.out.fr E2.out.fr (fun e => e))
  go_wp2_with fail
  refine (dWrite_yes 1 (by show 1 < 3; omega) t0 t1 t2 t3 t4 t5 t6 t7 ht _ E2.out.dd).mono ?_
  rintro e w3 ⟨rfl, S3, hD, hS⟩
  have E3 := Lib.hid (E2.out.step hD hS)
  clear hD hS E2 x0 x1 x2 x3 x4 x5 x6 x7
  go_wp2_with fail
  refine (anFind_any _ E3.out.dd).mono ?_
  rintro e w4 ⟨rfl, hf⟩
  rw [HV0.out]
  have f4 : Fr No wb (w4.alloc (.cells #[.int .i64 g1, .int .i64 g2, .int .i64 g3, .int .i64 g4] 23)) := (E3.out.fr.trans' hf (fun _ _ e => e)).alloc _
  obtain ⟨x0, x1, x2, x3, x4, x5, x6, x7⟩ := bk8 (BS.out.fr f4 (fun e => e))
  obtain ⟨y0, y1, y2, y3, y4, y5, y6, y7⟩ := bk8 (BT.out.fr f4 (fun e => e))
  have ba := Bk.made w4 23 #[.int .i64 g1, .int .i64 g2, .int .i64 g3, .int .i64 g4]
  have F4 := Lib.hid f4
  clear E3 hf f4
  cases ok with
  | true =>
    simp only [if_true] at HV0 ⊢
    go_wp2_with fail
    refine (CF.out _).mono ?_
    rintro e w5 ⟨rfl, f5⟩
    have f6 : Fr No (w4.alloc (.cells #[.int .i64 g1, .int .i64 g2, .int .i64 g3, .int .i64 g4] 23)) (w5.alloc (.cells #[.int .i64 g1, .int .i64 g2, .int .i64 g3, .int .i64 g4] 23)) := f5.alloc _
    have F6 := Lib.hid (F4.out.trans' f6 (fun _ _ e => e))
    have ba6 := ba.fr f6 (fun e => e)
    have bb6 := Bk.made w5 23 #[.int .i64 g1, .int .i64 g2, .int .i64 g3, .int .i64 g4]
    clear x0 x1 x2 x3 x4 x5 x6 x7 y0 y1 y2 y3 y4 y5 y6 y7 f5 f6 F4 CF ba
    go_wp2_with fail
    refine (dNew_yes 1 (by omega) (by omega) _).mono ?_
    rintro e w7 ⟨S7, d7, rfl, hD, hS⟩
    have ba7 := ba6.fr hS.fr (fun e => e)
    have bb7 := bb6.fr hS.fr (fun e => e)
    have F7 := Lib.hid (F6.out.trans' hS.fr (fun _ _ e => e))
    have CG := Lib.hid (anFind_any w7 hD)
    rw [findV_one] at CG
    clear ba6 bb6 F6 hD hS
    go_wp2_with fail
    refine CG.out.mono ?_
    rintro e w8 ⟨rfl, f8⟩
    have f9 : Fr No w7 (w8.alloc (.cells #[.int .i64 0, .int .i64 0, .int .i64 0, .int .i64 0] 23)) := f8.alloc _
    have ba8 := ba7.fr f9 (fun e => e)
    have bb8 := bb7.fr f9 (fun e => e)
    have F8 := Lib.hid (F7.out.trans' f9 (fun _ _ e => e))
    clear ba7 bb7 F7 f8 f9 CG
    go_wp2_with fail
    refine (anFind_nil _).mono ?_
    rintro e w10 ⟨rfl, f10⟩
    have f11 : Fr No (w8.alloc (.cells #[.int .i64 0, .int .i64 0, .int .i64 0, .int .i64 0] 23)) (w10.alloc (.cells #[.int .i64 0, .int .i64 0, .int .i64 0, .int .i64 0] 23)) := f10.alloc _
    obtain ⟨u0, u1, u2, u3⟩ := bk4 (ba8.fr f11 (fun e => e))
    obtain ⟨v0, v1, v2, v3⟩ := bk4 (bb8.fr f11 (fun e => e))
    have F10 := Lib.hid (FB.out.trans' (F8.out.trans' f11 (fun _ _ e => e)) (fun _ _ e => e))
    clear ba8 bb8 F8 f10 f11 FB BS BT HV0
    go_wp2
    go_ret
    exact ⟨rfl, F10.out⟩
  | false =>
    simp only [Bool.false_eq_true, if_false] at HV0 ⊢
    go_wp2_with fail
    refine (CF.out _).mono ?_
    rintro e w5 ⟨rfl, f5⟩
    have f6 : Fr No (w4.alloc (.cells #[.int .i64 g1, .int .i64 g2, .int .i64 g3, .int .i64 g4] 23)) (w5.alloc (.cells #[.int .i64 g1, .int .i64 g2, .int .i64 g3, .int .i64 g4] 23)) := f5.alloc _
    have F6 := Lib.hid (F4.out.trans' f6 (fun _ _ e => e))
    have ba6 := ba.fr f6 (fun e => e)
    have bb6 := Bk.made w5 23 #[.int .i64 g1, .int .i64 g2, .int .i64 g3, .int .i64 g4]
    clear x0 x1 x2 x3 x4 x5 x6 x7 y0 y1 y2 y3 y4 y5 y6 y7 f5 f6 F4 CF ba
    go_wp2_with fail
    refine (dNew_yes 1 (by omega) (by omega) _).mono ?_
    rintro e w7 ⟨S7, d7, rfl, hD, hS⟩
    have ba7 := ba6.fr hS.fr (fun e => e)
    have bb7 := bb6.fr hS.fr (fun e => e)
    have F7 := Lib.hid (F6.out.trans' hS.fr (fun _ _ e => e))
    have CG := Lib.hid (anFind_any w7 hD)
    rw [findV_one] at CG
    clear ba6 bb6 F6 hD hS
    go_wp2_with fail
    refine CG.out.mono ?_
    rintro e w8 ⟨rfl, f8⟩
    have f9 : Fr No w7 (w8.alloc (.cells #[.int .i64 0, .int .i64 0, .int .i64 0, .int .i64 0] 23)) := f8.alloc _
    have ba8 := ba7.fr f9 (fun e => e)
    have bb8 := bb7.fr f9 (fun e => e)
    have F8 := Lib.hid (F7.out.trans' f9 (fun _ _ e => e))
    clear ba7 bb7 F7 f8 f9 CG
    go_wp2_with fail
    refine (anFind_nil _).mono ?_
    rintro e w10 ⟨rfl, f10⟩
    have f11 : Fr No (w8.alloc (.cells #[.int .i64 0, .int .i64 0, .int .i64 0, .int .i64 0] 23)) (w10.alloc (.cells #[.int .i64 0, .int .i64 0, .int .i64 0, .int .i64 0] 23)) := f10.alloc _
    obtain ⟨u0, u1, u2, u3⟩ := bk4 (ba8.fr f11 (fun e => e))
    obtain ⟨v0, v1, v2, v3⟩ := bk4 (bb8.fr f11 (fun e => e))
    have F10 := Lib.hid (FB.out.trans' (F8.out.trans' f11 (fun _ _ e => e)) (fun _ _ e => e))
    clear ba8 bb8 F8 f10 f11 FB BS BT HV0
    go_wp2
    go_ret
    exact ⟨rfl, F10.out⟩
end Go.Proofs.Ytcjbdoppphjpjaa
