/- The law 'AnchorSectors'. -/
import Derived.Test.YtcjbdoppphjpjaaAlv7
namespace Go.Proofs.Ytcjbdoppphjpjaa
open Go.RowKit

theorem eqAnc (a b c d a' b' c' d' : Int) (w : World) : (Op.equalIn 10000 23 (.agg #[.int .i64 a, .int .i64 b, .int .i64 c, .int .i64 d]) (.agg #[.int .i64 a', .int .i64 b', .int .i64 c', .int .i64 d'])).run Try.prog w = .ok (a == a' && (b == b' && (c == c' && d == d'))) w := by
  have u3 := Try.underlying3
  have a3 : ∀ w, (isAgg 3).run Try.prog w = .ok false w := fun w => by simp [isAgg, run_underlying Try.underlying3]
  have hs : Try.prog.underlying 23 = some (.struct (Try.prog.fieldsOf 23)) := by kernel_rfl
  rw [run_equalIn_agg w 9999 23 _ _ hs (by kernel_rfl)]
  simp only [Program.fieldsOf, Try.underlying23]
  go_simp
  by_cases h1 : a = a' <;> by_cases h2 : b = b' <;> by_cases h3 : c = c' <;> by_cases h4 : d = d' <;> simp [h1, h2, h3, h4]
set_option maxRecDepth 100000 in
set_option maxHeartbeats 4000000 in
theorem lawSectors_any (a : Anc) (hi : a.I) (s0 s1 s2 s3 s4 s5 s6 s7 : Nat) (hs : Sec [s0, s1, s2, s3, s4, s5, s6, s7]) (w : World) :
    Calls Try.prog 3 #[a.val, .agg #[.int .u64 s0, .int .u64 s1, .int .u64 s2, .int .u64 s3, .int .u64 s4, .int .u64 s5, .int .u64 s6, .int .u64 s7]] w fun e w' => e = .returned (.bool true) ∧ Fr No w w' := by
  have C0 := Lib.hid alive7_any
  have CR := Lib.hid (fun W => anRead_lit s0 s1 s2 s3 s4 s5 s6 s7 hs W)
  have CF := Lib.hid (fun W => refRead7_lit s0 s1 s2 s3 s4 s5 s6 s7 hs W)
  generalize readA [s0, s1, s2, s3, s4, s5, s6, s7] = r at *
  generalize r.isSome = rb at *
  generalize getA r = ga at *
  obtain ⟨r1, r2, r3, r4⟩ := ga
  have CM := Lib.hid (fun W => refMay7_any a W)
  have qa : ∀ W, (Op.equalIn 10000 23 (.agg #[.int .i64 r1, .int .i64 r2, .int .i64 r3, .int .i64 r4]) (.agg #[.int .i64 r1, .int .i64 r2, .int .i64 r3, .int .i64 r4])).run Try.prog W = .ok true W := fun W => by rw [eqAnc]; simp
  cases hok : ancOk a with
  | false =>
    have CS := Lib.hid (fun W => anSector_no a hi hok W)
    rw [hok] at CM
    obtain ⟨a1, a2, a3, a4⟩ := a
    simp only [Anc.val, zArr] at CS CM CR CF ⊢
    have qz : ∀ W, (Op.equalIn 10000 25 (.agg #[.int .u64 0, .int .u64 0, .int .u64 0, .int .u64 0, .int .u64 0, .int .u64 0, .int .u64 0, .int .u64 0]) (.agg #[.int .u64 0, .int .u64 0, .int .u64 0, .int .u64 0, .int .u64 0, .int .u64 0, .int .u64 0, .int .u64 0])).run Try.prog W = .ok true W := fun W => by rw [eq8]; rfl
    have ba := (Bk.made w 23 #[.int .i64 a1, .int .i64 a2, .int .i64 a3, .int .i64 a4]).fr ((Fr.refl No _).alloc (.cells #[.int .u64 s0, .int .u64 s1, .int .u64 s2, .int .u64 s3, .int .u64 s4, .int .u64 s5, .int .u64 s6, .int .u64 s7] 25)) (fun e => e)
    have bs := Bk.made (w.alloc (.cells #[.int .i64 a1, .int .i64 a2, .int .i64 a3, .int .i64 a4] 23)) 25 #[.int .u64 s0, .int .u64 s1, .int .u64 s2, .int .u64 s3, .int .u64 s4, .int .u64 s5, .int .u64 s6, .int .u64 s7]
    rw [World.size_alloc] at bs
    have f0 : Fr No w ((w.alloc (.cells #[.int .i64 a1, .int .i64 a2, .int .i64 a3, .int .i64 a4] 23)).alloc (.cells #[.int .u64 s0, .int .u64 s1, .int .u64 s2, .int .u64 s3, .int .u64 s4, .int .u64 s5, .int .u64 s6, .int .u64 s7] 25)) := ((Fr.refl _ _).alloc _).alloc _
    clear hi hok hs
    go_enter Try.func3, Try.ntmps3
    go_wp2_with fail
    refine (C0.out _).mono ?_
    rintro e w1 ⟨rfl, f1⟩
    have f2 := f0.trans' f1 (fun _ _ e => e)
    have ba1 := ba.fr f1 (fun e => e)
    have bs1 := bs.fr f1 (fun e => e)
    obtain ⟨a0', a1', a2', a3'⟩ := bk4 ba1
    clear f0 f1 ba bs C0
    go_wp2_with fail
    refine (CS.out _).mono ?_
    rintro e w2 ⟨rfl, f3⟩
    have f4 : Fr No w1 (w2.alloc (.cells #[.int .u64 0, .int .u64 0, .int .u64 0, .int .u64 0, .int .u64 0, .int .u64 0, .int .u64 0, .int .u64 0] 25)) := f3.alloc _
    have F2 := Lib.hid (f2.trans' f4 (fun _ _ e => e))
    have ba2 := ba1.fr f4 (fun e => e)
    have bs2 := bs1.fr f4 (fun e => e)
    have bt2 := Bk.made w2 25 #[.int .u64 0, .int .u64 0, .int .u64 0, .int .u64 0, .int .u64 0, .int .u64 0, .int .u64 0, .int .u64 0]
    obtain ⟨x0, x1, x2, x3, x4, x5, x6, x7⟩ := bk8 bs2
    clear a0' a1' a2' a3' ba1 bs1 f2 f3 f4 CS
    go_wp2_with fail
    refine (CR.out _).mono ?_
    rintro e w3 ⟨rfl, f3⟩
    have f4 : Fr No (w2.alloc (.cells #[.int .u64 0, .int .u64 0, .int .u64 0, .int .u64 0, .int .u64 0, .int .u64 0, .int .u64 0, .int .u64 0] 25)) (w3.alloc (.cells #[.int .i64 r1, .int .i64 r2, .int .i64 r3, .int .i64 r4] 23)) := f3.alloc _
    have F3 := Lib.hid (F2.out.trans' f4 (fun _ _ e => e))
    have ba3 := ba2.fr f4 (fun e => e)
    have bs3 := bs2.fr f4 (fun e => e)
    have bt3 := bt2.fr f4 (fun e => e)
    have bb3 := Bk.made w3 23 #[.int .i64 r1, .int .i64 r2, .int .i64 r3, .int .i64 r4]
    clear x0 x1 x2 x3 x4 x5 x6 x7
    obtain ⟨x0, x1, x2, x3, x4, x5, x6, x7⟩ := bk8 bs3
    clear F2 ba2 bs2 bt2 f3 f4 CR
    go_wp2_with fail
    refine (CF.out _).mono ?_
    rintro e w4 ⟨rfl, f3⟩
    have f4 : Fr No (w3.alloc (.cells #[.int .i64 r1, .int .i64 r2, .int .i64 r3, .int .i64 r4] 23)) (w4.alloc (.cells #[.int .i64 r1, .int .i64 r2, .int .i64 r3, .int .i64 r4] 23)) := f3.alloc _
    have F4 := Lib.hid (F3.out.trans' f4 (fun _ _ e => e))
    have ba4 := ba3.fr f4 (fun e => e)
    have bt4 := bt3.fr f4 (fun e => e)
    have bb4 := bb3.fr f4 (fun e => e)
    have bc4 := Bk.made w4 23 #[.int .i64 r1, .int .i64 r2, .int .i64 r3, .int .i64 r4]
    clear x0 x1 x2 x3 x4 x5 x6 x7
    obtain ⟨a0', a1', a2', a3'⟩ := bk4 ba4
    clear F3 ba3 bs3 bt3 bb3 f3 f4 CF
    go_wp2_with fail
    refine (CM.out _).mono ?_
    rintro e w5 ⟨rfl, f3⟩
    have F5 := Lib.hid (F4.out.trans' f3 (fun _ _ e => e))
    obtain ⟨b0', b1', b2', b3'⟩ := bk4 (bb4.fr f3 (fun e => e))
    obtain ⟨c0', c1', c2', c3'⟩ := bk4 (bc4.fr f3 (fun e => e))
    obtain ⟨t0', t1', t2', t3', t4', t5', t6', t7'⟩ := bk8 (bt4.fr f3 (fun e => e))
    clear F4 ba4 bt4 bb4 bc4 f3 CM a0' a1' a2' a3'
    go_wp2
    go_ret
    exact ⟨rfl, F5.out⟩
  | true =>
    have hsec := ancS_sec hok
    have hrd := readA_sec hok
    have CS := Lib.hid (fun W => anSector_yes a hok W)
    have CG := Lib.hid (fun W => refSector7_any a hok W)
    rw [hok] at CM
    generalize ancS a = ts at *
    obtain ⟨t0, t1, t2, t3, t4, t5, t6, t7, rfl⟩ := sec_lit hsec
    have CT := Lib.hid (fun W => anRead_lit t0 t1 t2 t3 t4 t5 t6 t7 hsec W)
    rw [hrd] at CT
    obtain ⟨a1, a2, a3, a4⟩ := a
    simp only [Anc.val, secV, secA, u64s, List.map_cons, List.map_nil, getA, Option.getD_some, Option.isSome_some] at CS CG CM CR CF CT ⊢
    have qt : ∀ W, (Op.equalIn 10000 25 (.agg #[.int .u64 t0, .int .u64 t1, .int .u64 t2, .int .u64 t3, .int .u64 t4, .int .u64 t5, .int .u64 t6, .int .u64 t7]) (.agg #[.int .u64 t0, .int .u64 t1, .int .u64 t2, .int .u64 t3, .int .u64 t4, .int .u64 t5, .int .u64 t6, .int .u64 t7])).run Try.prog W = .ok true W := fun W => by rw [eq8]; simp
    have qx : ∀ W, (Op.equalIn 10000 23 (.agg #[.int .i64 a1, .int .i64 a2, .int .i64 a3, .int .i64 a4]) (.agg #[.int .i64 a1, .int .i64 a2, .int .i64 a3, .int .i64 a4])).run Try.prog W = .ok true W := fun W => by rw [eqAnc]; simp
    clear hsec hrd
    have ba := (Bk.made w 23 #[.int .i64 a1, .int .i64 a2, .int .i64 a3, .int .i64 a4]).fr ((Fr.refl No _).alloc (.cells #[.int .u64 s0, .int .u64 s1, .int .u64 s2, .int .u64 s3, .int .u64 s4, .int .u64 s5, .int .u64 s6, .int .u64 s7] 25)) (fun e => e)
    have bs := Bk.made (w.alloc (.cells #[.int .i64 a1, .int .i64 a2, .int .i64 a3, .int .i64 a4] 23)) 25 #[.int .u64 s0, .int .u64 s1, .int .u64 s2, .int .u64 s3, .int .u64 s4, .int .u64 s5, .int .u64 s6, .int .u64 s7]
    rw [World.size_alloc] at bs
    have f0 : Fr No w ((w.alloc (.cells #[.int .i64 a1, .int .i64 a2, .int .i64 a3, .int .i64 a4] 23)).alloc (.cells #[.int .u64 s0, .int .u64 s1, .int .u64 s2, .int .u64 s3, .int .u64 s4, .int .u64 s5, .int .u64 s6, .int .u64 s7] 25)) := ((Fr.refl _ _).alloc _).alloc _
    clear hi hok hs
    go_enter Try.func3, Try.ntmps3
    go_wp2_with fail
    refine (C0.out _).mono ?_
    rintro e w1 ⟨rfl, f1⟩
    have f2 := f0.trans' f1 (fun _ _ e => e)
    have ba1 := ba.fr f1 (fun e => e)
    have bs1 := bs.fr f1 (fun e => e)
    obtain ⟨a0', a1', a2', a3'⟩ := bk4 ba1
    clear f0 f1 ba bs C0
    go_wp2_with fail
    refine (CS.out _).mono ?_
    rintro e w2 ⟨rfl, f3⟩
    have f4 : Fr No w1 (w2.alloc (.cells #[.int .u64 t0, .int .u64 t1, .int .u64 t2, .int .u64 t3, .int .u64 t4, .int .u64 t5, .int .u64 t6, .int .u64 t7] 25)) := f3.alloc _
    have F2 := Lib.hid (f2.trans' f4 (fun _ _ e => e))
    have ba2 := ba1.fr f4 (fun e => e)
    have bs2 := bs1.fr f4 (fun e => e)
    have bt2 := Bk.made w2 25 #[.int .u64 t0, .int .u64 t1, .int .u64 t2, .int .u64 t3, .int .u64 t4, .int .u64 t5, .int .u64 t6, .int .u64 t7]
    obtain ⟨x0, x1, x2, x3, x4, x5, x6, x7⟩ := bk8 bs2
    clear a0' a1' a2' a3' ba1 bs1 f2 f3 f4 CS
    go_wp2_with fail
    refine (CR.out _).mono ?_
    rintro e w3 ⟨rfl, f3⟩
    have f4 : Fr No (w2.alloc (.cells #[.int .u64 t0, .int .u64 t1, .int .u64 t2, .int .u64 t3, .int .u64 t4, .int .u64 t5, .int .u64 t6, .int .u64 t7] 25)) (w3.alloc (.cells #[.int .i64 r1, .int .i64 r2, .int .i64 r3, .int .i64 r4] 23)) := f3.alloc _
    have F3 := Lib.hid (F2.out.trans' f4 (fun _ _ e => e))
    have ba3 := ba2.fr f4 (fun e => e)
    have bs3 := bs2.fr f4 (fun e => e)
    have bt3 := bt2.fr f4 (fun e => e)
    have bb3 := Bk.made w3 23 #[.int .i64 r1, .int .i64 r2, .int .i64 r3, .int .i64 r4]
    clear x0 x1 x2 x3 x4 x5 x6 x7
    obtain ⟨x0, x1, x2, x3, x4, x5, x6, x7⟩ := bk8 bs3
    clear F2 ba2 bs2 bt2 f3 f4 CR
    go_wp2_with fail
    refine (CF.out _).mono ?_
    rintro e w4 ⟨rfl, f3⟩
    have f4 : Fr No (w3.alloc (.cells #[.int .i64 r1, .int .i64 r2, .int .i64 r3, .int .i64 r4] 23)) (w4.alloc (.cells #[.int .i64 r1, .int .i64 r2, .int .i64 r3, .int .i64 r4] 23)) := f3.alloc _
    have F4 := Lib.hid (F3.out.trans' f4 (fun _ _ e => e))
    have ba4 := ba3.fr f4 (fun e => e)
    have bt4 := bt3.fr f4 (fun e => e)
    have bb4 := bb3.fr f4 (fun e => e)
    have bc4 := Bk.made w4 23 #[.int .i64 r1, .int .i64 r2, .int .i64 r3, .int .i64 r4]
    clear x0 x1 x2 x3 x4 x5 x6 x7
    obtain ⟨a0', a1', a2', a3'⟩ := bk4 ba4
    clear F3 ba3 bs3 bt3 bb3 f3 f4 CF
    go_wp2_with fail
    refine (CM.out _).mono ?_
    rintro e w5 ⟨rfl, f3⟩
    have F5 := Lib.hid (F4.out.trans' f3 (fun _ _ e => e))
    obtain ⟨b0', b1', b2', b3'⟩ := bk4 (bb4.fr f3 (fun e => e))
    obtain ⟨c0', c1', c2', c3'⟩ := bk4 (bc4.fr f3 (fun e => e))
    have bt5 := bt4.fr f3 (fun e => e)
    have ba5 := ba4.fr f3 (fun e => e)
    obtain ⟨t0', t1', t2', t3', t4', t5', t6', t7'⟩ := bk8 bt5
    clear F4 ba4 bt4 bb4 bc4 f3 CM a0' a1' a2' a3'
    go_wp2_with fail
    refine (CT.out _).mono ?_
    rintro e w6 ⟨rfl, f3⟩
    have f4 : Fr No w5 (w6.alloc (.cells #[.int .i64 a1, .int .i64 a2, .int .i64 a3, .int .i64 a4] 23)) := f3.alloc _
    have F6 := Lib.hid (F5.out.trans' f4 (fun _ _ e => e))
    have ba6 := ba5.fr f4 (fun e => e)
    have bt6 := bt5.fr f4 (fun e => e)
    have bx6 := Bk.made w6 23 #[.int .i64 a1, .int .i64 a2, .int .i64 a3, .int .i64 a4]
    clear F5 ba5 bt5 f3 f4 CT b0' b1' b2' b3' c0' c1' c2' c3' t0' t1' t2' t3' t4' t5' t6' t7'
    go_wp2_with fail
    obtain ⟨wb, Hwb⟩ : ∃ wb, Hid (wb = w6.alloc (.cells #[.int .i64 a1, .int .i64 a2, .int .i64 a3, .int .i64 a4] 23)) := ⟨_, Lib.hid rfl⟩
    rw [← Hwb.out] at F6 ba6 bt6 bx6 ⊢
    have Hcell : Hid (∀ w', Fr No wb w' → w'.cell? ⟨w2.heap.size, 0, none⟩ = some (.int .u64 t0) ∧ w'.cell? ⟨w2.heap.size, 1, none⟩ = some (.int .u64 t1) ∧ w'.cell? ⟨w2.heap.size, 2, none⟩ = some (.int .u64 t2) ∧ w'.cell? ⟨w2.heap.size, 3, none⟩ = some (.int .u64 t3) ∧ w'.cell? ⟨w2.heap.size, 4, none⟩ = some (.int .u64 t4) ∧ w'.cell? ⟨w2.heap.size, 5, none⟩ = some (.int .u64 t5) ∧ w'.cell? ⟨w2.heap.size, 6, none⟩ = some (.int .u64 t6) ∧ w'.cell? ⟨w2.heap.size, 7, none⟩ = some (.int .u64 t7) ∧ w'.cell? ⟨w.heap.size, 0, none⟩ = some (.int .i64 a1) ∧ w'.cell? ⟨w.heap.size, 1, none⟩ = some (.int .i64 a2) ∧ w'.cell? ⟨w.heap.size, 2, none⟩ = some (.int .i64 a3) ∧ w'.cell? ⟨w.heap.size, 3, none⟩ = some (.int .i64 a4) ∧ w'.cell? ⟨w6.heap.size, 0, none⟩ = some (.int .i64 a1) ∧ w'.cell? ⟨w6.heap.size, 1, none⟩ = some (.int .i64 a2) ∧ w'.cell? ⟨w6.heap.size, 2, none⟩ = some (.int .i64 a3) ∧ w'.cell? ⟨w6.heap.size, 3, none⟩ = some (.int .i64 a4)) := Lib.hid (fun w' hw => by
      obtain ⟨x0, x1, x2, x3, x4, x5, x6, x7⟩ := bk8 (bt6.fr hw (fun e => e))
      obtain ⟨b0, b1, b2, b3⟩ := bk4 (ba6.fr hw (fun e => e))
      obtain ⟨c0, c1, c2, c3⟩ := bk4 (bx6.fr hw (fun e => e))
      exact ⟨x0, x1, x2, x3, x4, x5, x6, x7, b0, b1, b2, b3, c0, c1, c2, c3⟩)
    clear Hwb ba6 bt6 bx6
    have h0 := Hcell.out wb (Fr.refl _ _)
    refine wp_region_held_drew (S := fun w' => w'.cell? ⟨w2.heap.size, 0, none⟩ = some (.int .u64 t0) ∧ w'.cell? ⟨w2.heap.size, 1, none⟩ = some (.int .u64 t1) ∧ w'.cell? ⟨w2.heap.size, 2, none⟩ = some (.int .u64 t2) ∧ w'.cell? ⟨w2.heap.size, 3, none⟩ = some (.int .u64 t3) ∧ w'.cell? ⟨w2.heap.size, 4, none⟩ = some (.int .u64 t4) ∧ w'.cell? ⟨w2.heap.size, 5, none⟩ = some (.int .u64 t5) ∧ w'.cell? ⟨w2.heap.size, 6, none⟩ = some (.int .u64 t6) ∧ w'.cell? ⟨w2.heap.size, 7, none⟩ = some (.int .u64 t7) ∧ w'.cell? ⟨w.heap.size, 0, none⟩ = some (.int .i64 a1) ∧ w'.cell? ⟨w.heap.size, 1, none⟩ = some (.int .i64 a2) ∧ w'.cell? ⟨w.heap.size, 2, none⟩ = some (.int .i64 a3) ∧ w'.cell? ⟨w.heap.size, 3, none⟩ = some (.int .i64 a4) ∧ w'.cell? ⟨w6.heap.size, 0, none⟩ = some (.int .i64 a1) ∧ w'.cell? ⟨w6.heap.size, 1, none⟩ = some (.int .i64 a2) ∧ w'.cell? ⟨w6.heap.size, 2, none⟩ = some (.int .i64 a3) ∧ w'.cell? ⟨w6.heap.size, 3, none⟩ = some (.int .i64 a4)) (by kernel_rfl) h0 (fun hHeld => ?_)
    refine any_take 54 (.agg #[.int .u64 t0, .int .u64 t1, .int .u64 t2, .int .u64 t3, .int .u64 t4, .int .u64 t5, .int .u64 t6, .int .u64 t7]) (i := 0) rfl rfl (by kernel_rfl) (by kernel_rfl) (by kernel_rfl) (fun _ _ _ h => h) (by rfl) (by intro w hSw; (try dsimp only at hSw); go_simp; try with_reducible rfl) (by assumption) ?_
    simp only [Act.put, List.setIfInBounds_toArray, List.set_cons_zero, List.set_cons_succ]
    refine any_take 55 (.agg #[.int .i64 a1, .int .i64 a2, .int .i64 a3, .int .i64 a4]) (i := 1) rfl rfl (by kernel_rfl) (by kernel_rfl) (by kernel_rfl) (fun _ _ _ h => h) (by rfl) (by intro w hSw; (try dsimp only at hSw); go_simp; try with_reducible rfl) (by assumption) ?_
    simp only [Act.put, List.setIfInBounds_toArray, List.set_cons_zero, List.set_cons_succ]
    refine wpAnyH_ready (rs := [2]) (by kernel_rfl) (by simp) ?_
    refine AllReadyH.cons rfl (fun K' hK => ?_) AllReadyH.nil
    go_simp
    go_at_call 12
    refine (CG.out _).mono ?_
    rintro e w7 ⟨rfl, f7⟩
    have F7 : Fr No wb w7 := Fr.trans' ((Fr.refl _ _).drew) f7 (fun _ _ e => e)
    dsimp only
    refine hK.out _ _ (Hcell.out w7 F7) (fun hHeld => ?_)
    clear hK
    refine any_take 57 (.bool true) (i := 3) rfl rfl (by kernel_rfl) (by kernel_rfl) (by kernel_rfl) (fun _ _ _ h => h) (by rfl) (by intro w hSw; (try dsimp only at hSw); go_simp; try with_reducible rfl) (by assumption) ?_
    simp only [Act.put, List.setIfInBounds_toArray, List.set_cons_zero, List.set_cons_succ]
    refine any_take 58 (.bool true) (i := 4) rfl rfl (by kernel_rfl) (by kernel_rfl) (by kernel_rfl) (fun _ _ _ h => h) (by rfl) (by intro w hSw; (try dsimp only at hSw); go_simp; try with_reducible rfl) (by assumption) ?_
    simp only [Act.put, List.setIfInBounds_toArray, List.set_cons_zero, List.set_cons_succ]
    refine any_take 59 (.bool true) (i := 5) rfl rfl (by kernel_rfl) (by kernel_rfl) (by kernel_rfl) (fun _ _ _ h => h) (by rfl) (by intro w hSw; (try dsimp only at hSw); go_simp; try with_reducible rfl) (by assumption) ?_
    simp only [Act.put, List.setIfInBounds_toArray, List.set_cons_zero, List.set_cons_succ]
    refine any_take 60 (.bool true) (i := 6) rfl rfl (by kernel_rfl) (by kernel_rfl) (by kernel_rfl) (fun _ _ _ h => h) (by rfl) (by intro w hSw; (try dsimp only at hSw); go_simp; try with_reducible rfl) (by assumption) ?_
    simp only [Act.put, List.setIfInBounds_toArray, List.set_cons_zero, List.set_cons_succ]
    refine any_take 61 (.bool true) (i := 7) rfl rfl (by kernel_rfl) (by kernel_rfl) (by kernel_rfl) (fun _ _ _ h => h) (by rfl) (by intro w hSw; (try dsimp only at hSw); go_simp; try with_reducible rfl) (by assumption) ?_
    simp only [Act.put, List.setIfInBounds_toArray, List.set_cons_zero, List.set_cons_succ]
    refine any_take 62 (.agg #[.int .i64 a1, .int .i64 a2, .int .i64 a3, .int .i64 a4]) (i := 8) rfl rfl (by kernel_rfl) (by kernel_rfl) (by kernel_rfl) (fun _ _ _ h => h) (by rfl) (by intro w hSw; (try dsimp only at hSw); go_simp; try with_reducible rfl) (by assumption) ?_
    simp only [Act.put, List.setIfInBounds_toArray, List.set_cons_zero, List.set_cons_succ]
    refine any_take 63 (.agg #[.int .i64 a1, .int .i64 a2, .int .i64 a3, .int .i64 a4]) (i := 9) rfl rfl (by kernel_rfl) (by kernel_rfl) (by kernel_rfl) (fun _ _ _ h => h) (by rfl) (by intro w hSw; (try dsimp only at hSw); go_simp; try with_reducible rfl) (by assumption) ?_
    simp only [Act.put, List.setIfInBounds_toArray, List.set_cons_zero, List.set_cons_succ]
    refine any_take 64 (.bool true) (i := 10) rfl rfl (by kernel_rfl) (by kernel_rfl) (by kernel_rfl) (fun _ _ _ h => h) (by rfl) (by intro w hSw; (try dsimp only at hSw); go_simp; try with_reducible rfl) (by assumption) ?_
    simp only [Act.put, List.setIfInBounds_toArray, List.set_cons_zero, List.set_cons_succ]
    refine any_take 65 (.bool true) (i := 11) rfl rfl (by kernel_rfl) (by kernel_rfl) (by kernel_rfl) (fun _ _ _ h => h) (by rfl) (by intro w hSw; (try dsimp only at hSw); go_simp; try with_reducible rfl) (by assumption) ?_
    simp only [Act.put, List.setIfInBounds_toArray, List.set_cons_zero, List.set_cons_succ]
    refine any_take 4 (.bool true) (i := 12) rfl rfl (by kernel_rfl) (by kernel_rfl) (by kernel_rfl) (fun _ _ _ h => h) (by rfl) (by intro w hSw; (try dsimp only at hSw); go_simp; try with_reducible rfl) (by assumption) ?_
    simp only [Act.put, List.setIfInBounds_toArray, List.set_cons_zero, List.set_cons_succ]
    refine wpAnyH_done (by kernel_rfl) ?_ _
    have FF := Lib.hid (F6.out.trans' F7 (fun _ _ e => e))
    clear hHeld h0 Hcell F6 F7 f7 CG
    go_wp2
    go_ret
    exact ⟨rfl, FF.out⟩
end Go.Proofs.Ytcjbdoppphjpjaa
