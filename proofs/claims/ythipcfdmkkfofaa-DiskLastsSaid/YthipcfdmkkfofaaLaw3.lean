/- The document's examples of a device. -/
import Derived.Test.YthipcfdmkkfofaaEnv3
import Derived.Test.YthipcfdmkkfofaaArr8
namespace Go.Proofs.Ythipcfdmkkfofaa
open Go.RowKit

theorem eq8 (a0 a1 a2 a3 a4 a5 a6 a7 b0 b1 b2 b3 b4 b5 b6 b7 : Int) (w : World) :
    (Op.equalIn 10000 48 (.agg #[.int .u64 a0, .int .u64 a1, .int .u64 a2, .int .u64 a3, .int .u64 a4, .int .u64 a5, .int .u64 a6, .int .u64 a7]) (.agg #[.int .u64 b0, .int .u64 b1, .int .u64 b2, .int .u64 b3, .int .u64 b4, .int .u64 b5, .int .u64 b6, .int .u64 b7])).run Try.prog w =
      .ok (a0 == b0 && (a1 == b1 && (a2 == b2 && (a3 == b3 && (a4 == b4 && (a5 == b5 && (a6 == b6 && a7 == b7))))))) w := by
  obtain ⟨i, hi, -⟩ := Option.map_eq_some_iff.1 (show (Try.prog.info? 47).map (·.size) = some 1 by kernel_rfl)
  exact run_equalIn_8 Try.underlying48 Try.underlying47 hi (by kernel_rfl) a0 a1 a2 a3 a4 a5 a6 a7 b0 b1 b2 b3 b4 b5 b6 b7 w

/-- The device's examples hold. -/
theorem ex_sec : Sec [7, 0, 0, 0, 0, 0, 0, 0] := ⟨rfl, fun u hu => by simp at hu; omega⟩
theorem ex_one : (((Dv.new 2).write 0 [7, 0, 0, 0, 0, 0, 0, 0]).crash []).rd 0 = [0, 0, 0, 0, 0, 0, 0, 0] := by decide
theorem ex_two : (((((Dv.new 2).write 0 [7, 0, 0, 0, 0, 0, 0, 0]).crash []).write 0 [7, 0, 0, 0, 0, 0, 0, 0]).sync.crash []).rd 0 = [7, 0, 0, 0, 0, 0, 0, 0] := by decide
set_option maxHeartbeats 1000000 in
theorem alive3_any (w : World) : Calls Try.prog 21 #[] w fun e w' => e = .returned (.bool true) ∧ Fr No w w' := by
  have q8 := eq8
  go_enter Try.func21, Try.ntmps21
  go_wp2_with fail
  refine (dNew_yes 2 (by omega) (by omega) w).mono ?_
  rintro e w1 ⟨S1, d, rfl, hD1, hS1⟩
  have E1 := (Env.begin (Fr.refl No w) hD1 hS1).alloc (.cells #[.int .u64 7, .int .u64 0, .int .u64 0, .int .u64 0, .int .u64 0, .int .u64 0, .int .u64 0, .int .u64 0] 48)
  have L1 := Lv.made (Env.begin (Fr.refl No w) hD1 hS1) 48 #[.int .u64 7, .int .u64 0, .int .u64 0, .int .u64 0, .int .u64 0, .int .u64 0, .int .u64 0, .int .u64 0]
  clear hD1 hS1
  go_wp2_with fail
  refine (dWrite_yes 0 (by decide) 7 0 0 0 0 0 0 0 ex_sec _ E1.dd).mono ?_
  rintro e w2 ⟨rfl, S2, hD, hS⟩
  have E2 := E1.step hD hS
  have L2 := L1.step hS
  clear E1 L1 hD hS
  generalize w1.heap.size = v1 at *
  go_wp2_with fail
  refine (keeps_any [] none 0 0 _ (Sl.nil _ _ _) rfl).mono ?_
  rintro e w3 ⟨kn, kl, rfl, hk, hkn, hkl, hf⟩
  have E3 := E2.quiet hf
  go_wp2_with fail
  refine (dCrash_any kn kl none 0 0 [] w3 E3.dd hk (fun e => by have := E2.dd.lt _ e; omega) (fun e => by have := E2.dd.lt _ e; omega) (fun _ e => by cases e) (by decide)).mono ?_
  rintro e w4 ⟨rfl, S4, hD, hfr, hg⟩
  have hS := keepCrash hf hkn hfr hg
  have E4 := E2.step hD hS
  have L4 := L2.step hS
  clear E2 E3 L2 hD hS hf hkn hkl hfr hg hk
  go_wp2_with fail
  refine (dRead_yes 0 (by decide) 0 0 0 0 0 0 0 0 ex_one w4 E4.dd).mono ?_
  rintro e w5 ⟨rfl, hf⟩
  have E5 := (E4.quiet hf).alloc (.cells #[.int .u64 0, .int .u64 0, .int .u64 0, .int .u64 0, .int .u64 0, .int .u64 0, .int .u64 0, .int .u64 0] 48)
  have L5' := (L4.quiet hf).alloc (.cells #[.int .u64 0, .int .u64 0, .int .u64 0, .int .u64 0, .int .u64 0, .int .u64 0, .int .u64 0, .int .u64 0] 48)
  have M5 := Lv.made (E4.quiet hf) 48 #[.int .u64 0, .int .u64 0, .int .u64 0, .int .u64 0, .int .u64 0, .int .u64 0, .int .u64 0, .int .u64 0]
  obtain ⟨l0, l1, l2, l3, l4, l5, l6, l7⟩ := lv8 L5'
  clear E4 L4 hf
  have L5 : Lv (w5.alloc (.cells #[.int .u64 0, .int .u64 0, .int .u64 0, .int .u64 0, .int .u64 0, .int .u64 0, .int .u64 0, .int .u64 0] 48)) S4 v1 48 #[.int .u64 7, .int .u64 0, .int .u64 0, .int .u64 0, .int .u64 0, .int .u64 0, .int .u64 0, .int .u64 0] := L5'
  go_wp2_with fail
  refine (dWrite_yes 0 (by decide) 7 0 0 0 0 0 0 0 ex_sec _ E5.dd).mono ?_
  rintro e w6 ⟨rfl, S6, hD, hS⟩
  have E6 := E5.step hD hS
  have L6 := L5.step hS
  have M6 := M5.step hS
  clear E5 L5 L5' M5 hD hS l0 l1 l2 l3 l4 l5 l6 l7
  generalize w5.heap.size = v5 at *
  go_wp2_with fail
  refine (dSync_any w6 E6.dd).mono ?_
  rintro e w7 ⟨rfl, S7, hD, hS⟩
  have E7 := E6.step hD hS
  have L7 := L6.step hS
  have M7 := M6.step hS
  clear E6 L6 M6 hD hS
  go_wp2_with fail
  refine (keeps_any [] none 0 0 _ (Sl.nil _ _ _) rfl).mono ?_
  rintro e w8 ⟨kn, kl, rfl, hk, hkn, hkl, hf⟩
  have E8 := E7.quiet hf
  go_wp2_with fail
  refine (dCrash_any kn kl none 0 0 [] w8 E8.dd hk (fun e => by have := E7.dd.lt _ e; omega) (fun e => by have := E7.dd.lt _ e; omega) (fun _ e => by cases e) (by decide)).mono ?_
  rintro e w9 ⟨rfl, S9, hD, hfr, hg⟩
  have hS := keepCrash hf hkn hfr hg
  have E9 := E7.step hD hS
  have L9 := L7.step hS
  have M9 := M7.step hS
  clear E7 E8 L7 M7 hD hS hf hkn hkl hfr hg hk
  go_wp2_with fail
  refine (dRead_yes 0 (by decide) 7 0 0 0 0 0 0 0 ex_two w9 E9.dd).mono ?_
  rintro e w10 ⟨rfl, hf⟩
  have E10 := E9.quiet hf
  obtain ⟨l0, l1, l2, l3, l4, l5, l6, l7⟩ := lv8 ((L9.quiet hf).alloc (.cells #[.int .u64 7, .int .u64 0, .int .u64 0, .int .u64 0, .int .u64 0, .int .u64 0, .int .u64 0, .int .u64 0] 48))
  obtain ⟨m0, m1, m2, m3, m4, m5, m6, m7⟩ := lv8 ((M9.quiet hf).alloc (.cells #[.int .u64 7, .int .u64 0, .int .u64 0, .int .u64 0, .int .u64 0, .int .u64 0, .int .u64 0, .int .u64 0] 48))
  clear E9 L9 M9 hf
  go_wp2
  go_ret
  exact ⟨rfl, E10.fr.alloc _⟩
end Go.Proofs.Ythipcfdmkkfofaa
