/- With a node more what each depends on is as of the longer history, and the lists that were handed in aren't changed: the law 'DepsAdd' returns true whatever it is given, and leaves it as it was. No condition. -/
import Derived.Test.YtmabapbdnafpfaaArgs
import Derived.Test.YtmabapbdnafpfaaRead14
import Derived.Test.YtmabapbdnafpfaaRch15
import Derived.Test.YtmabapbdnafpfaaLa15
namespace Go.Proofs.Ytmabapbdnafpfaa
open Go.ChangeShapes Go.WideShapes Go.ChangeAt Go.RowKit

set_option maxRecDepth 100000 in
theorem depsAdd_lifted (os : Os) (started : os.Started) (H : Type) (enc : TypeId × Value → H) :
    ReturnsInHanded {} Try.checked os 5 .any (Rows.depsAddSpec.pre6 enc Try.prog Try.f5 Rows.depsAddRow.domain false) (Rows.depsAddSpec.post enc Try.prog Try.f5 false true false false) := by
  refine returnsInHanded_of_change_sized (C := Try.checked) own_knob started (by kernel_rfl) Try.func5
    (ChangeSpec.witness6 (enc := enc) (C := Try.checked) false ⟨#[], #[.slice none 0 0, .agg #[.int .i64 0, .int .i64 0, .int .i64 0, .bool false, .slice none 0 0, .slice none 0 0]], []⟩ 8 (by kernel_rfl) (by kernel_rfl) (by kernel_rfl) (by kernel_rfl)) ?_
  intro W base args ds gs before hval0 hW hcnd hsz0 _
  have hsz : (DataW.weightsEach Try.prog (Try.f5.params.toList ++ Rows.depsAddSpec.plain.varTypes Try.prog) (ds ++ gs)).all (· ≤ reachBytes) = true := hsz0
  rw [Try.params5] at hsz
  have hval : ∀ (j : Nat) t v, Try.f5.params[j]? = some t → args[j]? = some v → Value.okWide Try.prog W .any base t v := hval0
  have hW' := hW
  obtain ⟨p, q, hA0, hV, rfl, hfz, hnd⟩ := hW
  have hA : DataW.TrodAll enc Try.prog W 0 (fun _ => true) true Try.f5.params.toList args.toList ds p := hA0
  rw [Try.params5] at hA hval
  obtain ⟨v0, vs0, d0, ds0, p0, q0, hargs, rfl, rfl, h0, r0⟩ := trodAll_cons hA
  obtain ⟨v1, vs1, d1, ds1, p1, q1, rfl, rfl, rfl, h1, r1⟩ := trodAll_cons r0
  obtain ⟨rfl, rfl, rfl⟩ := trodAll_nil r1
  obtain rfl : args = #[v0, v1] := by cases args; simp_all
  obtain ⟨rfl, rfl⟩ := trodVars_none hV
  have k0 := h0
  have k1 := h1
  have lt0 : ∀ x ∈ p0, x.block < W.heap.size := by obtain ⟨m, hm⟩ := k0; exact DataW.trod_lt m _ _ _ hm
  have lt1 : ∀ x ∈ p1, x.block < W.heap.size := by obtain ⟨m, hm⟩ := k1; exact DataW.trod_lt m _ _ _ hm
  obtain ⟨h, rfl, h_h⟩ := rd_arg_slice Try.underlying22 (hval 0 22 v0 rfl rfl) h0 (m := 6) (by kernel_rfl) (by omega) Ndl.cells_len rd_nd14
  obtain ⟨y, rfl, h_y⟩ := arg_nd14 (hval 1 27 v1 rfl rfl) h1
  have z_h := reach_len15 hsz (j := 0) rfl rfl Try.underlying22 h0
  clear hA0 hval0
  refine (lawAdd15 h.l y h.A h.l.length h.c W ⟨h_h.sl, fun y hy => (h_h.all y hy).ok⟩ h_y.ok rfl h_h.cap.1 (by have q := z_h; rw [show Try.prog.bytesOf 27 = 80 by kernel_rfl] at q; exact q)).mono fun e W' ⟨he, hfr⟩ => ?_
  have bel := hfr.below0
  subst he
  exact ⟨_, rfl, _, _, _, [], _, [], hW', trodAll_mk1 (shut_bool Try.underlying4 _), (trodAll_cons_mk (Below.trod laid_out (by kernel_rfl) (of_decide_eq_true (by kernel_rfl)) k0 bel lt0) (trodAll_cons_mk (Below.trod laid_out (by kernel_rfl) (of_decide_eq_true (by kernel_rfl)) k1 bel lt1) trodAll_mk0)), rfl, bel.frame _, fun h => by cases h⟩

theorem depsAdd_over : Rows.depsAddRow.holds Try.pinned (OpenSpec.ofChange Rows.depsAddSpec) :=
  OpenClaim.holds_of_wide 5 Try.f5 rfl rfl rfl rfl rfl rfl rfl ⟨rfl, rfl, rfl, rfl, rfl⟩ rfl rfl rfl rfl rfl (by kernel_rfl) Try.func5 (by kernel_rfl)
    (of_decide_eq_true (by kernel_rfl)) (by unfold Func.isWrapper; first | (rw [if_pos (by decide +kernel)]; kernel_rfl) | (rw [if_neg (by decide +kernel)]; exact ⟨rfl, rfl⟩))
    (fun os started H enc _ => depsAdd_lifted os started H enc)

theorem depsAdd_holds : Rows.DepsAddSaid := depsAdd_over
end Go.Proofs.Ytmabapbdnafpfaa
