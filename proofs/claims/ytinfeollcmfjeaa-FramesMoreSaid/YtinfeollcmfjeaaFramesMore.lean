/- What is put behind a stream, as its next frames, is told with it: the law 'FramesMore' returns true whatever it is given, and leaves it as it was. No condition. -/
import Derived.Test.YtinfeollcmfjeaaArgs
import Derived.Test.YtinfeollcmfjeaaRead6
import Derived.Test.YtinfeollcmfjeaaLm6
namespace Go.Proofs.Ytinfeollcmfjeaa
open Go.ChangeShapes Go.WideShapes Go.ChangeAt Go.RowKit

set_option maxRecDepth 100000 in
theorem framesMore_lifted (os : Os) (started : os.Started) (H : Type) (enc : TypeId × Value → H) :
    ReturnsInHanded {} Try.checked os 6 .any (Rows.framesMoreSpec.pre6 enc Try.prog Try.f6 Rows.framesMoreRow.domain false) (Rows.framesMoreSpec.post enc Try.prog Try.f6 false true false false) := by
  refine returnsInHanded_of_change (C := Try.checked) own_knob started (by kernel_rfl) Try.func6
    (ChangeSpec.witness6 (enc := enc) (C := Try.checked) false ⟨#[], #[.int .u16 0, .slice none 0 0, .slice none 0 0], []⟩ 8 (by kernel_rfl) (by kernel_rfl) (by kernel_rfl) (by kernel_rfl)) ?_
  intro W base args ds gs before hval0 hW hcnd _
  have hval : ∀ (j : Nat) t v, Try.f6.params[j]? = some t → args[j]? = some v → Value.okWide Try.prog W .any base t v := hval0
  have hW' := hW
  obtain ⟨p, q, hA0, hV, rfl, hfz, hnd⟩ := hW
  have hA : DataW.TrodAll enc Try.prog W 0 (fun _ => true) true Try.f6.params.toList args.toList ds p := hA0
  rw [Try.params6] at hA hval
  obtain ⟨v0, vs0, d0, ds0, p0, q0, hargs, rfl, rfl, h0, r0⟩ := trodAll_cons hA
  obtain ⟨v1, vs1, d1, ds1, p1, q1, rfl, rfl, rfl, h1, r1⟩ := trodAll_cons r0
  obtain ⟨v2, vs2, d2, ds2, p2, q2, rfl, rfl, rfl, h2, r2⟩ := trodAll_cons r1
  obtain ⟨rfl, rfl, rfl⟩ := trodAll_nil r2
  obtain rfl : args = #[v0, v1, v2] := by cases args; simp_all
  obtain ⟨rfl, rfl⟩ := trodVars_none hV
  have k0 := h0
  have k1 := h1
  have k2 := h2
  have lt0 : ∀ x ∈ p0, x.block < W.heap.size := by obtain ⟨m, hm⟩ := k0; exact DataW.trod_lt m _ _ _ hm
  have lt1 : ∀ x ∈ p1, x.block < W.heap.size := by obtain ⟨m, hm⟩ := k1; exact DataW.trod_lt m _ _ _ hm
  have lt2 : ∀ x ∈ p2, x.block < W.heap.size := by obtain ⟨m, hm⟩ := k2; exact DataW.trod_lt m _ _ _ hm
  obtain ⟨epoch, rfl, b_epoch⟩ := arg_u16 Try.underlying39 (hval 0 39 v0 rfl rfl) h0
  obtain ⟨fa, rfl, h_fa⟩ := rd_arg_slice Try.underlying27 (hval 1 27 v1 rfl rfl) h1 (m := 2) (by kernel_rfl) (by omega) FrV.cells_len rd_frame6
  obtain ⟨fb, rfl, h_fb⟩ := rd_arg_slice Try.underlying27 (hval 2 27 v2 rfl rfl) h2 (m := 2) (by kernel_rfl) (by omega) FrV.cells_len rd_frame6
  clear hA0 hval0
  refine (lawMore_any epoch b_epoch fa.l fb.l fa.l.length fb.l.length fa.A fb.A fa.c fb.c W ⟨h_fa.sl, h_fa.all⟩ ⟨h_fb.sl, h_fb.all⟩ rfl rfl h_fa.cap.1 h_fa.cap.2 h_fb.cap.1 h_fb.cap.2).mono fun e W' ⟨he, hfr⟩ => ?_
  have bel := hfr.below0
  subst he
  exact ⟨_, rfl, _, _, _, [], _, [], hW', trodAll_mk1 (shut_bool Try.underlying4 _), (trodAll_cons_mk (Below.trod laid_out (by kernel_rfl) (of_decide_eq_true (by kernel_rfl)) k0 bel lt0) (trodAll_cons_mk (Below.trod laid_out (by kernel_rfl) (of_decide_eq_true (by kernel_rfl)) k1 bel lt1) (trodAll_cons_mk (Below.trod laid_out (by kernel_rfl) (of_decide_eq_true (by kernel_rfl)) k2 bel lt2) trodAll_mk0))), rfl, bel.frame _, fun h => by cases h⟩

theorem framesMore_over : Rows.framesMoreRow.holds Try.pinned (OpenSpec.ofChange Rows.framesMoreSpec) :=
  OpenClaim.holds_of_wide 6 Try.f6 rfl rfl rfl rfl rfl rfl rfl ⟨rfl, rfl, rfl, rfl, rfl⟩ rfl rfl rfl rfl rfl (by kernel_rfl) Try.func6 (by kernel_rfl)
    (of_decide_eq_true (by kernel_rfl)) (by unfold Func.isWrapper; first | (rw [if_pos (by decide +kernel)]; kernel_rfl) | (rw [if_neg (by decide +kernel)]; exact ⟨rfl, rfl⟩))
    (fun os started H enc _ => framesMore_lifted os started H enc)

theorem framesMore_holds : Rows.FramesMoreSaid := framesMore_over
end Go.Proofs.Ytinfeollcmfjeaa
