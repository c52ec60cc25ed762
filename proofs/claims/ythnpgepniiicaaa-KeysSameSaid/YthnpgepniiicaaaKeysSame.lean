/- Two lists of parts hold the same keys just when their plain forms are the same, and a part may stand just when it is in bounds: the law 'KeysSame' returns true whatever it is given, and leaves it as it was. No condition. -/
import Derived.Test.YthnpgepniiicaaaArgs
import Derived.Test.YthnpgepniiicaaaRead4
import Derived.Test.YthnpgepniiicaaaSame4d
namespace Go.Proofs.Ythnpgepniiicaaa
open Go.ChangeShapes Go.WideShapes Go.ChangeAt Go.RowKit

set_option maxRecDepth 100000 in
theorem keysSame_lifted (os : Os) (started : os.Started) (H : Type) (enc : TypeId × Value → H) :
    ReturnsInHanded {} Try.checked os 5 .any (Rows.keysSameSpec.pre6 enc Try.prog Try.f5 Rows.keysSameRow.domain false) (Rows.keysSameSpec.post enc Try.prog Try.f5 false true false false) := by
  refine returnsInHanded_of_change (C := Try.checked) own_knob started (by kernel_rfl) Try.func5
    (ChangeSpec.witness6 (enc := enc) (C := Try.checked) false ⟨#[], #[.slice none 0 0, .slice none 0 0, .agg #[.int .i64 0, .int .i64 0]], []⟩ 8 (by kernel_rfl) (by kernel_rfl) (by kernel_rfl) (by kernel_rfl)) ?_
  intro W base args ds gs before hval0 hW hcnd _
  have hval : ∀ (j : Nat) t v, Try.f5.params[j]? = some t → args[j]? = some v → Value.okWide Try.prog W .any base t v := hval0
  have hW' := hW
  obtain ⟨p, q, hA0, hV, rfl, hfz, hnd⟩ := hW
  have hA : DataW.TrodAll enc Try.prog W 0 (fun _ => true) true Try.f5.params.toList args.toList ds p := hA0
  rw [Try.params5] at hA hval
  obtain ⟨v0, vs0, d0, ds0, p0, q0, hargs, rfl, rfl, h0, r0⟩ := trodAll_cons hA
  obtain ⟨v1, vs1, d1, ds1, p1, q1, rfl, rfl, rfl, h1, r1⟩ := trodAll_cons r0
  obtain ⟨v2, vs2, d2, ds2, p2, q2, rfl, rfl, rfl, h2, r2⟩ := trodAll_cons r1
  obtain ⟨rfl, rfl, rfl⟩ := trodAll_nil r2
  obtain rfl : args = #[v0, v1, v2] := by cases args; simp_all
  obtain ⟨rfl, rfl⟩ := trodVars_none hV
  have k0 := h0
  have k1 := h1
  have k2 := h2
  have lt0 : ∀ x ∈ p0, x.block < W.heap.size := by obtain ⟨m, hm⟩ := k0; exact DataW.trod_lt m _ _ _ hm
  have lt1 : ∀ x ∈ p1, x.block < W.heap.size := by obtain ⟨m, hm⟩ := k1; exact DataW.trod_lt m _ _ _ hm
  have lt2 : ∀ x ∈ p2, x.block < W.heap.size := by obtain ⟨m, hm⟩ := k2; exact DataW.trod_lt m _ _ _ hm
  obtain ⟨a, rfl, h_a⟩ := rd_arg_slice Try.underlying22 (hval 0 22 v0 rfl rfl) h0 (m := 2) (by kernel_rfl) (by omega) spC_len rd_span
  have s_a := h_a.sl
  rw [sps_flat] at s_a
  obtain ⟨b, rfl, h_b⟩ := rd_arg_slice Try.underlying22 (hval 1 22 v1 rfl rfl) h1 (m := 2) (by kernel_rfl) (by omega) spC_len rd_span
  have s_b := h_b.sl
  rw [sps_flat] at s_b
  obtain ⟨x, y, rfl, ⟨hx1, hx2⟩, hy1, hy2⟩ := arg_span (hval 2 30 v2 rfl rfl) h2
  clear hA0 hval0
  refine (same4_any a.l b.l a.A b.A a.l.length b.l.length a.c b.c x y hx1 hx2 hy1 hy2 W s_a s_b rfl rfl (by have := h_a.cap; unfold maxLen at this; omega) (by have := h_b.cap; unfold maxLen at this; omega)).mono fun e W' ⟨he, hfr⟩ => ?_
  have bel := hfr.below0
  subst he
  exact ⟨_, rfl, _, _, _, [], _, [], hW', trodAll_mk1 (shut_bool Try.underlying4 _), (trodAll_cons_mk (Below.trod laid_out (by kernel_rfl) (of_decide_eq_true (by kernel_rfl)) k0 bel lt0) (trodAll_cons_mk (Below.trod laid_out (by kernel_rfl) (of_decide_eq_true (by kernel_rfl)) k1 bel lt1) (trodAll_cons_mk (Below.trod laid_out (by kernel_rfl) (of_decide_eq_true (by kernel_rfl)) k2 bel lt2) trodAll_mk0))), rfl, bel.frame _, fun h => by cases h⟩

theorem keysSame_over : Rows.keysSameRow.holds Try.pinned (OpenSpec.ofChange Rows.keysSameSpec) :=
  OpenClaim.holds_of_wide 5 Try.f5 rfl rfl rfl rfl rfl rfl rfl ⟨rfl, rfl, rfl, rfl, rfl⟩ rfl rfl rfl rfl rfl (by kernel_rfl) Try.func5 (by kernel_rfl)
    (of_decide_eq_true (by kernel_rfl)) (by unfold Func.isWrapper; first | (rw [if_pos (by decide +kernel)]; kernel_rfl) | (rw [if_neg (by decide +kernel)]; exact ⟨rfl, rfl⟩))
    (fun os started H enc _ => keysSame_lifted os started H enc)

theorem keysSame_holds : Rows.KeysSameSaid := keysSame_over
end Go.Proofs.Ythnpgepniiicaaa
