/- A crash behind a crash, or behind a sync, turns nothing, whatever is chosen: the law 'DiskTwice' returns true whatever it is given, and leaves it as it was. No condition. -/
import Derived.Test.YthipcfdmkkfofaaArgs
import Derived.Test.YthipcfdmkkfofaaRead3
import Derived.Test.YthipcfdmkkfofaaTwice3
namespace Go.Proofs.Ythipcfdmkkfofaa
open Go.ChangeShapes Go.WideShapes Go.ChangeAt Go.RowKit

set_option maxRecDepth 100000 in
theorem diskTwice_lifted (os : Os) (started : os.Started) (H : Type) (enc : TypeId × Value → H) :
    ReturnsInHanded {} Try.checked os 9 .any (Rows.diskTwiceSpec.pre6 enc Try.prog Try.f9 Rows.diskTwiceRow.domain false) (Rows.diskTwiceSpec.post enc Try.prog Try.f9 false true false false) := by
  refine returnsInHanded_of_change (C := Try.checked) own_knob started (by kernel_rfl) Try.func9
    (ChangeSpec.witness6 (enc := enc) (C := Try.checked) false ⟨#[], #[.slice none 0 0, .slice none 0 0, .slice none 0 0], []⟩ 8 (by kernel_rfl) (by kernel_rfl) (by kernel_rfl) (by kernel_rfl)) ?_
  intro W base args ds gs before hval0 hW hcnd _
  have hval : ∀ (j : Nat) t v, Try.f9.params[j]? = some t → args[j]? = some v → Value.okWide Try.prog W .any base t v := hval0
  have hW' := hW
  obtain ⟨p, q, hA0, hV, rfl, hfz, hnd⟩ := hW
  have hA : DataW.TrodAll enc Try.prog W 0 (fun _ => true) true Try.f9.params.toList args.toList ds p := hA0
  rw [Try.params9] at hA hval
  obtain ⟨v0, vs0, d0, ds0, p0, q0, hargs, rfl, rfl, h0, r0⟩ := trodAll_cons hA
  obtain ⟨v1, vs1, d1, ds1, p1, q1, rfl, rfl, rfl, h1, r1⟩ := trodAll_cons r0
  obtain ⟨v2, vs2, d2, ds2, p2, q2, rfl, rfl, rfl, h2, r2⟩ := trodAll_cons r1
  obtain ⟨rfl, rfl, rfl⟩ := trodAll_nil r2
  obtain rfl : args = #[v0, v1, v2] := by cases args; simp_all
  obtain ⟨rfl, rfl⟩ := trodVars_none hV
  have k0 := h0
  have k1 := h1
  have k2 := h2
  have lt0 : ∀ x ∈ p0, x.block < W.heap.size := by obtain ⟨m, hm⟩ := k0; exact DataW.trod_lt m _ _ _ hm
  have lt1 : ∀ x ∈ p1, x.block < W.heap.size := by obtain ⟨m, hm⟩ := k1; exact DataW.trod_lt m _ _ _ hm
  have lt2 : ∀ x ∈ p2, x.block < W.heap.size := by obtain ⟨m, hm⟩ := k2; exact DataW.trod_lt m _ _ _ hm
  obtain ⟨l, rfl, h_l⟩ := rd_arg_slice Try.underlying41 (hval 0 41 v0 rfl rfl) h0 (m := 11) (by kernel_rfl) (by omega) Op3.cells_len rd_op3
  obtain ⟨keep, rfl, h_keep⟩ := rd_arg_slice Try.underlying60 (hval 1 60 v1 rfl rfl) h1 (m := 1) (by kernel_rfl) (by omega) (fun _ => rfl) (rd_bool Try.underlying4)
  have s_keep := h_keep.sl
  rw [bools_flat] at s_keep
  obtain ⟨other, rfl, h_other⟩ := rd_arg_slice Try.underlying60 (hval 2 60 v2 rfl rfl) h2 (m := 1) (by kernel_rfl) (by omega) (fun _ => rfl) (rd_bool Try.underlying4)
  have s_other := h_other.sl
  rw [bools_flat] at s_other
  clear hA0 hval0
  refine (twice_any l.l l.l.length l.A l.c keep.l other.l keep.l.length other.l.length keep.A other.A keep.c other.c W rfl h_l.sl h_l.all (by have := h_l.cap; unfold maxLen at this; omega) rfl s_keep (by have := h_keep.cap; unfold maxLen at this; omega) rfl s_other (by have := h_other.cap; unfold maxLen at this; omega)).mono fun e W' ⟨he, hfr⟩ => ?_
  have bel := hfr.below0
  subst he
  exact ⟨_, rfl, _, _, _, [], _, [], hW', trodAll_mk1 (shut_bool Try.underlying4 _), (trodAll_cons_mk (Below.trod laid_out (by kernel_rfl) (of_decide_eq_true (by kernel_rfl)) k0 bel lt0) (trodAll_cons_mk (Below.trod laid_out (by kernel_rfl) (of_decide_eq_true (by kernel_rfl)) k1 bel lt1) (trodAll_cons_mk (Below.trod laid_out (by kernel_rfl) (of_decide_eq_true (by kernel_rfl)) k2 bel lt2) trodAll_mk0))), rfl, bel.frame _, fun h => by cases h⟩

theorem diskTwice_over : Rows.diskTwiceRow.holds Try.pinned (OpenSpec.ofChange Rows.diskTwiceSpec) :=
  OpenClaim.holds_of_wide 9 Try.f9 rfl rfl rfl rfl rfl rfl rfl ⟨rfl, rfl, rfl, rfl, rfl⟩ rfl rfl rfl rfl rfl (by kernel_rfl) Try.func9 (by kernel_rfl)
    (of_decide_eq_true (by kernel_rfl)) (by unfold Func.isWrapper; first | (rw [if_pos (by decide +kernel)]; kernel_rfl) | (rw [if_neg (by decide +kernel)]; exact ⟨rfl, rfl⟩))
    (fun os started H enc _ => diskTwice_lifted os started H enc)

theorem diskTwice_holds : Rows.DiskTwiceSaid := diskTwice_over
end Go.Proofs.Ythipcfdmkkfofaa
