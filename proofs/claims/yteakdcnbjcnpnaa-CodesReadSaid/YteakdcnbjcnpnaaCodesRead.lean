/- What is read of any words, call by call, is the document's: the law 'CodesRead' returns true whatever words and items it is given, and leaves them as they were. No condition. -/
import Derived.Test.YteakdcnbjcnpnaaArgs1
import Derived.Test.YteakdcnbjcnpnaaT4
namespace Go.Proofs.Yteakdcnbjcnpnaa
open Go.ChangeShapes Go.WideShapes Go.ChangeAt Go.RowKit

set_option maxRecDepth 100000 in
theorem codesRead_lifted (os : Os) (started : os.Started) (H : Type) (enc : TypeId × Value → H) :
    ReturnsInHanded {} Try.checked os 4 .any (Rows.codesReadSpec.pre6 enc Try.prog Try.f4 Rows.codesReadRow.domain false) (Rows.codesReadSpec.post enc Try.prog Try.f4 false true false false) := by
  refine returnsInHanded_of_change (C := Try.checked) own_knob started (by kernel_rfl) Try.func4
    (ChangeSpec.witness6 (enc := enc) (C := Try.checked) false ⟨#[], #[.slice none 0 0, .slice none 0 0], []⟩ 8 (by kernel_rfl) (by kernel_rfl) (by kernel_rfl) (by kernel_rfl)) ?_
  intro W base args ds gs before hval0 hW hcnd _
  have hval : ∀ (j : Nat) t v, Try.f4.params[j]? = some t → args[j]? = some v → Value.okWide Try.prog W .any base t v := hval0
  have hW' := hW
  obtain ⟨p, q, hA0, hV, rfl, hfz, hnd⟩ := hW
  have hA : DataW.TrodAll enc Try.prog W 0 (fun _ => true) true Try.f4.params.toList args.toList ds p := hA0
  rw [Try.params4] at hA hval
  obtain ⟨v0, vs0, d0, ds0, p0, q0, hargs, rfl, rfl, h0, r0⟩ := trodAll_cons hA
  obtain ⟨v1, vs1, d1, ds1, p1, q1, rfl, rfl, rfl, h1, r1⟩ := trodAll_cons r0
  obtain ⟨rfl, rfl, rfl⟩ := trodAll_nil r1
  obtain rfl : args = #[v0, v1] := by cases args; simp_all
  obtain ⟨rfl, rfl⟩ := trodVars_none hV
  have k0 := h0
  have k1 := h1
  have lt0 : ∀ x ∈ p0, x.block < W.heap.size := by obtain ⟨m, hm⟩ := k0; exact DataW.trod_lt m _ _ _ hm
  have lt1 : ∀ x ∈ p1, x.block < W.heap.size := by obtain ⟨m, hm⟩ := k1; exact DataW.trod_lt m _ _ _ hm
  obtain ⟨z, rfl, hz⟩ := rd_arg_slice Try.underlying25 (hval 0 25 v0 rfl rfl) h0 (m := 1) (by kernel_rfl) (by omega) (fun _ => rfl) (rd_u64 Try.underlying43)
  obtain ⟨s, rfl, hs⟩ := rd_arg_slice Try.underlying22 (hval 1 22 v1 rfl rfl) h1 (m := 6) (by kernel_rfl) (by omega) It.cells_len rd_item
  clear hA0 hval0
  have hzs := hz.sl
  rw [u64s_flat] at hzs
  refine (codesRead_any z.l z.A z.l.length z.c s.l s.A s.l.length s.c W rfl hzs hz.all hz.cap hz.nil rfl hs.sl hs.all ?_ ?_).mono fun e W' ⟨he, bel⟩ => ?_
  · have h1 := hs.cap
    unfold maxLen at h1
    omega
  · have h1 := hz.cap
    unfold maxLen at h1
    omega
  subst he
  exact ⟨_, rfl, _, _, _, [], _, [], hW', trodAll_mk1 (shut_bool Try.underlying4 _), (trodAll_cons_mk (Below.trod laid_out (by kernel_rfl) (of_decide_eq_true (by kernel_rfl)) k0 bel lt0) (trodAll_cons_mk (Below.trod laid_out (by kernel_rfl) (of_decide_eq_true (by kernel_rfl)) k1 bel lt1) trodAll_mk0)), rfl, bel.frame _, fun h => by cases h⟩

theorem codesRead_over : Rows.codesReadRow.holds Try.pinned (OpenSpec.ofChange Rows.codesReadSpec) :=
  OpenClaim.holds_of_wide 4 Try.f4 rfl rfl rfl rfl rfl rfl rfl ⟨rfl, rfl, rfl, rfl, rfl⟩ rfl rfl rfl rfl rfl (by kernel_rfl) Try.func4 (by kernel_rfl)
    (of_decide_eq_true (by kernel_rfl)) (by unfold Func.isWrapper; first | (rw [if_pos (by decide +kernel)]; kernel_rfl) | (rw [if_neg (by decide +kernel)]; exact ⟨rfl, rfl⟩))
    (fun os started H enc _ => codesRead_lifted os started H enc)

theorem codesRead_holds : Rows.CodesReadSaid := codesRead_over
end Go.Proofs.Yteakdcnbjcnpnaa
