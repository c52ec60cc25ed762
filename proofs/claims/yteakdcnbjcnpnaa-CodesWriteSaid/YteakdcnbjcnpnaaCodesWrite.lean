/- The words of any items are the document's: the law 'CodesWrite' returns true whatever items it is given, and leaves them as they were. No condition. -/
import Derived.Test.YteakdcnbjcnpnaaRead
import Derived.Test.YteakdcnbjcnpnaaLaw1W
namespace Go.Proofs.Yteakdcnbjcnpnaa
open Go.ChangeShapes Go.WideShapes Go.ChangeAt Go.RowKit

section
variable {H : Type} {enc : TypeId × Value → H} {w : World}
theorem rd_item : Rd enc Try.prog w 31 It.cells (It.Fit w w.heap.size) := by
  intro fuel cs y h
  have hs := rd_size Try.underlying31 h
  obtain ⟨k, e0, q0⟩ := rd_field Try.underlying31 h 0 0 1 (by kernel_rfl) (by kernel_rfl) (rd_i64 Try.underlying3)
  obtain ⟨n, e1, q1⟩ := rd_field Try.underlying31 h 1 1 1 (by kernel_rfl) (by kernel_rfl) (rd_i64 Try.underlying3)
  obtain ⟨m, e2, q2⟩ := rd_field Try.underlying31 h 2 2 1 (by kernel_rfl) (by kernel_rfl) (rd_i64 Try.underlying3)
  obtain ⟨x, e3, q3⟩ := rd_field Try.underlying31 h 3 3 1 (by kernel_rfl) (by kernel_rfl) (rd_i64 Try.underlying2)
  obtain ⟨s, e4, q4⟩ := rd_field Try.underlying31 h 4 4 1 (by kernel_rfl) (by kernel_rfl) (rd_string Try.underlying9)
  obtain ⟨L, e5, q5⟩ := rd_field Try.underlying31 h 5 5 1 (by kernel_rfl) (by kernel_rfl) (rd_slice (m := 1) Try.underlying25 (by kernel_rfl) (by omega) (fun _ => rfl) (rd_u64 Try.underlying43))
  have hC : Try.prog.cellsOf 31 = 6 := by kernel_rfl
  rw [hC] at hs
  match cs, hs with
  | [c0, c1, c2, c3, c4, c5], _ =>
    simp [Lst.cell] at e0 e1 e2 e3 e4 e5
    subst e0 e1 e2 e3 e4 e5
    refine ⟨⟨k, n, m, x, s, L.l, L.A, L.c⟩, rfl, ⟨q0, q1, q2, q3, q4, q5.all, q5.cap, q5.nil, ?_⟩⟩
    have h6 := q5.sl
    rw [u64s_flat] at h6
    exact h6
end

theorem own_knob : ownKnob Try.prog.godebug = none := by kernel_rfl
theorem laid_out : laidOutB Try.prog = true := by kernel_rfl

set_option maxRecDepth 100000 in
theorem codesWrite_lifted (os : Os) (started : os.Started) (H : Type) (enc : TypeId × Value → H) :
    ReturnsInHanded {} Try.checked os 3 .any (Rows.codesWriteSpec.pre6 enc Try.prog Try.f3 Rows.codesWriteRow.domain false) (Rows.codesWriteSpec.post enc Try.prog Try.f3 false true false false) := by
  refine returnsInHanded_of_change (C := Try.checked) own_knob started (by kernel_rfl) Try.func3
    (ChangeSpec.witness6 (enc := enc) (C := Try.checked) false ⟨#[], #[.slice none 0 0], []⟩ 8 (by kernel_rfl) (by kernel_rfl) (by kernel_rfl) (by kernel_rfl)) ?_
  intro W base args ds gs before hval0 hW hcnd _
  have hval : ∀ (j : Nat) t v, Try.f3.params[j]? = some t → args[j]? = some v → Value.okWide Try.prog W .any base t v := hval0
  have hW' := hW
  obtain ⟨p, q, hA0, hV, rfl, hfz, hnd⟩ := hW
  have hA : DataW.TrodAll enc Try.prog W 0 (fun _ => true) true Try.f3.params.toList args.toList ds p := hA0
  rw [Try.params3] at hA hval
  obtain ⟨v0, vs0, d0, ds0, p0, q0, hargs, rfl, rfl, h0, r0⟩ := trodAll_cons hA
  obtain ⟨rfl, rfl, rfl⟩ := trodAll_nil r0
  obtain rfl : args = #[v0] := by cases args; simp_all
  obtain ⟨rfl, rfl⟩ := trodVars_none hV
  have k0 := h0
  have lt0 : ∀ x ∈ p0, x.block < W.heap.size := by obtain ⟨m, hm⟩ := k0; exact DataW.trod_lt m _ _ _ hm
  obtain ⟨s, rfl, hs⟩ := rd_arg_slice Try.underlying22 (hval 0 22 v0 rfl rfl) h0 (m := 6) (by kernel_rfl) (by omega) It.cells_len rd_item
  clear hA0 hval0
  refine (codesWrite_any s.l s.A s.l.length s.c W rfl hs.sl hs.all ?_).mono fun e W' ⟨he, bel⟩ => ?_
  · have h1 := hs.cap
    unfold maxLen at h1
    omega
  subst he
  exact ⟨_, rfl, _, _, _, [], _, [], hW', trodAll_mk1 (shut_bool Try.underlying4 _), (trodAll_cons_mk (Below.trod laid_out (by kernel_rfl) (of_decide_eq_true (by kernel_rfl)) k0 bel lt0) trodAll_mk0), rfl, bel.frame _, fun h => by cases h⟩

theorem codesWrite_over : Rows.codesWriteRow.holds Try.pinned (OpenSpec.ofChange Rows.codesWriteSpec) :=
  OpenClaim.holds_of_wide 3 Try.f3 rfl rfl rfl rfl rfl rfl rfl ⟨rfl, rfl, rfl, rfl, rfl⟩ rfl rfl rfl rfl rfl (by kernel_rfl) Try.func3 (by kernel_rfl)
    (of_decide_eq_true (by kernel_rfl)) (by unfold Func.isWrapper; first | (rw [if_pos (by decide +kernel)]; kernel_rfl) | (rw [if_neg (by decide +kernel)]; exact ⟨rfl, rfl⟩))
    (fun os started H enc _ => codesWrite_lifted os started H enc)

theorem codesWrite_holds : Rows.CodesWriteSaid := codesWrite_over
end Go.Proofs.Yteakdcnbjcnpnaa
