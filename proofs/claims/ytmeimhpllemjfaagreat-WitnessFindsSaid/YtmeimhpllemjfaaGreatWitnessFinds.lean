/- A history has a fair order, that is told, just if its graph is good: the law 'WitnessFinds' returns true whatever it is given, and leaves it as it was. No condition. -/
import Derived.Test.YtmeimhpllemjfaaGreatRead
import Derived.Test.YtmeimhpllemjfaaGreatRead12
import Derived.Test.YtmeimhpllemjfaaGreatSea17
import Derived.Test.YtmeimhpllemjfaaGreatWpk17
namespace Go.Proofs.YtmeimhpllemjfaaGreat
open Go.ChangeShapes Go.WideShapes Go.ChangeAt Go.RowKit

set_option maxRecDepth 100000 in
theorem witnessFinds_lifted (os : Os) (started : os.Started) (H : Type) (enc : TypeId × Value → H) :
  ReturnsInHanded {} Tryz.checked os 5 .any (Rows.witnessFindsSpec.pre6 enc Tryz.prog Tryz.f5 Rows.witnessFindsRow.domain false) (Rows.witnessFindsSpec.post enc Tryz.prog Tryz.f5 false true false false) := by
 refine returnsInHanded_of_change (C := Tryz.checked) own_knob started (by kernel_rfl) Tryz.func5
  (ChangeSpec.witness6 (enc := enc) (C := Tryz.checked) false ⟨#[], #[.agg #[.slice none 0 0, .int .i64 0, .int .i64 0, .int .i64 0, .int .i64 0, .int .i64 0, .int .i64 0, .int .i64 0, .int .i64 0, .int .i64 0, .int .i64 0, .int .i64 0, .int .i64 0, .int .i64 0, .int .i64 0, .int .i64 0, .int .i64 0], .slice none 0 0], []⟩ 8 (by kernel_rfl) (by kernel_rfl) (by kernel_rfl) (by kernel_rfl)) ?_
 intro W base args ds gs before hval0 hW hcnd _
 have hval : ∀ (j : Nat) t v, Tryz.f5.params[j]? = some t → args[j]? = some v → Value.okWide Tryz.prog W .any base t v := hval0
 have hW' := hW
 obtain ⟨p, q, hA0, hV, rfl, hfz, hnd⟩ := hW
 have hA : DataW.TrodAll enc Tryz.prog W 0 (fun _ => true) true Tryz.f5.params.toList args.toList ds p := hA0
 rw [Tryz.params5] at hA hval
 obtain ⟨v0, vs0, d0, ds0, p0, q0, hargs, rfl, rfl, h0, r0⟩ := trodAll_cons hA
 obtain ⟨v1, vs1, d1, ds1, p1, q1, rfl, rfl, rfl, h1, r1⟩ := trodAll_cons r0
 obtain ⟨rfl, rfl, rfl⟩ := trodAll_nil r1
 obtain rfl : args = #[v0, v1] := by cases args; simp_all
 obtain ⟨rfl, rfl⟩ := trodVars_none hV
 have k0 := h0
 have k1 := h1
 have lt0 : ∀ x ∈ p0, x.block < W.heap.size := by obtain ⟨m, hm⟩ := k0; exact DataW.trod_lt m _ _ _ hm
 have lt1 : ∀ x ∈ p1, x.block < W.heap.size := by obtain ⟨m, hm⟩ := k1; exact DataW.trod_lt m _ _ _ hm
 obtain ⟨x, rfl, h_x⟩ := arg_cat12 (hval 0 26 v0 rfl rfl) h0
 obtain ⟨h, rfl, h_h⟩ := rd_arg_slice Tryz.underlying27 (hval 1 27 v1 rfl rfl) h1 (m := 6) (by kernel_rfl) (by omega) Ndl.cells_len rd_nd14
 clear hA0 hval0
 refine (lawFinds17 fairC17 findC17 x h.l h.A h.l.length h.c W h_x.ok ⟨h_h.sl, fun y hy => (h_h.all y hy).ok⟩ rfl h_h.cap.1 (Nat.le_trans h_h.cap.1 h_h.cap.2) (Nat.le_trans h_x.cc.1 h_x.cc.2)).mono fun e W' ⟨he, hfr⟩ => ?_
 have bel := hfr.below0
 subst he
 exact ⟨_, rfl, _, _, _, [], _, [], hW', trodAll_mk1 (shut_bool Tryz.underlying4 _), (trodAll_cons_mk (Below.trod laid_out (by kernel_rfl) (of_decide_eq_true (by kernel_rfl)) k0 bel lt0) (trodAll_cons_mk (Below.trod laid_out (by kernel_rfl) (of_decide_eq_true (by kernel_rfl)) k1 bel lt1) trodAll_mk0)), rfl, bel.frame _, fun h => by cases h⟩

theorem witnessFinds_over : Rows.witnessFindsRow.holds Tryz.pinned (OpenSpec.ofChange Rows.witnessFindsSpec) :=
 OpenClaim.holds_of_wide 5 Tryz.f5 rfl rfl rfl rfl rfl rfl rfl ⟨rfl, rfl, rfl, rfl, rfl⟩ rfl rfl rfl rfl rfl (by kernel_rfl) Tryz.func5 (by kernel_rfl)
  (of_decide_eq_true (by kernel_rfl)) (by unfold Func.isWrapper; first | (rw [if_pos (by decide +kernel)]; kernel_rfl) | (rw [if_neg (by decide +kernel)]; exact ⟨rfl, rfl⟩))
  (fun os started H enc _ => witnessFinds_lifted os started H enc)

theorem witnessFinds_holds : Rows.WitnessFindsSaid := witnessFinds_over
end Go.Proofs.YtmeimhpllemjfaaGreat
