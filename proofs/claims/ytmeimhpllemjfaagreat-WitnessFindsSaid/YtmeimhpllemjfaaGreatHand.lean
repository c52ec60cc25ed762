/- Steps of a region that draws its order, by hand: one that is passed over, one that yields. No program is spoken of. -/
import Derived.Test.YtmeimhpllemjfaaGreatLib
import Derived.Deep.RegionHeld3
import Derived.OrdersIn
import Derived.TacticsIn
import Derived.RangeFuncCalls
namespace Go.Proofs.YtmeimhpllemjfaaGreat
open Go.RowKit

theorem any_skip {P : Program} {ops : Array Oper} {Q : Exit → Act → World → Prop} {md : Region.Mode} {S : World → Prop} {i : Nat} {oi : Oper} (d : Tmp) {fuel : Nat} {listed : Array Bool} {a : Act} {w : World} (hi : ops[i]? = some oi) (hd : oi.dst = some d)
  (hs : Region.noSelect ops = true) (hf : Region.free md ops listed i = true) (hr : (Region.ready md ops listed).contains i = true)
  (hQ : ∀ c a w, Q (.panic c) (a.put (some d) undef) w → Q (.panic c) a w) (hw : Region.wanted oi (yielded ops a.tmps) = false) (hS : S w)
  (h : wpAnyH P md ops Q S fuel (listed.setIfInBounds i true) (a.put (some d) undef) w) : wpAnyH P md ops Q S (fuel + 1) listed a w :=
 wpAnyH_take hi hs hf hr (by rw [hd]; exact hQ) (Or.inr ⟨hw, rfl⟩) hS (by rw [hd]; exact h)
theorem any_take {P : Program} {ops : Array Oper} {Q : Exit → Act → World → Prop} {md : Region.Mode} {S : World → Prop} {i : Nat} {oi : Oper} (d : Tmp) (v : Value) {fuel : Nat} {listed : Array Bool} {a : Act} {w : World} (hi : ops[i]? = some oi) (hd : oi.dst = some d)
  (hs : Region.noSelect ops = true) (hf : Region.free md ops listed i = true) (hr : (Region.ready md ops listed).contains i = true)
  (hQ : ∀ c a w, Q (.panic c) (a.put (some d) v) w → Q (.panic c) a w) (hw : Region.wanted oi (yielded ops a.tmps) = true) (hy : ∀ w, S w → (execOp a.eval oi).run P w = .ok (.value v) w) (hS : S w)
  (h : wpAnyH P md ops Q S fuel (listed.setIfInBounds i true) (a.put (some d) v) w) : wpAnyH P md ops Q S (fuel + 1) listed a w :=
 wpAnyH_take hi hs hf hr (by rw [hd]; exact hQ) (Or.inl ⟨hw, hy⟩) hS (by rw [hd]; exact h)
theorem any_tk {P : Program} {ops : Array Oper} {Q : Exit → Act → World → Prop} {md : Region.Mode} {S : World → Prop} {i : Nat} {oi : Oper} (d : Tmp) (v : Value) {fuel : Nat} {listed : Array Bool} {a : Act} {w : World} (hi : ops[i]? = some oi) (hd : oi.dst = some d)
  (hs : (Region.noSelect ops && (Region.free md ops listed i && (Region.ready md ops listed).contains i)) = true)
  (hQ : ∀ c a w, Q (.panic c) (a.put (some d) v) w → Q (.panic c) a w) (hw : Region.wanted oi (yielded ops a.tmps) = true) (hy : ∀ w, S w → (execOp a.eval oi).run P w = .ok (.value v) w) (hS : S w)
  (h : wpAnyH P md ops Q S fuel (listed.setIfInBounds i true) (a.put (some d) v) w) : wpAnyH P md ops Q S (fuel + 1) listed a w := by
 rw [Bool.and_eq_true, Bool.and_eq_true] at hs
 exact any_take d v hi hd hs.1 hs.2.1 hs.2.2 hQ hw hy hS h
theorem any_sk {P : Program} {ops : Array Oper} {Q : Exit → Act → World → Prop} {md : Region.Mode} {S : World → Prop} {i : Nat} {oi : Oper} (d : Tmp) {fuel : Nat} {listed : Array Bool} {a : Act} {w : World} (hi : ops[i]? = some oi) (hd : oi.dst = some d)
  (hs : (Region.noSelect ops && (Region.free md ops listed i && (Region.ready md ops listed).contains i)) = true)
  (hQ : ∀ c a w, Q (.panic c) (a.put (some d) undef) w → Q (.panic c) a w) (hw : Region.wanted oi (yielded ops a.tmps) = false) (hS : S w)
  (h : wpAnyH P md ops Q S fuel (listed.setIfInBounds i true) (a.put (some d) undef) w) : wpAnyH P md ops Q S (fuel + 1) listed a w := by
 rw [Bool.and_eq_true, Bool.and_eq_true] at hs
 exact any_skip d hi hd hs.1 hs.2.1 hs.2.2 hQ hw hS h
theorem any_u {P : Program} {ops : Array Oper} {Q : Exit → Act → World → Prop} {md : Region.Mode} {S : World → Prop} {i : Nat} {oi : Oper} (d : Tmp) (v : Value) {fuel : Nat} {listed : Array Bool} {a : Act} {w : World} (hi : ops[i]? = some oi) (hd : oi.dst = some d)
  (h : wpAnyH P md ops Q S fuel (listed.setIfInBounds i true) (a.put (some d) v) w)
  (hs : (Region.noSelect ops && (Region.free md ops listed i && (Region.ready md ops listed).contains i)) = true := by kernel_rfl)
  (hQ : ∀ c a w, Q (.panic c) (a.put (some d) v) w → Q (.panic c) a w := by exact fun _ _ _ h => h) (hw : Region.wanted oi (yielded ops a.tmps) = true := by rfl)
  (hy : ∀ w, S w → (execOp a.eval oi).run P w = .ok (.value v) w := by intro w hSw; (try dsimp only at hSw); go_simp; try with_reducible rfl) (hS : S w := by assumption) : wpAnyH P md ops Q S (fuel + 1) listed a w :=
 any_tk d v hi hd hs hQ hw hy hS h
theorem any_v {P : Program} {ops : Array Oper} {Q : Exit → Act → World → Prop} {md : Region.Mode} {S : World → Prop} {i : Nat} {oi : Oper} (d : Tmp) {fuel : Nat} {listed : Array Bool} {a : Act} {w : World} (hi : ops[i]? = some oi) (hd : oi.dst = some d)
  (h : wpAnyH P md ops Q S fuel (listed.setIfInBounds i true) (a.put (some d) undef) w)
  (hs : (Region.noSelect ops && (Region.free md ops listed i && (Region.ready md ops listed).contains i)) = true := by kernel_rfl)
  (hQ : ∀ c a w, Q (.panic c) (a.put (some d) undef) w → Q (.panic c) a w := by exact fun _ _ _ h => h) (hw : Region.wanted oi (yielded ops a.tmps) = false := by rfl) (hS : S w := by assumption) : wpAnyH P md ops Q S (fuel + 1) listed a w :=
 any_sk d hi hd hs hQ hw hS h
end Go.Proofs.YtmeimhpllemjfaaGreat
/- A region that draws its order, within a round of a loop over a function: step by step, by hand. No program is spoken of. -/
namespace Go.Proofs.YtmeimhpllemjfaaGreat
open Go.RowKit

section
variable {F : Fence} {n : Nat} {P : Program} {ops : Array Oper} {Q : Exit → Act → World → Prop} {md : Region.Mode}
theorem upon_round12 {l : Nat} (o : Oper) (a : Act) (K : Act → World → Prop) (r : Result Next) (h : o.uponIn F n P a K Q r) : o.uponIn (F.inRound l) n P a K Q r := by
 cases r with
 | ok x w' => cases x <;> exact h
 | halt x w' => cases x <;> exact h
def NoDefer (ops : Array Oper) : Prop := ∀ (i : Nat) (o : Oper), ops[i]? = some o → ∀ c, o.op ≠ .defer c
theorem noDefer_of (h : (ops.toList.all fun o => match o.op with | .defer _ => false | _ => true) = true) : NoDefer ops := by
 intro i o ho c hc
 rw [List.all_eq_true] at h
 have h1 := h o (by
  rw [← Array.getElem?_toList] at ho
  exact List.mem_of_getElem? ho)
 rw [hc] at h1
 cases h1
theorem op_round12 {l i : Nat} {a : Act} {w : World} {K : Act → World → Prop} (hd : NoDefer ops) (hro : F.round = none) (h : wpOpIn F n P ops Q i K a w) : wpOpIn (F.inRound l) n P ops Q i K a w := by
 unfold wpOpIn at h ⊢
 cases ho : ops[i]? with
 | none => rw [ho] at h; exact h
 | some o =>
  rw [ho] at h
  simp only at h ⊢
  split
  ·next hw =>
   rw [if_pos hw] at h
   refine ⟨h.1, ?_⟩
   have h2 := h.2
   rw [hro, Oper.semAt_none] at h2
   rw [show (F.inRound l).round = some l from rfl, Oper.semAt_some l _ o (hd i o ho)]
   exact upon_round12 o a K _ h2
  ·next hw =>
   rw [if_neg hw] at h
   exact h
theorem any_round12 {l : Nat} (hd : NoDefer ops) (hro : F.round = none) : ∀ (fuel : Nat) (listed : Array Bool) (a : Act) (w : World), wpAnyIn F n P md ops Q fuel listed a w → wpAnyIn (F.inRound l) n P md ops Q fuel listed a w := by
 intro fuel
 induction fuel with
 | zero => intro listed a w h; exact h
 | succ fuel ih =>
  intro listed a w h
  exact ⟨h.1, fun i hi => op_round12 hd hro (wpOpIn_mono (fun a' w' h' => ih _ a' w' h') (h.2 i hi))⟩
theorem region_round12 {l id : Nat} {a : Act} {w : World} (hm : P.follows .mixedOrders = true) (hd : NoDefer ops) (hro : F.round = none)
  (h : wpAnyIn F n P .any ops Q ops.size (Array.replicate ops.size false) a w.drew) : (Code.region id ops true).wpIn (F.inRound l) n P Q a w :=
 wpIn_region_any hm (any_round12 hd hro _ _ _ _ h)
theorem region12 {id : Nat} {a : Act} {w : World} (hm : P.follows .mixedOrders = true) (h : wpAnyIn F n P .any ops Q ops.size (Array.replicate ops.size false) a w.drew) : (Code.region id ops true).wpIn F n P Q a w := wpIn_region_any hm h
theorem take12 {i : Nat} {oi : Oper} (d : Tmp) (v : Value) {fuel : Nat} {listed : Array Bool} {a : Act} {w : World} (hro : F.round = none) (hi : ops[i]? = some oi) (hd : oi.dst = some d)
  (hs : Region.noSelect ops = true) (hf : Region.free md ops listed i = true) (hr : (Region.ready md ops listed).contains i = true)
  (hQ : ∀ c a w, Q (.panic c) (a.put (some d) v) w → Q (.panic c) a w) (hw : Region.wanted oi (yielded ops a.tmps) = true) (hy : ∀ w, (execOp a.eval oi).run P w = .ok (.value v) w) (ha : ∀ w, oi.about P w a.eval = none)
  (h : wpAnyIn F n P md ops Q fuel (listed.setIfInBounds i true) (a.put (some d) v) w) : wpAnyIn F n P md ops Q (fuel + 1) listed a w :=
 wpAnyIn_take hro hi hs hf hr (by rw [hd]; exact hQ) ⟨Or.inl ⟨hw, hy⟩, ha⟩ (by rw [hd]; exact h)
theorem val12 {i : Nat} {oi : Oper} (d : Tmp) (v : Value) {fuel : Nat} {listed : Array Bool} {a : Act} {w : World} (hro : F.round = none) (hr : Region.ready md ops listed = [i]) (hi : ops[i]? = some oi) (hd : oi.dst = some d) (hw : Region.wanted oi (yielded ops a.tmps) = true)
  (hy : (execOp a.eval oi).run P w = .ok (.value v) w) (ha : oi.about P w a.eval = none)
  (h : wpAnyIn F n P md ops Q fuel (listed.setIfInBounds i true) (a.put (some d) v) w) : wpAnyIn F n P md ops Q (fuel + 1) listed a w := by
 refine wpAnyIn_ready hr (by simp) (AllReadyIn.cons hi (fun K' hK => ?_) AllReadyIn.nil)
 rw [if_pos hw]
 refine ⟨fun f hf => (by rw [ha] at hf; cases hf), ?_⟩
 rw [hro, Oper.semAt_none, hy]
 show K' (a.put oi.dst v) w
 rw [hd]
 exact hK _ _ h
theorem skip12 {i : Nat} {oi : Oper} {fuel : Nat} {listed : Array Bool} {a : Act} {w w' : World} (hro : F.round = none) (hr : Region.ready md ops listed = [i]) (hi : ops[i]? = some oi) (hd : oi.dst = none) (hw : Region.wanted oi (yielded ops a.tmps) = true)
  (hy : (execOp a.eval oi).run P w = .ok .skip w') (ha : oi.about P w a.eval = none)
  (h : wpAnyIn F n P md ops Q fuel (listed.setIfInBounds i true) a w') : wpAnyIn F n P md ops Q (fuel + 1) listed a w := by
 refine wpAnyIn_ready hr (by simp) (AllReadyIn.cons hi (fun K' hK => ?_) AllReadyIn.nil)
 rw [if_pos hw]
 refine ⟨fun f hf => (by rw [ha] at hf; cases hf), ?_⟩
 rw [hro, Oper.semAt_none, hy]
 show K' (a.put oi.dst undef) w'
 rw [hd]
 exact hK _ _ h
theorem call12 {i f : Nat} {args : Array Value} {oi : Oper} (d : Tmp) {fuel : Nat} {listed : Array Bool} {a : Act} {w : World} (hF : F = Fence.wide) (hr : Region.ready md ops listed = [i]) (hi : ops[i]? = some oi) (hd : oi.dst = some d) (hw : Region.wanted oi (yielded ops a.tmps) = true)
  (hy : (execOp a.eval oi).run P w = .ok (.enter f args) w) {R : Value → World → Prop} (hc : Calls P f args w fun e w' => ∃ v, e = .returned v ∧ R v w')
  (h : ∀ v w', R v w' → wpAnyIn F n P md ops Q fuel (listed.setIfInBounds i true) (a.put (some d) v) w') : wpAnyIn F n P md ops Q (fuel + 1) listed a w := by
 subst hF
 refine wpAnyIn_ready hr (by simp) (AllReadyIn.cons hi (fun K' hK => ?_) AllReadyIn.nil)
 rw [if_pos hw]
 refine ⟨fun _ _ => trivial, ?_⟩
 rw [show Fence.wide.round = none from rfl, Oper.semAt_none, hy]
 refine ⟨fun h => (by cases h), (callsIn_wide.2 hc).mono ?_⟩
 rintro e w' ⟨v, rfl, hv⟩
 show K' (a.put oi.dst v) w'
 rw [hd]
 exact hK _ _ (h v w' hv)
theorem any_store12 {S : World → Prop} {i : Nat} {oi : Oper} {fuel : Nat} {listed : Array Bool} {a : Act} {w w' : World} (hr : Region.ready md ops listed = [i]) (hi : ops[i]? = some oi) (hd : oi.dst = none) (hw : Region.wanted oi (yielded ops a.tmps) = true)
  (hy : (execOp a.eval oi).run P w = .ok .skip w') (hS : S w') (h : wpAnyH P md ops Q S fuel (listed.setIfInBounds i true) a w') : wpAnyH P md ops Q S (fuel + 1) listed a w := by
 refine wpAnyH_ready hr (by simp) (AllReadyH.cons hi (fun K' hK => ?_) AllReadyH.nil)
 rw [if_pos hw]
 unfold Oper.wp
 rw [hy]
 show K' (a.put oi.dst undef) w'
 rw [hd]
 exact hK.out _ _ hS (fun _ => h)
theorem oneH_val {o : Oper} {a : Act} {w w' : World} {K' : Act → World → Prop} {E : Prop} {v : Value} (d : Tmp) (hd : o.dst = some d) (hw : Region.wanted o (yielded ops a.tmps) = true) (hy : (execOp a.eval o).run P w = .ok (.value v) w') (h : K' (a.put (some d) v) w') :
  if Region.wanted o (yielded ops a.tmps) = true then Oper.wp P o a w K' Q else E := by
 rw [if_pos hw]
 unfold Oper.wp
 rw [hy]
 show K' (a.put o.dst v) w'
 rw [hd]
 exact h
end
end Go.Proofs.YtmeimhpllemjfaaGreat
