/- Package class: the steps of a class, each with its Comp, one by one. -/
import Derived.RangeFuncBox
import Derived.RangeFuncLeaves
import Derived.RangeFuncNested
import Derived.RangeFuncCalls
import Derived.Shelf.Abstract
import Derived.WalkKit
import Derived.OwnWalkIn
import Derived.TacticsInMore
import Derived.LoopNIn
import Derived.LoopIn
import Derived.Stop.RegionWithIn
import Derived.Sort.CutIn
import Derived.Test.YtmabapbdnafpfaaCls11
import Derived.Test.YtmabapbdnafpfaaHk10
import Derived.Test.YtmabapbdnafpfaaRsm11
namespace Go.Proofs.Ytmabapbdnafpfaa
open Go.RowKit Go.Shelf

attribute [local go_sem] Oper.semAt_some

section
variable {B : Nat} {X Y Z : World}
end
theorem Fr.grownByC {W W' : World} (h : Fr No W W') : W.grownBy W' none := ⟨h.same.1, h.same.2.1, h.same.2.2, h.size, fun k hk _ => h.block k hk (fun e => e)⟩
/-- A step with its Comp. -/
abbrev ZP (ss us : List Stp) := {q : Stp × Stp // q ∈ ss.zip us}
def encZ {ss us : List Stp} (q : ZP ss us) : Array Value := #[q.1.1.agg, q.1.2.agg]

theorem two11 {e : Ending} {P Q : Prop} (h : (e = .returned (.bool true) ∧ P) ∨ (e = .returned (.bool false) ∧ Q)) : ∃ b : Bool, e = .returned (.bool b) ∧ ((b = true ∧ P) ∨ (b = false ∧ Q)) := by
  rcases h with ⟨h1, h2⟩ | ⟨h1, h2⟩
  · exact ⟨true, h1, .inl ⟨rfl, h2⟩⟩
  · exact ⟨false, h1, .inr ⟨rfl, h2⟩⟩
end Go.Proofs.Ytmabapbdnafpfaa
/- Package class: May. -/
namespace Go.Proofs.Ytmabapbdnafpfaa
open Go.RowKit

attribute [local go_sem] Oper.semAt_some

/-- May a step be? And a Comp? -/
def stepB (n : Int) (s : Stp) : Bool := progOk s.code n && footOk s.foot n
def compB (n : Int) (s : Stp) : Bool := (decide (s.code.length = 0) || (progOk s.code n && progSure s.code)) && footOk s.foot n
theorem comp_sure (l : List Ins) (n : Int) : (decide (l.length = 0) || (progOk l n && progSure l)) = compOk l n := by
  unfold compOk
  by_cases h0 : l.length = 0
  · have : l = [] := List.eq_nil_of_length_eq_zero h0
    subst this
    simp
  · cases hp : progOk l n
    · simp [h0]
    · have e : progSure l = l.all fun i => decide (i.op < 6) := by
        unfold progOk at hp
        simp only [Bool.and_eq_true, decide_eq_true_eq, List.all_eq_true] at hp
        unfold progSure
        rw [Bool.eq_iff_iff, List.all_eq_true, List.all_eq_true]
        constructor
        · intro h i hi
          have h1 := h i hi
          have h2 := hp.2.2 i hi
          rw [insOk_iff] at h2
          have h3 := h2.1
          unfold insSure at h1
          rw [decide_eq_true_eq] at h1
          rw [decide_eq_true_eq]
          omega
        · intro h i hi
          have h1 := h i hi
          unfold insSure
          rw [decide_eq_true_eq] at h1
          rw [decide_eq_true_eq]
          omega
      simp [h0, e]
theorem pair_parts (n : Int) (s u : Stp) : pairOk n (s.p, u.p) = (stepB n s && compB n u) := by
  unfold stepB compB pairOk
  rw [comp_sure]
  simp only [Stp.p]
  cases progOk s.code n <;> cases footOk s.foot n <;> cases footOk u.foot n <;> cases compOk u.code n <;> rfl

theorem bk_ownC {β : Type} (B g : Nat) (t : TypeId) (cs : Array Value) : OwnFrom B (fun (_ : β) W => Bk W g t cs) := fun _ X Y row hs hg hr =>
  hs.grown hg (fun e => by
    obtain ⟨-, o, ho, hc⟩ := hr g e
    rw [show X.heap[g]? = _ from hs] at ho
    cases ho
    cases hc)
theorem Stp.Ok.low {w W : World} {B : Nat} {s : Stp} (h : s.Ok w B) (hb : Below B w W) (hB : B ≤ W.heap.size) : s.Ok W W.heap.size := ⟨(h.code.below hb).more hB, (h.foot.below hb).more hB⟩
theorem zip_pairs (n : Int) (ss us : List Stp) : ((ss.map Stp.p).zip (us.map Stp.p)).all (pairOk n) = (ss.zip us).all fun q => stepB n q.1 && compB n q.2 := by
  rw [List.zip_map, List.all_map]
  congr 1
  funext q
  exact pair_parts n q.1 q.2

end Go.Proofs.Ytmabapbdnafpfaa
