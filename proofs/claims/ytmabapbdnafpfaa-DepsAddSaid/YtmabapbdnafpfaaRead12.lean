/- What is read as a template, as an instruction, as arguments. -/
import Derived.Test.YtmabapbdnafpfaaArgs
import Derived.Test.YtmabapbdnafpfaaIdx9
import Derived.Test.YtmabapbdnafpfaaRgt10
import Derived.Test.YtmabapbdnafpfaaCls11
import Derived.Test.YtmabapbdnafpfaaCat12
namespace Go.Proofs.Ytmabapbdnafpfaa
open Go.ChangeShapes Go.WideShapes Go.ChangeAt Go.RowKit

def kc2 (k : Int × Int) : List Value := [.int .i64 k.1, .int .i64 k.2]
section
variable {H : Type} {enc : TypeId × Value → H} {w : World}
end
end Go.Proofs.Ytmabapbdnafpfaa
/- What is read as a span of templates. -/
namespace Go.Proofs.Ytmabapbdnafpfaa
open Go.ChangeShapes Go.WideShapes Go.ChangeAt Go.RowKit

section
variable {H : Type} {enc : TypeId × Value → H} {w : World}
end
end Go.Proofs.Ytmabapbdnafpfaa
/- What is read as a class. -/
namespace Go.Proofs.Ytmabapbdnafpfaa
open Go.ChangeShapes Go.WideShapes Go.ChangeAt Go.RowKit

section
variable {H : Type} {enc : TypeId × Value → H} {w : World}
/-- A step that was handed in: it lies there, its numbers fit, its lists have the room that they say. -/
structure Stp.Full (w : World) (s : Stp) : Prop where
  ok : s.Ok w w.heap.size
  fit : s.I
  cc : s.code.length ≤ s.cc ∧ s.cc ≤ maxLen
  fc : s.foot.length ≤ s.fc ∧ s.fc ≤ maxLen
/-- A class that was handed in. -/
structure Cls.Full (w : World) (c : Cls) : Prop where
  ok : c.Ok w
  args : I64 c.args
  steps : ∀ s ∈ c.steps, s.Full w
  comps : ∀ s ∈ c.comps, s.Full w
  sc : c.steps.length ≤ c.sc ∧ c.sc ≤ maxLen
  uc : c.comps.length ≤ c.uc ∧ c.uc ≤ maxLen
end
end Go.Proofs.Ytmabapbdnafpfaa
/- What is read as a catalogue that was handed in. -/
namespace Go.Proofs.Ytmabapbdnafpfaa
open Go.ChangeShapes Go.WideShapes Go.ChangeAt Go.RowKit

section
variable {H : Type} {enc : TypeId × Value → H} {w : World}
theorem rd_arr4 {α : Type} {P : Program} {t e : TypeId} {f : α → List Value} {Q : α → Prop} {m : Nat} (ht : P.underlying t = some (.array 4 e)) (hm : P.cellsOf e = m) (hct : P.cellsOf t = 4 * m) (hr : Rd enc P w e f Q) :
    Rd enc P w t (fun x : α × α × α × α => f x.1 ++ (f x.2.1 ++ (f x.2.2.1 ++ f x.2.2.2))) (fun x => Q x.1 ∧ Q x.2.1 ∧ Q x.2.2.1 ∧ Q x.2.2.2) := by
  intro fuel cs y h
  obtain ⟨xs, k, -, -, hl, hx, hg⟩ := DataW.trod_array ht h
  rw [hct] at hl
  rw [hm] at hg
  have each : ∀ i, i < 4 → ∃ x : α, (cs.drop (i * m)).take m = f x ∧ Q x := by
    intro i hi
    have h1 := hg i hi
    rw [List.getElem?_eq_getElem (by omega)] at h1
    exact hr _ _ _ h1
  obtain ⟨x0, e0, q0⟩ := each 0 (by omega)
  obtain ⟨x1, e1, q1⟩ := each 1 (by omega)
  obtain ⟨x2, e2, q2⟩ := each 2 (by omega)
  obtain ⟨x3, e3, q3⟩ := each 3 (by omega)
  refine ⟨(x0, x1, x2, x3), ?_, q0, q1, q2, q3⟩
  show cs = f x0 ++ (f x1 ++ (f x2 ++ f x3))
  rw [← e0, ← e1, ← e2, ← e3]
  have a3 : (cs.drop (3 * m)).take m = cs.drop (3 * m) := List.take_of_length_le (by rw [List.length_drop]; omega)
  have a2 : (cs.drop (2 * m)).take m ++ cs.drop (3 * m) = cs.drop (2 * m) := by
    rw [show 3 * m = 2 * m + m by omega, ← List.drop_drop]
    exact List.take_append_drop _ _
  have a1 : (cs.drop (1 * m)).take m ++ cs.drop (2 * m) = cs.drop (1 * m) := by
    rw [show 2 * m = 1 * m + m by omega, ← List.drop_drop]
    exact List.take_append_drop _ _
  rw [a3, a2, a1, Nat.zero_mul, Nat.one_mul, List.drop_zero]
  exact (List.take_append_drop _ _).symm
/-- A catalogue that was handed in. -/
structure Ctl.Full (w : World) (x : Ctl) : Prop where
  ok : Clss w x.cA x.cls
  cls : ∀ c ∈ x.cls, c.Full w
  br : ∀ j, j < 16 → I64 (x.b j)
  cc : x.cls.length ≤ x.cc ∧ x.cc ≤ maxLen
end
end Go.Proofs.Ytmabapbdnafpfaa
