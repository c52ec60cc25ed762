/- A program's words, purely; what package prog writes. -/
import Derived.Test.YtmeimhpllemjfaaGreatCodesR
import Derived.Test.YtmeimhpllemjfaaGreatIdx9
namespace Go.Proofs.YtmeimhpllemjfaaGreat
open Go.RowKit

end Go.Proofs.YtmeimhpllemjfaaGreat
/- What is read as a template, an instruction and a program, purely. -/
namespace Go.Proofs.YtmeimhpllemjfaaGreat
open Go.RowKit

def cS (m : Int) (st : Option (List Nat)) : Option (List Nat) := (cntR m st).map (·.2)
def far9 (a : Int) : Prop := a < -1 ∨ 255 < a
instance (a : Int) : Decidable (far9 a) := by unfold far9; infer_instance
end Go.Proofs.YtmeimhpllemjfaaGreat
/- What the document's own reader reads: an item, a template. -/
namespace Go.Proofs.YtmeimhpllemjfaaGreat
open Go.RowKit

end Go.Proofs.YtmeimhpllemjfaaGreat
/- What the document reads as a text. -/
namespace Go.Proofs.YtmeimhpllemjfaaGreat
open Go.RowKit

end Go.Proofs.YtmeimhpllemjfaaGreat
/- A text that the document's reader reads. -/
namespace Go.Proofs.YtmeimhpllemjfaaGreat
open Go.RowKit

end Go.Proofs.YtmeimhpllemjfaaGreat
