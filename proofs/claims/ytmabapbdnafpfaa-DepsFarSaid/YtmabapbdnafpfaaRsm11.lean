/- Whether two lists of steps are the same, as the document has it. -/
import Derived.Test.YtmabapbdnafpfaaCls11
import Derived.Test.YtmabapbdnafpfaaHand
namespace Go.Proofs.Ytmabapbdnafpfaa
open Go.RowKit

end Go.Proofs.Ytmabapbdnafpfaa
/- Whether two classes are the same, as the document has it. -/
namespace Go.Proofs.Ytmabapbdnafpfaa
open Go.RowKit

structure Cls.Few (c : Cls) : Prop where
  steps : c.steps.length ≤ 1099511627776
  comps : c.comps.length ≤ 1099511627776
  ins : ∀ s ∈ c.steps, s.code.length ≤ 1099511627776 ∧ s.foot.length ≤ 1099511627776
  inc : ∀ s ∈ c.comps, s.code.length ≤ 1099511627776 ∧ s.foot.length ≤ 1099511627776

end Go.Proofs.Ytmabapbdnafpfaa
