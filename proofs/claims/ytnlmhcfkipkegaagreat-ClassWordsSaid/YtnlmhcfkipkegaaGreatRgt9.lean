/- What the document's own reader reads as a program. -/
import Derived.Test.YtnlmhcfkipkegaaGreatRrd9
import Derived.Test.YtnlmhcfkipkegaaGreatGet9
namespace Go.Proofs.YtnlmhcfkipkegaaGreat
open Go.RowKit

end Go.Proofs.YtnlmhcfkipkegaaGreat
