/- The document's own: are two catalogues the same? -/
import Derived.Test.YtkihbjgmmaklaaaCat12
import Derived.Test.YtkihbjgmmaklaaaRsm11
import Derived.Test.YtkihbjgmmaklaaaHand
namespace Go.Proofs.Ytkihbjgmmaklaaa
open Go.RowKit

end Go.Proofs.Ytkihbjgmmaklaaa
