/- The library at arcs: slices.Compact, slices.SortFunc, cmp.Or. -/
import Derived.Laws.EntriesVeiled
import Derived.Test.YtmeimhpllemjfaaGreatMaps
import Derived.Test.YtmeimhpllemjfaaGreatRsg16
import Derived.Test.YtmeimhpllemjfaaGreatIdx9
import Derived.Test.YtmeimhpllemjfaaGreatHand
import Derived.Test.YtmeimhpllemjfaaGreatShl4
import Derived.Shelf.SlSortCmp.NoneTotal
import Derived.Maps.Keyed
import Derived.DeepKeys4
import Derived.Test.YtmeimhpllemjfaaGreatLn14
import Derived.Test.YtmeimhpllemjfaaGreatOf15
import Derived.Test.YtmeimhpllemjfaaGreatCnf14
import Derived.Deep.CutRange
import Derived.WalkMore
import Derived.Test.YtmeimhpllemjfaaGreatDoc16
import Derived.Deep.RegionLawGrows
namespace Go.Proofs.YtmeimhpllemjfaaGreat
open Go.RowKit

end Go.Proofs.YtmeimhpllemjfaaGreat
/- cmp.Or of three, and the order of arcs. -/
namespace Go.Proofs.YtmeimhpllemjfaaGreat
open Go.RowKit Go.Shelf Go.Lib Go.Sort

end Go.Proofs.YtmeimhpllemjfaaGreat
/- The order of arcs, as the sort asks it. -/
namespace Go.Proofs.YtmeimhpllemjfaaGreat
open Go.RowKit Go.Shelf Go.Lib Go.Sort

end Go.Proofs.YtmeimhpllemjfaaGreat
/- Arcs, put in order by the library. -/
namespace Go.Proofs.YtmeimhpllemjfaaGreat
open Go.RowKit Go.Shelf Go.Lib Go.Sort

end Go.Proofs.YtmeimhpllemjfaaGreat
/- Package rsg: the ends of units, asked once of each node and class: a map whose keys are pairs. -/
namespace Go.Proofs.YtmeimhpllemjfaaGreat
open Go.RowKit Go.Maps Go.WideMaps

section
variable {w w' : World} {m c : Nat} {E : Int → Int → Int}
end

end Go.Proofs.YtmeimhpllemjfaaGreat
/- Package rsg: the arcs from each node to the next one of its saga. -/
namespace Go.Proofs.YtmeimhpllemjfaaGreat
open Go.RowKit

theorem arcs_snoc16 (l : List Tr) (t : Tr) : (l ++ [t]).flatMap arcC = l.flatMap arcC ++ arcC t := by simp
end Go.Proofs.YtmeimhpllemjfaaGreat
/- Package rsg: the arcs that there are since a node depends on one of another saga. -/
namespace Go.Proofs.YtmeimhpllemjfaaGreat
open Go.RowKit

section
variable {w : World} {Z : Array Value} {A : Option Addr} {n c b1 f1 m1 b2 f2 m2 : Nat} {E1 E2 : Int → Int → Int} {cc : Nat} {V U : World}
end
section
variable (x : Ctl) (h : List Ndl) (A : Option Addr) (n c : Nat) (w : World) (hx : Clss w x.cA x.cls) (hB : x.Big) (hs : Nds w A h) (hn : h.length = n) (hnm : n ≤ 1048576) (hnc : n ≤ c) (hf : Nds.Few h)
include hx hB hs hn hnm hnc hf
end
end Go.Proofs.YtmeimhpllemjfaaGreat
/- Package rsg: which node is told next; who leads to itself. -/
namespace Go.Proofs.YtmeimhpllemjfaaGreat
open Go.RowKit

end Go.Proofs.YtmeimhpllemjfaaGreat
/- Package rsg: its arcs, and what it makes of them. -/
namespace Go.Proofs.YtmeimhpllemjfaaGreat
open Go.RowKit

end Go.Proofs.YtmeimhpllemjfaaGreat
/- sources -/
/- Package rsg: from which nodes arcs lead to each. -/
namespace Go.Proofs.YtmeimhpllemjfaaGreat
open Go.RowKit

end Go.Proofs.YtmeimhpllemjfaaGreat
/- order -/
/- Package rsg: the order of a history. -/
namespace Go.Proofs.YtmeimhpllemjfaaGreat
open Go.RowKit

theorem In16.since {x : Ctl} {h : List Ndl} {A : Option Addr} {n c : Nat} {w W : World} (hI : In16 x h A n c w) (hW : Fr No w W) : In16 x h A n c W := ⟨hI.cl.since hW, hI.nd.since hW, hI.len, hI.n24, hI.nc, hI.big, hI.few⟩
end Go.Proofs.YtmeimhpllemjfaaGreat
/- turns -/
/- Package rsg: who leads to itself. -/
namespace Go.Proofs.YtmeimhpllemjfaaGreat
open Go.RowKit

end Go.Proofs.YtmeimhpllemjfaaGreat
/- the contracts -/
/- Package rsg: its functions, as the laws ask them. -/
namespace Go.Proofs.YtmeimhpllemjfaaGreat
open Go.RowKit

end Go.Proofs.YtmeimhpllemjfaaGreat
