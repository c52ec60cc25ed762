/- The plain mathematics of the words of a text and of a number with a sign. -/
import Derived.WalkKit
import Derived.Test.YtmeimhpllemjfaaGreatLib
import Derived.Test.YtmeimhpllemjfaaGreatRows
import Derived.StillTailTactics
import Derived.Deep.OwnRows
import Derived.Deep.RegionHeld3
import Derived.Test.YtmeimhpllemjfaaGreatRead
namespace Go.Proofs.YtmeimhpllemjfaaGreat

def hn : List Nat → Nat
 | [] => 0
 | b :: r => b + 256 * hn r
end Go.Proofs.YtmeimhpllemjfaaGreat
/- What the calls of a codes.Writer, and codes.pack, do. -/
namespace Go.Proofs.YtmeimhpllemjfaaGreat
open Go.RowKit

end Go.Proofs.YtmeimhpllemjfaaGreat
/- What the calls of a codes.Reader do: what is read as a count, a number with a sign, a flag, a text, a list of words, and what is left. -/
namespace Go.Proofs.YtmeimhpllemjfaaGreat
open Go.RowKit

def ub (ws : List Nat) (i : Nat) : Nat := ws.getD (i / 8) 0 / 2 ^ (i % 8 * 8) % 256
abbrev Only (p : Nat) : Nat → Prop := fun k => k = p
def after (st : Option (List Nat)) (n : Nat) (ok : Bool) : Option (List Nat) := st.bind fun xs => if n ≤ xs.length ∧ ok = true then some (xs.drop n) else none
def told (st : Option (List Nat)) (n : Nat) (ok : Bool) (x z : Value) : Value := if (after st n ok).isSome then x else z

def cntR (most : Int) (st : Option (List Nat)) : Option (Nat × List Nat) :=
 match st with
 | some (u :: r) => if 0 ≤ most ∧ (u : Int) ≤ most then some (u, r) else none
 | _ => none
end Go.Proofs.YtmeimhpllemjfaaGreat
/- A reader whose words lie in blocks of which G is told: counts and numbers with a sign. -/
namespace Go.Proofs.YtmeimhpllemjfaaGreat
open Go.RowKit

section
variable {G : Nat → Prop}
end
end Go.Proofs.YtmeimhpllemjfaaGreat
