/-
  No cell of these rows narrows 'for every input' (looked for: loops, veiled, ifaces, maps, wideKeys, modest, calm, conditions, laid).
  DERIVED. THE GIVEN ROWS OF THIS SEAT. 4 by the template 'for every input the law returns true; each argument reads behind the call as it read before'; 0 by the template 'total and deterministic' (their statements: YtmabapbdnafpfaaTotals.lean).
  GIVEN WITH THE SEED: the statements are not yours to turn. If you find one false, say at which input.
  Laid BY PROGRAM, IN A SANDBOX (cutbox-rows.mjs): the forced cells as the released guide's own fill.sh prints them over the translation a2a460fb98f17ba4… (all of the seat's roots in one cut). By AI agents, Wed Nov 11 2026. No macro, syntax, notation, axiom, sorry.
-/
import Derived.Test.YtmabapbdnafpfaaChecked
import GoSem.Claim
import GoSem.ClaimJoined
import GoSem.ClaimMapViews
import Derived.JoinedTies
import Derived.KernelRfl
namespace Go.Proofs.Ytmabapbdnafpfaa
/- THE CELL 'sum', in the pinned program and in every row, IS THE sha256 OF THE DUMP (.gsa) THAT YtmabapbdnafpfaaProg.lean LOADS. Nothing in Lean hashes anything: it is a label: what it is worth is what the hold of that sum in a sandbox is worth. -/
noncomputable def Try.pinned : Pinned := { name := "ytmabapbdnafpfaa", sum := "a2a460fb98f17ba4fb478e429ea65b483e8913b2569f1684f967830917167b20", checked := Try.checked }
namespace Rows
def none {H : Type} : Left H := { results := [], args := [] }

/-- 'gimmallaw15.DepsOf': WHATEVER THE INPUT: true; the input reads as it did. -/
def depsOfSpec : ChangeSpec := { name := "depsOf", fn := fun _ => fun
  | [d1, d2, d3] => { results := [.lit (.bool true)], args := [d1, d2, d3] }
  | _ => none }
def depsOfRow : OpenClaim := { program := "ytmabapbdnafpfaa", sum := "a2a460fb98f17ba4fb478e429ea65b483e8913b2569f1684f967830917167b20", func := "gimmal/gimmallaw15.DepsOf", spec := "depsOf", unfollowed := true, recurses := true, apart := false }
def DepsOfSaid : Prop := depsOfRow.holds Try.pinned (OpenSpec.ofChange depsOfSpec)

/-- ITS FALSE NEIGHBOUR: 'it returns false'. Refute it at one input. -/
def depsOfWrong : ChangeSpec := { name := "depsOf", fn := fun _ => fun
  | [d1, d2, d3] => { results := [.lit (.bool false)], args := [d1, d2, d3] }
  | _ => none }
def DepsOfWrongFalsely : Prop := depsOfRow.holds Try.pinned (OpenSpec.ofChange depsOfWrong)

/-- 'gimmallaw15.DepsTwo': WHATEVER THE INPUT: true; the input reads as it did. -/
def depsTwoSpec : ChangeSpec := { name := "depsTwo", fn := fun _ => fun
  | [d1, d2, d3] => { results := [.lit (.bool true)], args := [d1, d2, d3] }
  | _ => none }
def depsTwoRow : OpenClaim := { program := "ytmabapbdnafpfaa", sum := "a2a460fb98f17ba4fb478e429ea65b483e8913b2569f1684f967830917167b20", func := "gimmal/gimmallaw15.DepsTwo", spec := "depsTwo", unfollowed := true, recurses := true, apart := false }
def DepsTwoSaid : Prop := depsTwoRow.holds Try.pinned (OpenSpec.ofChange depsTwoSpec)

/-- ITS FALSE NEIGHBOUR: 'it returns false'. Refute it at one input. -/
def depsTwoWrong : ChangeSpec := { name := "depsTwo", fn := fun _ => fun
  | [d1, d2, d3] => { results := [.lit (.bool false)], args := [d1, d2, d3] }
  | _ => none }
def DepsTwoWrongFalsely : Prop := depsTwoRow.holds Try.pinned (OpenSpec.ofChange depsTwoWrong)

/-- 'gimmallaw15.DepsAdd': WHATEVER THE INPUT: true; the input reads as it did. -/
def depsAddSpec : ChangeSpec := { name := "depsAdd", fn := fun _ => fun
  | [d1, d2] => { results := [.lit (.bool true)], args := [d1, d2] }
  | _ => none }
def depsAddRow : OpenClaim := { program := "ytmabapbdnafpfaa", sum := "a2a460fb98f17ba4fb478e429ea65b483e8913b2569f1684f967830917167b20", func := "gimmal/gimmallaw15.DepsAdd", spec := "depsAdd", unfollowed := true, recurses := true, apart := false }
def DepsAddSaid : Prop := depsAddRow.holds Try.pinned (OpenSpec.ofChange depsAddSpec)

/-- ITS FALSE NEIGHBOUR: 'it returns false'. Refute it at one input. -/
def depsAddWrong : ChangeSpec := { name := "depsAdd", fn := fun _ => fun
  | [d1, d2] => { results := [.lit (.bool false)], args := [d1, d2] }
  | _ => none }
def DepsAddWrongFalsely : Prop := depsAddRow.holds Try.pinned (OpenSpec.ofChange depsAddWrong)

/-- 'gimmallaw15.DepsFar': WHATEVER THE INPUT: true; the input reads as it did. -/
def depsFarSpec : ChangeSpec := { name := "depsFar", fn := fun _ => fun
  | [d1, d2] => { results := [.lit (.bool true)], args := [d1, d2] }
  | _ => none }
def depsFarRow : OpenClaim := { program := "ytmabapbdnafpfaa", sum := "a2a460fb98f17ba4fb478e429ea65b483e8913b2569f1684f967830917167b20", func := "gimmal/gimmallaw15.DepsFar", spec := "depsFar", unfollowed := true, recurses := true, apart := false }
def DepsFarSaid : Prop := depsFarRow.holds Try.pinned (OpenSpec.ofChange depsFarSpec)

/-- ITS FALSE NEIGHBOUR: 'it returns false'. Refute it at one input. -/
def depsFarWrong : ChangeSpec := { name := "depsFar", fn := fun _ => fun
  | [d1, d2] => { results := [.lit (.bool false)], args := [d1, d2] }
  | _ => none }
def DepsFarWrongFalsely : Prop := depsFarRow.holds Try.pinned (OpenSpec.ofChange depsFarWrong)

/- THE SECOND FORM. 'bulk': how many values and letters a reading holds, each counted each time it is reached (what is shared counts as often as it is met; a slice's spare places count too). A statement '..UptoSaid' is the law's where the arguments, and the package variables that the reading takes, are together of bulk at most 1048576: NARROWER than '..Said'. Prove '..Said' where nothing that the law and all that it calls make is longer than what came in: it says more and counts as full. Else prove '..UptoSaid'. A law counts once. -/
mutual
def uptoBulk {H : Type} : DataW H → Nat
  | .lit (.string bytes) => bytes.length + 1
  | .lit _ => 1
  | .nil => 1
  | .ptr d => uptoBulk d + 1
  | .slice elems spare => uptoBulkAll elems + uptoBulkAll spare + 1
  | .agg parts => uptoBulkAll parts + 1
  | .iface _ d => uptoBulk d + 1
  | .map entries => uptoBulkEntries entries + 1
  | .held _ => 1
def uptoBulkAll {H : Type} : List (DataW H) → Nat
  | [] => 0
  | d :: r => uptoBulk d + uptoBulkAll r
def uptoBulkEntries {H : Type} : List (Lit × DataW H) → Nat
  | [] => 0
  | x :: r => uptoBulkEntry x + uptoBulkEntries r
def uptoBulkEntry {H : Type} : Lit × DataW H → Nat
  | (.string bytes, d) => bytes.length + uptoBulk d + 1
  | (_, d) => uptoBulk d + 1
 end
def uptoSmall : (H : Type) → List (DataW H) → Bool := fun _ ds => decide (uptoBulkAll ds ≤ 1048576)
def OpenSpec.upto (s : _root_.Go.ChangeSpec) : _root_.Go.OpenSpec := { _root_.Go.OpenSpec.ofChange s with cond := some uptoSmall }

/-- 'gimmallaw15.DepsOf', WHERE WHAT IT READS IS OF BULK AT MOST 1048576: true; the input reads as it did. -/
def depsOfUptoRow : OpenClaim := { program := "ytmabapbdnafpfaa", sum := "a2a460fb98f17ba4fb478e429ea65b483e8913b2569f1684f967830917167b20", func := "gimmal/gimmallaw15.DepsOf", spec := "depsOf", unfollowed := true, recurses := true, apart := false, narrowed := true }
def DepsOfUptoSaid : Prop := depsOfUptoRow.holds Try.pinned (OpenSpec.upto depsOfSpec)

/-- 'gimmallaw15.DepsTwo', WHERE WHAT IT READS IS OF BULK AT MOST 1048576: true; the input reads as it did. -/
def depsTwoUptoRow : OpenClaim := { program := "ytmabapbdnafpfaa", sum := "a2a460fb98f17ba4fb478e429ea65b483e8913b2569f1684f967830917167b20", func := "gimmal/gimmallaw15.DepsTwo", spec := "depsTwo", unfollowed := true, recurses := true, apart := false, narrowed := true }
def DepsTwoUptoSaid : Prop := depsTwoUptoRow.holds Try.pinned (OpenSpec.upto depsTwoSpec)

/-- 'gimmallaw15.DepsAdd', WHERE WHAT IT READS IS OF BULK AT MOST 1048576: true; the input reads as it did. -/
def depsAddUptoRow : OpenClaim := { program := "ytmabapbdnafpfaa", sum := "a2a460fb98f17ba4fb478e429ea65b483e8913b2569f1684f967830917167b20", func := "gimmal/gimmallaw15.DepsAdd", spec := "depsAdd", unfollowed := true, recurses := true, apart := false, narrowed := true }
def DepsAddUptoSaid : Prop := depsAddUptoRow.holds Try.pinned (OpenSpec.upto depsAddSpec)

/-- 'gimmallaw15.DepsFar', WHERE WHAT IT READS IS OF BULK AT MOST 1048576: true; the input reads as it did. -/
def depsFarUptoRow : OpenClaim := { program := "ytmabapbdnafpfaa", sum := "a2a460fb98f17ba4fb478e429ea65b483e8913b2569f1684f967830917167b20", func := "gimmal/gimmallaw15.DepsFar", spec := "depsFar", unfollowed := true, recurses := true, apart := false, narrowed := true }
def DepsFarUptoSaid : Prop := depsFarUptoRow.holds Try.pinned (OpenSpec.upto depsFarSpec)

end Rows
end Go.Proofs.Ytmabapbdnafpfaa
