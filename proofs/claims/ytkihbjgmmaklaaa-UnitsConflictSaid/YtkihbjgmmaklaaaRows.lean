/-
  No cell of these rows narrows 'for every input' (looked for: loops, veiled, ifaces, maps, wideKeys, modest, calm, conditions, laid).
  DERIVED. THE GIVEN ROWS OF THIS SEAT. 5 by the template 'for every input the law returns true; each argument reads behind the call as it read before'; 0 by the template 'total and deterministic' (their statements: YtkihbjgmmaklaaaTotals.lean).
  GIVEN WITH THE SEED: the statements are not yours to turn. If you find one false, say at which input.
  Laid BY PROGRAM, IN A SANDBOX (cutbox-rows.mjs): the forced cells as the released guide's own fill.sh prints them over the translation e400055fae64ea6a… (all of the seat's roots in one cut). By AI agents, Wed Nov 11 2026. No macro, syntax, notation, axiom, sorry.
-/
import Derived.Test.YtkihbjgmmaklaaaChecked
import GoSem.Claim
import GoSem.ClaimJoined
import GoSem.ClaimMapViews
import Derived.JoinedTies
import Derived.KernelRfl
namespace Go.Proofs.Ytkihbjgmmaklaaa
/- THE CELL 'sum', in the pinned program and in every row, IS THE sha256 OF THE DUMP (.gsa) THAT YtkihbjgmmaklaaaProg.lean LOADS. Nothing in Lean hashes anything: it is a label: what it is worth is what the hold of that sum in a sandbox is worth. -/
noncomputable def Try.pinned : Pinned := { name := "ytkihbjgmmaklaaa", sum := "e400055fae64ea6a58d791451cad881028e4d213f673bfc7b807fc5fbeb7be24", checked := Try.checked }
namespace Rows
def none {H : Type} : Left H := { results := [], args := [] }

/-- 'gimmallaw14.UnitsBounds': WHATEVER THE INPUT: true; the input reads as it did. -/
def unitsBoundsSpec : ChangeSpec := { name := "unitsBounds", fn := fun _ => fun
  | [d1, d2, d3, d4] => { results := [.lit (.bool true)], args := [d1, d2, d3, d4] }
  | _ => none }
def unitsBoundsRow : OpenClaim := { program := "ytkihbjgmmaklaaa", sum := "e400055fae64ea6a58d791451cad881028e4d213f673bfc7b807fc5fbeb7be24", func := "gimmal/gimmallaw14.UnitsBounds", spec := "unitsBounds", unfollowed := true, recurses := true, apart := false }
def UnitsBoundsSaid : Prop := unitsBoundsRow.holds Try.pinned (OpenSpec.ofChange unitsBoundsSpec)

/-- ITS FALSE NEIGHBOUR: 'it returns false'. Refute it at one input. -/
def unitsBoundsWrong : ChangeSpec := { name := "unitsBounds", fn := fun _ => fun
  | [d1, d2, d3, d4] => { results := [.lit (.bool false)], args := [d1, d2, d3, d4] }
  | _ => none }
def UnitsBoundsWrongFalsely : Prop := unitsBoundsRow.holds Try.pinned (OpenSpec.ofChange unitsBoundsWrong)

/-- 'gimmallaw14.UnitsMay': WHATEVER THE INPUT: true; the input reads as it did. -/
def unitsMaySpec : ChangeSpec := { name := "unitsMay", fn := fun _ => fun
  | [d1, d2] => { results := [.lit (.bool true)], args := [d1, d2] }
  | _ => none }
def unitsMayRow : OpenClaim := { program := "ytkihbjgmmaklaaa", sum := "e400055fae64ea6a58d791451cad881028e4d213f673bfc7b807fc5fbeb7be24", func := "gimmal/gimmallaw14.UnitsMay", spec := "unitsMay", unfollowed := true, recurses := true, apart := false }
def UnitsMaySaid : Prop := unitsMayRow.holds Try.pinned (OpenSpec.ofChange unitsMaySpec)

/-- ITS FALSE NEIGHBOUR: 'it returns false'. Refute it at one input. -/
def unitsMayWrong : ChangeSpec := { name := "unitsMay", fn := fun _ => fun
  | [d1, d2] => { results := [.lit (.bool false)], args := [d1, d2] }
  | _ => none }
def UnitsMayWrongFalsely : Prop := unitsMayRow.holds Try.pinned (OpenSpec.ofChange unitsMayWrong)

/-- 'gimmallaw14.UnitsNodes': WHATEVER THE INPUT: true; the input reads as it did. -/
def unitsNodesSpec : ChangeSpec := { name := "unitsNodes", fn := fun _ => fun
  | [d1, d2, d3, d4] => { results := [.lit (.bool true)], args := [d1, d2, d3, d4] }
  | _ => none }
def unitsNodesRow : OpenClaim := { program := "ytkihbjgmmaklaaa", sum := "e400055fae64ea6a58d791451cad881028e4d213f673bfc7b807fc5fbeb7be24", func := "gimmal/gimmallaw14.UnitsNodes", spec := "unitsNodes", unfollowed := true, recurses := true, apart := false }
def UnitsNodesSaid : Prop := unitsNodesRow.holds Try.pinned (OpenSpec.ofChange unitsNodesSpec)

/-- ITS FALSE NEIGHBOUR: 'it returns false'. Refute it at one input. -/
def unitsNodesWrong : ChangeSpec := { name := "unitsNodes", fn := fun _ => fun
  | [d1, d2, d3, d4] => { results := [.lit (.bool false)], args := [d1, d2, d3, d4] }
  | _ => none }
def UnitsNodesWrongFalsely : Prop := unitsNodesRow.holds Try.pinned (OpenSpec.ofChange unitsNodesWrong)

/-- 'gimmallaw14.UnitsConflict': WHATEVER THE INPUT: true; the input reads as it did. -/
def unitsConflictSpec : ChangeSpec := { name := "unitsConflict", fn := fun _ => fun
  | [d1, d2] => { results := [.lit (.bool true)], args := [d1, d2] }
  | _ => none }
def unitsConflictRow : OpenClaim := { program := "ytkihbjgmmaklaaa", sum := "e400055fae64ea6a58d791451cad881028e4d213f673bfc7b807fc5fbeb7be24", func := "gimmal/gimmallaw14.UnitsConflict", spec := "unitsConflict", unfollowed := true, recurses := true, apart := false }
def UnitsConflictSaid : Prop := unitsConflictRow.holds Try.pinned (OpenSpec.ofChange unitsConflictSpec)

/-- ITS FALSE NEIGHBOUR: 'it returns false'. Refute it at one input. -/
def unitsConflictWrong : ChangeSpec := { name := "unitsConflict", fn := fun _ => fun
  | [d1, d2] => { results := [.lit (.bool false)], args := [d1, d2] }
  | _ => none }
def UnitsConflictWrongFalsely : Prop := unitsConflictRow.holds Try.pinned (OpenSpec.ofChange unitsConflictWrong)

/-- 'gimmallaw14.UnitsParts': WHATEVER THE INPUT: true; the input reads as it did. -/
def unitsPartsSpec : ChangeSpec := { name := "unitsParts", fn := fun _ => fun
  | [d1, d2, d3] => { results := [.lit (.bool true)], args := [d1, d2, d3] }
  | _ => none }
def unitsPartsRow : OpenClaim := { program := "ytkihbjgmmaklaaa", sum := "e400055fae64ea6a58d791451cad881028e4d213f673bfc7b807fc5fbeb7be24", func := "gimmal/gimmallaw14.UnitsParts", spec := "unitsParts", unfollowed := true, recurses := true, apart := false }
def UnitsPartsSaid : Prop := unitsPartsRow.holds Try.pinned (OpenSpec.ofChange unitsPartsSpec)

/-- ITS FALSE NEIGHBOUR: 'it returns false'. Refute it at one input. -/
def unitsPartsWrong : ChangeSpec := { name := "unitsParts", fn := fun _ => fun
  | [d1, d2, d3] => { results := [.lit (.bool false)], args := [d1, d2, d3] }
  | _ => none }
def UnitsPartsWrongFalsely : Prop := unitsPartsRow.holds Try.pinned (OpenSpec.ofChange unitsPartsWrong)

/- THE SECOND FORM. 'bulk': how many values and letters a reading holds, each counted each time it is reached (what is shared counts as often as it is met; a slice's spare places count too). A statement '..UptoSaid' is the law's where the arguments, and the package variables that the reading takes, are together of bulk at most 1048576: NARROWER than '..Said'. Prove '..Said' where nothing that the law and all that it calls make is longer than what came in: it says more and counts as full. Else prove '..UptoSaid'. A law counts once. -/
mutual
def uptoBulk {H : Type} : DataW H → Nat
  | .lit (.string bytes) => bytes.length + 1
  | .lit _ => 1
  | .nil => 1
  | .ptr d => uptoBulk d + 1
  | .slice elems spare => uptoBulkAll elems + uptoBulkAll spare + 1
  | .agg parts => uptoBulkAll parts + 1
  | .iface _ d => uptoBulk d + 1
  | .map entries => uptoBulkEntries entries + 1
  | .held _ => 1
def uptoBulkAll {H : Type} : List (DataW H) → Nat
  | [] => 0
  | d :: r => uptoBulk d + uptoBulkAll r
def uptoBulkEntries {H : Type} : List (Lit × DataW H) → Nat
  | [] => 0
  | x :: r => uptoBulkEntry x + uptoBulkEntries r
def uptoBulkEntry {H : Type} : Lit × DataW H → Nat
  | (.string bytes, d) => bytes.length + uptoBulk d + 1
  | (_, d) => uptoBulk d + 1
 end
def uptoSmall : (H : Type) → List (DataW H) → Bool := fun _ ds => decide (uptoBulkAll ds ≤ 1048576)
def OpenSpec.upto (s : _root_.Go.ChangeSpec) : _root_.Go.OpenSpec := { _root_.Go.OpenSpec.ofChange s with cond := some uptoSmall }

/-- 'gimmallaw14.UnitsBounds', WHERE WHAT IT READS IS OF BULK AT MOST 1048576: true; the input reads as it did. -/
def unitsBoundsUptoRow : OpenClaim := { program := "ytkihbjgmmaklaaa", sum := "e400055fae64ea6a58d791451cad881028e4d213f673bfc7b807fc5fbeb7be24", func := "gimmal/gimmallaw14.UnitsBounds", spec := "unitsBounds", unfollowed := true, recurses := true, apart := false, narrowed := true }
def UnitsBoundsUptoSaid : Prop := unitsBoundsUptoRow.holds Try.pinned (OpenSpec.upto unitsBoundsSpec)

/-- 'gimmallaw14.UnitsMay', WHERE WHAT IT READS IS OF BULK AT MOST 1048576: true; the input reads as it did. -/
def unitsMayUptoRow : OpenClaim := { program := "ytkihbjgmmaklaaa", sum := "e400055fae64ea6a58d791451cad881028e4d213f673bfc7b807fc5fbeb7be24", func := "gimmal/gimmallaw14.UnitsMay", spec := "unitsMay", unfollowed := true, recurses := true, apart := false, narrowed := true }
def UnitsMayUptoSaid : Prop := unitsMayUptoRow.holds Try.pinned (OpenSpec.upto unitsMaySpec)

/-- 'gimmallaw14.UnitsNodes', WHERE WHAT IT READS IS OF BULK AT MOST 1048576: true; the input reads as it did. -/
def unitsNodesUptoRow : OpenClaim := { program := "ytkihbjgmmaklaaa", sum := "e400055fae64ea6a58d791451cad881028e4d213f673bfc7b807fc5fbeb7be24", func := "gimmal/gimmallaw14.UnitsNodes", spec := "unitsNodes", unfollowed := true, recurses := true, apart := false, narrowed := true }
def UnitsNodesUptoSaid : Prop := unitsNodesUptoRow.holds Try.pinned (OpenSpec.upto unitsNodesSpec)

/-- 'gimmallaw14.UnitsConflict', WHERE WHAT IT READS IS OF BULK AT MOST 1048576: true; the input reads as it did. -/
def unitsConflictUptoRow : OpenClaim := { program := "ytkihbjgmmaklaaa", sum := "e400055fae64ea6a58d791451cad881028e4d213f673bfc7b807fc5fbeb7be24", func := "gimmal/gimmallaw14.UnitsConflict", spec := "unitsConflict", unfollowed := true, recurses := true, apart := false, narrowed := true }
def UnitsConflictUptoSaid : Prop := unitsConflictUptoRow.holds Try.pinned (OpenSpec.upto unitsConflictSpec)

/-- 'gimmallaw14.UnitsParts', WHERE WHAT IT READS IS OF BULK AT MOST 1048576: true; the input reads as it did. -/
def unitsPartsUptoRow : OpenClaim := { program := "ytkihbjgmmaklaaa", sum := "e400055fae64ea6a58d791451cad881028e4d213f673bfc7b807fc5fbeb7be24", func := "gimmal/gimmallaw14.UnitsParts", spec := "unitsParts", unfollowed := true, recurses := true, apart := false, narrowed := true }
def UnitsPartsUptoSaid : Prop := unitsPartsUptoRow.holds Try.pinned (OpenSpec.upto unitsPartsSpec)

end Rows
end Go.Proofs.Ytkihbjgmmaklaaa
