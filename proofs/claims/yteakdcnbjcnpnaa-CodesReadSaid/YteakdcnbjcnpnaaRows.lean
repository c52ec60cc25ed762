/-
  No cell of these rows narrows 'for every input' (looked for: loops, veiled, ifaces, maps, wideKeys, modest, calm, conditions, laid).
  DERIVED. THE GIVEN ROWS OF THIS SEAT. 3 by the template 'for every input the law returns true; each argument reads behind the call as it read before'; 0 by the template 'total and deterministic' (their statements: YteakdcnbjcnpnaaTotals.lean).
  GIVEN WITH THE SEED: the statements are not yours to turn. If you find one false, say at which input.
  Laid BY PROGRAM, IN A SANDBOX (cutbox-rows.mjs): the forced cells as the released guide's own fill.sh prints them over the translation b59f368651747f5b… (all of the seat's roots in one cut). By AI agents, Wed Nov 11 2026. No macro, syntax, notation, axiom, sorry.
-/
import Derived.Test.YteakdcnbjcnpnaaChecked
import GoSem.Claim
import GoSem.ClaimJoined
import GoSem.ClaimMapViews
import Derived.JoinedTies
import Derived.KernelRfl
namespace Go.Proofs.Yteakdcnbjcnpnaa
/- THE CELL 'sum', in the pinned program and in every row, IS THE sha256 OF THE DUMP (.gsa) THAT YteakdcnbjcnpnaaProg.lean LOADS. Nothing in Lean hashes anything: it is a label: what it is worth is what the hold of that sum in a sandbox is worth. -/
noncomputable def Try.pinned : Pinned := { name := "yteakdcnbjcnpnaa", sum := "b59f368651747f5ba696a47edcab988ea7d47372619a188fed7448532b75ae04", checked := Try.checked }
namespace Rows
def none {H : Type} : Left H := { results := [], args := [] }

/-- 'gimmallaw01.CodesWrite': WHATEVER THE INPUT: true; the input reads as it did. -/
def codesWriteSpec : ChangeSpec := { name := "codesWrite", fn := fun _ => fun
  | [d] => { results := [.lit (.bool true)], args := [d] }
  | _ => none }
def codesWriteRow : OpenClaim := { program := "yteakdcnbjcnpnaa", sum := "b59f368651747f5ba696a47edcab988ea7d47372619a188fed7448532b75ae04", func := "gimmal/gimmallaw01.CodesWrite", spec := "codesWrite", apart := false }
def CodesWriteSaid : Prop := codesWriteRow.holds Try.pinned (OpenSpec.ofChange codesWriteSpec)

/-- ITS FALSE NEIGHBOUR: 'it returns false'. Refute it at one input. -/
def codesWriteWrong : ChangeSpec := { name := "codesWrite", fn := fun _ => fun
  | [d] => { results := [.lit (.bool false)], args := [d] }
  | _ => none }
def CodesWriteWrongFalsely : Prop := codesWriteRow.holds Try.pinned (OpenSpec.ofChange codesWriteWrong)

/-- 'gimmallaw01.CodesRead': WHATEVER THE INPUT: true; the input reads as it did. -/
def codesReadSpec : ChangeSpec := { name := "codesRead", fn := fun _ => fun
  | [d1, d2] => { results := [.lit (.bool true)], args := [d1, d2] }
  | _ => none }
def codesReadRow : OpenClaim := { program := "yteakdcnbjcnpnaa", sum := "b59f368651747f5ba696a47edcab988ea7d47372619a188fed7448532b75ae04", func := "gimmal/gimmallaw01.CodesRead", spec := "codesRead", unfollowed := true, recurses := true, apart := false }
def CodesReadSaid : Prop := codesReadRow.holds Try.pinned (OpenSpec.ofChange codesReadSpec)

/-- ITS FALSE NEIGHBOUR: 'it returns false'. Refute it at one input. -/
def codesReadWrong : ChangeSpec := { name := "codesRead", fn := fun _ => fun
  | [d1, d2] => { results := [.lit (.bool false)], args := [d1, d2] }
  | _ => none }
def CodesReadWrongFalsely : Prop := codesReadRow.holds Try.pinned (OpenSpec.ofChange codesReadWrong)

/-- 'gimmallaw01.CodesBack': WHATEVER THE INPUT: true; the input reads as it did. -/
def codesBackSpec : ChangeSpec := { name := "codesBack", fn := fun _ => fun
  | [d] => { results := [.lit (.bool true)], args := [d] }
  | _ => none }
def codesBackRow : OpenClaim := { program := "yteakdcnbjcnpnaa", sum := "b59f368651747f5ba696a47edcab988ea7d47372619a188fed7448532b75ae04", func := "gimmal/gimmallaw01.CodesBack", spec := "codesBack", unfollowed := true, recurses := true, apart := false }
def CodesBackSaid : Prop := codesBackRow.holds Try.pinned (OpenSpec.ofChange codesBackSpec)

/-- ITS FALSE NEIGHBOUR: 'it returns false'. Refute it at one input. -/
def codesBackWrong : ChangeSpec := { name := "codesBack", fn := fun _ => fun
  | [d] => { results := [.lit (.bool false)], args := [d] }
  | _ => none }
def CodesBackWrongFalsely : Prop := codesBackRow.holds Try.pinned (OpenSpec.ofChange codesBackWrong)

/- THE SECOND FORM. 'bulk': how many values and letters a reading holds, each counted each time it is reached (what is shared counts as often as it is met; a slice's spare places count too). A statement '..UptoSaid' is the law's where the arguments, and the package variables that the reading takes, are together of bulk at most 1048576: NARROWER than '..Said'. Prove '..Said' where nothing that the law and all that it calls make is longer than what came in: it says more and counts as full. Else prove '..UptoSaid'. A law counts once. -/
mutual
def uptoBulk {H : Type} : DataW H → Nat
  | .lit (.string bytes) => bytes.length + 1
  | .lit _ => 1
  | .nil => 1
  | .ptr d => uptoBulk d + 1
  | .slice elems spare => uptoBulkAll elems + uptoBulkAll spare + 1
  | .agg parts => uptoBulkAll parts + 1
  | .iface _ d => uptoBulk d + 1
  | .map entries => uptoBulkEntries entries + 1
  | .held _ => 1
def uptoBulkAll {H : Type} : List (DataW H) → Nat
  | [] => 0
  | d :: r => uptoBulk d + uptoBulkAll r
def uptoBulkEntries {H : Type} : List (Lit × DataW H) → Nat
  | [] => 0
  | x :: r => uptoBulkEntry x + uptoBulkEntries r
def uptoBulkEntry {H : Type} : Lit × DataW H → Nat
  | (.string bytes, d) => bytes.length + uptoBulk d + 1
  | (_, d) => uptoBulk d + 1
 end
def uptoSmall : (H : Type) → List (DataW H) → Bool := fun _ ds => decide (uptoBulkAll ds ≤ 1048576)
def OpenSpec.upto (s : _root_.Go.ChangeSpec) : _root_.Go.OpenSpec := { _root_.Go.OpenSpec.ofChange s with cond := some uptoSmall }

/-- 'gimmallaw01.CodesWrite', WHERE WHAT IT READS IS OF BULK AT MOST 1048576: true; the input reads as it did. -/
def codesWriteUptoRow : OpenClaim := { program := "yteakdcnbjcnpnaa", sum := "b59f368651747f5ba696a47edcab988ea7d47372619a188fed7448532b75ae04", func := "gimmal/gimmallaw01.CodesWrite", spec := "codesWrite", apart := false, narrowed := true }
def CodesWriteUptoSaid : Prop := codesWriteUptoRow.holds Try.pinned (OpenSpec.upto codesWriteSpec)

/-- 'gimmallaw01.CodesRead', WHERE WHAT IT READS IS OF BULK AT MOST 1048576: true; the input reads as it did. -/
def codesReadUptoRow : OpenClaim := { program := "yteakdcnbjcnpnaa", sum := "b59f368651747f5ba696a47edcab988ea7d47372619a188fed7448532b75ae04", func := "gimmal/gimmallaw01.CodesRead", spec := "codesRead", unfollowed := true, recurses := true, apart := false, narrowed := true }
def CodesReadUptoSaid : Prop := codesReadUptoRow.holds Try.pinned (OpenSpec.upto codesReadSpec)

/-- 'gimmallaw01.CodesBack', WHERE WHAT IT READS IS OF BULK AT MOST 1048576: true; the input reads as it did. -/
def codesBackUptoRow : OpenClaim := { program := "yteakdcnbjcnpnaa", sum := "b59f368651747f5ba696a47edcab988ea7d47372619a188fed7448532b75ae04", func := "gimmal/gimmallaw01.CodesBack", spec := "codesBack", unfollowed := true, recurses := true, apart := false, narrowed := true }
def CodesBackUptoSaid : Prop := codesBackUptoRow.holds Try.pinned (OpenSpec.upto codesBackSpec)

end Rows
end Go.Proofs.Yteakdcnbjcnpnaa
