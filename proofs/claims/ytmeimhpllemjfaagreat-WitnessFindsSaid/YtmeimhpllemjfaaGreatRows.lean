/-
  No cell of these rows narrows 'for every input' (looked for: loops, veiled, ifaces, maps, wideKeys, modest, calm, conditions, laid).
  DERIVED. THE GIVEN ROWS OF THIS SEAT. 4 by the template 'for every input the law returns true; each argument reads behind the call as it read before'; 0 by the template 'total and deterministic' (their statements: YtmeimhpllemjfaaGreatTotals.lean).
  GIVEN WITH THE SEED: the statements are not yours to turn. If you find one false, say at which input.
  Laid BY PROGRAM, IN A SANDBOX (cutbox-rows.mjs): the forced cells as the released guide's own fill.sh prints them over the translation f3d88469438110b8… (all of the seat's roots in one cut). By AI agents, Wed Nov 11 2026. No macro, syntax, notation, axiom, sorry.
-/
import Derived.Test.YtmeimhpllemjfaaGreatChecked
import GoSem.Claim
import GoSem.ClaimJoined
import GoSem.ClaimMapViews
import Derived.JoinedTies
import Derived.KernelRfl
namespace Go.Proofs.YtmeimhpllemjfaaGreat
/- THE CELL 'sum', in the pinned program and in every row, IS THE sha256 OF THE DUMP (.gsa) THAT YtmeimhpllemjfaaGreatProg.lean LOADS. Nothing in Lean hashes anything: it is a label: what it is worth is what the hold of that sum in a sandbox is worth. -/
noncomputable def Tryz.pinned : Pinned := { name := "ytmeimhpllemjfaagreat", sum := "f3d88469438110b849479a99e36c4a82fa16d1dba3228cee751002fe56c71d5b", checked := Tryz.checked }
namespace Rows
def none {H : Type} : Left H := { results := [], args := [] }

/-- 'gimmallaw17.WitnessFair': WHATEVER THE INPUT: true; the input reads as it did. -/
def witnessFairSpec : ChangeSpec := { name := "witnessFair", fn := fun _ => fun
  | [d1, d2, d3] => { results := [.lit (.bool true)], args := [d1, d2, d3] }
  | _ => none }
def witnessFairRow : OpenClaim := { program := "ytmeimhpllemjfaagreat", sum := "f3d88469438110b849479a99e36c4a82fa16d1dba3228cee751002fe56c71d5b", func := "gimmal/gimmallaw17.WitnessFair", spec := "witnessFair", unfollowed := true, recurses := true, plainKeys := false, apart := false }
def WitnessFairSaid : Prop := witnessFairRow.holds Tryz.pinned (OpenSpec.ofChange witnessFairSpec)

/-- ITS FALSE NEIGHBOUR: 'it returns false'. Refute it at one input. -/
def witnessFairWrong : ChangeSpec := { name := "witnessFair", fn := fun _ => fun
  | [d1, d2, d3] => { results := [.lit (.bool false)], args := [d1, d2, d3] }
  | _ => none }
def WitnessFairWrongFalsely : Prop := witnessFairRow.holds Tryz.pinned (OpenSpec.ofChange witnessFairWrong)

/-- 'gimmallaw17.WitnessSearch': WHATEVER THE INPUT: true; the input reads as it did. -/
def witnessSearchSpec : ChangeSpec := { name := "witnessSearch", fn := fun _ => fun
  | [d1, d2] => { results := [.lit (.bool true)], args := [d1, d2] }
  | _ => none }
def witnessSearchRow : OpenClaim := { program := "ytmeimhpllemjfaagreat", sum := "f3d88469438110b849479a99e36c4a82fa16d1dba3228cee751002fe56c71d5b", func := "gimmal/gimmallaw17.WitnessSearch", spec := "witnessSearch", unfollowed := true, recurses := true, plainKeys := false, apart := false }
def WitnessSearchSaid : Prop := witnessSearchRow.holds Tryz.pinned (OpenSpec.ofChange witnessSearchSpec)

/-- ITS FALSE NEIGHBOUR: 'it returns false'. Refute it at one input. -/
def witnessSearchWrong : ChangeSpec := { name := "witnessSearch", fn := fun _ => fun
  | [d1, d2] => { results := [.lit (.bool false)], args := [d1, d2] }
  | _ => none }
def WitnessSearchWrongFalsely : Prop := witnessSearchRow.holds Tryz.pinned (OpenSpec.ofChange witnessSearchWrong)

/-- 'gimmallaw17.WitnessFinds': WHATEVER THE INPUT: true; the input reads as it did. -/
def witnessFindsSpec : ChangeSpec := { name := "witnessFinds", fn := fun _ => fun
  | [d1, d2] => { results := [.lit (.bool true)], args := [d1, d2] }
  | _ => none }
def witnessFindsRow : OpenClaim := { program := "ytmeimhpllemjfaagreat", sum := "f3d88469438110b849479a99e36c4a82fa16d1dba3228cee751002fe56c71d5b", func := "gimmal/gimmallaw17.WitnessFinds", spec := "witnessFinds", unfollowed := true, recurses := true, plainKeys := false, apart := false }
def WitnessFindsSaid : Prop := witnessFindsRow.holds Tryz.pinned (OpenSpec.ofChange witnessFindsSpec)

/-- ITS FALSE NEIGHBOUR: 'it returns false'. Refute it at one input. -/
def witnessFindsWrong : ChangeSpec := { name := "witnessFinds", fn := fun _ => fun
  | [d1, d2] => { results := [.lit (.bool false)], args := [d1, d2] }
  | _ => none }
def WitnessFindsWrongFalsely : Prop := witnessFindsRow.holds Tryz.pinned (OpenSpec.ofChange witnessFindsWrong)

/-- 'gimmallaw17.WitnessSerial': WHATEVER THE INPUT: true; the input reads as it did. -/
def witnessSerialSpec : ChangeSpec := { name := "witnessSerial", fn := fun _ => fun
  | [d1, d2, d3] => { results := [.lit (.bool true)], args := [d1, d2, d3] }
  | _ => none }
def witnessSerialRow : OpenClaim := { program := "ytmeimhpllemjfaagreat", sum := "f3d88469438110b849479a99e36c4a82fa16d1dba3228cee751002fe56c71d5b", func := "gimmal/gimmallaw17.WitnessSerial", spec := "witnessSerial", unfollowed := true, recurses := true, plainKeys := false, apart := false }
def WitnessSerialSaid : Prop := witnessSerialRow.holds Tryz.pinned (OpenSpec.ofChange witnessSerialSpec)

/-- ITS FALSE NEIGHBOUR: 'it returns false'. Refute it at one input. -/
def witnessSerialWrong : ChangeSpec := { name := "witnessSerial", fn := fun _ => fun
  | [d1, d2, d3] => { results := [.lit (.bool false)], args := [d1, d2, d3] }
  | _ => none }
def WitnessSerialWrongFalsely : Prop := witnessSerialRow.holds Tryz.pinned (OpenSpec.ofChange witnessSerialWrong)

/- THE SECOND FORM. 'bulk': how many values and letters a reading holds, each counted each time it is reached (what is shared counts as often as it is met; a slice's spare places count too). A statement '..UptoSaid' is the law's where the arguments, and the package variables that the reading takes, are together of bulk at most 1048576: NARROWER than '..Said'. Prove '..Said' where nothing that the law and all that it calls make is longer than what came in: it says more and counts as full. Else prove '..UptoSaid'. A law counts once. -/
mutual
def uptoBulk {H : Type} : DataW H → Nat
  | .lit (.string bytes) => bytes.length + 1
  | .lit _ => 1
  | .nil => 1
  | .ptr d => uptoBulk d + 1
  | .slice elems spare => uptoBulkAll elems + uptoBulkAll spare + 1
  | .agg parts => uptoBulkAll parts + 1
  | .iface _ d => uptoBulk d + 1
  | .map entries => uptoBulkEntries entries + 1
  | .held _ => 1
def uptoBulkAll {H : Type} : List (DataW H) → Nat
  | [] => 0
  | d :: r => uptoBulk d + uptoBulkAll r
def uptoBulkEntries {H : Type} : List (Lit × DataW H) → Nat
  | [] => 0
  | x :: r => uptoBulkEntry x + uptoBulkEntries r
def uptoBulkEntry {H : Type} : Lit × DataW H → Nat
  | (.string bytes, d) => bytes.length + uptoBulk d + 1
  | (_, d) => uptoBulk d + 1
 end
def uptoSmall : (H : Type) → List (DataW H) → Bool := fun _ ds => decide (uptoBulkAll ds ≤ 1048576)
def OpenSpec.upto (s : _root_.Go.ChangeSpec) : _root_.Go.OpenSpec := { _root_.Go.OpenSpec.ofChange s with cond := some uptoSmall }

/-- 'gimmallaw17.WitnessFair', WHERE WHAT IT READS IS OF BULK AT MOST 1048576: true; the input reads as it did. -/
def witnessFairUptoRow : OpenClaim := { program := "ytmeimhpllemjfaagreat", sum := "f3d88469438110b849479a99e36c4a82fa16d1dba3228cee751002fe56c71d5b", func := "gimmal/gimmallaw17.WitnessFair", spec := "witnessFair", unfollowed := true, recurses := true, plainKeys := false, apart := false, narrowed := true }
def WitnessFairUptoSaid : Prop := witnessFairUptoRow.holds Tryz.pinned (OpenSpec.upto witnessFairSpec)

/-- 'gimmallaw17.WitnessSearch', WHERE WHAT IT READS IS OF BULK AT MOST 1048576: true; the input reads as it did. -/
def witnessSearchUptoRow : OpenClaim := { program := "ytmeimhpllemjfaagreat", sum := "f3d88469438110b849479a99e36c4a82fa16d1dba3228cee751002fe56c71d5b", func := "gimmal/gimmallaw17.WitnessSearch", spec := "witnessSearch", unfollowed := true, recurses := true, plainKeys := false, apart := false, narrowed := true }
def WitnessSearchUptoSaid : Prop := witnessSearchUptoRow.holds Tryz.pinned (OpenSpec.upto witnessSearchSpec)

/-- 'gimmallaw17.WitnessFinds', WHERE WHAT IT READS IS OF BULK AT MOST 1048576: true; the input reads as it did. -/
def witnessFindsUptoRow : OpenClaim := { program := "ytmeimhpllemjfaagreat", sum := "f3d88469438110b849479a99e36c4a82fa16d1dba3228cee751002fe56c71d5b", func := "gimmal/gimmallaw17.WitnessFinds", spec := "witnessFinds", unfollowed := true, recurses := true, plainKeys := false, apart := false, narrowed := true }
def WitnessFindsUptoSaid : Prop := witnessFindsUptoRow.holds Tryz.pinned (OpenSpec.upto witnessFindsSpec)

/-- 'gimmallaw17.WitnessSerial', WHERE WHAT IT READS IS OF BULK AT MOST 1048576: true; the input reads as it did. -/
def witnessSerialUptoRow : OpenClaim := { program := "ytmeimhpllemjfaagreat", sum := "f3d88469438110b849479a99e36c4a82fa16d1dba3228cee751002fe56c71d5b", func := "gimmal/gimmallaw17.WitnessSerial", spec := "witnessSerial", unfollowed := true, recurses := true, plainKeys := false, apart := false, narrowed := true }
def WitnessSerialUptoSaid : Prop := witnessSerialUptoRow.holds Tryz.pinned (OpenSpec.upto witnessSerialSpec)

end Rows
end Go.Proofs.YtmeimhpllemjfaaGreat
