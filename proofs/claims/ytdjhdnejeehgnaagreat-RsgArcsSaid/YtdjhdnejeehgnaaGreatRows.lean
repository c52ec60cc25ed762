/-
  No cell of these rows narrows 'for every input' (looked for: loops, veiled, ifaces, maps, wideKeys, modest, calm, conditions, laid).
  DERIVED. THE GIVEN ROWS OF THIS SEAT. 5 by the template 'for every input the law returns true; each argument reads behind the call as it read before'; 0 by the template 'total and deterministic' (their statements: YtdjhdnejeehgnaaGreatTotals.lean).
  GIVEN WITH THE SEED: the statements are not yours to turn. If you find one false, say at which input.
  Laid BY PROGRAM, IN A SANDBOX (cutbox-rows.mjs): the forced cells as the released guide's own fill.sh prints them over the translation 10c4b17cd9b6216a… (all of the seat's roots in one cut). By AI agents, Wed Nov 11 2026. No macro, syntax, notation, axiom, sorry.
-/
import Derived.Test.YtdjhdnejeehgnaaGreatChecked
import GoSem.Claim
import GoSem.ClaimJoined
import GoSem.ClaimMapViews
import Derived.JoinedTies
import Derived.KernelRfl
namespace Go.Proofs.YtdjhdnejeehgnaaGreat
/- THE CELL 'sum', in the pinned program and in every row, IS THE sha256 OF THE DUMP (.gsa) THAT YtdjhdnejeehgnaaGreatProg.lean LOADS. Nothing in Lean hashes anything: it is a label: what it is worth is what the hold of that sum in a sandbox is worth. -/
noncomputable def Tryz.pinned : Pinned := { name := "ytdjhdnejeehgnaagreat", sum := "10c4b17cd9b6216ae8b5957d983c21063649add4aed90b9f9041eb718dd2cf7f", checked := Tryz.checked }
namespace Rows
def none {H : Type} : Left H := { results := [], args := [] }

/-- 'gimmallaw16.RsgArcs': WHATEVER THE INPUT: true; the input reads as it did. -/
def rsgArcsSpec : ChangeSpec := { name := "rsgArcs", fn := fun _ => fun
  | [d1, d2] => { results := [.lit (.bool true)], args := [d1, d2] }
  | _ => none }
def rsgArcsRow : OpenClaim := { program := "ytdjhdnejeehgnaagreat", sum := "10c4b17cd9b6216ae8b5957d983c21063649add4aed90b9f9041eb718dd2cf7f", func := "gimmal/gimmallaw16.RsgArcs", spec := "rsgArcs", unfollowed := true, recurses := true, plainKeys := false, apart := false }
def RsgArcsSaid : Prop := rsgArcsRow.holds Tryz.pinned (OpenSpec.ofChange rsgArcsSpec)

/-- ITS FALSE NEIGHBOUR: 'it returns false'. Refute it at one input. -/
def rsgArcsWrong : ChangeSpec := { name := "rsgArcs", fn := fun _ => fun
  | [d1, d2] => { results := [.lit (.bool false)], args := [d1, d2] }
  | _ => none }
def RsgArcsWrongFalsely : Prop := rsgArcsRow.holds Tryz.pinned (OpenSpec.ofChange rsgArcsWrong)

/-- 'gimmallaw16.RsgOrders': WHATEVER THE INPUT: true; the input reads as it did. -/
def rsgOrdersSpec : ChangeSpec := { name := "rsgOrders", fn := fun _ => fun
  | [d1, d2] => { results := [.lit (.bool true)], args := [d1, d2] }
  | _ => none }
def rsgOrdersRow : OpenClaim := { program := "ytdjhdnejeehgnaagreat", sum := "10c4b17cd9b6216ae8b5957d983c21063649add4aed90b9f9041eb718dd2cf7f", func := "gimmal/gimmallaw16.RsgOrders", spec := "rsgOrders", unfollowed := true, recurses := true, plainKeys := false, apart := false }
def RsgOrdersSaid : Prop := rsgOrdersRow.holds Tryz.pinned (OpenSpec.ofChange rsgOrdersSpec)

/-- ITS FALSE NEIGHBOUR: 'it returns false'. Refute it at one input. -/
def rsgOrdersWrong : ChangeSpec := { name := "rsgOrders", fn := fun _ => fun
  | [d1, d2] => { results := [.lit (.bool false)], args := [d1, d2] }
  | _ => none }
def RsgOrdersWrongFalsely : Prop := rsgOrdersRow.holds Tryz.pinned (OpenSpec.ofChange rsgOrdersWrong)

/-- 'gimmallaw16.RsgNext': WHATEVER THE INPUT: true; the input reads as it did. -/
def rsgNextSpec : ChangeSpec := { name := "rsgNext", fn := fun _ => fun
  | [d1, d2, d3] => { results := [.lit (.bool true)], args := [d1, d2, d3] }
  | _ => none }
def rsgNextRow : OpenClaim := { program := "ytdjhdnejeehgnaagreat", sum := "10c4b17cd9b6216ae8b5957d983c21063649add4aed90b9f9041eb718dd2cf7f", func := "gimmal/gimmallaw16.RsgNext", spec := "rsgNext", unfollowed := true, recurses := true, plainKeys := false, apart := false }
def RsgNextSaid : Prop := rsgNextRow.holds Tryz.pinned (OpenSpec.ofChange rsgNextSpec)

/-- ITS FALSE NEIGHBOUR: 'it returns false'. Refute it at one input. -/
def rsgNextWrong : ChangeSpec := { name := "rsgNext", fn := fun _ => fun
  | [d1, d2, d3] => { results := [.lit (.bool false)], args := [d1, d2, d3] }
  | _ => none }
def RsgNextWrongFalsely : Prop := rsgNextRow.holds Tryz.pinned (OpenSpec.ofChange rsgNextWrong)

/-- 'gimmallaw16.RsgBack': WHATEVER THE INPUT: true; the input reads as it did. -/
def rsgBackSpec : ChangeSpec := { name := "rsgBack", fn := fun _ => fun
  | [d1, d2, d3] => { results := [.lit (.bool true)], args := [d1, d2, d3] }
  | _ => none }
def rsgBackRow : OpenClaim := { program := "ytdjhdnejeehgnaagreat", sum := "10c4b17cd9b6216ae8b5957d983c21063649add4aed90b9f9041eb718dd2cf7f", func := "gimmal/gimmallaw16.RsgBack", spec := "rsgBack", unfollowed := true, recurses := true, plainKeys := false, apart := false }
def RsgBackSaid : Prop := rsgBackRow.holds Tryz.pinned (OpenSpec.ofChange rsgBackSpec)

/-- ITS FALSE NEIGHBOUR: 'it returns false'. Refute it at one input. -/
def rsgBackWrong : ChangeSpec := { name := "rsgBack", fn := fun _ => fun
  | [d1, d2, d3] => { results := [.lit (.bool false)], args := [d1, d2, d3] }
  | _ => none }
def RsgBackWrongFalsely : Prop := rsgBackRow.holds Tryz.pinned (OpenSpec.ofChange rsgBackWrong)

/-- 'gimmallaw16.RsgFiner': WHATEVER THE INPUT: true; the input reads as it did. -/
def rsgFinerSpec : ChangeSpec := { name := "rsgFiner", fn := fun _ => fun
  | [d1, d2, d3, d4] => { results := [.lit (.bool true)], args := [d1, d2, d3, d4] }
  | _ => none }
def rsgFinerRow : OpenClaim := { program := "ytdjhdnejeehgnaagreat", sum := "10c4b17cd9b6216ae8b5957d983c21063649add4aed90b9f9041eb718dd2cf7f", func := "gimmal/gimmallaw16.RsgFiner", spec := "rsgFiner", unfollowed := true, recurses := true, plainKeys := false, apart := false }
def RsgFinerSaid : Prop := rsgFinerRow.holds Tryz.pinned (OpenSpec.ofChange rsgFinerSpec)

/-- ITS FALSE NEIGHBOUR: 'it returns false'. Refute it at one input. -/
def rsgFinerWrong : ChangeSpec := { name := "rsgFiner", fn := fun _ => fun
  | [d1, d2, d3, d4] => { results := [.lit (.bool false)], args := [d1, d2, d3, d4] }
  | _ => none }
def RsgFinerWrongFalsely : Prop := rsgFinerRow.holds Tryz.pinned (OpenSpec.ofChange rsgFinerWrong)

/- THE SECOND FORM. 'bulk': how many values and letters a reading holds, each counted each time it is reached (what is shared counts as often as it is met; a slice's spare places count too). A statement '..UptoSaid' is the law's where the arguments, and the package variables that the reading takes, are together of bulk at most 1048576: NARROWER than '..Said'. Prove '..Said' where nothing that the law and all that it calls make is longer than what came in: it says more and counts as full. Else prove '..UptoSaid'. A law counts once. -/
mutual
def uptoBulk {H : Type} : DataW H → Nat
  | .lit (.string bytes) => bytes.length + 1
  | .lit _ => 1
  | .nil => 1
  | .ptr d => uptoBulk d + 1
  | .slice elems spare => uptoBulkAll elems + uptoBulkAll spare + 1
  | .agg parts => uptoBulkAll parts + 1
  | .iface _ d => uptoBulk d + 1
  | .map entries => uptoBulkEntries entries + 1
  | .held _ => 1
def uptoBulkAll {H : Type} : List (DataW H) → Nat
  | [] => 0
  | d :: r => uptoBulk d + uptoBulkAll r
def uptoBulkEntries {H : Type} : List (Lit × DataW H) → Nat
  | [] => 0
  | x :: r => uptoBulkEntry x + uptoBulkEntries r
def uptoBulkEntry {H : Type} : Lit × DataW H → Nat
  | (.string bytes, d) => bytes.length + uptoBulk d + 1
  | (_, d) => uptoBulk d + 1
 end
def uptoSmall : (H : Type) → List (DataW H) → Bool := fun _ ds => decide (uptoBulkAll ds ≤ 1048576)
def OpenSpec.upto (s : _root_.Go.ChangeSpec) : _root_.Go.OpenSpec := { _root_.Go.OpenSpec.ofChange s with cond := some uptoSmall }

/-- 'gimmallaw16.RsgArcs', WHERE WHAT IT READS IS OF BULK AT MOST 1048576: true; the input reads as it did. -/
def rsgArcsUptoRow : OpenClaim := { program := "ytdjhdnejeehgnaagreat", sum := "10c4b17cd9b6216ae8b5957d983c21063649add4aed90b9f9041eb718dd2cf7f", func := "gimmal/gimmallaw16.RsgArcs", spec := "rsgArcs", unfollowed := true, recurses := true, plainKeys := false, apart := false, narrowed := true }
def RsgArcsUptoSaid : Prop := rsgArcsUptoRow.holds Tryz.pinned (OpenSpec.upto rsgArcsSpec)

/-- 'gimmallaw16.RsgOrders', WHERE WHAT IT READS IS OF BULK AT MOST 1048576: true; the input reads as it did. -/
def rsgOrdersUptoRow : OpenClaim := { program := "ytdjhdnejeehgnaagreat", sum := "10c4b17cd9b6216ae8b5957d983c21063649add4aed90b9f9041eb718dd2cf7f", func := "gimmal/gimmallaw16.RsgOrders", spec := "rsgOrders", unfollowed := true, recurses := true, plainKeys := false, apart := false, narrowed := true }
def RsgOrdersUptoSaid : Prop := rsgOrdersUptoRow.holds Tryz.pinned (OpenSpec.upto rsgOrdersSpec)

/-- 'gimmallaw16.RsgNext', WHERE WHAT IT READS IS OF BULK AT MOST 1048576: true; the input reads as it did. -/
def rsgNextUptoRow : OpenClaim := { program := "ytdjhdnejeehgnaagreat", sum := "10c4b17cd9b6216ae8b5957d983c21063649add4aed90b9f9041eb718dd2cf7f", func := "gimmal/gimmallaw16.RsgNext", spec := "rsgNext", unfollowed := true, recurses := true, plainKeys := false, apart := false, narrowed := true }
def RsgNextUptoSaid : Prop := rsgNextUptoRow.holds Tryz.pinned (OpenSpec.upto rsgNextSpec)

/-- 'gimmallaw16.RsgBack', WHERE WHAT IT READS IS OF BULK AT MOST 1048576: true; the input reads as it did. -/
def rsgBackUptoRow : OpenClaim := { program := "ytdjhdnejeehgnaagreat", sum := "10c4b17cd9b6216ae8b5957d983c21063649add4aed90b9f9041eb718dd2cf7f", func := "gimmal/gimmallaw16.RsgBack", spec := "rsgBack", unfollowed := true, recurses := true, plainKeys := false, apart := false, narrowed := true }
def RsgBackUptoSaid : Prop := rsgBackUptoRow.holds Tryz.pinned (OpenSpec.upto rsgBackSpec)

/-- 'gimmallaw16.RsgFiner', WHERE WHAT IT READS IS OF BULK AT MOST 1048576: true; the input reads as it did. -/
def rsgFinerUptoRow : OpenClaim := { program := "ytdjhdnejeehgnaagreat", sum := "10c4b17cd9b6216ae8b5957d983c21063649add4aed90b9f9041eb718dd2cf7f", func := "gimmal/gimmallaw16.RsgFiner", spec := "rsgFiner", unfollowed := true, recurses := true, plainKeys := false, apart := false, narrowed := true }
def RsgFinerUptoSaid : Prop := rsgFinerUptoRow.holds Tryz.pinned (OpenSpec.upto rsgFinerSpec)

end Rows
end Go.Proofs.YtdjhdnejeehgnaaGreat
