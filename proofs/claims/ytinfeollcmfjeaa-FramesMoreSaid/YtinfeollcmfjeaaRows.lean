/-
  No cell of these rows narrows 'for every input' (looked for: loops, veiled, ifaces, maps, wideKeys, modest, calm, conditions, laid).
  DERIVED. THE GIVEN ROWS OF THIS SEAT. 4 by the template 'for every input the law returns true; each argument reads behind the call as it read before'; 0 by the template 'total and deterministic' (their statements: YtinfeollcmfjeaaTotals.lean).
  GIVEN WITH THE SEED: the statements are not yours to turn. If you find one false, say at which input.
  Laid BY PROGRAM, IN A SANDBOX (cutbox-rows.mjs): the forced cells as the released guide's own fill.sh prints them over the translation dfc72bb3977cb932… (all of the seat's roots in one cut). By AI agents, Wed Nov 11 2026. No macro, syntax, notation, axiom, sorry.
-/
import Derived.Test.YtinfeollcmfjeaaChecked
import GoSem.Claim
import GoSem.ClaimJoined
import GoSem.ClaimMapViews
import Derived.JoinedTies
import Derived.KernelRfl
namespace Go.Proofs.Ytinfeollcmfjeaa
/- THE CELL 'sum', in the pinned program and in every row, IS THE sha256 OF THE DUMP (.gsa) THAT YtinfeollcmfjeaaProg.lean LOADS. Nothing in Lean hashes anything: it is a label: what it is worth is what the hold of that sum in a sandbox is worth. -/
noncomputable def Try.pinned : Pinned := { name := "ytinfeollcmfjeaa", sum := "dfc72bb3977cb932be4cfab1603c8797a38547aa87bee05a23e13ee34c9ff403", checked := Try.checked }
namespace Rows
def none {H : Type} : Left H := { results := [], args := [] }

/-- 'gimmallaw06.FramesOne': WHATEVER THE INPUT: true; the input reads as it did. -/
def framesOneSpec : ChangeSpec := { name := "framesOne", fn := fun _ => fun
  | [d1, d2, d3, d4] => { results := [.lit (.bool true)], args := [d1, d2, d3, d4] }
  | _ => none }
def framesOneRow : OpenClaim := { program := "ytinfeollcmfjeaa", sum := "dfc72bb3977cb932be4cfab1603c8797a38547aa87bee05a23e13ee34c9ff403", func := "gimmal/gimmallaw06.FramesOne", spec := "framesOne", unfollowed := true, recurses := true, apart := false }
def FramesOneSaid : Prop := framesOneRow.holds Try.pinned (OpenSpec.ofChange framesOneSpec)

/-- ITS FALSE NEIGHBOUR: 'it returns false'. Refute it at one input. -/
def framesOneWrong : ChangeSpec := { name := "framesOne", fn := fun _ => fun
  | [d1, d2, d3, d4] => { results := [.lit (.bool false)], args := [d1, d2, d3, d4] }
  | _ => none }
def FramesOneWrongFalsely : Prop := framesOneRow.holds Try.pinned (OpenSpec.ofChange framesOneWrong)

/-- 'gimmallaw06.FramesGet': WHATEVER THE INPUT: true; the input reads as it did. -/
def framesGetSpec : ChangeSpec := { name := "framesGet", fn := fun _ => fun
  | [d1, d2, d3] => { results := [.lit (.bool true)], args := [d1, d2, d3] }
  | _ => none }
def framesGetRow : OpenClaim := { program := "ytinfeollcmfjeaa", sum := "dfc72bb3977cb932be4cfab1603c8797a38547aa87bee05a23e13ee34c9ff403", func := "gimmal/gimmallaw06.FramesGet", spec := "framesGet", unfollowed := true, recurses := true, apart := false }
def FramesGetSaid : Prop := framesGetRow.holds Try.pinned (OpenSpec.ofChange framesGetSpec)

/-- ITS FALSE NEIGHBOUR: 'it returns false'. Refute it at one input. -/
def framesGetWrong : ChangeSpec := { name := "framesGet", fn := fun _ => fun
  | [d1, d2, d3] => { results := [.lit (.bool false)], args := [d1, d2, d3] }
  | _ => none }
def FramesGetWrongFalsely : Prop := framesGetRow.holds Try.pinned (OpenSpec.ofChange framesGetWrong)

/-- 'gimmallaw06.FramesStream': WHATEVER THE INPUT: true; the input reads as it did. -/
def framesStreamSpec : ChangeSpec := { name := "framesStream", fn := fun _ => fun
  | [d1, d2, d3, d4] => { results := [.lit (.bool true)], args := [d1, d2, d3, d4] }
  | _ => none }
def framesStreamRow : OpenClaim := { program := "ytinfeollcmfjeaa", sum := "dfc72bb3977cb932be4cfab1603c8797a38547aa87bee05a23e13ee34c9ff403", func := "gimmal/gimmallaw06.FramesStream", spec := "framesStream", unfollowed := true, recurses := true, apart := false }
def FramesStreamSaid : Prop := framesStreamRow.holds Try.pinned (OpenSpec.ofChange framesStreamSpec)

/-- ITS FALSE NEIGHBOUR: 'it returns false'. Refute it at one input. -/
def framesStreamWrong : ChangeSpec := { name := "framesStream", fn := fun _ => fun
  | [d1, d2, d3, d4] => { results := [.lit (.bool false)], args := [d1, d2, d3, d4] }
  | _ => none }
def FramesStreamWrongFalsely : Prop := framesStreamRow.holds Try.pinned (OpenSpec.ofChange framesStreamWrong)

/-- 'gimmallaw06.FramesMore': WHATEVER THE INPUT: true; the input reads as it did. -/
def framesMoreSpec : ChangeSpec := { name := "framesMore", fn := fun _ => fun
  | [d1, d2, d3] => { results := [.lit (.bool true)], args := [d1, d2, d3] }
  | _ => none }
def framesMoreRow : OpenClaim := { program := "ytinfeollcmfjeaa", sum := "dfc72bb3977cb932be4cfab1603c8797a38547aa87bee05a23e13ee34c9ff403", func := "gimmal/gimmallaw06.FramesMore", spec := "framesMore", unfollowed := true, recurses := true, apart := false }
def FramesMoreSaid : Prop := framesMoreRow.holds Try.pinned (OpenSpec.ofChange framesMoreSpec)

/-- ITS FALSE NEIGHBOUR: 'it returns false'. Refute it at one input. -/
def framesMoreWrong : ChangeSpec := { name := "framesMore", fn := fun _ => fun
  | [d1, d2, d3] => { results := [.lit (.bool false)], args := [d1, d2, d3] }
  | _ => none }
def FramesMoreWrongFalsely : Prop := framesMoreRow.holds Try.pinned (OpenSpec.ofChange framesMoreWrong)

/- THE SECOND FORM. 'bulk': how many values and letters a reading holds, each counted each time it is reached (what is shared counts as often as it is met; a slice's spare places count too). A statement '..UptoSaid' is the law's where the arguments, and the package variables that the reading takes, are together of bulk at most 1048576: NARROWER than '..Said'. Prove '..Said' where nothing that the law and all that it calls make is longer than what came in: it says more and counts as full. Else prove '..UptoSaid'. A law counts once. -/
mutual
def uptoBulk {H : Type} : DataW H → Nat
  | .lit (.string bytes) => bytes.length + 1
  | .lit _ => 1
  | .nil => 1
  | .ptr d => uptoBulk d + 1
  | .slice elems spare => uptoBulkAll elems + uptoBulkAll spare + 1
  | .agg parts => uptoBulkAll parts + 1
  | .iface _ d => uptoBulk d + 1
  | .map entries => uptoBulkEntries entries + 1
  | .held _ => 1
def uptoBulkAll {H : Type} : List (DataW H) → Nat
  | [] => 0
  | d :: r => uptoBulk d + uptoBulkAll r
def uptoBulkEntries {H : Type} : List (Lit × DataW H) → Nat
  | [] => 0
  | x :: r => uptoBulkEntry x + uptoBulkEntries r
def uptoBulkEntry {H : Type} : Lit × DataW H → Nat
  | (.string bytes, d) => bytes.length + uptoBulk d + 1
  | (_, d) => uptoBulk d + 1
 end
def uptoSmall : (H : Type) → List (DataW H) → Bool := fun _ ds => decide (uptoBulkAll ds ≤ 1048576)
def OpenSpec.upto (s : _root_.Go.ChangeSpec) : _root_.Go.OpenSpec := { _root_.Go.OpenSpec.ofChange s with cond := some uptoSmall }

/-- 'gimmallaw06.FramesOne', WHERE WHAT IT READS IS OF BULK AT MOST 1048576: true; the input reads as it did. -/
def framesOneUptoRow : OpenClaim := { program := "ytinfeollcmfjeaa", sum := "dfc72bb3977cb932be4cfab1603c8797a38547aa87bee05a23e13ee34c9ff403", func := "gimmal/gimmallaw06.FramesOne", spec := "framesOne", unfollowed := true, recurses := true, apart := false, narrowed := true }
def FramesOneUptoSaid : Prop := framesOneUptoRow.holds Try.pinned (OpenSpec.upto framesOneSpec)

/-- 'gimmallaw06.FramesGet', WHERE WHAT IT READS IS OF BULK AT MOST 1048576: true; the input reads as it did. -/
def framesGetUptoRow : OpenClaim := { program := "ytinfeollcmfjeaa", sum := "dfc72bb3977cb932be4cfab1603c8797a38547aa87bee05a23e13ee34c9ff403", func := "gimmal/gimmallaw06.FramesGet", spec := "framesGet", unfollowed := true, recurses := true, apart := false, narrowed := true }
def FramesGetUptoSaid : Prop := framesGetUptoRow.holds Try.pinned (OpenSpec.upto framesGetSpec)

/-- 'gimmallaw06.FramesStream', WHERE WHAT IT READS IS OF BULK AT MOST 1048576: true; the input reads as it did. -/
def framesStreamUptoRow : OpenClaim := { program := "ytinfeollcmfjeaa", sum := "dfc72bb3977cb932be4cfab1603c8797a38547aa87bee05a23e13ee34c9ff403", func := "gimmal/gimmallaw06.FramesStream", spec := "framesStream", unfollowed := true, recurses := true, apart := false, narrowed := true }
def FramesStreamUptoSaid : Prop := framesStreamUptoRow.holds Try.pinned (OpenSpec.upto framesStreamSpec)

/-- 'gimmallaw06.FramesMore', WHERE WHAT IT READS IS OF BULK AT MOST 1048576: true; the input reads as it did. -/
def framesMoreUptoRow : OpenClaim := { program := "ytinfeollcmfjeaa", sum := "dfc72bb3977cb932be4cfab1603c8797a38547aa87bee05a23e13ee34c9ff403", func := "gimmal/gimmallaw06.FramesMore", spec := "framesMore", unfollowed := true, recurses := true, apart := false, narrowed := true }
def FramesMoreUptoSaid : Prop := framesMoreUptoRow.holds Try.pinned (OpenSpec.upto framesMoreSpec)

end Rows
end Go.Proofs.Ytinfeollcmfjeaa
