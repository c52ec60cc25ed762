/-
  No cell of these rows narrows 'for every input' (looked for: loops, veiled, ifaces, maps, wideKeys, modest, calm, conditions, laid).
  DERIVED. THE GIVEN ROWS OF THIS SEAT. 2 by the template 'for every input the law returns true; each argument reads behind the call as it read before'; 0 by the template 'total and deterministic' (their statements: YtbemfomiiikpoaaTotals.lean).
  GIVEN WITH THE SEED: the statements are not yours to turn. If you find one false, say at which input.
  Laid BY PROGRAM, IN A SANDBOX (cutbox-rows.mjs): the forced cells as the released guide's own fill.sh prints them over the translation 26e404a70258dad2… (all of the seat's roots in one cut). By AI agents, Wed Nov 11 2026. No macro, syntax, notation, axiom, sorry.
-/
import Derived.Test.YtbemfomiiikpoaaChecked
import GoSem.Claim
import GoSem.ClaimJoined
import GoSem.ClaimMapViews
import Derived.JoinedTies
import Derived.KernelRfl
namespace Go.Proofs.Ytbemfomiiikpoaa
/- THE CELL 'sum', in the pinned program and in every row, IS THE sha256 OF THE DUMP (.gsa) THAT YtbemfomiiikpoaaProg.lean LOADS. Nothing in Lean hashes anything: it is a label: what it is worth is what the hold of that sum in a sandbox is worth. -/
noncomputable def Try.pinned : Pinned := { name := "ytbemfomiiikpoaa", sum := "26e404a70258dad22939bf59a1dbac76c6d2508bf7d3d010b80baa6ed6bf3207", checked := Try.checked }
namespace Rows
def none {H : Type} : Left H := { results := [], args := [] }

/-- 'gimmallaw12.CatOpen': WHATEVER THE INPUT: true; the input reads as it did. -/
def catOpenSpec : ChangeSpec := { name := "catOpen", fn := fun _ => fun
  | [d] => { results := [.lit (.bool true)], args := [d] }
  | _ => none }
def catOpenRow : OpenClaim := { program := "ytbemfomiiikpoaa", sum := "26e404a70258dad22939bf59a1dbac76c6d2508bf7d3d010b80baa6ed6bf3207", func := "gimmal/gimmallaw12.CatOpen", spec := "catOpen", unfollowed := true, recurses := true, apart := false }
def CatOpenSaid : Prop := catOpenRow.holds Try.pinned (OpenSpec.ofChange catOpenSpec)

/-- ITS FALSE NEIGHBOUR: 'it returns false'. Refute it at one input. -/
def catOpenWrong : ChangeSpec := { name := "catOpen", fn := fun _ => fun
  | [d] => { results := [.lit (.bool false)], args := [d] }
  | _ => none }
def CatOpenWrongFalsely : Prop := catOpenRow.holds Try.pinned (OpenSpec.ofChange catOpenWrong)

/-- 'gimmallaw12.CatFiner': WHATEVER THE INPUT: true; the input reads as it did. -/
def catFinerSpec : ChangeSpec := { name := "catFiner", fn := fun _ => fun
  | [d1, d2, d3, d4] => { results := [.lit (.bool true)], args := [d1, d2, d3, d4] }
  | _ => none }
def catFinerRow : OpenClaim := { program := "ytbemfomiiikpoaa", sum := "26e404a70258dad22939bf59a1dbac76c6d2508bf7d3d010b80baa6ed6bf3207", func := "gimmal/gimmallaw12.CatFiner", spec := "catFiner", unfollowed := true, recurses := true, apart := false }
def CatFinerSaid : Prop := catFinerRow.holds Try.pinned (OpenSpec.ofChange catFinerSpec)

/-- ITS FALSE NEIGHBOUR: 'it returns false'. Refute it at one input. -/
def catFinerWrong : ChangeSpec := { name := "catFiner", fn := fun _ => fun
  | [d1, d2, d3, d4] => { results := [.lit (.bool false)], args := [d1, d2, d3, d4] }
  | _ => none }
def CatFinerWrongFalsely : Prop := catFinerRow.holds Try.pinned (OpenSpec.ofChange catFinerWrong)

/- THE SECOND FORM. 'bulk': how many values and letters a reading holds, each counted each time it is reached (what is shared counts as often as it is met; a slice's spare places count too). A statement '..UptoSaid' is the law's where the arguments, and the package variables that the reading takes, are together of bulk at most 1048576: NARROWER than '..Said'. Prove '..Said' where nothing that the law and all that it calls make is longer than what came in: it says more and counts as full. Else prove '..UptoSaid'. A law counts once. -/
mutual
def uptoBulk {H : Type} : DataW H → Nat
  | .lit (.string bytes) => bytes.length + 1
  | .lit _ => 1
  | .nil => 1
  | .ptr d => uptoBulk d + 1
  | .slice elems spare => uptoBulkAll elems + uptoBulkAll spare + 1
  | .agg parts => uptoBulkAll parts + 1
  | .iface _ d => uptoBulk d + 1
  | .map entries => uptoBulkEntries entries + 1
  | .held _ => 1
def uptoBulkAll {H : Type} : List (DataW H) → Nat
  | [] => 0
  | d :: r => uptoBulk d + uptoBulkAll r
def uptoBulkEntries {H : Type} : List (Lit × DataW H) → Nat
  | [] => 0
  | x :: r => uptoBulkEntry x + uptoBulkEntries r
def uptoBulkEntry {H : Type} : Lit × DataW H → Nat
  | (.string bytes, d) => bytes.length + uptoBulk d + 1
  | (_, d) => uptoBulk d + 1
 end
def uptoSmall : (H : Type) → List (DataW H) → Bool := fun _ ds => decide (uptoBulkAll ds ≤ 1048576)
def OpenSpec.upto (s : _root_.Go.ChangeSpec) : _root_.Go.OpenSpec := { _root_.Go.OpenSpec.ofChange s with cond := some uptoSmall }

/-- 'gimmallaw12.CatOpen', WHERE WHAT IT READS IS OF BULK AT MOST 1048576: true; the input reads as it did. -/
def catOpenUptoRow : OpenClaim := { program := "ytbemfomiiikpoaa", sum := "26e404a70258dad22939bf59a1dbac76c6d2508bf7d3d010b80baa6ed6bf3207", func := "gimmal/gimmallaw12.CatOpen", spec := "catOpen", unfollowed := true, recurses := true, apart := false, narrowed := true }
def CatOpenUptoSaid : Prop := catOpenUptoRow.holds Try.pinned (OpenSpec.upto catOpenSpec)

/-- 'gimmallaw12.CatFiner', WHERE WHAT IT READS IS OF BULK AT MOST 1048576: true; the input reads as it did. -/
def catFinerUptoRow : OpenClaim := { program := "ytbemfomiiikpoaa", sum := "26e404a70258dad22939bf59a1dbac76c6d2508bf7d3d010b80baa6ed6bf3207", func := "gimmal/gimmallaw12.CatFiner", spec := "catFiner", unfollowed := true, recurses := true, apart := false, narrowed := true }
def CatFinerUptoSaid : Prop := catFinerUptoRow.holds Try.pinned (OpenSpec.upto catFinerSpec)

end Rows
end Go.Proofs.Ytbemfomiiikpoaa
