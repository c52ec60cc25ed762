/-
  No cell of these rows narrows 'for every input' (looked for: loops, veiled, ifaces, maps, wideKeys, modest, calm, conditions, laid).
  DERIVED. THE GIVEN ROWS OF THIS SEAT. 4 by the template 'for every input the law returns true; each argument reads behind the call as it read before'; 0 by the template 'total and deterministic' (their statements: YthnpgepniiicaaaTotals.lean).
  GIVEN WITH THE SEED: the statements are not yours to turn. If you find one false, say at which input.
  Laid BY PROGRAM, IN A SANDBOX (cutbox-rows.mjs): the forced cells as the released guide's own fill.sh prints them over the translation 9b695fa239f836a1… (all of the seat's roots in one cut). By AI agents, Wed Nov 11 2026. No macro, syntax, notation, axiom, sorry.
-/
import Derived.Test.YthnpgepniiicaaaChecked
import GoSem.Claim
import GoSem.ClaimJoined
import GoSem.ClaimMapViews
import Derived.JoinedTies
import Derived.KernelRfl
namespace Go.Proofs.Ythnpgepniiicaaa
/- THE CELL 'sum', in the pinned program and in every row, IS THE sha256 OF THE DUMP (.gsa) THAT YthnpgepniiicaaaProg.lean LOADS. Nothing in Lean hashes anything: it is a label: what it is worth is what the hold of that sum in a sandbox is worth. -/
noncomputable def Try.pinned : Pinned := { name := "ythnpgepniiicaaa", sum := "9b695fa239f836a13739b7a7a1ad2ba83065d7c66b54377e80932208ae71887a", checked := Try.checked }
namespace Rows
def none {H : Type} : Left H := { results := [], args := [] }

/-- 'gimmallaw04.KeysSets': WHATEVER THE INPUT: true; the input reads as it did. -/
def keysSetsSpec : ChangeSpec := { name := "keysSets", fn := fun _ => fun
  | [d1, d2] => { results := [.lit (.bool true)], args := [d1, d2] }
  | _ => none }
def keysSetsRow : OpenClaim := { program := "ythnpgepniiicaaa", sum := "9b695fa239f836a13739b7a7a1ad2ba83065d7c66b54377e80932208ae71887a", func := "gimmal/gimmallaw04.KeysSets", spec := "keysSets", unfollowed := true, recurses := true, apart := false }
def KeysSetsSaid : Prop := keysSetsRow.holds Try.pinned (OpenSpec.ofChange keysSetsSpec)

/-- ITS FALSE NEIGHBOUR: 'it returns false'. Refute it at one input. -/
def keysSetsWrong : ChangeSpec := { name := "keysSets", fn := fun _ => fun
  | [d1, d2] => { results := [.lit (.bool false)], args := [d1, d2] }
  | _ => none }
def KeysSetsWrongFalsely : Prop := keysSetsRow.holds Try.pinned (OpenSpec.ofChange keysSetsWrong)

/-- 'gimmallaw04.KeysTwo': WHATEVER THE INPUT: true; the input reads as it did. -/
def keysTwoSpec : ChangeSpec := { name := "keysTwo", fn := fun _ => fun
  | [d1, d2] => { results := [.lit (.bool true)], args := [d1, d2] }
  | _ => none }
def keysTwoRow : OpenClaim := { program := "ythnpgepniiicaaa", sum := "9b695fa239f836a13739b7a7a1ad2ba83065d7c66b54377e80932208ae71887a", func := "gimmal/gimmallaw04.KeysTwo", spec := "keysTwo", unfollowed := true, recurses := true, apart := false }
def KeysTwoSaid : Prop := keysTwoRow.holds Try.pinned (OpenSpec.ofChange keysTwoSpec)

/-- ITS FALSE NEIGHBOUR: 'it returns false'. Refute it at one input. -/
def keysTwoWrong : ChangeSpec := { name := "keysTwo", fn := fun _ => fun
  | [d1, d2] => { results := [.lit (.bool false)], args := [d1, d2] }
  | _ => none }
def KeysTwoWrongFalsely : Prop := keysTwoRow.holds Try.pinned (OpenSpec.ofChange keysTwoWrong)

/-- 'gimmallaw04.KeysSame': WHATEVER THE INPUT: true; the input reads as it did. -/
def keysSameSpec : ChangeSpec := { name := "keysSame", fn := fun _ => fun
  | [d1, d2, d3] => { results := [.lit (.bool true)], args := [d1, d2, d3] }
  | _ => none }
def keysSameRow : OpenClaim := { program := "ythnpgepniiicaaa", sum := "9b695fa239f836a13739b7a7a1ad2ba83065d7c66b54377e80932208ae71887a", func := "gimmal/gimmallaw04.KeysSame", spec := "keysSame", unfollowed := true, recurses := true, apart := false }
def KeysSameSaid : Prop := keysSameRow.holds Try.pinned (OpenSpec.ofChange keysSameSpec)

/-- ITS FALSE NEIGHBOUR: 'it returns false'. Refute it at one input. -/
def keysSameWrong : ChangeSpec := { name := "keysSame", fn := fun _ => fun
  | [d1, d2, d3] => { results := [.lit (.bool false)], args := [d1, d2, d3] }
  | _ => none }
def KeysSameWrongFalsely : Prop := keysSameRow.holds Try.pinned (OpenSpec.ofChange keysSameWrong)

/-- 'gimmallaw04.KeysParts': WHATEVER THE INPUT: true; the input reads as it did. -/
def keysPartsSpec : ChangeSpec := { name := "keysParts", fn := fun _ => fun
  | [d1, d2, d3] => { results := [.lit (.bool true)], args := [d1, d2, d3] }
  | _ => none }
def keysPartsRow : OpenClaim := { program := "ythnpgepniiicaaa", sum := "9b695fa239f836a13739b7a7a1ad2ba83065d7c66b54377e80932208ae71887a", func := "gimmal/gimmallaw04.KeysParts", spec := "keysParts", unfollowed := true, recurses := true, apart := false }
def KeysPartsSaid : Prop := keysPartsRow.holds Try.pinned (OpenSpec.ofChange keysPartsSpec)

/-- ITS FALSE NEIGHBOUR: 'it returns false'. Refute it at one input. -/
def keysPartsWrong : ChangeSpec := { name := "keysParts", fn := fun _ => fun
  | [d1, d2, d3] => { results := [.lit (.bool false)], args := [d1, d2, d3] }
  | _ => none }
def KeysPartsWrongFalsely : Prop := keysPartsRow.holds Try.pinned (OpenSpec.ofChange keysPartsWrong)

/- THE SECOND FORM. 'bulk': how many values and letters a reading holds, each counted each time it is reached (what is shared counts as often as it is met; a slice's spare places count too). A statement '..UptoSaid' is the law's where the arguments, and the package variables that the reading takes, are together of bulk at most 1048576: NARROWER than '..Said'. Prove '..Said' where nothing that the law and all that it calls make is longer than what came in: it says more and counts as full. Else prove '..UptoSaid'. A law counts once. -/
mutual
def uptoBulk {H : Type} : DataW H → Nat
  | .lit (.string bytes) => bytes.length + 1
  | .lit _ => 1
  | .nil => 1
  | .ptr d => uptoBulk d + 1
  | .slice elems spare => uptoBulkAll elems + uptoBulkAll spare + 1
  | .agg parts => uptoBulkAll parts + 1
  | .iface _ d => uptoBulk d + 1
  | .map entries => uptoBulkEntries entries + 1
  | .held _ => 1
def uptoBulkAll {H : Type} : List (DataW H) → Nat
  | [] => 0
  | d :: r => uptoBulk d + uptoBulkAll r
def uptoBulkEntries {H : Type} : List (Lit × DataW H) → Nat
  | [] => 0
  | x :: r => uptoBulkEntry x + uptoBulkEntries r
def uptoBulkEntry {H : Type} : Lit × DataW H → Nat
  | (.string bytes, d) => bytes.length + uptoBulk d + 1
  | (_, d) => uptoBulk d + 1
 end
def uptoSmall : (H : Type) → List (DataW H) → Bool := fun _ ds => decide (uptoBulkAll ds ≤ 1048576)
def OpenSpec.upto (s : _root_.Go.ChangeSpec) : _root_.Go.OpenSpec := { _root_.Go.OpenSpec.ofChange s with cond := some uptoSmall }

/-- 'gimmallaw04.KeysSets', WHERE WHAT IT READS IS OF BULK AT MOST 1048576: true; the input reads as it did. -/
def keysSetsUptoRow : OpenClaim := { program := "ythnpgepniiicaaa", sum := "9b695fa239f836a13739b7a7a1ad2ba83065d7c66b54377e80932208ae71887a", func := "gimmal/gimmallaw04.KeysSets", spec := "keysSets", unfollowed := true, recurses := true, apart := false, narrowed := true }
def KeysSetsUptoSaid : Prop := keysSetsUptoRow.holds Try.pinned (OpenSpec.upto keysSetsSpec)

/-- 'gimmallaw04.KeysTwo', WHERE WHAT IT READS IS OF BULK AT MOST 1048576: true; the input reads as it did. -/
def keysTwoUptoRow : OpenClaim := { program := "ythnpgepniiicaaa", sum := "9b695fa239f836a13739b7a7a1ad2ba83065d7c66b54377e80932208ae71887a", func := "gimmal/gimmallaw04.KeysTwo", spec := "keysTwo", unfollowed := true, recurses := true, apart := false, narrowed := true }
def KeysTwoUptoSaid : Prop := keysTwoUptoRow.holds Try.pinned (OpenSpec.upto keysTwoSpec)

/-- 'gimmallaw04.KeysSame', WHERE WHAT IT READS IS OF BULK AT MOST 1048576: true; the input reads as it did. -/
def keysSameUptoRow : OpenClaim := { program := "ythnpgepniiicaaa", sum := "9b695fa239f836a13739b7a7a1ad2ba83065d7c66b54377e80932208ae71887a", func := "gimmal/gimmallaw04.KeysSame", spec := "keysSame", unfollowed := true, recurses := true, apart := false, narrowed := true }
def KeysSameUptoSaid : Prop := keysSameUptoRow.holds Try.pinned (OpenSpec.upto keysSameSpec)

/-- 'gimmallaw04.KeysParts', WHERE WHAT IT READS IS OF BULK AT MOST 1048576: true; the input reads as it did. -/
def keysPartsUptoRow : OpenClaim := { program := "ythnpgepniiicaaa", sum := "9b695fa239f836a13739b7a7a1ad2ba83065d7c66b54377e80932208ae71887a", func := "gimmal/gimmallaw04.KeysParts", spec := "keysParts", unfollowed := true, recurses := true, apart := false, narrowed := true }
def KeysPartsUptoSaid : Prop := keysPartsUptoRow.holds Try.pinned (OpenSpec.upto keysPartsSpec)

end Rows
end Go.Proofs.Ythnpgepniiicaaa
