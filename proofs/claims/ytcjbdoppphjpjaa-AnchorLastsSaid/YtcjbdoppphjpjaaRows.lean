/-
  No cell of these rows narrows 'for every input' (looked for: loops, veiled, ifaces, maps, wideKeys, modest, calm, conditions, laid).
  DERIVED. THE GIVEN ROWS OF THIS SEAT. 4 by the template 'for every input the law returns true; each argument reads behind the call as it read before'; 0 by the template 'total and deterministic' (their statements: YtcjbdoppphjpjaaTotals.lean).
  GIVEN WITH THE SEED: the statements are not yours to turn. If you find one false, say at which input.
  Laid BY PROGRAM, IN A SANDBOX (cutbox-rows.mjs): the forced cells as the released guide's own fill.sh prints them over the translation 76d157739e29e106… (all of the seat's roots in one cut). By AI agents, Wed Nov 11 2026. No macro, syntax, notation, axiom, sorry.
-/
import Derived.Test.YtcjbdoppphjpjaaChecked
import GoSem.Claim
import GoSem.ClaimJoined
import GoSem.ClaimMapViews
import Derived.JoinedTies
import Derived.KernelRfl
namespace Go.Proofs.Ytcjbdoppphjpjaa
/- THE CELL 'sum', in the pinned program and in every row, IS THE sha256 OF THE DUMP (.gsa) THAT YtcjbdoppphjpjaaProg.lean LOADS. Nothing in Lean hashes anything: it is a label: what it is worth is what the hold of that sum in a sandbox is worth. -/
noncomputable def Try.pinned : Pinned := { name := "ytcjbdoppphjpjaa", sum := "76d157739e29e106f98addb6b518bb39beb2347d21d34ae3da115dac72ded26c", checked := Try.checked }
namespace Rows
def none {H : Type} : Left H := { results := [], args := [] }

/-- 'gimmallaw07.AnchorSectors': WHATEVER THE INPUT: true; the input reads as it did. -/
def anchorSectorsSpec : ChangeSpec := { name := "anchorSectors", fn := fun _ => fun
  | [d1, d2] => { results := [.lit (.bool true)], args := [d1, d2] }
  | _ => none }
def anchorSectorsRow : OpenClaim := { program := "ytcjbdoppphjpjaa", sum := "76d157739e29e106f98addb6b518bb39beb2347d21d34ae3da115dac72ded26c", func := "gimmal/gimmallaw07.AnchorSectors", spec := "anchorSectors", unfollowed := true, recurses := true, apart := false }
def AnchorSectorsSaid : Prop := anchorSectorsRow.holds Try.pinned (OpenSpec.ofChange anchorSectorsSpec)

/-- ITS FALSE NEIGHBOUR: 'it returns false'. Refute it at one input. -/
def anchorSectorsWrong : ChangeSpec := { name := "anchorSectors", fn := fun _ => fun
  | [d1, d2] => { results := [.lit (.bool false)], args := [d1, d2] }
  | _ => none }
def AnchorSectorsWrongFalsely : Prop := anchorSectorsRow.holds Try.pinned (OpenSpec.ofChange anchorSectorsWrong)

/-- 'gimmallaw07.AnchorFinds': WHATEVER THE INPUT: true; the input reads as it did. -/
def anchorFindsSpec : ChangeSpec := { name := "anchorFinds", fn := fun _ => fun
  | [d1, d2] => { results := [.lit (.bool true)], args := [d1, d2] }
  | _ => none }
def anchorFindsRow : OpenClaim := { program := "ytcjbdoppphjpjaa", sum := "76d157739e29e106f98addb6b518bb39beb2347d21d34ae3da115dac72ded26c", func := "gimmal/gimmallaw07.AnchorFinds", spec := "anchorFinds", unfollowed := true, recurses := true, apart := false }
def AnchorFindsSaid : Prop := anchorFindsRow.holds Try.pinned (OpenSpec.ofChange anchorFindsSpec)

/-- ITS FALSE NEIGHBOUR: 'it returns false'. Refute it at one input. -/
def anchorFindsWrong : ChangeSpec := { name := "anchorFinds", fn := fun _ => fun
  | [d1, d2] => { results := [.lit (.bool false)], args := [d1, d2] }
  | _ => none }
def AnchorFindsWrongFalsely : Prop := anchorFindsRow.holds Try.pinned (OpenSpec.ofChange anchorFindsWrong)

/-- 'gimmallaw07.AnchorLasts': WHATEVER THE INPUT: true; the input reads as it did. -/
def anchorLastsSpec : ChangeSpec := { name := "anchorLasts", fn := fun _ => fun
  | [d1, d2, d3] => { results := [.lit (.bool true)], args := [d1, d2, d3] }
  | _ => none }
def anchorLastsRow : OpenClaim := { program := "ytcjbdoppphjpjaa", sum := "76d157739e29e106f98addb6b518bb39beb2347d21d34ae3da115dac72ded26c", func := "gimmal/gimmallaw07.AnchorLasts", spec := "anchorLasts", unfollowed := true, recurses := true, apart := false }
def AnchorLastsSaid : Prop := anchorLastsRow.holds Try.pinned (OpenSpec.ofChange anchorLastsSpec)

/-- ITS FALSE NEIGHBOUR: 'it returns false'. Refute it at one input. -/
def anchorLastsWrong : ChangeSpec := { name := "anchorLasts", fn := fun _ => fun
  | [d1, d2, d3] => { results := [.lit (.bool false)], args := [d1, d2, d3] }
  | _ => none }
def AnchorLastsWrongFalsely : Prop := anchorLastsRow.holds Try.pinned (OpenSpec.ofChange anchorLastsWrong)

/-- 'gimmallaw07.AnchorGreater': WHATEVER THE INPUT: true; the input reads as it did. -/
def anchorGreaterSpec : ChangeSpec := { name := "anchorGreater", fn := fun _ => fun
  | [d1, d2] => { results := [.lit (.bool true)], args := [d1, d2] }
  | _ => none }
def anchorGreaterRow : OpenClaim := { program := "ytcjbdoppphjpjaa", sum := "76d157739e29e106f98addb6b518bb39beb2347d21d34ae3da115dac72ded26c", func := "gimmal/gimmallaw07.AnchorGreater", spec := "anchorGreater", unfollowed := true, recurses := true, apart := false }
def AnchorGreaterSaid : Prop := anchorGreaterRow.holds Try.pinned (OpenSpec.ofChange anchorGreaterSpec)

/-- ITS FALSE NEIGHBOUR: 'it returns false'. Refute it at one input. -/
def anchorGreaterWrong : ChangeSpec := { name := "anchorGreater", fn := fun _ => fun
  | [d1, d2] => { results := [.lit (.bool false)], args := [d1, d2] }
  | _ => none }
def AnchorGreaterWrongFalsely : Prop := anchorGreaterRow.holds Try.pinned (OpenSpec.ofChange anchorGreaterWrong)

/- THE SECOND FORM. 'bulk': how many values and letters a reading holds, each counted each time it is reached (what is shared counts as often as it is met; a slice's spare places count too). A statement '..UptoSaid' is the law's where the arguments, and the package variables that the reading takes, are together of bulk at most 1048576: NARROWER than '..Said'. Prove '..Said' where nothing that the law and all that it calls make is longer than what came in: it says more and counts as full. Else prove '..UptoSaid'. A law counts once. -/
mutual
def uptoBulk {H : Type} : DataW H → Nat
  | .lit (.string bytes) => bytes.length + 1
  | .lit _ => 1
  | .nil => 1
  | .ptr d => uptoBulk d + 1
  | .slice elems spare => uptoBulkAll elems + uptoBulkAll spare + 1
  | .agg parts => uptoBulkAll parts + 1
  | .iface _ d => uptoBulk d + 1
  | .map entries => uptoBulkEntries entries + 1
  | .held _ => 1
def uptoBulkAll {H : Type} : List (DataW H) → Nat
  | [] => 0
  | d :: r => uptoBulk d + uptoBulkAll r
def uptoBulkEntries {H : Type} : List (Lit × DataW H) → Nat
  | [] => 0
  | x :: r => uptoBulkEntry x + uptoBulkEntries r
def uptoBulkEntry {H : Type} : Lit × DataW H → Nat
  | (.string bytes, d) => bytes.length + uptoBulk d + 1
  | (_, d) => uptoBulk d + 1
 end
def uptoSmall : (H : Type) → List (DataW H) → Bool := fun _ ds => decide (uptoBulkAll ds ≤ 1048576)
def OpenSpec.upto (s : _root_.Go.ChangeSpec) : _root_.Go.OpenSpec := { _root_.Go.OpenSpec.ofChange s with cond := some uptoSmall }

/-- 'gimmallaw07.AnchorSectors', WHERE WHAT IT READS IS OF BULK AT MOST 1048576: true; the input reads as it did. -/
def anchorSectorsUptoRow : OpenClaim := { program := "ytcjbdoppphjpjaa", sum := "76d157739e29e106f98addb6b518bb39beb2347d21d34ae3da115dac72ded26c", func := "gimmal/gimmallaw07.AnchorSectors", spec := "anchorSectors", unfollowed := true, recurses := true, apart := false, narrowed := true }
def AnchorSectorsUptoSaid : Prop := anchorSectorsUptoRow.holds Try.pinned (OpenSpec.upto anchorSectorsSpec)

/-- 'gimmallaw07.AnchorFinds', WHERE WHAT IT READS IS OF BULK AT MOST 1048576: true; the input reads as it did. -/
def anchorFindsUptoRow : OpenClaim := { program := "ytcjbdoppphjpjaa", sum := "76d157739e29e106f98addb6b518bb39beb2347d21d34ae3da115dac72ded26c", func := "gimmal/gimmallaw07.AnchorFinds", spec := "anchorFinds", unfollowed := true, recurses := true, apart := false, narrowed := true }
def AnchorFindsUptoSaid : Prop := anchorFindsUptoRow.holds Try.pinned (OpenSpec.upto anchorFindsSpec)

/-- 'gimmallaw07.AnchorLasts', WHERE WHAT IT READS IS OF BULK AT MOST 1048576: true; the input reads as it did. -/
def anchorLastsUptoRow : OpenClaim := { program := "ytcjbdoppphjpjaa", sum := "76d157739e29e106f98addb6b518bb39beb2347d21d34ae3da115dac72ded26c", func := "gimmal/gimmallaw07.AnchorLasts", spec := "anchorLasts", unfollowed := true, recurses := true, apart := false, narrowed := true }
def AnchorLastsUptoSaid : Prop := anchorLastsUptoRow.holds Try.pinned (OpenSpec.upto anchorLastsSpec)

/-- 'gimmallaw07.AnchorGreater', WHERE WHAT IT READS IS OF BULK AT MOST 1048576: true; the input reads as it did. -/
def anchorGreaterUptoRow : OpenClaim := { program := "ytcjbdoppphjpjaa", sum := "76d157739e29e106f98addb6b518bb39beb2347d21d34ae3da115dac72ded26c", func := "gimmal/gimmallaw07.AnchorGreater", spec := "anchorGreater", unfollowed := true, recurses := true, apart := false, narrowed := true }
def AnchorGreaterUptoSaid : Prop := anchorGreaterUptoRow.holds Try.pinned (OpenSpec.upto anchorGreaterSpec)

end Rows
end Go.Proofs.Ytcjbdoppphjpjaa
