/- The document's examples of keys; the law 'KeysParts'. -/
import Derived.Test.YthincpklokgjhaaKeys4
namespace Go.Proofs.Ythincpklokgjhaa
open Go.RowKit

theorem In4.since {w W : World} {A : Option Addr} {n : Nat} {l : List Span} (h : In4 w A n l) (hf : Fr No w W) : In4 W A n l := ⟨h.sl.since hf, h.len, h.le⟩
theorem Sl.since2 {w W : World} {B : Nat} {A : Option Addr} {xs : List Value} (h : Sl w B A xs) (hf : Fr No w W) (hB : B ≤ w.heap.size) : Sl W B A xs := h.fr hf hB (fun _ _ _ e => e)
theorem plainOf_le (s : Nat → Bool) : (plainOf s).length ≤ 1000 := plainTo_len s 1000
theorem In4.new {w : World} {A : Option Addr} {s : Nat → Bool} (h : Sl w w.heap.size A (sps (plainOf s))) : In4 w A (plainOf s).length (plainOf s) := ⟨h, rfl, by have := plainOf_le s; omega⟩
theorem ex4_one : plainOf (keysOf [(5, 7), (1, 2), (3, 4)]) = [(1, 7)] := by decide +kernel
theorem ex4_two : (plainOf fun k => keysOf [(1, 9)] k && !keysOf [(3, 4)] k) = [(1, 2), (5, 9)] := by decide +kernel

end Go.Proofs.Ythincpklokgjhaa
