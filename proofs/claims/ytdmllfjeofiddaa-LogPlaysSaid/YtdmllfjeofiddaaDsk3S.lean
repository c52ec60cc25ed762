/- What the device's calls do, as statements (how a device lies in memory is another text's). -/
import Derived.Test.YtdmllfjeofiddaaRows
import Derived.Test.YtdmllfjeofiddaaDev3
namespace Go.Proofs.Ytdmllfjeofiddaa
open Go.RowKit

/-- From w to w' nothing has turned but S; S is S' now, and what is new. -/
structure Step (S S' : Nat → Prop) (w w' : World) : Prop where
  fr : Fr S w w'
  grow : ∀ k, S' k → S k ∨ w.heap.size ≤ k
theorem Step.out {S S' : Nat → Prop} {w w' : World} (h : Step S S' w w') {v : Nat} (hv : v < w.heap.size) (hs : ¬ S v) : ¬ S' v := fun e => by
  rcases h.grow v e with h1 | h1
  · exact hs h1
  · omega
/-- The flags that a counting function was made of lie at kl, its count at kn. -/
structure Kp (w : World) (kn kl : Nat) (q : Nat) (A : Option Addr) (n c : Nat) (keep : List Bool) : Prop where
  bn : Bk w kn 3 #[.int .i64 q]
  bl : Bk w kl 39 #[.slice A n c]
  sl : Sl w w.heap.size A (keep.map Value.bool)
  len : keep.length = n
  ap : ∀ ad, A = some ad → keep ≠ [] → ad.block ≠ kn
/-- The function itself. -/
def kpV (kn kl : Nat) : Value := .func (.func 44) #[] #[.pointer (some ⟨kn, 0, none⟩), .pointer (some ⟨kl, 0, none⟩)]
/-- The sectors that were written since. -/
def Dv.dirty (D : Dv) : List Nat := (List.range D.n).filter D.di
end Go.Proofs.Ytdmllfjeofiddaa
