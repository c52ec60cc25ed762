/- A program's words, purely; what package prog writes. -/
import Derived.Test.YtnlmhcfkipkegaaCodesW
import Derived.Test.YtnlmhcfkipkegaaPrg9
import Derived.Test.YtnlmhcfkipkegaaIdx9
namespace Go.Proofs.Ytnlmhcfkipkegaa
open Go.RowKit

/-- An instruction's words, and a program's. -/
def wordsI (i : Ins) : List Nat := [i.op.toNat, i.a.toNat, i.b.toNat, i.c.toNat, sgn i.ka, i.kb.toNat, sgn i.la, i.lb.toNat, sgn i.x]
theorem wordsI_len (i : Ins) : (wordsI i).length = 9 := rfl
def wordsP (l : List Ins) : List Nat := l.length :: l.flatMap wordsI
theorem wordsI_flat (l : List Ins) : (l.flatMap wordsI).length = l.length * 9 := by
  induction l with
  | nil => simp
  | cons x r ih => rw [List.flatMap_cons, List.length_append, wordsI_len, ih, List.length_cons]; omega

end Go.Proofs.Ytnlmhcfkipkegaa
