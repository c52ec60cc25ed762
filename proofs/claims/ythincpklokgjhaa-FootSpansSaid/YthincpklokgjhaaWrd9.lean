/- A program's words, purely; what package prog writes. -/
import Derived.Test.YthincpklokgjhaaCodesW
import Derived.Test.YthincpklokgjhaaPrg9
import Derived.Test.YthincpklokgjhaaIdx9
namespace Go.Proofs.Ythincpklokgjhaa
open Go.RowKit

/-- An instruction's words, and a program's. -/
def wordsI (i : Ins) : List Nat := [i.op.toNat, i.a.toNat, i.b.toNat, i.c.toNat, sgn i.ka, i.kb.toNat, sgn i.la, i.lb.toNat, sgn i.x]
theorem wordsI_len (i : Ins) : (wordsI i).length = 9 := rfl
def wordsP (l : List Ins) : List Nat := l.length :: l.flatMap wordsI
theorem wordsI_flat (l : List Ins) : (l.flatMap wordsI).length = l.length * 9 := by
  induction l with
  | nil => simp
  | cons x r ih => rw [List.flatMap_cons, List.length_append, wordsI_len, ih, List.length_cons]; omega

/-- A writer behind some calls. -/
def Wrt (w0 : World) (p : Nat) (g : Option Nat) (zs : List Nat) (w' : World) : Prop := ∃ g', Wr w' p g' zs ∧ Fr (Of p g) w0 w' ∧ (g' = g ∨ ∃ k, g' = some k ∧ w0.heap.size ≤ k)
theorem Wrt.start {w : World} {p : Nat} {g : Option Nat} {xs : List Nat} (h : Wr w p g xs) : Wrt w p g xs w := ⟨g, h, Fr.refl _ _, .inl rfl⟩
/-- The next call. -/
theorem Wrt.step {w0 w1 : World} {p : Nat} {g : Option Nat} {xs zs : List Nat} {f : Nat} {vs : Array Value} (h : Wrt w0 p g xs w1) (C : ∀ g1, Wr w1 p g1 xs → Calls Try.prog f vs w1 (Wrote w1 p g1 zs)) :
    Calls Try.prog f vs w1 fun e w2 => e = .returned (.tuple #[]) ∧ Wrt w0 p g zs w2 := by
  obtain ⟨g1, h1, h2, h3⟩ := h
  refine (C g1 h1).mono fun e w2 h4 => ?_
  obtain ⟨he, g', a1, a2, a3⟩ := h4.then h2 h3
  exact ⟨he, g', a1, a2, a3⟩
/-- What else the call does leaves the writer. -/
theorem Wrt.quiet {w0 w1 w2 : World} {p : Nat} {g : Option Nat} {xs : List Nat} (h : Wrt w0 p g xs w1) (hf : Fr No w1 w2) : Wrt w0 p g xs w2 := by
  obtain ⟨g1, h1, h2, h3⟩ := h
  exact ⟨g1, h1.fr hf (fun _ _ e => e), h2.trans' hf (fun _ _ e => e.elim), h3⟩
theorem Wrt.fr {w0 w1 : World} {p : Nat} {g : Option Nat} {xs : List Nat} (h : Wrt w0 p g xs w1) : Fr (Of p g) w0 w1 := by
  obtain ⟨_, _, h, _⟩ := h
  exact h
theorem Wrt.wrote {w0 w1 : World} {p : Nat} {g : Option Nat} {xs : List Nat} (h : Wrt w0 p g xs w1) : Wrote w0 p g xs (.returned (.tuple #[])) w1 := ⟨rfl, h⟩
/-- From further back. -/
theorem Wrt.since {a w0 w1 : World} {p : Nat} {g : Option Nat} {xs : List Nat} (ha : Fr No a w0) (h : Wrt w0 p g xs w1) : Wrt a p g xs w1 := by
  obtain ⟨g1, h1, h2, h3⟩ := h
  refine ⟨g1, h1, (ha.weak (fun _ _ h => h.elim)).trans' h2 (fun _ _ h => h), ?_⟩
  rcases h3 with h3 | ⟨k, h3, h4⟩
  · exact .inl h3
  · exact .inr ⟨k, h3, Nat.le_trans ha.size h4⟩
/-- A writer of before is apart of what is new. -/
theorem Wr.not_of {w : World} {p : Nat} {g : Option Nat} {xs : List Nat} (h : Wr w p g xs) {k : Nat} (hk : w.heap.size ≤ k) : ¬ Of p g k := by
  obtain ⟨h1, h2⟩ := h.lt
  rintro (e | e)
  · omega
  · have := h2 _ e
    omega
/-- A count, behind some calls. -/
theorem Wrt.count {w0 w1 : World} {p : Nat} {g : Option Nat} {xs : List Nat} (h : Wrt w0 p g xs w1) (n : Int) (hn : I64 n) (hl : xs.length + 1 ≤ 1099511627776) :
    Calls Try.prog 38 #[.pointer (some ⟨p, 0, none⟩), .int .i64 n] w1 fun e w2 => e = .returned (.tuple #[]) ∧ Wrt w0 p g (xs ++ [n.toNat]) w2 := h.step fun g1 h1 => count_any p g1 xs n w1 h1 hn.1 hn.2 hl
theorem Wrt.sgn {w0 w1 : World} {p : Nat} {g : Option Nat} {xs : List Nat} (h : Wrt w0 p g xs w1) (n : Int) (hn : I64 n) (hl : xs.length + 1 ≤ 1099511627776) :
    Calls Try.prog 54 #[.pointer (some ⟨p, 0, none⟩), .int .i64 n] w1 fun e w2 => e = .returned (.tuple #[]) ∧ Wrt w0 p g (xs ++ [sgn n]) w2 := h.step fun g1 h1 => signed_any p g1 xs n w1 h1 hn.1 hn.2 hl

end Go.Proofs.Ythincpklokgjhaa
