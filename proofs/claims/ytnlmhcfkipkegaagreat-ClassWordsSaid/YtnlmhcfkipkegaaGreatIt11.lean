/- What the document reads as a text. -/
import Derived.Test.YtnlmhcfkipkegaaGreatRrd9
namespace Go.Proofs.YtnlmhcfkipkegaaGreat
open Go.RowKit

theorem info5_11 : (Tryz.prog.info? 5).map (fun i => (i.zero, i.size, i.bytes)) = some (some (.int .u8 0), 1, 1) := by kernel_rfl
/-- What the document's 'Read' answers of a text. -/
def RdT (w : World) (B : Nat) (xs : List Nat) (o : Option (ByteArray × List Nat)) (e : Ending) (w' : World) : Prop :=
  Fr No w w' ∧ ((∃ (m : Int) (s : ByteArray) (D : Option Addr) (d dc : Nat) (r : List Nat) (A : Option Addr) (c : Nat), o = some (s, r) ∧ e = .returned (.tuple #[.agg #[.int .i64 3, .int .i64 0, .int .i64 m, .int .i64 0, .string s, .slice D d dc], .slice A r.length c, .bool true]) ∧ Sl w B A (u64s r) ∧ r.length ≤ c ∧ c ≤ maxLen ∧ r.length ≤ xs.length) ∨
    (∃ (m : Int) (P : Option Addr) (a b : Nat) (v : Value), o = none ∧ e = .returned (.tuple #[.agg #[.int .i64 3, .int .i64 0, .int .i64 m, .int .i64 0, .string ⟨#[]⟩, .slice P a b], v, .bool false])))
theorem own_types {w : World} {b1 b2 : Nat} {e1 e2 : TypeId} {s1 s2 n1 n2 : Nat} {v1 v2 : Value} {xs1 xs2 : List Value} (h1 : w.ownsRow b1 e1 s1 v1 n1 xs1) (h2 : w.ownsRow b2 e2 s2 v2 n2 xs2) (hne : e1 ≠ e2) {k : Nat} (hk : v1.ownBlock = some k) : v2.ownBlock ≠ some k := by
  rcases h1.2 with ⟨rfl, _⟩ | ⟨g, cap, cur, rfl, _, hg, _⟩
  · simp [Value.ownBlock] at hk
  · simp [Value.ownBlock] at hk
    subst hk
    exact own_apart h2 (t := e1) hg (fun e => hne e.symm)

/-- In the midst of reading a text: the item, the place of the result, the item's words, the bytes so far. -/
structure Mid (w : World) (xs ws : List Nat) (most : Int) (A3 : Option Addr) (nw c3 : Nat) (A4 : Option Addr) (j c4 n : Nat) (wr : World) : Prop where
  item : Bk wr (w.heap.size + 1) 68 #[.int .i64 3, .int .i64 0, .int .i64 most, .int .i64 0, .string ⟨#[]⟩, .slice A3 nw c3]
  res : Bk wr w.heap.size 68 #[.int .i64 0, .int .i64 0, .int .i64 0, .int .i64 0, .string ⟨#[]⟩, .slice none 0 0]
  words : wr.ownsRow w.heap.size 60 1 (.slice A3 nw c3) nw (u64s ws)
  bytes : wr.ownsRow w.heap.size 5 1 (.slice A4 j c4) j (u8s (unp ws n))
  fr : Fr No w wr

end Go.Proofs.YtnlmhcfkipkegaaGreat
/- A text that the document's reader reads. -/
namespace Go.Proofs.YtnlmhcfkipkegaaGreat
open Go.RowKit

theorem textR_64 {xs : List Nat} (h : ∀ u ∈ xs, u < 18446744073709551616) : ∀ y, textR (some xs) = some y → ∀ u ∈ y.2, u < 18446744073709551616 := by
  intro y hy u hu
  unfold textR at hy
  cases hc : cntR 64 (some xs) with
  | none => rw [hc] at hy; cases hy
  | some z =>
    obtain ⟨n, r⟩ := z
    rw [hc] at hy
    simp only at hy
    split at hy
    · simp only [Option.some.injEq] at hy
      rw [← hy] at hu
      have h1 := List.mem_of_mem_drop hu
      cases xs with
      | nil => simp [cntR] at hc
      | cons a s =>
        simp only [cntR] at hc
        split at hc
        · simp only [Option.some.injEq, Prod.mk.injEq] at hc
          exact h u (by rw [← hc.2] at h1; simp [h1])
        · cases hc
    · cases hy

def txS (st : Option (List Nat)) : Option (List Nat) := (textR st).map (·.2)
def txV (st : Option (List Nat)) : ByteArray := ((textR st).map (·.1)).getD ⟨#[]⟩
end Go.Proofs.YtnlmhcfkipkegaaGreat
