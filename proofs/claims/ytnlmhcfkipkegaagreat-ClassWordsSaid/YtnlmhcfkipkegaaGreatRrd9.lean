/- What the document's own reader reads: an item, a template. -/
import Derived.Test.YtnlmhcfkipkegaaGreatPrs9
namespace Go.Proofs.YtnlmhcfkipkegaaGreat
open Go.RowKit

theorem sl_tail9 {w w' : World} {B : Nat} {A : Option Addr} {u : Nat} {xs : List Nat} {c : Nat} (h : Sl w B A (u64s (u :: xs))) (hc : xs.length + 1 ≤ c) (hk : ∀ p : Addr, p.block < B → w'.cell? p = w.cell? p) :
    Sl w' B (if c = 1 then A else A.map (·.add 1)) (u64s xs) := by
  have h1 := h.drop (k := 1) (n := xs.length + 1) (cap := c) (sz := 1) (by simp [u64s]) (by omega) hc
  exact h1.keep hk
theorem run_slice_from9 {P : Program} (t e : TypeId) (i : TypeInfo) (ht : P.underlying t = some (.slice e)) (hi : P.info? e = some i) (h1 : i.size = 1) (A : Option Addr) (n c k : Nat) (K : Int) (hK : K = k) (hk : k ≤ n) (W : World) :
    (Instr.slice t (.slice A n c) (some (.int .i64 K)) none none).run P W = .ok (.slice (if c = k then A else A.map (·.add k)) (n - k) (c - k)) W := by
  subst hK
  have hb : (Instr.sliceBound (.int .i64 (k : Int)) n .sliceB).run P W = .ok k W := by
    have := run_sliceBound (P := P) (w := W) .i64 (k : Int) n .sliceB (by omega) (by omega)
    simpa using this
  simp [Instr.slice, Instr.sliceBounds, run_underlying ht, hb, sizeOf, typeInfo, hi, h1]

/-- An item's value, of its kind, count, most and number. -/
def itV (k n m x : Int) : Value := .agg #[.int .i64 k, .int .i64 n, .int .i64 m, .int .i64 x, .string ⟨#[]⟩, .slice none 0 0]
/-- What the document's 'Read' answers: an item, what is left, and whether that is right. -/
def Rd9 (w : World) (B : Nat) (xs : List Nat) (o : Option ((Int × Int) × List Nat)) (e : Ending) (w' : World) : Prop :=
  Fr No w w' ∧ ((∃ (k n m x : Int) (r : List Nat) (A : Option Addr) (c : Nat), o = some ((n, x), r) ∧ e = .returned (.tuple #[itV k n m x, .slice A r.length c, .bool true]) ∧ Sl w B A (u64s r) ∧ r.length ≤ c ∧ c ≤ maxLen ∧ r.length ≤ xs.length) ∨
    (∃ (k n m x : Int) (v : Value), o = none ∧ e = .returned (.tuple #[itV k n m x, v, .bool false])))
theorem field1 (k n m x : Int) (W : World) : (Instr.field 68 (.agg #[.int .i64 k, .int .i64 n, .int .i64 m, .int .i64 x, .string ⟨#[]⟩, .slice none 0 0]) 1).run Tryz.prog W = .ok (.int .i64 n) W := by kernel_rfl
theorem field3 (k n m x : Int) (W : World) : (Instr.field 68 (.agg #[.int .i64 k, .int .i64 n, .int .i64 m, .int .i64 x, .string ⟨#[]⟩, .slice none 0 0]) 3).run Tryz.prog W = .ok (.int .i64 x) W := by kernel_rfl
def cI (m : Int) (xs : List Nat) : Option ((Int × Int) × List Nat) := (cntR m (some xs)).map fun q => (((q.1 : Int), 0), q.2)
def gI (xs : List Nat) : Option ((Int × Int) × List Nat) := (sgnR (some xs)).map fun q => ((0, q.1), q.2)

def cO (m : Int) (st : Option (List Nat)) : Option ((Int × Int) × List Nat) := st.bind fun xs => cI m xs
def gO (st : Option (List Nat)) : Option ((Int × Int) × List Nat) := st.bind fun xs => gI xs

/-- What is left behind an item fits words too. -/
theorem cI_64 {m : Int} {xs : List Nat} (h : ∀ u ∈ xs, u < 18446744073709551616) : ∀ y, cI m xs = some y → ∀ u ∈ y.2, u < 18446744073709551616 := by
  intro y hy u hu
  match xs, h, hy with
  | [], _, hy => simp [cI, cntR] at hy
  | v :: r, h, hy =>
    simp only [cI, cntR] at hy
    split at hy
    · simp at hy
      subst hy
      exact h u (by simp at hu; simp [hu])
    · simp at hy
theorem gI_64 {xs : List Nat} (h : ∀ u ∈ xs, u < 18446744073709551616) : ∀ y, gI xs = some y → ∀ u ∈ y.2, u < 18446744073709551616 := by
  intro y hy u hu
  match xs, h, hy with
  | [], _, hy => simp [gI, sgnR] at hy
  | v :: r, h, hy =>
    simp [gI, sgnR] at hy
    subst hy
    exact h u (by simp at hu; simp [hu])
end Go.Proofs.YtnlmhcfkipkegaaGreat
