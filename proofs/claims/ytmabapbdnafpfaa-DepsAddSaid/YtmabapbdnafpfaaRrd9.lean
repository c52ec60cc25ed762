/- A program's words, purely; what package prog writes. -/
import Derived.Test.YtmabapbdnafpfaaCodesW
import Derived.Test.YtmabapbdnafpfaaIdx9
import Derived.Test.YtmabapbdnafpfaaCodesR
namespace Go.Proofs.Ytmabapbdnafpfaa
open Go.RowKit

/-- An instruction's words, and a program's. -/
def wordsI (i : Ins) : List Nat := [i.op.toNat, i.a.toNat, i.b.toNat, i.c.toNat, sgn i.ka, i.kb.toNat, sgn i.la, i.lb.toNat, sgn i.x]
theorem wordsI_len (i : Ins) : (wordsI i).length = 9 := rfl
def wordsP (l : List Ins) : List Nat := l.length :: l.flatMap wordsI
theorem wordsI_flat (l : List Ins) : (l.flatMap wordsI).length = l.length * 9 := by
  induction l with
  | nil => simp
  | cons x r ih => rw [List.flatMap_cons, List.length_append, wordsI_len, ih, List.length_cons]; omega

end Go.Proofs.Ytmabapbdnafpfaa
/- What is read as a template, an instruction and a program, purely. -/
namespace Go.Proofs.Ytmabapbdnafpfaa
open Go.RowKit

/-- The state behind a count of at most 255, and what was read. -/
def cS (m : Int) (st : Option (List Nat)) : Option (List Nat) := (cntR m st).map (·.2)
def cV (m : Int) (st : Option (List Nat)) : Int := ((((cntR m st).map (·.1)).getD 0 : Nat) : Int)
def gS (st : Option (List Nat)) : Option (List Nat) := (sgnR st).map (·.2)
def gV (st : Option (List Nat)) : Int := ((sgnR st).map (·.1)).getD 0
/-- Doesn't an Arg fit? -/
def far9 (a : Int) : Prop := a < -1 ∨ 255 < a
instance (a : Int) : Decidable (far9 a) := by unfold far9; infer_instance
/-- A template that is read. -/
def keyR (st : Option (List Nat)) : Option ((Int × Int) × List Nat) := if far9 (gV st) then none else (cntR 999 (gS st)).map fun q => ((gV st, (q.1 : Int)), q.2)
def kS (st : Option (List Nat)) : Option (List Nat) := (keyR st).map (·.2)
def kV (st : Option (List Nat)) : Int × Int := ((keyR st).map (·.1)).getD (0, 0)
/-- An instruction that is read. -/
def insR (st : Option (List Nat)) : Option (Ins × List Nat) :=
  (sgnR (kS (kS (cS 255 (cS 255 (cS 255 (cS 255 st))))))).map fun q =>
    (⟨cV 255 st, cV 255 (cS 255 st), cV 255 (cS 255 (cS 255 st)), cV 255 (cS 255 (cS 255 (cS 255 st))), (kV (cS 255 (cS 255 (cS 255 (cS 255 st))))).1, (kV (cS 255 (cS 255 (cS 255 (cS 255 st))))).2,
      (kV (kS (cS 255 (cS 255 (cS 255 (cS 255 st)))))).1, (kV (kS (cS 255 (cS 255 (cS 255 (cS 255 st)))))).2, q.1⟩, q.2)
theorem insR_none : insR none = none := rfl
/-- So many instructions that are read. -/
def stN : Nat → Option (List Nat) → Option (List Nat)
  | 0, st => st
  | k + 1, st => (insR (stN k st)).map (·.2)
def lsN : Nat → Option (List Nat) → List Ins
  | 0, _ => []
  | k + 1, st => lsN k st ++ [((insR (stN k st)).map (·.1)).getD ⟨0, 0, 0, 0, 0, 0, 0, 0, 0⟩]
theorem lsN_len (k : Nat) (st : Option (List Nat)) : (lsN k st).length = k := by
  induction k with
  | zero => rfl
  | succ k ih => simp [lsN, ih]
/-- What is read as a program: what is left, and the program. -/
def gotN (st : Option (List Nat)) : Nat := ((cntR 8 st).map (·.1)).getD 0
def gotS (st : Option (List Nat)) : Option (List Nat) := stN (gotN st) (cS 8 st)
def gotL (st : Option (List Nat)) : List Ins := if (gotS st).isSome = true then lsN (gotN st) (cS 8 st) else []
theorem gotN_le (st : Option (List Nat)) : gotN st ≤ 8 := by
  unfold gotN
  match st with
  | none => simp [cntR]
  | some [] => simp [cntR]
  | some (u :: r) =>
    simp only [cntR]
    split
    · simp
      omega
    · simp
theorem cntR_neg (st : Option (List Nat)) : cntR (-1) st = none := by
  match st with
  | none => rfl
  | some [] => rfl
  | some (u :: r) => simp [cntR]
/-- A list that grows by what is read is the program's, as long as all is right. -/
theorem lsN_next {k : Nat} {st : Option (List Nat)} {L : List Ins} {x : Ins} (h : (stN k st).isSome = true → L = lsN k st) (hx : ∀ q, insR (stN k st) = some q → q.1 = x) : (stN (k + 1) st).isSome = true → L ++ [x] = lsN (k + 1) st := by
  intro h1
  cases h2 : insR (stN k st) with
  | none => simp [stN, h2] at h1
  | some q =>
    have h3 : (stN k st).isSome = true := by
      cases h4 : stN k st with
      | none => rw [h4, insR_none] at h2; cases h2
      | some _ => rfl
    rw [lsN, h2, h h3, ← hx q h2]
    rfl

/-- What was written is read again: a count, a number with a sign. -/
theorem cntR_back {m n : Int} (hn : 0 ≤ n ∧ n ≤ m) (r : List Nat) : cntR m (some (n.toNat :: r)) = some (n.toNat, r) := by
  simp only [cntR]
  rw [if_pos (by omega)]
theorem uns_sgn9 (x : Int) : uns (sgn x) = x := by
  unfold uns sgn
  split
  · split
    · omega
    · omega
  · split
    · omega
    · omega
theorem sgnR_back (x : Int) (r : List Nat) : sgnR (some (sgn x :: r)) = some (x, r) := by
  simp only [sgnR, uns_sgn9]
/-- An instruction that fits what is read. -/
structure Ins.Small (i : Ins) : Prop where
  op : 0 ≤ i.op ∧ i.op ≤ 255
  a : 0 ≤ i.a ∧ i.a ≤ 255
  b : 0 ≤ i.b ∧ i.b ≤ 255
  c : 0 ≤ i.c ∧ i.c ≤ 255
  ka : -1 ≤ i.ka ∧ i.ka ≤ 255
  kb : 0 ≤ i.kb ∧ i.kb ≤ 999
  la : -1 ≤ i.la ∧ i.la ≤ 255
  lb : 0 ≤ i.lb ∧ i.lb ≤ 999
theorem small_of_ok {i : Ins} {n : Int} (hn : n ≤ 3) (h : insOk i n = true) : i.Small := by
  rw [insOk_iff] at h
  obtain ⟨h1, h2, h3, h4, h5, h6, h7, h8, h9, h10⟩ := h
  by_cases o4 : i.op ≤ 4
  · have k := h9 o4
    have q : i.op ≠ 6 ∧ i.op ≠ 7 := by omega
    have bc := h5 q.1 q.2
    by_cases e4 : i.op = 4
    · have l := h10 e4
      exact ⟨by omega, by omega, by omega, by omega, by omega, by omega, by omega, by omega⟩
    · have l := h7 e4
      exact ⟨by omega, by omega, by omega, by omega, by omega, by omega, by omega, by omega⟩
  · have k := h6 (by omega)
    have l := h7 (by omega)
    by_cases e6 : i.op = 6 ∨ i.op = 7
    · have bc := h8 e6
      exact ⟨by omega, by omega, by omega, by omega, by omega, by omega, by omega, by omega⟩
    · have bc := h5 (by omega) (by omega)
      exact ⟨by omega, by omega, by omega, by omega, by omega, by omega, by omega, by omega⟩
theorem cS_back {m n : Int} (hn : 0 ≤ n ∧ n ≤ m) (r : List Nat) : cS m (some (n.toNat :: r)) = some r := by rw [cS, cntR_back hn]; rfl
theorem cV_back {m n : Int} (hn : 0 ≤ n ∧ n ≤ m) (r : List Nat) : cV m (some (n.toNat :: r)) = n := by rw [cV, cntR_back hn]; simp; omega
theorem keyR_back {x y : Int} (hx : -1 ≤ x ∧ x ≤ 255) (hy : 0 ≤ y ∧ y ≤ 999) (r : List Nat) : keyR (some (sgn x :: y.toNat :: r)) = some ((x, y), r) := by
  have e1 : gV (some (sgn x :: y.toNat :: r)) = x := by rw [gV, sgnR_back]; rfl
  have e2 : gS (some (sgn x :: y.toNat :: r)) = some (y.toNat :: r) := by rw [gS, sgnR_back]; rfl
  rw [keyR, e1, e2, if_neg (by unfold far9; omega), cntR_back hy]
  simp
  omega
theorem insR_back {i : Ins} (h : i.Small) (r : List Nat) : insR (some (wordsI i ++ r)) = some (i, r) := by
  obtain ⟨o, a, b, c, ka, kb, la, lb, x⟩ := i
  obtain ⟨h1, h2, h3, h4, h5, h6, h7, h8⟩ := h
  dsimp only at *
  simp only [wordsI, List.cons_append, List.nil_append]
  have k1 := keyR_back h5 h6 (sgn la :: lb.toNat :: sgn x :: r)
  have k2 := keyR_back h7 h8 (sgn x :: r)
  have s1 : kS (some (sgn ka :: kb.toNat :: sgn la :: lb.toNat :: sgn x :: r)) = some (sgn la :: lb.toNat :: sgn x :: r) := by rw [kS, k1]; rfl
  have s2 : kS (some (sgn la :: lb.toNat :: sgn x :: r)) = some (sgn x :: r) := by rw [kS, k2]; rfl
  have v1 : kV (some (sgn ka :: kb.toNat :: sgn la :: lb.toNat :: sgn x :: r)) = (ka, kb) := by rw [kV, k1]; rfl
  have v2 : kV (some (sgn la :: lb.toNat :: sgn x :: r)) = (la, lb) := by rw [kV, k2]; rfl
  simp only [insR, cS_back h1, cS_back h2, cS_back h3, cS_back h4, cV_back h1, cV_back h2, cV_back h3, cV_back h4, s1, s2, v1, v2, sgnR_back, Option.map_some]
theorem stN_back {l : List Ins} (h : ∀ i ∈ l, i.Small) (k : Nat) (hk : k ≤ l.length) : stN k (some (l.flatMap wordsI)) = some ((l.drop k).flatMap wordsI) ∧ lsN k (some (l.flatMap wordsI)) = l.take k := by
  induction k with
  | zero => simp [stN, lsN]
  | succ k ih =>
    obtain ⟨e1, e2⟩ := ih (by omega)
    have hkl : k < l.length := by omega
    have e3 : insR (stN k (some (l.flatMap wordsI))) = some (l[k], (l.drop (k + 1)).flatMap wordsI) := by
      rw [e1, List.drop_eq_getElem_cons hkl, List.flatMap_cons]
      exact insR_back (h _ (List.getElem_mem hkl)) _
    rw [stN, lsN, e3, e2]
    exact ⟨rfl, (List.take_succ_eq_append_getElem hkl).symm⟩
theorem got_back {l : List Ins} (h : ∀ i ∈ l, i.Small) (hl : l.length ≤ 8) : gotS (some (wordsP l)) = some [] ∧ gotL (some (wordsP l)) = l := by
  have e0 : cntR 8 (some (wordsP l)) = some (l.length, l.flatMap wordsI) := by
    have := cntR_back (m := 8) (n := (l.length : Int)) (by omega) (l.flatMap wordsI)
    simpa [wordsP] using this
  have e1 : gotN (some (wordsP l)) = l.length := by rw [gotN, e0]; rfl
  have e2 : cS 8 (some (wordsP l)) = some (l.flatMap wordsI) := by rw [cS, e0]; rfl
  obtain ⟨q1, q2⟩ := stN_back h l.length (Nat.le_refl _)
  have e3 : gotS (some (wordsP l)) = some [] := by
    rw [gotS, e1, e2, q1]
    simp
  refine ⟨e3, ?_⟩
  rw [gotL, e3, e1, e2, q2]
  simp
end Go.Proofs.Ytmabapbdnafpfaa
/- What the document's own reader reads: an item, a template. -/
namespace Go.Proofs.Ytmabapbdnafpfaa
open Go.RowKit

theorem sl_tail9 {w w' : World} {B : Nat} {A : Option Addr} {u : Nat} {xs : List Nat} {c : Nat} (h : Sl w B A (u64s (u :: xs))) (hc : xs.length + 1 ≤ c) (hk : ∀ p : Addr, p.block < B → w'.cell? p = w.cell? p) :
    Sl w' B (if c = 1 then A else A.map (·.add 1)) (u64s xs) := by
  have h1 := h.drop (k := 1) (n := xs.length + 1) (cap := c) (sz := 1) (by simp [u64s]) (by omega) hc
  exact h1.keep hk
theorem run_slice_from9 {P : Program} (t e : TypeId) (i : TypeInfo) (ht : P.underlying t = some (.slice e)) (hi : P.info? e = some i) (h1 : i.size = 1) (A : Option Addr) (n c k : Nat) (K : Int) (hK : K = k) (hk : k ≤ n) (W : World) :
    (Instr.slice t (.slice A n c) (some (.int .i64 K)) none none).run P W = .ok (.slice (if c = k then A else A.map (·.add k)) (n - k) (c - k)) W := by
  subst hK
  have hb : (Instr.sliceBound (.int .i64 (k : Int)) n .sliceB).run P W = .ok k W := by
    have := run_sliceBound (P := P) (w := W) .i64 (k : Int) n .sliceB (by omega) (by omega)
    simpa using this
  simp [Instr.slice, Instr.sliceBounds, run_underlying ht, hb, sizeOf, typeInfo, hi, h1]

/-- An item's value, of its kind, count, most and number. -/
def itV (k n m x : Int) : Value := .agg #[.int .i64 k, .int .i64 n, .int .i64 m, .int .i64 x, .string ⟨#[]⟩, .slice none 0 0]
/-- What the document's 'Read' answers: an item, what is left, and whether that is right. -/
def Rd9 (w : World) (B : Nat) (xs : List Nat) (o : Option ((Int × Int) × List Nat)) (e : Ending) (w' : World) : Prop :=
  Fr No w w' ∧ ((∃ (k n m x : Int) (r : List Nat) (A : Option Addr) (c : Nat), o = some ((n, x), r) ∧ e = .returned (.tuple #[itV k n m x, .slice A r.length c, .bool true]) ∧ Sl w B A (u64s r) ∧ r.length ≤ c ∧ c ≤ maxLen ∧ r.length ≤ xs.length) ∨
    (∃ (k n m x : Int) (v : Value), o = none ∧ e = .returned (.tuple #[itV k n m x, v, .bool false])))
def cI (m : Int) (xs : List Nat) : Option ((Int × Int) × List Nat) := (cntR m (some xs)).map fun q => (((q.1 : Int), 0), q.2)
def gI (xs : List Nat) : Option ((Int × Int) × List Nat) := (sgnR (some xs)).map fun q => ((0, q.1), q.2)

def cO (m : Int) (st : Option (List Nat)) : Option ((Int × Int) × List Nat) := st.bind fun xs => cI m xs
def gO (st : Option (List Nat)) : Option ((Int × Int) × List Nat) := st.bind fun xs => gI xs

/-- What is left behind an item fits words too. -/
theorem cI_64 {m : Int} {xs : List Nat} (h : ∀ u ∈ xs, u < 18446744073709551616) : ∀ y, cI m xs = some y → ∀ u ∈ y.2, u < 18446744073709551616 := by
  intro y hy u hu
  match xs, h, hy with
  | [], _, hy => simp [cI, cntR] at hy
  | v :: r, h, hy =>
    simp only [cI, cntR] at hy
    split at hy
    · simp at hy
      subst hy
      exact h u (by simp at hu; simp [hu])
    · simp at hy
theorem gI_64 {xs : List Nat} (h : ∀ u ∈ xs, u < 18446744073709551616) : ∀ y, gI xs = some y → ∀ u ∈ y.2, u < 18446744073709551616 := by
  intro y hy u hu
  match xs, h, hy with
  | [], _, hy => simp [gI, sgnR] at hy
  | v :: r, h, hy =>
    simp [gI, sgnR] at hy
    subst hy
    exact h u (by simp at hu; simp [hu])
end Go.Proofs.Ytmabapbdnafpfaa
/- What the document reads as a text. -/
namespace Go.Proofs.Ytmabapbdnafpfaa
open Go.RowKit

theorem info5_11 : (Try.prog.info? 5).map (fun i => (i.zero, i.size, i.bytes)) = some (some (.int .u8 0), 1, 1) := by kernel_rfl
/-- What the document's 'Read' answers of a text. -/
def RdT (w : World) (B : Nat) (xs : List Nat) (o : Option (ByteArray × List Nat)) (e : Ending) (w' : World) : Prop :=
  Fr No w w' ∧ ((∃ (m : Int) (s : ByteArray) (D : Option Addr) (d dc : Nat) (r : List Nat) (A : Option Addr) (c : Nat), o = some (s, r) ∧ e = .returned (.tuple #[.agg #[.int .i64 3, .int .i64 0, .int .i64 m, .int .i64 0, .string s, .slice D d dc], .slice A r.length c, .bool true]) ∧ Sl w B A (u64s r) ∧ r.length ≤ c ∧ c ≤ maxLen ∧ r.length ≤ xs.length) ∨
    (∃ (m : Int) (P : Option Addr) (a b : Nat) (v : Value), o = none ∧ e = .returned (.tuple #[.agg #[.int .i64 3, .int .i64 0, .int .i64 m, .int .i64 0, .string ⟨#[]⟩, .slice P a b], v, .bool false])))
end Go.Proofs.Ytmabapbdnafpfaa
/- A text that the document's reader reads. -/
namespace Go.Proofs.Ytmabapbdnafpfaa
open Go.RowKit

theorem textR_64 {xs : List Nat} (h : ∀ u ∈ xs, u < 18446744073709551616) : ∀ y, textR (some xs) = some y → ∀ u ∈ y.2, u < 18446744073709551616 := by
  intro y hy u hu
  unfold textR at hy
  cases hc : cntR 64 (some xs) with
  | none => rw [hc] at hy; cases hy
  | some z =>
    obtain ⟨n, r⟩ := z
    rw [hc] at hy
    simp only at hy
    split at hy
    · simp only [Option.some.injEq] at hy
      rw [← hy] at hu
      have h1 := List.mem_of_mem_drop hu
      cases xs with
      | nil => simp [cntR] at hc
      | cons a s =>
        simp only [cntR] at hc
        split at hc
        · simp only [Option.some.injEq, Prod.mk.injEq] at hc
          exact h u (by rw [← hc.2] at h1; simp [h1])
        · cases hc
    · cases hy

def txS (st : Option (List Nat)) : Option (List Nat) := (textR st).map (·.2)
def txV (st : Option (List Nat)) : ByteArray := ((textR st).map (·.1)).getD ⟨#[]⟩
end Go.Proofs.Ytmabapbdnafpfaa
