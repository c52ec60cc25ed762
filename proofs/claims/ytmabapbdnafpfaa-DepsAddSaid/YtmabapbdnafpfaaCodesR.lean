/- What the calls of a codes.Reader do: what is read as a count, a number with a sign, a flag, a text, a list of words, and what is left. -/
import Derived.Test.YtmabapbdnafpfaaCodesW
import Derived.Test.YtmabapbdnafpfaaRead
namespace Go.Proofs.Ytmabapbdnafpfaa
open Go.RowKit

/-- The byte i of the words. -/
def ub (ws : List Nat) (i : Nat) : Nat := ws.getD (i / 8) 0 / 2 ^ (i % 8 * 8) % 256
def unp (ws : List Nat) (n : Nat) : List Nat := (List.range n).map (ub ws)
theorem unp_len (ws : List Nat) (n : Nat) : (unp ws n).length = n := by simp [unp]
theorem unp_succ (ws : List Nat) (n : Nat) : unp ws (n + 1) = unp ws n ++ [ub ws n] := by simp [unp, List.range_succ]

/-- Whether nothing but zeros stands behind the first n bytes. -/
def padB (ws : List Nat) (n m : Nat) : Bool := (List.range (8 * m)).all fun i => decide (i < n) || ub ws i == 0
theorem padB_yes {ws : List Nat} {n m : Nat} (h : ∀ i, n ≤ i → i < 8 * m → ub ws i = 0) : padB ws n m = true := by
  simp only [padB, List.all_eq_true, List.mem_range, Bool.or_eq_true, decide_eq_true_eq, beq_iff_eq]
  intro i hi
  rcases Nat.lt_or_ge i n with h1 | h1
  · exact .inl h1
  · exact .inr (h i h1 hi)
theorem padB_no {ws : List Nat} {n m i : Nat} (h1 : n ≤ i) (h2 : i < 8 * m) (h : ub ws i ≠ 0) : padB ws n m = false := by
  rw [Bool.eq_false_iff]
  intro ht
  simp only [padB, List.all_eq_true, List.mem_range, Bool.or_eq_true, decide_eq_true_eq, beq_iff_eq] at ht
  rcases ht i h2 with h3 | h3
  · omega
  · exact h h3
theorem ub_lt (ws : List Nat) (i : Nat) : ub ws i < 256 := Nat.mod_lt _ (by omega)
/-- The text that words have, or none, and whether they are one. -/
def TextOf (w : World) (ws : List Nat) (n m : Nat) (e : Ending) (w' : World) : Prop :=
  e = .returned (.tuple #[.string (if padB ws n m = true then ofB (unp ws n) else ⟨#[]⟩), .bool (padB ws n m)]) ∧ Fr No w w'

/-- Only block p has turned, and what is new. -/
abbrev Only (p : Nat) : Nat → Prop := fun k => k = p
/-- What a reader is told of the words that it asks for: the answer x, and whether that is right. -/
def Tells (fid : Nat) (mk : Value → Array Value) (w : World) (xs : List Nat) (n : Nat) (x : Value) (ok : Bool) : Prop :=
  ∀ (W : World) (A : Option Addr) (c : Nat), Fr No w W → Sl W W.heap.size A (u64s (xs.take n)) → n ≤ c → c ≤ maxLen → (A = none → c = 0) →
    Calls Try.prog fid (mk (.slice A n c)) W fun e w' => e = .returned (.tuple #[x, .bool ok]) ∧ Fr No W w'
/-- The reader behind a try. -/
def after (st : Option (List Nat)) (n : Nat) (ok : Bool) : Option (List Nat) := st.bind fun xs => if n ≤ xs.length ∧ ok = true then some (xs.drop n) else none
def told (st : Option (List Nat)) (n : Nat) (ok : Bool) (x z : Value) : Value := if (after st n ok).isSome then x else z

theorem sl_take {w w' : World} {A : Option Addr} {xs : List Nat} (h : Sl w w.heap.size A (u64s xs)) (hf : Fr No w w') (n : Nat) : Sl w' w'.heap.size A (u64s (xs.take n)) := by
  have h1 := ((h.take n).fr hf (Nat.le_refl _) (fun _ _ _ => id)).more hf.size
  simpa [u64s, List.map_take] using h1

/-- The answer to a try. -/
theorem told_none (n : Nat) (ok : Bool) (x z : Value) : told none n ok x z = z := rfl

/-- The number of a word. -/
def uns (u : Nat) : Int := if u % 2 = 0 then (u / 2 : Nat) else -((u / 2 : Nat) : Int) - 1

theorem xor_i64 (a b : Int) : bits .xor .i64 a b = IntKind.i64.wrap (((BitVec.ofInt 64 a) ^^^ (BitVec.ofInt 64 b)).toNat : Int) := rfl
theorem uns_bits (u : Nat) (hu : u < 18446744073709551616) : bits BinOp.xor IntKind.i64 ((u : Int) / 2) (wrap64 (-wrap64 (bits BinOp.and IntKind.u64 (u : Int) 1))) = uns u := by
  have h1 : bits BinOp.and IntKind.u64 (u : Int) 1 = ((u % 2 : Nat) : Int) := by
    have h2 := u64_and_nat u 1 hu (by omega)
    rw [Nat.and_one_is_mod] at h2
    exact h2
  have h3 : (u : Int) / 2 = ((u / 2 : Nat) : Int) := by omega
  have h4 : (BitVec.ofInt 64 ((u / 2 : Nat) : Int)).toNat = u / 2 := by
    rw [BitVec.ofInt_natCast, BitVec.toNat_ofNat]
    exact Nat.mod_eq_of_lt (by omega)
  rw [h1, h3, xor_i64]
  unfold uns
  by_cases h : u % 2 = 0
  · rw [if_pos h, h]
    have h5 : (BitVec.ofInt 64 (wrap64 (-wrap64 ((0 : Nat) : Int)))) = 0#64 := by
      rw [show wrap64 (-wrap64 ((0 : Nat) : Int)) = 0 by unfold wrap64; omega]
      decide +kernel
    rw [h5, BitVec.xor_zero, h4, IntKind.wrap_i64]
    omega
  · rw [if_neg h, show u % 2 = 1 by omega]
    have h5 : (BitVec.ofInt 64 (wrap64 (-wrap64 ((1 : Nat) : Int)))) = BitVec.allOnes 64 := by
      rw [show wrap64 (-wrap64 ((1 : Nat) : Int)) = -1 by unfold wrap64; omega]
      decide +kernel
    rw [h5, BitVec.xor_allOnes, BitVec.toNat_not, h4, IntKind.wrap_i64]
    omega

/-- What is read as a count. -/
def cntR (most : Int) (st : Option (List Nat)) : Option (Nat × List Nat) :=
  match st with
  | some (u :: r) => if 0 ≤ most ∧ (u : Int) ≤ most then some (u, r) else none
  | _ => none
def sgnR (st : Option (List Nat)) : Option (Int × List Nat) :=
  match st with
  | some (u :: r) => some (uns u, r)
  | _ => none
def flagR (st : Option (List Nat)) : Option (Bool × List Nat) :=
  match st with
  | some (u :: r) => if u ≤ 1 then some (u == 1, r) else none
  | _ => none
def textR (st : Option (List Nat)) : Option (ByteArray × List Nat) :=
  match cntR 64 st with
  | some (n, r) => if (n + 7) / 8 ≤ r.length ∧ padB (r.take ((n + 7) / 8)) n ((n + 7) / 8) = true then some (ofB (unp (r.take ((n + 7) / 8)) n), r.drop ((n + 7) / 8)) else none
  | none => none
def wordsR (most : Int) (st : Option (List Nat)) : Option (List Nat × List Nat) :=
  match cntR most st with
  | some (n, r) => if n ≤ r.length then some (r.take n, r.drop n) else none
  | none => none
theorem cnt_spec (most : Int) (st : Option (List Nat)) : ∃ (x : Int) (ok : Bool), (∀ u r, st = some (u :: r) → x = IntKind.i64.wrap u ∧ ok = decide (0 ≤ most ∧ (u : Int) ≤ most)) ∧
    (most < 9223372036854775808 → after st 1 ok = (cntR most st).map (·.2) ∧ told st 1 ok (.int .i64 x) (.int .i64 0) = .int .i64 ((((cntR most st).map (·.1)).getD 0 : Nat) : Int)) := by
  match st with
  | none => exact ⟨0, false, by simp, fun _ => by simp [after, told, cntR]⟩
  | some [] => exact ⟨0, false, by simp, fun _ => by simp [after, told, cntR]⟩
  | some (u :: r) =>
    refine ⟨IntKind.i64.wrap u, decide (0 ≤ most ∧ (u : Int) ≤ most), fun u' r' e => ?_, fun hm => ?_⟩
    · simp at e
      obtain ⟨rfl, rfl⟩ := e
      exact ⟨rfl, rfl⟩
    · by_cases h : 0 ≤ most ∧ (u : Int) ≤ most
      · have e : IntKind.i64.wrap (u : Int) = u := IntWalk.i64_in _ (by omega)
        simp [after, told, cntR, h, e]
      · simp [after, told, cntR, h]

theorem sgn_spec (st : Option (List Nat)) : ∃ (x : Int) (ok : Bool), (∀ u r, st = some (u :: r) → x = uns u ∧ ok = true) ∧
    (after st 1 ok = (sgnR st).map (·.2) ∧ told st 1 ok (.int .i64 x) (.int .i64 0) = .int .i64 (((sgnR st).map (·.1)).getD 0)) := by
  match st with
  | none => exact ⟨0, false, by simp, by simp [after, told, sgnR]⟩
  | some [] => exact ⟨0, false, by simp, by simp [after, told, sgnR]⟩
  | some (u :: r) =>
    refine ⟨uns u, true, fun u' r' e => ?_, by simp [after, told, sgnR]⟩
    simp at e
    obtain ⟨rfl, rfl⟩ := e
    exact ⟨rfl, rfl⟩
theorem flag_spec (st : Option (List Nat)) : ∃ (x ok : Bool), (∀ u r, st = some (u :: r) → x = ((u : Int) == 1) ∧ ok = decide ((u : Int) ≤ 1)) ∧
    (after st 1 ok = (flagR st).map (·.2) ∧ told st 1 ok (.bool x) (.bool false) = .bool (((flagR st).map (·.1)).getD false)) := by
  match st with
  | none => exact ⟨false, false, by simp, by simp [after, told, flagR]⟩
  | some [] => exact ⟨false, false, by simp, by simp [after, told, flagR]⟩
  | some (u :: r) =>
    refine ⟨((u : Int) == 1), decide ((u : Int) ≤ 1), fun u' r' e => ?_, ?_⟩
    · simp at e
      obtain ⟨rfl, rfl⟩ := e
      exact ⟨rfl, rfl⟩
    · by_cases h : u ≤ 1
      · have h1 : (u : Int) ≤ 1 := by omega
        have h2 : ((u : Int) == 1) = (u == 1) := by
          rw [Bool.eq_iff_iff, beq_iff_eq, beq_iff_eq]
          omega
        simp [after, told, flagR, h, h1, h2]
      · have h1 : ¬ (u : Int) ≤ 1 := by omega
        simp [after, told, flagR, h, h1]

theorem text_spec (st : Option (List Nat)) : ∃ (x : ByteArray) (ok : Bool), ∀ st1 n, st1 = (cntR 64 st).map (·.2) → n = ((cntR 64 st).map (·.1)).getD 0 →
    (∀ r, st1 = some r → (n + 7) / 8 ≤ r.length → x = (if padB (r.take ((n + 7) / 8)) n ((n + 7) / 8) = true then ofB (unp (r.take ((n + 7) / 8)) n) else ⟨#[]⟩) ∧ ok = padB (r.take ((n + 7) / 8)) n ((n + 7) / 8)) ∧
    after st1 ((n + 7) / 8) ok = (textR st).map (·.2) ∧ told st1 ((n + 7) / 8) ok (.string x) (.string ⟨#[]⟩) = .string (((textR st).map (·.1)).getD ⟨#[]⟩) := by
  cases h : cntR 64 st with
  | none =>
    refine ⟨⟨#[]⟩, false, ?_⟩
    rintro st1 n rfl rfl
    simp [after, told, textR, h]
  | some y =>
    obtain ⟨n, r⟩ := y
    refine ⟨if padB (r.take ((n + 7) / 8)) n ((n + 7) / 8) = true then ofB (unp (r.take ((n + 7) / 8)) n) else ⟨#[]⟩, padB (r.take ((n + 7) / 8)) n ((n + 7) / 8), ?_⟩
    intro st1 n' e1 e2
    simp only [Option.map_some, Option.getD_some] at e1 e2
    obtain rfl : n = n' := e2.symm
    subst e1
    refine ⟨?_, ?_⟩
    · intro r' e hl
      injection e with e
      subst e
      exact ⟨rfl, rfl⟩
    · by_cases h1 : (n + 7) / 8 ≤ r.length
      · by_cases h2 : padB (r.take ((n + 7) / 8)) n ((n + 7) / 8) = true
        · simp [after, told, textR, h, h1, h2]
        · simp [after, told, textR, h, h1, h2]
      · simp [after, told, textR, h, h1]
theorem cntR_le {most : Int} {st : Option (List Nat)} {n : Nat} {r : List Nat} (h : cntR most st = some (n, r)) : (n : Int) ≤ most := by
  match st, h with
  | some (u :: r'), h =>
    simp only [cntR] at h
    split at h
    · simp at h; omega
    · cases h

theorem own_weak {w : World} {base base' : Nat} {e : TypeId} {size n : Nat} {v : Value} {xs : List Value} (h : w.ownsRow base e size v n xs) (hb : base' ≤ base) : w.ownsRow base' e size v n xs := by
  refine ⟨h.1, ?_⟩
  rcases h.2 with h0 | ⟨g, cap, cur, hv, hbg, r⟩
  · exact .inl h0
  · exact .inr ⟨g, cap, cur, hv, Nat.le_trans hb hbg, r⟩

/-- What is told of the words asked for, where that is a copy of them. -/
def TellsL (fid : Nat) (w : World) (xs : List Nat) (n : Nat) : Prop :=
  ∀ (W : World) (A : Option Addr) (c : Nat), Fr No w W → Sl W W.heap.size A (u64s (xs.take n)) → n ≤ c → c ≤ maxLen → (A = none → c = 0) →
    Calls Try.prog fid #[.slice A n c] W fun e w' => ∃ A3 c3, e = .returned (.tuple #[.slice A3 n c3, .bool true]) ∧ w'.ownsRow W.heap.size 87 1 (.slice A3 (xs.take n).length c3) (xs.take n).length (u64s (xs.take n)) ∧ Fr No W w'
def toldL (st : Option (List Nat)) (n : Nat) : List Nat := if (after st n true).isSome then (st.getD []).take n else []
theorem words_spec (most : Int) (st : Option (List Nat)) : ∀ st1 n, st1 = (cntR most st).map (·.2) → n = ((cntR most st).map (·.1)).getD 0 →
    after st1 n true = (wordsR most st).map (·.2) ∧ toldL st1 n = ((wordsR most st).map (·.1)).getD [] := by
  intro st1 n e1 e2
  cases h : cntR most st with
  | none =>
    rw [h] at e1 e2
    subst e1 e2
    simp [after, toldL, wordsR, h]
  | some y =>
    obtain ⟨m, r⟩ := y
    rw [h] at e1 e2
    simp at e1 e2
    subst e1 e2
    by_cases h1 : n ≤ r.length
    · simp [after, toldL, wordsR, h, h1]
    · simp [after, toldL, wordsR, h, h1]

end Go.Proofs.Ytmabapbdnafpfaa
/- A reader whose words lie in blocks of which G is told: counts and numbers with a sign. -/
namespace Go.Proofs.Ytmabapbdnafpfaa
open Go.RowKit

section
variable {G : Nat → Prop}
end
end Go.Proofs.Ytmabapbdnafpfaa
