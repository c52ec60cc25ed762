/- The plain mathematics of the words of a text and of a number with a sign. -/
import Derived.WalkKit
import Derived.Test.YtmabapbdnafpfaaLib
import Derived.Test.YtmabapbdnafpfaaRows
import Derived.StillTailTactics
import Derived.Deep.OwnRows
import Derived.Deep.RegionHeld3
namespace Go.Proofs.Ytmabapbdnafpfaa

def hn : List Nat → Nat
  | [] => 0
  | b :: r => b + 256 * hn r
theorem hn_app (l : List Nat) (c : Nat) : hn (l ++ [c]) = hn l + c * 256 ^ l.length := by
  induction l with
  | nil => simp [hn]
  | cons b r ih => simp only [List.cons_append, hn, ih, List.length_cons, Nat.pow_succ, Nat.mul_add]; rw [show 256 * (c * 256 ^ r.length) = c * (256 ^ r.length * 256) by ac_rfl]; omega
theorem hn_lt (l : List Nat) (h : ∀ b ∈ l, b < 256) : hn l < 256 ^ l.length := by
  induction l with
  | nil => simp [hn]
  | cons b r ih =>
    have h1 := h b (by simp)
    have h2 := ih (fun x hx => h x (by simp [hx]))
    simp only [hn, List.length_cons, Nat.pow_succ]
    omega
/-- The word k of the bytes l. -/
def pw (l : List Nat) (k : Nat) : Nat := hn ((l.drop (8 * k)).take 8)
/-- The words of the bytes l. -/
def packed (l : List Nat) : List Nat := (List.range ((l.length + 7) / 8)).map (pw l)
theorem packed_len (l : List Nat) : (packed l).length = (l.length + 7) / 8 := by simp [packed]
theorem packed_at (l : List Nat) (k : Nat) (hk : k < (l.length + 7) / 8) : (packed l)[k]'(by simpa [packed] using hk) = pw l k := by simp [packed]

theorem pw_lt (l : List Nat) (h : ∀ b ∈ l, b < 256) (k : Nat) : pw l k < 256 ^ 8 := by
  refine Nat.lt_of_lt_of_le (hn_lt _ fun b hb => h b (List.mem_of_mem_drop (List.mem_of_mem_take hb))) (Nat.pow_le_pow_right (by omega) (by simp; omega))
theorem pw_zero (k : Nat) : pw [] k = 0 := by simp [pw, hn]
theorem pw_step (l : List Nat) (i k : Nat) (hi : i < l.length) :
    pw (l.take (i + 1)) k = if k = i / 8 then pw (l.take i) k + l[i] * 256 ^ (i % 8) else pw (l.take i) k := by
  have e : l.take (i + 1) = l.take i ++ [l[i]] := List.take_succ_eq_append_getElem hi
  have hl : (l.take i).length = i := by simp; omega
  unfold pw
  rw [e, List.drop_append, List.take_append, hl]
  by_cases hk : k = i / 8
  · rw [if_pos hk]
    have h1 : ((l.take i).drop (8 * k)).length = i % 8 := by simp; omega
    have h2 : ((l.take i).drop (8 * k)).take 8 = (l.take i).drop (8 * k) := List.take_of_length_le (by omega)
    have h3 : ([l[i]]).take (8 - i % 8) = [l[i]] := List.take_of_length_le (by simp; omega)
    rw [show 8 * k - i = 0 by omega, h1, h2, List.drop_zero, h3, hn_app, h1]
  · rw [if_neg hk]
    rcases Nat.lt_or_ge k (i / 8) with h | h
    · have h1 : 8 ≤ ((l.take i).drop (8 * k)).length := by simp; omega
      rw [show 8 - ((l.take i).drop (8 * k)).length = 0 by omega]
      simp
    · rw [@List.drop_eq_nil_of_le _ [l[i]] _ (by simp; omega)]
      simp
theorem pw_or (l : List Nat) (h : ∀ b ∈ l, b < 256) (i : Nat) (hi : i < l.length) :
    pw (l.take i) (i / 8) ||| (l[i] * 2 ^ (i % 8 * 8)) % 18446744073709551616 = pw (l.take (i + 1)) (i / 8) := by
  rw [pw_step l i _ hi, if_pos rfl]
  have hb : l[i] < 256 := h _ (List.getElem_mem hi)
  have h1 : ((l.take i).drop (8 * (i / 8))).length = i % 8 := by simp; omega
  have h2 : pw (l.take i) (i / 8) < 256 ^ (i % 8) := by
    unfold pw
    rw [List.take_of_length_le (by omega)]
    have := hn_lt ((l.take i).drop (8 * (i / 8))) (fun b hb => h b (List.mem_of_mem_take (List.mem_of_mem_drop hb)))
    rwa [h1] at this
  have e : (256 : Nat) ^ (i % 8) = 2 ^ (i % 8 * 8) := by rw [Nat.mul_comm, Nat.pow_mul]
  have h3 : l[i] * 2 ^ (i % 8 * 8) < 18446744073709551616 := by
    have : (2 : Nat) ^ (i % 8 * 8) ≤ 2 ^ 56 := Nat.pow_le_pow_right (by omega) (by omega)
    have h4 : l[i] * 2 ^ (i % 8 * 8) ≤ 255 * 2 ^ 56 := Nat.mul_le_mul (by omega) this
    omega
  rw [Nat.mod_eq_of_lt h3, e, Nat.mul_comm l[i], Nat.or_comm, ← Nat.two_pow_add_eq_or_of_lt (e ▸ h2)]
  omega

/-- A number with a sign as a word. -/
def sgn (n : Int) : Nat := if 0 ≤ n then (2 * n).toNat else (2 * (-(n + 1)) + 1).toNat

theorem xor_ones (a : Nat) (h : a < 18446744073709551616) : a ^^^ 18446744073709551615 = 18446744073709551615 - a := by
  have h1 := BitVec.toNat_not (x := BitVec.ofNat 64 a)
  have h2 : ~~~(BitVec.ofNat 64 a) = BitVec.ofNat 64 a ^^^ BitVec.allOnes 64 := (BitVec.xor_allOnes).symm
  rw [h2, BitVec.toNat_xor, BitVec.toNat_ofNat, BitVec.toNat_allOnes, Nat.mod_eq_of_lt (by omega)] at h1
  have e : (2 : Nat) ^ 64 - 1 = 18446744073709551615 := by decide
  rw [e] at h1
  omega
theorem sgn_bits (n : Int) (hn : -9223372036854775808 ≤ n) (hn2 : n < 9223372036854775808) :
    bits BinOp.xor IntKind.u64 (IntKind.u64.wrap (IntKind.u64.wrap n * 2)) (IntKind.u64.wrap (n / 9223372036854775808)) = sgn n := by
  have wr : ∀ x : Int, IntKind.u64.wrap x = x % 18446744073709551616 := fun x => by simp [IntKind.wrap, IntKind.bits, IntKind.signed]
  rw [wr, wr, wr]
  by_cases h : 0 ≤ n
  · obtain ⟨m, rfl⟩ := Int.eq_ofNat_of_zero_le h
    rw [show ((m : Int) % 18446744073709551616 * 2) % 18446744073709551616 = ((2 * m : Nat) : Int) by omega, show ((m : Int) / 9223372036854775808) % 18446744073709551616 = ((0 : Nat) : Int) by omega,
      u64_xor_nat _ _ (by omega) (by omega)]
    simp [sgn]
    omega
  · obtain ⟨m, hm⟩ := Int.eq_ofNat_of_zero_le (show 0 ≤ -(n + 1) by omega)
    rw [show (n % 18446744073709551616 * 2) % 18446744073709551616 = ((18446744073709551614 - 2 * m : Nat) : Int) by omega, show (n / 9223372036854775808) % 18446744073709551616 = ((18446744073709551615 : Nat) : Int) by omega,
      u64_xor_nat _ _ (by omega) (by omega), xor_ones _ (by omega), sgn, if_neg h]
    omega
end Go.Proofs.Ytmabapbdnafpfaa
/- What the calls of a codes.Writer, and codes.pack, do. -/
namespace Go.Proofs.Ytmabapbdnafpfaa
open Go.RowKit

def byts (s : ByteArray) : List Nat := s.data.toList.map UInt8.toNat
theorem byts_len (s : ByteArray) : (byts s).length = s.size := by simp [byts]
theorem byts_lt (s : ByteArray) : ∀ b ∈ byts s, b < 256 := by
  intro b hb
  obtain ⟨c, _, rfl⟩ := List.mem_map.1 hb
  exact c.toNat_lt

def wcells (N : Nat) (l : List Nat) : Array Value := (u64s ((List.range N).map (pw l))).toArray

theorem wcells_set (N k : Nat) (l : List Nat) (hk : k < l.length) (x : Int) (hx : x = pw (l.take (k + 1)) (k / 8)) :
    (wcells N (l.take k)).setIfInBounds (k / 8) (.int .u64 x) = wcells N (l.take (k + 1)) := by
  subst hx
  apply Array.ext
  · simp [wcells, u64s]
  · intro j h1 h2
    have hj : j < N := by simpa [wcells, u64s] using h2
    rw [Array.getElem_setIfInBounds]
    · by_cases h : k / 8 = j
      · subst h
        simp [wcells, u64s]
      · rw [if_neg h]
        simp only [wcells, u64s, List.getElem_toArray, List.getElem_map, List.getElem_range]
        rw [pw_step l k j hk, if_neg (fun e => h e.symm)]
    · simpa using h1
theorem or_shl (v c r : Nat) (hv : v < 18446744073709551616) (hc : c < 256) : bits BinOp.or IntKind.u64 (v : Int) (IntKind.u64.wrap (IntKind.u64.wrap (c : Int) * 2 ^ r)) = ((v ||| (c * 2 ^ r) % 18446744073709551616 : Nat) : Int) := by
  have wr : ∀ x : Int, IntKind.u64.wrap x = x % 18446744073709551616 := fun x => by simp [IntKind.wrap, IntKind.bits, IntKind.signed]
  rw [wr, wr, show (c : Int) % 18446744073709551616 = (c : Int) by omega]
  have e : ((c : Int) * 2 ^ r) % 18446744073709551616 = ((c * 2 ^ r % 18446744073709551616 : Nat) : Int) := by
    rw [Int.natCast_emod, Int.natCast_mul, Int.natCast_pow]; rfl
  rw [e, u64_or_nat _ _ hv (Nat.mod_lt _ (by omega))]
theorem byts_at (s : ByteArray) (k : Nat) (hk : k < s.size) : (byts s)[k]'(by rw [byts_len]; exact hk) = s[k].toNat := by
  simp [byts]; rfl

theorem byts_take (s : ByteArray) (n : Nat) : byts (s.extract 0 n) = (byts s).take n := by
  simp [byts, ByteArray.data_extract, Array.toList_extract, List.extract]

end Go.Proofs.Ytmabapbdnafpfaa
