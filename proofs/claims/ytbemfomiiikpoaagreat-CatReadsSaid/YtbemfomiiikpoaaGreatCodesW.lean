/- The plain mathematics of the words of a text and of a number with a sign. -/
import Derived.WalkKit
import Derived.Test.YtbemfomiiikpoaaGreatLib
import Derived.Test.YtbemfomiiikpoaaGreatRows
import Derived.StillTailTactics
import Derived.Deep.OwnRows
import Derived.Deep.RegionHeld3
namespace Go.Proofs.YtbemfomiiikpoaaGreat

def hn : List Nat → Nat
  | [] => 0
  | b :: r => b + 256 * hn r
theorem hn_app (l : List Nat) (c : Nat) : hn (l ++ [c]) = hn l + c * 256 ^ l.length := by
  induction l with
  | nil => simp [hn]
  | cons b r ih => simp only [List.cons_append, hn, ih, List.length_cons, Nat.pow_succ, Nat.mul_add]; rw [show 256 * (c * 256 ^ r.length) = c * (256 ^ r.length * 256) by ac_rfl]; omega
theorem hn_lt (l : List Nat) (h : ∀ b ∈ l, b < 256) : hn l < 256 ^ l.length := by
  induction l with
  | nil => simp [hn]
  | cons b r ih =>
    have h1 := h b (by simp)
    have h2 := ih (fun x hx => h x (by simp [hx]))
    simp only [hn, List.length_cons, Nat.pow_succ]
    omega
/-- The word k of the bytes l. -/
def pw (l : List Nat) (k : Nat) : Nat := hn ((l.drop (8 * k)).take 8)
/-- The words of the bytes l. -/
def packed (l : List Nat) : List Nat := (List.range ((l.length + 7) / 8)).map (pw l)
theorem packed_len (l : List Nat) : (packed l).length = (l.length + 7) / 8 := by simp [packed]
theorem packed_at (l : List Nat) (k : Nat) (hk : k < (l.length + 7) / 8) : (packed l)[k]'(by simpa [packed] using hk) = pw l k := by simp [packed]

theorem pw_lt (l : List Nat) (h : ∀ b ∈ l, b < 256) (k : Nat) : pw l k < 256 ^ 8 := by
  refine Nat.lt_of_lt_of_le (hn_lt _ fun b hb => h b (List.mem_of_mem_drop (List.mem_of_mem_take hb))) (Nat.pow_le_pow_right (by omega) (by simp; omega))
theorem pw_zero (k : Nat) : pw [] k = 0 := by simp [pw, hn]
theorem pw_step (l : List Nat) (i k : Nat) (hi : i < l.length) :
    pw (l.take (i + 1)) k = if k = i / 8 then pw (l.take i) k + l[i] * 256 ^ (i % 8) else pw (l.take i) k := by
  have e : l.take (i + 1) = l.take i ++ [l[i]] := List.take_succ_eq_append_getElem hi
  have hl : (l.take i).length = i := by simp; omega
  unfold pw
  rw [e, List.drop_append, List.take_append, hl]
  by_cases hk : k = i / 8
  · rw [if_pos hk]
    have h1 : ((l.take i).drop (8 * k)).length = i % 8 := by simp; omega
    have h2 : ((l.take i).drop (8 * k)).take 8 = (l.take i).drop (8 * k) := List.take_of_length_le (by omega)
    have h3 : ([l[i]]).take (8 - i % 8) = [l[i]] := List.take_of_length_le (by simp; omega)
    rw [show 8 * k - i = 0 by omega, h1, h2, List.drop_zero, h3, hn_app, h1]
  · rw [if_neg hk]
    rcases Nat.lt_or_ge k (i / 8) with h | h
    · have h1 : 8 ≤ ((l.take i).drop (8 * k)).length := by simp; omega
      rw [show 8 - ((l.take i).drop (8 * k)).length = 0 by omega]
      simp
    · rw [@List.drop_eq_nil_of_le _ [l[i]] _ (by simp; omega)]
      simp
theorem pw_or (l : List Nat) (h : ∀ b ∈ l, b < 256) (i : Nat) (hi : i < l.length) :
    pw (l.take i) (i / 8) ||| (l[i] * 2 ^ (i % 8 * 8)) % 18446744073709551616 = pw (l.take (i + 1)) (i / 8) := by
  rw [pw_step l i _ hi, if_pos rfl]
  have hb : l[i] < 256 := h _ (List.getElem_mem hi)
  have h1 : ((l.take i).drop (8 * (i / 8))).length = i % 8 := by simp; omega
  have h2 : pw (l.take i) (i / 8) < 256 ^ (i % 8) := by
    unfold pw
    rw [List.take_of_length_le (by omega)]
    have := hn_lt ((l.take i).drop (8 * (i / 8))) (fun b hb => h b (List.mem_of_mem_take (List.mem_of_mem_drop hb)))
    rwa [h1] at this
  have e : (256 : Nat) ^ (i % 8) = 2 ^ (i % 8 * 8) := by rw [Nat.mul_comm, Nat.pow_mul]
  have h3 : l[i] * 2 ^ (i % 8 * 8) < 18446744073709551616 := by
    have : (2 : Nat) ^ (i % 8 * 8) ≤ 2 ^ 56 := Nat.pow_le_pow_right (by omega) (by omega)
    have h4 : l[i] * 2 ^ (i % 8 * 8) ≤ 255 * 2 ^ 56 := Nat.mul_le_mul (by omega) this
    omega
  rw [Nat.mod_eq_of_lt h3, e, Nat.mul_comm l[i], Nat.or_comm, ← Nat.two_pow_add_eq_or_of_lt (e ▸ h2)]
  omega

/-- A number with a sign as a word. -/
def sgn (n : Int) : Nat := if 0 ≤ n then (2 * n).toNat else (2 * (-(n + 1)) + 1).toNat

theorem xor_ones (a : Nat) (h : a < 18446744073709551616) : a ^^^ 18446744073709551615 = 18446744073709551615 - a := by
  have h1 := BitVec.toNat_not (x := BitVec.ofNat 64 a)
  have h2 : ~~~(BitVec.ofNat 64 a) = BitVec.ofNat 64 a ^^^ BitVec.allOnes 64 := (BitVec.xor_allOnes).symm
  rw [h2, BitVec.toNat_xor, BitVec.toNat_ofNat, BitVec.toNat_allOnes, Nat.mod_eq_of_lt (by omega)] at h1
  have e : (2 : Nat) ^ 64 - 1 = 18446744073709551615 := by decide
  rw [e] at h1
  omega
theorem sgn_bits (n : Int) (hn : -9223372036854775808 ≤ n) (hn2 : n < 9223372036854775808) :
    bits BinOp.xor IntKind.u64 (IntKind.u64.wrap (IntKind.u64.wrap n * 2)) (IntKind.u64.wrap (n / 9223372036854775808)) = sgn n := by
  have wr : ∀ x : Int, IntKind.u64.wrap x = x % 18446744073709551616 := fun x => by simp [IntKind.wrap, IntKind.bits, IntKind.signed]
  rw [wr, wr, wr]
  by_cases h : 0 ≤ n
  · obtain ⟨m, rfl⟩ := Int.eq_ofNat_of_zero_le h
    rw [show ((m : Int) % 18446744073709551616 * 2) % 18446744073709551616 = ((2 * m : Nat) : Int) by omega, show ((m : Int) / 9223372036854775808) % 18446744073709551616 = ((0 : Nat) : Int) by omega,
      u64_xor_nat _ _ (by omega) (by omega)]
    simp [sgn]
    omega
  · obtain ⟨m, hm⟩ := Int.eq_ofNat_of_zero_le (show 0 ≤ -(n + 1) by omega)
    rw [show (n % 18446744073709551616 * 2) % 18446744073709551616 = ((18446744073709551614 - 2 * m : Nat) : Int) by omega, show (n / 9223372036854775808) % 18446744073709551616 = ((18446744073709551615 : Nat) : Int) by omega,
      u64_xor_nat _ _ (by omega) (by omega), xor_ones _ (by omega), sgn, if_neg h]
    omega
end Go.Proofs.YtbemfomiiikpoaaGreat
/- What the calls of a codes.Writer, and codes.pack, do. -/
namespace Go.Proofs.YtbemfomiiikpoaaGreat
open Go.RowKit

structure Wr (w : World) (p : Nat) (g : Option Nat) (xs : List Nat) : Prop where
  reads : ∃ A c, Bk w p 31 #[.slice A xs.length c] ∧ w.ownsRow 0 70 1 (.slice A xs.length c) xs.length (u64s xs) ∧ (Value.slice A xs.length c).ownBlock = g

/-- What a writer's call leaves: the writer with more words; nothing else has turned. -/
def Wrote (w : World) (p : Nat) (g : Option Nat) (zs : List Nat) (e : Ending) (w' : World) : Prop :=
  e = .returned (.tuple #[]) ∧ ∃ g', Wr w' p g' zs ∧ Fr (Of p g) w w' ∧ (g' = g ∨ ∃ k, g' = some k ∧ w.heap.size ≤ k)

set_option maxHeartbeats 400000 in
theorem add_any (p : Nat) (g : Option Nat) (xs ys : List Nat) (A : Option Addr) (m c : Nat) (w : World) (h : Wr w p g xs) (hr : Sl w w.heap.size A (u64s ys)) (hm : ys.length = m) (hlen : xs.length + m ≤ 1099511627776) :
    Calls Tryz.prog 45 #[.pointer (some ⟨p, 0, none⟩), .slice A m c] w (Wrote w p g (xs ++ ys)) := by
  subst hm
  obtain ⟨A0, c0, hb, hown, rfl⟩ := h
  have hc := hb.cell 0
  have hf := hb.frozen 0
  simp at hc
  obtain ⟨i0, hi0, hz0, hz1, hz2⟩ := info_parts info43
  have hpb := own_apart hown hb (by decide)
  go_enter Tryz.func45, Tryz.ntmps45
  go_wp2_with (at_builtin; refine wpList_append_src _ rfl (.tmp 8) (.tmp 9) _ rfl 0 70 i0 _ 1 8 Tryz.underlying29 hi0 hz0 hz1 hz2 rfl (by omega) _ xs.length (u64s xs) rfl hown w.heap.size A ys.length c (u64s ys) rfl ?hl hr (u64s_one ys) ?h63 ?hby (Nat.zero_le _) ?rest)
  case hl => simp [u64s]
  case h63 => unfold maxLen; omega
  case hby => omega
  case rest =>
    intro v' w1 hown1 hgr hat
    obtain ⟨A1, c1, rfl, -, -, -⟩ := own_shape hown1
    have hb1 : Bk w1 p 31 #[.slice A0 xs.length c0] := hb.grown hgr hpb
    have hc1 := hb1.cell 0
    have hf1 := hb1.frozen 0
    simp at hc1
    go_wp2
    go_end0
    have hpb1 : (Value.slice A1 (xs.length + ys.length) c1).ownBlock ≠ some p := own_apart hown1 hb1 (by decide)
    refine ⟨rfl, (Value.slice A1 (xs.length + ys.length) c1).ownBlock, ⟨A1, c1, ?_, ?_, by simp⟩, ?_, ?_⟩
    · simpa using hb1.put 0 (.slice A1 (xs.length + ys.length) c1)
    · have := own_fr (S := fun k => k = p) hown1 ((Fr.refl (fun k => k = p) w1).setCell (p := ⟨p, 0, none⟩) (.inl rfl) (.slice A1 (xs.length + ys.length) c1)) (by rintro k hk rfl; exact hpb1 hk)
      simpa [u64s] using this
    · exact ((Fr.refl _ w).grown hgr (fun k hk => .inl (.inr hk))).setCell (.inl (.inl rfl)) _
    · rcases hat with h1 | h1
      · exact .inl h1
      · exact .inr ⟨_, h1, Nat.le_refl _⟩

theorem Wr.lt {w : World} {p : Nat} {g : Option Nat} {xs : List Nat} (h : Wr w p g xs) : p < w.heap.size ∧ ∀ k, g = some k → k < w.heap.size := by
  obtain ⟨A, c, hb, hown, rfl⟩ := h
  exact ⟨hb.lt, fun k hk => own_lt hown hk⟩
theorem Wr.fr {S : Nat → Prop} {w w' : World} {p : Nat} {g : Option Nat} {xs : List Nat} (h : Wr w p g xs) (hf : Fr S w w') (hp : ∀ k, Of p g k → ¬ S k) : Wr w' p g xs := by
  obtain ⟨A, c, hb, hown, rfl⟩ := h
  exact ⟨A, c, hb.fr hf (hp _ (.inl rfl)), own_fr hown hf (fun k hk => hp _ (.inr hk)), rfl⟩
theorem Wrote.since {a w : World} {p : Nat} {g : Option Nat} {zs : List Nat} {e : Ending} {w' : World} (ha : Fr No a w) (h : Wrote w p g zs e w') : Wrote a p g zs e w' := by
  obtain ⟨he, g', h1, h2, h3⟩ := h
  refine ⟨he, g', h1, (ha.weak (fun _ _ h => h.elim)).trans' h2 (fun _ _ h => h), ?_⟩
  rcases h3 with h3 | ⟨k, h3, h4⟩
  · exact .inl h3
  · exact .inr ⟨k, h3, Nat.le_trans ha.size h4⟩
theorem add1 (p : Nat) (g : Option Nat) (xs : List Nat) (x : Int) (n : Nat) (w : World) (h : Wr w p g xs) (hx : x = n) (hlen : xs.length + 1 ≤ 1099511627776) :
    Calls Tryz.prog 45 #[.pointer (some ⟨p, 0, none⟩), .slice (some ⟨w.heap.size, 0, none⟩) 1 1] (w.alloc (.cells #[.int .u64 x] 70)) (Wrote w p g (xs ++ [n])) := by
  subst hx
  have hf : Fr No w (w.alloc (.cells #[.int .u64 n] 70)) := (Fr.refl _ _).alloc _
  refine (add_any p g xs [n] _ 1 1 _ (h.fr hf (fun _ _ => id)) ?_ rfl hlen).mono fun e w' hq => hq.since hf
  intro _
  refine ⟨_, rfl, by simp, fun j u hu => ?_⟩
  match j, hu with
  | 0, hu =>
    simp [u64s] at hu
    subst hu
    exact (Bk.made w 70 #[.int .u64 n]).cell 0

set_option maxHeartbeats 400000 in
theorem count_any (p : Nat) (g : Option Nat) (xs : List Nat) (n : Int) (w : World) (hwr : Wr w p g xs) (hn : -9223372036854775808 ≤ n) (hn2 : n < 9223372036854775808) (hlen : xs.length + 1 ≤ 1099511627776) :
    Calls Tryz.prog 23 #[.pointer (some ⟨p, 0, none⟩), .int .i64 n] w (Wrote w p g (xs ++ [n.toNat])) := by
  go_enter Tryz.func23, Tryz.ntmps23
  go_wp2_with (go_at_call 45; (refine (add1 p g xs _ n.toNat _ hwr (by omega) hlen).mono ?_; rintro e w' ⟨rfl, hq⟩))
  all_goals (go_end0; exact ⟨rfl, hq⟩)

set_option maxHeartbeats 400000 in
theorem signed_any (p : Nat) (g : Option Nat) (xs : List Nat) (n : Int) (w : World) (hwr : Wr w p g xs) (hn : -9223372036854775808 ≤ n) (hn2 : n < 9223372036854775808) (hlen : xs.length + 1 ≤ 1099511627776) :
    Calls Tryz.prog 108 #[.pointer (some ⟨p, 0, none⟩), .int .i64 n] w (Wrote w p g (xs ++ [sgn n])) := by
  go_enter Tryz.func108, Tryz.ntmps108
  go_wp2_with (go_at_call 45; (refine (add1 p g xs _ (sgn n) _ hwr (sgn_bits n hn hn2) hlen).mono ?_; rintro e w' ⟨rfl, hq⟩))
  all_goals (go_end0; exact ⟨rfl, hq⟩)

set_option maxHeartbeats 400000 in
theorem flag_any (p : Nat) (g : Option Nat) (xs : List Nat) (b : Bool) (w : World) (hwr : Wr w p g xs) (hlen : xs.length + 1 ≤ 1099511627776) :
    Calls Tryz.prog 49 #[.pointer (some ⟨p, 0, none⟩), .bool b] w (Wrote w p g (xs ++ [b.toNat])) := by
  cases b
  all_goals
    go_enter Tryz.func49, Tryz.ntmps49
    go_wp2_with (go_at_call 45; (refine (add1 p g xs _ _ _ hwr (by rfl) hlen).mono ?_; rintro e w' ⟨rfl, hq⟩))
    go_end0
    exact ⟨rfl, hq⟩

set_option maxHeartbeats 400000 in
theorem textWords_any (n m : Nat) (hn : n ≤ 1048576) (hm : m = (n + 7) / 8) (w : World) :
    Calls Tryz.prog 92 #[.int .i64 n] w fun e w' => e = .returned (.int .i64 m) ∧ w = w' := by
  have Hm := Lib.hid hm
  clear hm
  go_enter Tryz.func92, Tryz.ntmps92
  go_wp2
  go_ret
  exact ⟨by rw [Hm.out]; simp; omega, rfl⟩

set_option maxHeartbeats 400000 in
theorem shift_any (n m : Nat) (hn : n ≤ 1048576) (hm : m = n % 8 * 8) (w : World) :
    Calls Tryz.prog 93 #[.int .i64 n] w fun e w' => e = .returned (.int .i64 m) ∧ w' = w := by
  have Hm := Lib.hid hm
  clear hm
  go_enter Tryz.func93, Tryz.ntmps93
  go_wp2
  go_ret
  exact ⟨by rw [Hm.out]; simp, rfl⟩

def byts (s : ByteArray) : List Nat := s.data.toList.map UInt8.toNat
theorem byts_len (s : ByteArray) : (byts s).length = s.size := by simp [byts]
theorem byts_lt (s : ByteArray) : ∀ b ∈ byts s, b < 256 := by
  intro b hb
  obtain ⟨c, _, rfl⟩ := List.mem_map.1 hb
  exact c.toNat_lt

def wcells (N : Nat) (l : List Nat) : Array Value := (u64s ((List.range N).map (pw l))).toArray

theorem wcells_set (N k : Nat) (l : List Nat) (hk : k < l.length) (x : Int) (hx : x = pw (l.take (k + 1)) (k / 8)) :
    (wcells N (l.take k)).setIfInBounds (k / 8) (.int .u64 x) = wcells N (l.take (k + 1)) := by
  subst hx
  apply Array.ext
  · simp [wcells, u64s]
  · intro j h1 h2
    have hj : j < N := by simpa [wcells, u64s] using h2
    rw [Array.getElem_setIfInBounds]
    · by_cases h : k / 8 = j
      · subst h
        simp [wcells, u64s]
      · rw [if_neg h]
        simp only [wcells, u64s, List.getElem_toArray, List.getElem_map, List.getElem_range]
        rw [pw_step l k j hk, if_neg (fun e => h e.symm)]
    · simpa using h1
theorem or_shl (v c r : Nat) (hv : v < 18446744073709551616) (hc : c < 256) : bits BinOp.or IntKind.u64 (v : Int) (IntKind.u64.wrap (IntKind.u64.wrap (c : Int) * 2 ^ r)) = ((v ||| (c * 2 ^ r) % 18446744073709551616 : Nat) : Int) := by
  have wr : ∀ x : Int, IntKind.u64.wrap x = x % 18446744073709551616 := fun x => by simp [IntKind.wrap, IntKind.bits, IntKind.signed]
  rw [wr, wr, show (c : Int) % 18446744073709551616 = (c : Int) by omega]
  have e : ((c : Int) * 2 ^ r) % 18446744073709551616 = ((c * 2 ^ r % 18446744073709551616 : Nat) : Int) := by
    rw [Int.natCast_emod, Int.natCast_mul, Int.natCast_pow]; rfl
  rw [e, u64_or_nat _ _ hv (Nat.mod_lt _ (by omega))]
theorem byts_at (s : ByteArray) (k : Nat) (hk : k < s.size) : (byts s)[k]'(by rw [byts_len]; exact hk) = s[k].toNat := by
  simp [byts]; rfl

set_option maxRecDepth 100000 in
set_option maxHeartbeats 400000 in
theorem pack_any (s : ByteArray) (hs : s.size ≤ 4096) (w : World) :
    Calls Tryz.prog 75 #[.string s] w (NewL w (packed (byts s))) := by
  obtain ⟨N, hN⟩ : ∃ N, N = (s.size + 7) / 8 := ⟨_, rfl⟩
  have hN2 : N ≤ 512 := by omega
  have HN := Lib.hid hN
  clear hN
  have hmk := fun W => run_make_row' (P := Tryz.prog) 29 70 (.int .u64 0) 8 Tryz.underlying29 info43 rfl .i64 .i64 N (by omega) (by omega) W
  go_enter Tryz.func75, Tryz.ntmps75
  go_wp2_with (go_at_call 92; (refine (textWords_any s.size N (by omega) HN.out _).mono ?_; rintro e w' ⟨rfl, rfl⟩))
  go_loopw [11] (fun i wr => ∃ k : Nat, k ≤ s.size ∧ i = .int .i64 k ∧ Bk wr w.heap.size 70 (wcells N ((byts s).take k)) ∧ Fr No w wr) (fun i _ => s.size - (intOf i).toNat)
  case atStart =>
    refine ⟨0, Nat.zero_le _, rfl, ?_, ?_⟩
    · have e : madeCells #[Value.int .u64 0] N = wcells N ((byts s).take 0) := by
        apply Array.ext
        · simp [wcells, u64s, madeCells]
        · intro j h1 h2
          simp [wcells, u64s, madeCells, pw_zero, Nat.mod_one]
      rw [← e]
      exact Bk.made _ _ _
    · exact (Fr.refl _ _).alloc _
  case round =>
    obtain ⟨k, hk, rfl, hbk, hfr⟩ := hrel
    by_cases hlt : k < s.size
    · obtain ⟨q, hq⟩ : ∃ q, q = k / 8 := ⟨_, rfl⟩
      obtain ⟨r, hr⟩ : ∃ r, r = k % 8 * 8 := ⟨_, rfl⟩
      have hqN : q < N := by have := HN.out; omega
      have hr64 : r < 64 := by omega
      obtain ⟨v, hv⟩ : ∃ v, v = pw ((byts s).take k) q := ⟨_, rfl⟩
      have hc : wr.cell? ⟨w.heap.size, q, none⟩ = some (.int .u64 v) := by
        rw [hbk.cell q, hv]
        simp [wcells, u64s, hqN]
      have hf := hbk.frozen q
      have Hq := Lib.hid hq
      have Hr := Lib.hid hr
      have Hv := Lib.hid hv
      clear hq hr hv
      go_wp2
      have hq1 : (k : Int) / 8 = (q : Int) := by have := Hq.out; omega
      have hq2 : IntKind.i64.wrap (q : Int) = q := IntWalk.i64_in _ (by omega)
      refine wp_region_still_tail 14 (by kernel_rfl) (by kernel_rfl) ?_
      simp only [List.take_succ_cons, List.take_zero, List.drop_succ_cons, List.drop_zero]
      repeat still_step
      still_call (shift_any k r (by omega) Hr.out _)
      repeat still_step
      refine wpStill_nil ?_
      clear hq1 hq2
      change wpList _ _ _ _ _ wr.drew
      go_wp2
      go_roundw
      case rel =>
        have e1 := or_shl v s[k].toNat r (by rw [Hv.out]; exact pw_lt _ (fun b hb => byts_lt s b (List.mem_of_mem_take hb)) q) s[k].toNat_lt
        refine ⟨k + 1, by omega, by go_num, ?_, (hfr.setCell (.inr (Nat.le_refl _)) _).drew⟩
        rw [e1]
        have h2 := hbk.put q (.int .u64 ((v ||| (s[k].toNat * 2 ^ r) % 18446744073709551616 : Nat) : Int))
        rw [Hq.out, wcells_set N k (byts s) (by rw [byts_len]; exact hlt) _ (by
          rw [Hv.out, Hq.out, Hr.out, ← byts_at s k hlt, pw_or _ (byts_lt s)])] at h2
        rw [Hq.out]
        exact h2
      case measure => simp [intOf]; omega
    · go_wp2
      go_ret
      have hkN : k = s.size := by omega
      have hpk : (List.range N).map (pw ((byts s).take k)) = packed (byts s) := by
        rw [List.take_of_length_le (by rw [byts_len]; omega), packed, byts_len, HN.out]
      have hl : (packed (byts s)).length = N := by rw [packed_len, byts_len, HN.out]
      refine ⟨some ⟨w.heap.size, 0, none⟩, N, by rw [hl]; rfl, ?_, hfr⟩
      rw [hl]
      refine ⟨by simp [u64s, hl], .inr ⟨w.heap.size, N, _, rfl, Nat.le_refl _, hbk, Nat.le_refl _, by unfold maxLen; omega, by simp [wcells, u64s], ?_⟩⟩
      rw [List.take_of_length_le (by simp [wcells, u64s]), wcells, hpk]

set_option maxHeartbeats 400000 in
theorem clone_any (ys : List Nat) (A : Option Addr) (n c : Nat) (w : World) (hr : Sl w w.heap.size A (u64s ys)) (hn : ys.length = n) (hA : A = none → n = 0 ∧ c = 0) (hlen : n ≤ 1099511627776) :
    Calls Tryz.prog 26 #[.slice A n c] w (NewL w ys) := by
  subst hn
  obtain ⟨i0, hi0, hz0, hz1, hz2⟩ := info_parts info43
  cases A with
  | none =>
    obtain ⟨h1, rfl⟩ := hA rfl
    obtain rfl : ys = [] := List.eq_nil_of_length_eq_zero h1
    have heq := fun W : World => Lib.run_eql_slice_nil (P := Tryz.prog) W 29 70 none 0 0 0 0 Tryz.underlying29
    go_enter Tryz.func26, Tryz.ntmps26
    go_wp2
    go_ret
    exact ⟨none, 0, rfl, World.ownsRow_nil _ _ _ _, Fr.refl _ _⟩
  | some ad =>
    have heq := fun W : World => Lib.run_eql_slice_nil (P := Tryz.prog) W 29 70 (some ad) ys.length c 0 0 Tryz.underlying29
    have hown : (w.alloc (.cells #[] 70)).ownsRow w.heap.size 70 1 (.slice (some ⟨w.heap.size, 0, none⟩) 0 0) 0 [] := World.ownsRow_lit w #[] 0 (Nat.le_refl _) (Nat.zero_le _) rfl
    have hr1 : Sl (w.alloc (.cells #[] 70)) w.heap.size (some ad) (u64s ys) := hr.keep fun q hq => World.cell?_alloc_lt w _ q hq
    go_enter Tryz.func26, Tryz.ntmps26
    go_wp2_with (at_builtin; refine wpList_append_src _ rfl (.tmp 5) (.tmp 6) _ rfl w.heap.size 70 i0 _ 1 8 Tryz.underlying29 hi0 hz0 hz1 hz2 rfl (by omega) _ 0 [] rfl hown w.heap.size (some ad) ys.length c (u64s ys) rfl ?hl hr1 (u64s_one ys) ?h63 ?hby (by simp) ?rest)
    case hl => simp [u64s]
    case h63 => unfold maxLen; omega
    case hby => omega
    case rest =>
      intro v' w1 hown1 hgr hat
      obtain ⟨A1, c1, rfl, -, -, -⟩ := own_shape hown1
      have hf : Fr No w w1 := ((Fr.refl No w).alloc _).grown hgr (fun k hk => .inr (by simp [Value.ownBlock] at hk; omega))
      go_wp2
      go_ret
      exact ⟨A1, c1, by simp, by simpa using hown1, hf⟩

set_option maxHeartbeats 400000 in
theorem done_any (p : Nat) (g : Option Nat) (xs : List Nat) (w : World) (hwr : Wr w p g xs) (hlen : xs.length ≤ 1099511627776) :
    Calls Tryz.prog 9 #[.pointer (some ⟨p, 0, none⟩)] w (NewL w xs) := by
  obtain ⟨A, c, hb, hown, hg⟩ := hwr
  have hc := hb.cell 0
  simp at hc
  have hsl := Sl.ofOwn hown
  have hA : A = none → xs.length = 0 ∧ c = 0 := by
    obtain ⟨A', c', h1, _, _, h2⟩ := own_shape hown
    injection h1 with h1 h3 h4
    subst h1 h4
    exact h2
  clear hown hg
  go_enter Tryz.func9, Tryz.ntmps9
  go_wp2_with (go_at_call 26; refine (clone_any xs A xs.length c _ hsl rfl hA hlen).mono ?_; rintro e w' ⟨A1, c1, rfl, hq⟩)
  go_ret
  exact ⟨A1, c1, rfl, hq⟩

/-- A writer's call behind another one. -/
theorem Wrote.then {w w1 : World} {p : Nat} {g g1 : Option Nat} {zs : List Nat} {e : Ending} {w' : World} (h1 : Fr (Of p g) w w1) (h2 : g1 = g ∨ ∃ k, g1 = some k ∧ w.heap.size ≤ k) (h : Wrote w1 p g1 zs e w') : Wrote w p g zs e w' := by
  obtain ⟨he, g', a1, a2, a3⟩ := h
  refine ⟨he, g', a1, h1.trans' a2 ?_, ?_⟩
  · intro i hi ho
    rcases ho with ho | ho
    · exact .inl ho
    · rcases h2 with h2 | ⟨k, h2, hk⟩
      · subst h2; exact .inr ho
      · subst h2; injection ho with ho; omega
  · rcases a3 with a3 | ⟨k, a3, a4⟩
    · subst a3
      exact h2
    · exact .inr ⟨k, a3, Nat.le_trans h1.size a4⟩

theorem byts_take (s : ByteArray) (n : Nat) : byts (s.extract 0 n) = (byts s).take n := by
  simp [byts, ByteArray.data_extract, Array.toList_extract, List.extract]

set_option maxHeartbeats 400000 in
theorem text_any (p : Nat) (g : Option Nat) (xs : List Nat) (s : ByteArray) (w : World) (hwr : Wr w p g xs) (hsz : s.size ≤ 1099511627776) (hlen : xs.length + 100 ≤ 1099511627776) :
    Calls Tryz.prog 46 #[.pointer (some ⟨p, 0, none⟩), .string s] w (Wrote w p g (xs ++ ((byts s).take 64).length :: packed ((byts s).take 64))) := by
  have hl : ((byts s).take 64).length = min 64 s.size := by rw [List.length_take, byts_len]
  rw [hl]
  clear hl
  by_cases hs : s.size ≤ 64
  · have e1 : (byts s).take 64 = byts s := List.take_of_length_le (by rw [byts_len]; exact hs)
    have e2 : min 64 s.size = s.size := by omega
    rw [e1, e2] at *
    clear e1 e2
    go_enter Tryz.func46, Tryz.ntmps46
    go_wp2_with fail
    refine (count_any p g xs s.size _ hwr (by omega) (by omega) (by omega)).mono ?_
    rintro e w1 ⟨rfl, g1, hw1, hf1, hg1⟩
    go_wp2_with fail
    refine (pack_any s (by omega) w1).mono ?_
    rintro e w2 ⟨A, c, rfl, hown2, hf2⟩
    go_wp2_with fail
    refine (add_any p g1 _ (packed (byts s)) A _ c w2 (hw1.fr hf2 (fun _ _ => id)) (Sl.ofOwn hown2) rfl (by have hp := packed_len (byts s); rw [byts_len] at hp; simp; omega)).mono ?_
    rintro e w3 h3
    have h4 := Wrote.then hf1 hg1 (h3.since hf2)
    obtain ⟨rfl, hq⟩ := h4
    go_wp2
    go_end0
    exact ⟨rfl, by simpa using hq⟩
  · have e2 : min 64 s.size = 64 := by omega
    rw [e2] at *
    clear e2
    have hmin : (↑(min 64 s.size) : Int) = 64 := by omega
    go_enter Tryz.func46, Tryz.ntmps46
    go_wp2_with fail
    refine (count_any p g xs 64 _ hwr (by omega) (by omega) (by omega)).mono ?_
    rintro e w1 ⟨rfl, g1, hw1, hf1, hg1⟩
    go_wp2_with fail
    refine (pack_any (s.extract 0 64) (by simp; omega) w1).mono ?_
    rintro e w2 ⟨A, c, rfl, hown2, hf2⟩
    rw [byts_take] at hown2 ⊢
    go_wp2_with fail
    refine (add_any p g1 _ (packed ((byts s).take 64)) A _ c w2 (hw1.fr hf2 (fun _ _ => id)) (Sl.ofOwn hown2) rfl (by have hp := packed_len ((byts s).take 64); rw [List.length_take, byts_len] at hp; simp; omega)).mono ?_
    rintro e w3 h3
    have h4 := Wrote.then hf1 hg1 (h3.since hf2)
    obtain ⟨rfl, hq⟩ := h4
    go_wp2
    go_end0
    exact ⟨rfl, by simpa using hq⟩

end Go.Proofs.YtbemfomiiikpoaaGreat
