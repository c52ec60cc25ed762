/- What the calls of a codes.Writer, and codes.pack, do. -/
import Derived.Test.YtnlmhcfkipkegaaWords
import Derived.Test.YtnlmhcfkipkegaaRows
import Derived.Test.YtnlmhcfkipkegaaLib
import Derived.Test.YtnlmhcfkipkegaaPure1
import Derived.StillTailTactics
import Derived.Deep.OwnRows
import Derived.Deep.RegionHeld3
namespace Go.Proofs.Ytnlmhcfkipkegaa
open Go.RowKit

set_option maxHeartbeats 400000 in
theorem textWords_any (n m : Nat) (hn : n ≤ 1048576) (hm : m = (n + 7) / 8) (w : World) :
    Calls Try.prog 65 #[.int .i64 n] w fun e w' => e = .returned (.int .i64 m) ∧ w = w' := by
  have Hm := Lib.hid hm
  clear hm
  go_enter Try.func65, Try.ntmps65
  go_wp2
  go_ret
  exact ⟨by rw [Hm.out]; simp; omega, rfl⟩

set_option maxHeartbeats 400000 in
theorem shift_any (n m : Nat) (hn : n ≤ 1048576) (hm : m = n % 8 * 8) (w : World) :
    Calls Try.prog 87 #[.int .i64 n] w fun e w' => e = .returned (.int .i64 m) ∧ w' = w := by
  have Hm := Lib.hid hm
  clear hm
  go_enter Try.func87, Try.ntmps87
  go_wp2
  go_ret
  exact ⟨by rw [Hm.out]; simp, rfl⟩

def byts (s : ByteArray) : List Nat := s.data.toList.map UInt8.toNat
theorem byts_len (s : ByteArray) : (byts s).length = s.size := by simp [byts]
theorem byts_lt (s : ByteArray) : ∀ b ∈ byts s, b < 256 := by
  intro b hb
  obtain ⟨c, _, rfl⟩ := List.mem_map.1 hb
  exact c.toNat_lt

def wcells (N : Nat) (l : List Nat) : Array Value := (u64s ((List.range N).map (pw l))).toArray

theorem wcells_set (N k : Nat) (l : List Nat) (hk : k < l.length) (x : Int) (hx : x = pw (l.take (k + 1)) (k / 8)) :
    (wcells N (l.take k)).setIfInBounds (k / 8) (.int .u64 x) = wcells N (l.take (k + 1)) := by
  subst hx
  apply Array.ext
  · simp [wcells, u64s]
  · intro j h1 h2
    have hj : j < N := by simpa [wcells, u64s] using h2
    rw [Array.getElem_setIfInBounds]
    · by_cases h : k / 8 = j
      · subst h
        simp [wcells, u64s]
      · rw [if_neg h]
        simp only [wcells, u64s, List.getElem_toArray, List.getElem_map, List.getElem_range]
        rw [pw_step l k j hk, if_neg (fun e => h e.symm)]
    · simpa using h1
theorem or_shl (v c r : Nat) (hv : v < 18446744073709551616) (hc : c < 256) : bits BinOp.or IntKind.u64 (v : Int) (IntKind.u64.wrap (IntKind.u64.wrap (c : Int) * 2 ^ r)) = ((v ||| (c * 2 ^ r) % 18446744073709551616 : Nat) : Int) := by
  have wr : ∀ x : Int, IntKind.u64.wrap x = x % 18446744073709551616 := fun x => by simp [IntKind.wrap, IntKind.bits, IntKind.signed]
  rw [wr, wr, show (c : Int) % 18446744073709551616 = (c : Int) by omega]
  have e : ((c : Int) * 2 ^ r) % 18446744073709551616 = ((c * 2 ^ r % 18446744073709551616 : Nat) : Int) := by
    rw [Int.natCast_emod, Int.natCast_mul, Int.natCast_pow]; rfl
  rw [e, u64_or_nat _ _ hv (Nat.mod_lt _ (by omega))]
theorem byts_at (s : ByteArray) (k : Nat) (hk : k < s.size) : (byts s)[k]'(by rw [byts_len]; exact hk) = s[k].toNat := by
  simp [byts]; rfl

set_option maxHeartbeats 400000 in
theorem clone_any (ys : List Nat) (A : Option Addr) (n c : Nat) (w : World) (hr : Sl w w.heap.size A (u64s ys)) (hn : ys.length = n) (hA : A = none → n = 0 ∧ c = 0) (hlen : n ≤ 1099511627776) :
    Calls Try.prog 21 #[.slice A n c] w (NewL w ys) := by
  subst hn
  obtain ⟨i0, hi0, hz0, hz1, hz2⟩ := info_parts info43
  cases A with
  | none =>
    obtain ⟨h1, rfl⟩ := hA rfl
    obtain rfl : ys = [] := List.eq_nil_of_length_eq_zero h1
    have heq := fun W : World => Lib.run_eql_slice_nil (P := Try.prog) W 22 57 none 0 0 0 0 Try.underlying22
    go_enter Try.func21, Try.ntmps21
    go_wp2
    go_ret
    exact ⟨none, 0, rfl, World.ownsRow_nil _ _ _ _, Fr.refl _ _⟩
  | some ad =>
    have heq := fun W : World => Lib.run_eql_slice_nil (P := Try.prog) W 22 57 (some ad) ys.length c 0 0 Try.underlying22
    have hown : (w.alloc (.cells #[] 57)).ownsRow w.heap.size 57 1 (.slice (some ⟨w.heap.size, 0, none⟩) 0 0) 0 [] := World.ownsRow_lit w #[] 0 (Nat.le_refl _) (Nat.zero_le _) rfl
    have hr1 : Sl (w.alloc (.cells #[] 57)) w.heap.size (some ad) (u64s ys) := hr.keep fun q hq => World.cell?_alloc_lt w _ q hq
    go_enter Try.func21, Try.ntmps21
    go_wp2_with (at_builtin; refine wpList_append_src _ rfl (.tmp 5) (.tmp 6) _ rfl w.heap.size 57 i0 _ 1 8 Try.underlying22 hi0 hz0 hz1 hz2 rfl (by omega) _ 0 [] rfl hown w.heap.size (some ad) ys.length c (u64s ys) rfl ?hl hr1 (u64s_one ys) ?h63 ?hby (by simp) ?rest)
    case hl => simp [u64s]
    case h63 => unfold maxLen; omega
    case hby => omega
    case rest =>
      intro v' w1 hown1 hgr hat
      obtain ⟨A1, c1, rfl, -, -, -⟩ := own_shape hown1
      have hf : Fr No w w1 := ((Fr.refl No w).alloc _).grown hgr (fun k hk => .inr (by simp [Value.ownBlock] at hk; omega))
      go_wp2
      go_ret
      exact ⟨A1, c1, by simp, by simpa using hown1, hf⟩

theorem byts_take (s : ByteArray) (n : Nat) : byts (s.extract 0 n) = (byts s).take n := by
  simp [byts, ByteArray.data_extract, Array.toList_extract, List.extract]

end Go.Proofs.Ytnlmhcfkipkegaa
