/- What package sums does, first half: half, folded, end, addByte. -/
import Derived.Test.YtdmllfjeofiddaaRef2
import Derived.Test.YtdmllfjeofiddaaTab
import Derived.Deep.WholeRow
namespace Go.Proofs.Ytdmllfjeofiddaa
open Go.RowKit

/-- What each low eight bits make. -/
def foldT : Array Value := tab 256 fun i => .int .u32 (halfs 8 i : Nat)
/-- The table, up to j. -/
def foldJ (j : Nat) : Array Value := tab 256 fun i => if i < j then .int .u32 (halfs 8 i : Nat) else .int .u32 (0 : Nat)
theorem foldT_size : foldT.size = 256 := tab_size _ _
theorem foldT_at (i : Nat) (hi : i < 256) : foldT[i]? = some (.int .u32 (halfs 8 i : Nat)) := tab_at _ _ _ hi
theorem foldT_one : foldT.all (·.oneCell') = true := tab_one _ _ (fun _ _ => rfl)
theorem foldJ_size (j : Nat) : (foldJ j).size = 256 := tab_size _ _
theorem foldJ_last : foldJ 256 = foldT := tab_congr _ _ _ (fun i hi => by rw [if_pos hi])
theorem foldJ_zero : foldJ 0 = tab 256 fun _ => .int .u32 0 := tab_congr _ _ _ (fun i _ => by rw [if_neg (by omega)]; rfl)
theorem foldJ_put (j : Nat) : (foldJ j).setIfInBounds j (.int .u32 (halfs 8 j : Nat)) = foldJ (j + 1) := by
  unfold foldJ
  rw [tab_put]
  refine tab_congr _ _ _ (fun i _ => ?_)
  by_cases h : i = j
  · subst h; rw [if_pos rfl, if_pos (by omega)]
  · rw [if_neg h]
    by_cases h2 : i < j
    · rw [if_pos h2, if_pos (by omega)]
    · rw [if_neg h2, if_neg (by omega)]
theorem zero_fold : (∀ w, (zeroValue 100).run Try.prog w = .ok (.agg (foldJ 0)) w) ∧ (Try.prog.info? 100).map (·.size) = some 256 := by
  rw [foldJ_zero]
  exact zero_of_info (show (Try.prog.info? 100).map (fun i => (i.zero, i.size)) = some (some (.agg (tab 256 fun _ => .int .u32 0)), 256) by kernel_rfl)
/-- A block that is laid anew, whole. -/
theorem Bk.row {w : World} {g : Nat} {t : TypeId} {cs : Array Value} (h : Bk w g t cs) (ds : Array Value) : Bk (w.setRow g ds) g t ds := setRow_heap w g cs ds t (0, 0) h
theorem Fr.setRow {S : Nat → Prop} {a w : World} (h : Fr S a w) {g : Nat} (hg : S g ∨ a.heap.size ≤ g) (cs : Array Value) : Fr S a (w.setRow g cs) := by
  refine ⟨h.same, by simpa using h.size, fun i hi hn => ?_⟩
  have hne : i ≠ g := by
    rintro rfl
    rcases hg with hg | hg
    · exact hn hg
    · omega
  rw [setRow_other w g i cs hne, h.block i hi hn]

set_option maxHeartbeats 400000 in
theorem half_any (x : Nat) (hx : x < 4294967296) (w : World) :
    Calls Try.prog 68 #[.int .u32 x] w fun e w' => e = .returned (.int .u32 (half x : Nat)) ∧ w = w' := by
  have ha : bits BinOp.and IntKind.u32 (x : Int) 1 = ((x % 2 : Nat) : Int) := by
    have := u32_and_nat x 1 hx (by omega)
    rw [Nat.and_one_is_mod] at this
    simpa using this
  by_cases ho : x % 2 = 1
  · have Hh : Hid (half x = x / 2 ^^^ odd) := Lib.hid (by unfold half; rw [if_pos ho])
    have e : ((x : Int) % 2 == 1) = true := by simp; omega
    have e2 : bits BinOp.xor IntKind.u32 ((x : Int) / 2) 2197175160 = ((x / 2 ^^^ odd : Nat) : Int) := by
      have := odd_xor (x / 2) (by omega)
      simpa using this
    go_enter Try.func68, Try.ntmps68
    go_wp2
    go_ret
    exact ⟨by rw [Hh.out]; rfl, rfl⟩
  · have Hh : Hid (half x = x / 2) := Lib.hid (by unfold half; rw [if_neg ho])
    have e : ((x : Int) % 2 == 1) = false := by simp; omega
    go_enter Try.func68, Try.ntmps68
    go_wp2
    go_ret
    exact ⟨by rw [Hh.out]; simp, rfl⟩

set_option maxHeartbeats 400000 in
theorem end_any (x : Nat) (hx : x < 4294967296) (w : World) :
    Calls Try.prog 69 #[.int .u32 x] w fun e w' => e = .returned (.int .u32 (x ^^^ 4294967295 : Nat)) ∧ w = w' := by
  have e : bits BinOp.xor IntKind.u32 IntKind.u32.max (x : Int) = ((x ^^^ 4294967295 : Nat) : Int) := by
    have := u32_xor_nat 4294967295 x (by omega) hx
    rw [Nat.xor_comm]
    exact this
  have hs : IntKind.u32.signed = false := rfl
  go_enter Try.func69, Try.ntmps69
  go_wp2
  go_ret
  exact ⟨rfl, rfl⟩

set_option maxRecDepth 100000 in
set_option maxHeartbeats 2000000 in
theorem folded_any (w : World) : Calls Try.prog 67 #[.func (.func 68) #[] #[]] w fun e w' => e = .returned (.agg foldT) ∧ Fr No w w' := by
  have hz := zero_fold.1
  have hi := zero_fold.2
  go_enter Try.func67, Try.ntmps67
  go_wp2
  obtain ⟨g, k, Hg, Hk⟩ : ∃ g k, Hid (g = w.heap.size) ∧ Hid (k = w.heap.size + 1) := ⟨_, _, Lib.hid rfl, Lib.hid rfl⟩
  have b0 : Bk ((w.alloc (.cells (foldJ 0) 100)).alloc (.cells (foldJ 0) 100)) g 100 (foldJ 0) := by
    rw [Hg.out]
    exact (Bk.made w _ _).fr ((Fr.refl No _).alloc _) (fun e => e)
  have b1 : Bk ((w.alloc (.cells (foldJ 0) 100)).alloc (.cells (foldJ 0) 100)) k 100 (foldJ 0) := by
    have := Bk.made (w.alloc (.cells (foldJ 0) 100)) 100 (foldJ 0)
    rwa [show (w.alloc (.cells (foldJ 0) 100)).heap.size = w.heap.size + 1 from by simp, ← Hk.out] at this
  have f0 : Fr No w ((w.alloc (.cells (foldJ 0) 100)).alloc (.cells (foldJ 0) 100)) := ((Fr.refl No w).alloc _).alloc _
  have hgw : w.heap.size ≤ g := by rw [Hg.out]; omega
  have hkw : w.heap.size ≤ k := by rw [Hk.out]; omega
  have hgk : g ≠ k := by rw [Hg.out, Hk.out]; omega
  rw [← Hk.out, ← Hg.out]
  generalize (w.alloc (.cells (foldJ 0) 100)).alloc (.cells (foldJ 0) 100) = wa at *
  clear hz
  go_loopw [6] (fun iv wr => ∃ j : Nat, j ≤ 256 ∧ iv = .int .i64 j ∧ Bk wr g 100 (foldJ 0) ∧ Bk wr k 100 (foldJ j) ∧ Fr No w wr) (fun i _ => 256 - (intOf i).toNat)
  case atStart => exact ⟨0, by omega, rfl, b0, b1, f0⟩
  case round =>
    obtain ⟨j, hj, rfl, b0, b1, hfr⟩ := hrel
    by_cases hlt : j < 256
    · have hd : decide ((j : Int) < 256) = true := by simp; omega
      go_wp2
      go_loopw [5, 11] (fun x q wx => ∃ m Y : Nat, m ≤ 8 ∧ q = .int .i64 m ∧ x = .int .u32 Y ∧ Y < 4294967296 ∧ Hid (Y = halfs m j) ∧ wr = wx) (fun _ q _ => 8 - (intOf q).toNat)
      case atStart => exact ⟨0, j, by omega, rfl, by simp, by omega, Lib.hid rfl, rfl⟩
      case round =>
        obtain ⟨m, Y, hm, rfl, rfl, hY, HY, rfl⟩ := hrel
        by_cases hm8 : m < 8
        · have hh := half_lt Y hY
          go_wp2_with (go_at_call 68; refine (half_any Y hY _).mono ?_; rintro e w' ⟨rfl, rfl⟩)
          go_roundw
          case rel => exact ⟨m + 1, half Y, by omega, by go_num, rfl, hh, Lib.hid (by rw [HY.out]; rfl), trivial⟩
          case measure => simp [intOf]; omega
        · obtain rfl : m = 8 := by omega
          have hjs : j < (foldJ j).size := by rw [foldJ_size]; exact hlt
          have hc : wr.cell? ⟨k, j, none⟩ = some (foldJ j)[j] := by rw [b1.cell]; exact Array.getElem?_eq_getElem hjs
          have hf := b1.frozen j
          have b2 := b1.put j (.int .u32 (halfs 8 j : Nat))
          rw [foldJ_put, ← HY.out] at b2
          have b3 : Bk (wr.setCell ⟨k, j, none⟩ (.int .u32 Y)) g 100 (foldJ 0) := b0.fr ((Fr.refl (fun x => x = k) wr).setCell (p := ⟨k, j, none⟩) (.inl rfl) _) hgk
          have f2 := hfr.setCell (p := ⟨k, j, none⟩) (.inr hkw) (.int .u32 (Y : Int))
          clear b0 b1
          go_wp2
          go_roundw
          case rel => exact ⟨j + 1, by omega, by go_num, b3, b2, f2⟩
          case measure => simp [intOf]; omega
    · obtain rfl : j = 256 := by omega
      rw [foldJ_last] at b1
      have hst : (storeCells ⟨g, 0, none⟩ foldT.toList).run Try.prog wr = .ok () (wr.setRow g foldT) := by
        have := run_storeCells_from (P := Try.prog) g _ foldT.toList 0 _ wr b0 (by rw [foldJ_size, Array.length_toList, foldT_size]) (fun v hv => (Array.all_eq_true_iff_forall_mem.1 foldT_one) v (by simpa using hv))
        simpa using this
      have b2 := b0.row foldT
      have f2 := hfr.setRow (.inr hgw) foldT
      have h256 := foldT_size
      go_wp2
      refine wp_load_row _ _ rfl k rfl _ _ _ _ b1 Try.underlying100 rfl (by rw [foldT_size]; exact hi) ?_
      go_wp2
      clear hst b0
      generalize wr.setRow g foldT = wz at *
      refine bodyPost_ret (results_cell_row rfl _ _ g _ _ _ _ rfl b2 Try.underlying100 rfl (by rw [foldT_size]; exact hi)) rfl ?_
      exact ⟨rfl, f2⟩
end Go.Proofs.Ytdmllfjeofiddaa
/- What package sums does, second half: addWords, Mark, Open, Fits. -/
namespace Go.Proofs.Ytdmllfjeofiddaa
open Go.RowKit

set_option maxHeartbeats 400000 in
theorem addByte_any (g x b : Nat) (hx : x < 4294967296) (hb : b < 256) (w : World) (h : Bk w g 100 foldT) :
    Calls Try.prog 77 #[.pointer (some ⟨g, 0, none⟩), .int .u32 x, .int .u8 b] w fun e w' => e = .returned (.int .u32 (bstep x b : Nat)) ∧ w = w' := by
  have Ht := Lib.hid (bstep_table x b)
  have hxx : bits BinOp.xor IntKind.u8 ((x : Int) % 256) (b : Int) = ((x % 256 ^^^ b : Nat) : Int) := by
    have h := u8_xor_nat (x % 256) b (by omega) hb
    rw [Int.natCast_emod] at h
    exact h
  have hx8 : x % 256 ^^^ b < 256 := Nat.xor_lt_two_pow (n := 8) (by omega) (by omega)
  have hh := halfs_lt 8 (x % 256 ^^^ b) (by omega)
  have h32 : bits BinOp.xor IntKind.u32 ((x : Int) / 256) (halfs 8 (x % 256 ^^^ b) : Nat) = ((x / 256 ^^^ halfs 8 (x % 256 ^^^ b) : Nat) : Int) := by
    have h := u32_xor_nat (x / 256) (halfs 8 (x % 256 ^^^ b)) (by omega) hh
    rw [Int.natCast_ediv] at h
    exact h
  have hc : w.cell? ⟨g, x % 256 ^^^ b, none⟩ = some (.int .u32 (halfs 8 (x % 256 ^^^ b) : Nat)) := by rw [h.cell]; exact foldT_at _ hx8
  go_enter Try.func77, Try.ntmps77
  go_wp2
  go_ret
  exact ⟨by rw [Ht.out]; rfl, rfl⟩

theorem byte_of (u m : Nat) : (u : Int) / 2 ^ (m * 8) % 256 = ((u / 256 ^ m % 256 : Nat) : Int) := by
  rw [Int.natCast_emod, Int.natCast_ediv, Int.natCast_pow, show ((256 : Nat) : Int) = 2 ^ 8 from rfl, ← Int.pow_mul, Nat.mul_comm]; rfl
set_option maxHeartbeats 1000000 in
theorem addWords_any (g : Nat) (X : Nat) (hX : X < 4294967296) (ws : List Nat) (h64 : ∀ u ∈ ws, u < 18446744073709551616) (n : Nat) (A : Option Addr) (c B : Nat) (w : World) (hb : Bk w g 100 foldT) (h : Sl w B A (u64s ws)) (hn : ws.length = n) (hlen : n ≤ 1073741824) :
    Calls Try.prog 70 #[.pointer (some ⟨g, 0, none⟩), .int .u32 X, .slice A n c] w fun e w' => e = .returned (.int .u32 (crc X (bytesW ws) : Nat)) ∧ w = w' := by
  have Hn := Lib.hid hn
  have Hb := Lib.hid h64
  clear hn h64
  go_enter Try.func70, Try.ntmps70
  go_wp2
  go_loop [1, 12] (fun x i => ∃ j Y : Nat, j ≤ n ∧ i = .int .i64 j ∧ x = .int .u32 Y ∧ Y < 4294967296 ∧ Hid (Y = crc X (bytesW (ws.take j)))) (fun _ i => n - (intOf i).toNat)
  case atStart => exact ⟨0, X, by omega, rfl, rfl, hX, Lib.hid rfl⟩
  case round =>
    obtain ⟨j, Y, hj, rfl, rfl, hY, HY⟩ := hrel
    by_cases hlt : j < n
    · have hjb : j < ws.length := by rw [Hn.out]; exact hlt
      obtain ⟨ad, rfl, -, hc⟩ := h.wordB hjb
      have hu := Hb.out _ (List.getElem_mem hjb)
      have Hs : Hid (ws.take (j + 1) = ws.take j ++ [ws[j]]) := Lib.hid (List.take_succ_eq_append_getElem hjb)
      generalize ws[j] = u at *
      go_wp2
      go_loop [1, 16] (fun x k => ∃ m Z : Nat, m ≤ 8 ∧ k = .int .i64 m ∧ x = .int .u32 Z ∧ Z < 4294967296 ∧ Hid (Z = crc Y (wbk u m))) (fun _ k => 8 - (intOf k).toNat)
      case atStart => exact ⟨0, Y, by omega, rfl, rfl, hY, Lib.hid rfl⟩
      case round =>
        obtain ⟨m, Z, hm, rfl, rfl, hZ, HZ⟩ := hrel
        by_cases hm8 : m < 8
        · have hb8 := Nat.mod_lt (u / 256 ^ m) (show 0 < 256 by omega)
          have hz := bstep_lt Z (u / 256 ^ m % 256) hZ hb8
          go_wp2_with fail
          rw [byte_of]
          refine (addByte_any g Z (u / 256 ^ m % 256) hZ hb8 _ hb).mono ?_
          rintro e w' ⟨rfl, rfl⟩
          go_wp2
          go_round
          case rel => exact ⟨m + 1, bstep Z (u / 256 ^ m % 256), by omega, by go_num, rfl, hz, Lib.hid (by rw [wbk_succ, crc_snoc, ← HZ.out])⟩
          case measure => simp [intOf]; omega
        · obtain rfl : m = 8 := by omega
          go_wp2
          go_round
          case rel => exact ⟨j + 1, Z, by omega, by go_num, rfl, hZ, Lib.hid (by rw [Hs.out, bytesW_app, crc_app, ← HY.out, HZ.out]; simp [bytesW, wb])⟩
          case measure => simp [intOf]; omega
    · have Hs : Hid (ws.take j = ws) := Lib.hid (List.take_of_length_le (by rw [Hn.out]; omega))
      go_wp2
      go_ret
      exact ⟨by rw [HY.out, Hs.out]; rfl, rfl⟩

theorem or_mark (K N s : Nat) (_hK : K ≤ 255) (hN : N ≤ 16777215) (hs : s < 4294967296) : K * 72057594037927936 ||| N * 4294967296 ||| s = K * 72057594037927936 + N * 4294967296 + s := by
  have h1 : K * 72057594037927936 ||| N * 4294967296 = K * 72057594037927936 + N * 4294967296 := by
    have := Nat.two_pow_add_eq_or_of_lt (i := 56) (b := N * 4294967296) (by omega) K
    rw [Nat.mul_comm K 72057594037927936]
    exact this.symm
  have h2 := Nat.two_pow_add_eq_or_of_lt (i := 32) (b := s) (by omega) (K * 16777216 + N)
  rw [h1, show K * 72057594037927936 + N * 4294967296 = 2 ^ 32 * (K * 16777216 + N) by omega]
  exact h2.symm

theorem or_mark_bits (K N s : Nat) (hK : K ≤ 255) (hN : N ≤ 16777215) (hs : s < 4294967296) : bits BinOp.or IntKind.u64 (bits BinOp.or IntKind.u64 ((K : Int) * 72057594037927936) ((N : Int) * 4294967296)) (s : Int) = ((K * 72057594037927936 ||| N * 4294967296 ||| s : Nat) : Int) := by
  have h1 := u64_or_nat (K * 72057594037927936) (N * 4294967296) (by omega) (by omega)
  have h2 := u64_or_nat (K * 72057594037927936 ||| N * 4294967296) s (Nat.or_lt_two_pow (n := 64) (by omega) (by omega)) (by omega)
  rw [← h1] at h2
  exact h2
set_option maxRecDepth 100000 in
set_option maxHeartbeats 1000000 in
theorem sumsMark_any (kind n : Int) (hk1 : -9223372036854775808 ≤ kind) (hk2 : kind < 9223372036854775808) (hn1 : -9223372036854775808 ≤ n) (hn2 : n < 9223372036854775808) (l : List Nat) (h64 : ∀ u ∈ l, u < 18446744073709551616) (m : Nat) (A : Option Addr) (c : Nat) (w : World) (h : Sl w w.heap.size A (u64s l)) (hm : l.length = m) (hlen : m ≤ 1048576) :
    Calls Try.prog 59 #[.int .i64 kind, .int .i64 n, .slice A m c] w (Marked w kind n l) := by
  by_cases hok : 0 ≤ kind ∧ kind ≤ 255 ∧ 0 ≤ n ∧ n ≤ 16777215
  · have H1 : mkOk kind n = true := by simpa [mkOk] using hok
    obtain ⟨a1, a2, a3, a4⟩ := hok
    obtain ⟨K, rfl⟩ := Int.eq_ofNat_of_zero_le a1
    obtain ⟨N, rfl⟩ := Int.eq_ofNat_of_zero_le a3
    have hsm := sumW_lt (K :: N :: l)
    have Hw : Hid (mkW K N l = K * 72057594037927936 ||| N * 4294967296 ||| sumW (K :: N :: l)) := Lib.hid (by unfold mkW; rw [if_pos H1, or_mark _ _ _ (by omega) (by omega) hsm]; rfl)
    have Ho := Lib.hid H1
    have Hm := Lib.hid hm
    clear H1 hm hk1 hk2 hn1 hn2
    have h2 : ∀ u ∈ [K, N], u < 18446744073709551616 := by intro u hu; simp at hu; omega
    have hc1 := crc_lt (bytesW [K, N]) (bytesW_lt _) 4294967295 (by omega)
    have hc2 := crc_lt (bytesW l) (bytesW_lt _) _ hc1
    have He : Hid (crc (crc 4294967295 (bytesW [K, N])) (bytesW l) ^^^ 4294967295 = sumW (K :: N :: l)) := Lib.hid (by rw [← crc_app, ← bytesW_app]; rfl)
    have hz := zero_fold.1
    have hzi := zero_fold.2
    go_enter Try.func59, Try.ntmps59
    go_wp2_with fail
    refine (folded_any _).mono ?_
    rintro e w1 ⟨rfl, hf1⟩
    have hst : (storeCells ⟨w1.heap.size, 0, none⟩ foldT.toList).run Try.prog (w1.alloc (.cells (foldJ 0) 100)) = .ok () (w1.alloc (.cells foldT 100)) :=
      run_storeCells_new w1 100 (foldJ 0) foldT (by rw [foldT_size]; exact hzi) (by rw [foldT_size, foldJ_size]) foldT_one
    have h256 := foldT_size
    have b1 := Bk.made w1 100 foldT
    have f1 : Fr No w (w1.alloc (.cells foldT 100)) := hf1.alloc _
    go_wp2_with fail
    clear hst
    obtain ⟨w2, W2⟩ : ∃ w2, Hid (w2 = w1.alloc (.cells foldT 100)) := ⟨_, Lib.hid rfl⟩
    have hsz : w2.heap.size = w1.heap.size + 1 := by rw [W2.out]; simp
    rw [← W2.out] at b1 f1
    rw [← W2.out, ← hsz]
    have f2 : Fr No w2 (w2.alloc (.cells #[.int .u64 K, .int .u64 N] 40)) := (Fr.refl _ _).alloc _
    have hsl2 : Sl (w2.alloc (.cells #[.int .u64 K, .int .u64 N] 40)) (w2.heap.size + 1) (some ⟨w2.heap.size, 0, none⟩) (u64s [K, N]) := Sl.made w2 40 #[.int .u64 K, .int .u64 N]
    have b2 := b1.fr f2 (fun e => e)
    have f3 := f1.trans' f2 (fun _ _ e => e)
    have hsl := h.since f3
    refine (addWords_any _ 4294967295 (by omega) [K, N] h2 2 _ 2 _ _ b2 hsl2 rfl (by omega)).mono ?_
    rintro e w' ⟨rfl, rfl⟩
    generalize w2.alloc (.cells #[.int .u64 K, .int .u64 N] 40) = w3 at *
    go_wp2_with fail
    refine (addWords_any _ _ hc1 l h64 m A c _ _ b2 hsl Hm.out (by omega)).mono ?_
    rintro e w' ⟨rfl, rfl⟩
    go_wp2_with fail
    refine (end_any _ hc2 _).mono ?_
    rintro e w' ⟨rfl, rfl⟩
    rw [He.out]
    generalize sumW (K :: N :: l) = s at *
    have Hb := Lib.hid (or_mark_bits K N s (by omega) (by omega) hsm)
    go_wp2
    go_ret2
    refine ⟨?_, f3⟩
    rw [Hw.out, Ho.out, ← Hb.out]
    rfl
  · have H1 : mkOk kind n = false := by simpa [mkOk] using hok
    have Hw : Hid (mkW kind n l = 0) := Lib.hid (by unfold mkW; rw [if_neg (by simp [H1])])
    have Ho := Lib.hid H1
    clear H1 h64 hm h hlen
    by_cases b1 : kind < 0
    · clear hok hk2 hn1 hn2
      go_enter Try.func59, Try.ntmps59
      go_wp2
      go_ret2
      exact ⟨by rw [Hw.out, Ho.out]; rfl, Fr.refl _ _⟩
    · by_cases b2 : 255 < kind
      · clear hok hk1 hn1 hn2
        go_enter Try.func59, Try.ntmps59
        go_wp2
        go_ret2
        exact ⟨by rw [Hw.out, Ho.out]; rfl, Fr.refl _ _⟩
      · by_cases b3 : n < 0
        · clear hok hk1 hk2 hn2
          go_enter Try.func59, Try.ntmps59
          go_wp2
          go_ret2
          exact ⟨by rw [Hw.out, Ho.out]; rfl, Fr.refl _ _⟩
        · have b4 : 16777215 < n := by omega
          clear hok hk1 hk2 hn1
          go_enter Try.func59, Try.ntmps59
          go_wp2
          go_ret2
          exact ⟨by rw [Hw.out, Ho.out]; rfl, Fr.refl _ _⟩

theorem and_low (x : Nat) (hx : x < 18446744073709551616) : bits BinOp.and IntKind.u64 (x : Int) 16777215 = ((x % 16777216 : Nat) : Int) := by
  have h := u64_and_nat x 16777215 hx (by omega)
  rw [show (16777215 : Nat) = 2 ^ 24 - 1 from rfl, Nat.and_two_pow_sub_one_eq_mod] at h
  exact h
set_option maxHeartbeats 400000 in
theorem sumsOpen_any (u : Nat) (hu : u < 18446744073709551616) (w : World) :
    Calls Try.prog 72 #[.int .u64 u] w fun e w' => e = .returned (.tuple #[.int .i64 (u / 72057594037927936 : Nat), .int .i64 (u / 4294967296 % 16777216 : Nat), .int .u32 (u % 4294967296 : Nat)]) ∧ Fr No w w' := by
  have ha : bits BinOp.and IntKind.u64 ((u : Int) / 4294967296) 16777215 = ((u / 4294967296 % 16777216 : Nat) : Int) := by
    have h := and_low (u / 4294967296) (by omega)
    rw [Int.natCast_ediv] at h
    exact h
  go_enter Try.func72, Try.ntmps72
  go_wp2
  go_ret3
  refine ⟨?_, Fr.refl _ _⟩
  rw [Int.natCast_ediv u, Int.natCast_emod (u / 4294967296), Int.natCast_ediv, Int.natCast_emod u]
  rfl

theorem fits_mkW (u : Nat) (hu : u < 18446744073709551616) (l : List Nat) : mkW ((u / 72057594037927936 : Nat) : Int) ((u / 4294967296 % 16777216 : Nat) : Int) l = mark (u / 72057594037927936) (u / 4294967296 % 16777216) l ∧ mkOk ((u / 72057594037927936 : Nat) : Int) ((u / 4294967296 % 16777216 : Nat) : Int) = true := by
  have h : mkOk ((u / 72057594037927936 : Nat) : Int) ((u / 4294967296 % 16777216 : Nat) : Int) = true := by
    simp only [mkOk, decide_eq_true_eq]
    omega
  refine ⟨?_, h⟩
  unfold mkW
  rw [if_pos h]
  rfl
set_option maxRecDepth 100000 in
set_option maxHeartbeats 1000000 in
theorem sumsFits_any (u : Nat) (hu : u < 18446744073709551616) (l : List Nat) (h64 : ∀ u ∈ l, u < 18446744073709551616) (m : Nat) (A : Option Addr) (c : Nat) (w : World) (h : Sl w w.heap.size A (u64s l)) (hm : l.length = m) (hlen : m ≤ 1048576) :
    Calls Try.prog 73 #[.int .u64 u, .slice A m c] w fun e w' => e = .returned (.bool (fits u l)) ∧ Fr No w w' := by
  obtain ⟨h1, h2⟩ := fits_mkW u hu l
  have Hm := Lib.hid hm
  have H64 := Lib.hid h64
  have hml := mkW_lt ((u / 72057594037927936 : Nat) : Int) ((u / 4294967296 % 16777216 : Nat) : Int) l
  rw [h1] at hml
  have Hf : Hid (fits u l = ((mark (u / 72057594037927936) (u / 4294967296 % 16777216) l : Int) == (u : Int))) := Lib.hid (by
    unfold fits
    rw [Bool.eq_iff_iff]
    simp
    omega)
  have Hk : Hid (∀ W, Sl W W.heap.size A (u64s l) → Calls Try.prog 59 #[.int .i64 ((u / 72057594037927936 : Nat) : Int), .int .i64 ((u / 4294967296 % 16777216 : Nat) : Int), .slice A m c] W fun e w' => e = .returned (.tuple #[.int .u64 (mark (u / 72057594037927936) (u / 4294967296 % 16777216) l : Nat), .bool true]) ∧ Fr No W w') := Lib.hid (by
    intro W hW
    have := sumsMark_any ((u / 72057594037927936 : Nat) : Int) ((u / 4294967296 % 16777216 : Nat) : Int) (by omega) (by omega) (by omega) (by omega) l h64 m A c W hW hm hlen
    unfold Marked at this
    rw [h1, h2] at this
    exact this)
  clear h1 h2 hm h64
  go_enter Try.func73, Try.ntmps73
  go_wp2_with (go_at_call 72; refine (sumsOpen_any u hu _).mono ?_; rintro e w1 ⟨rfl, hf1⟩)
  refine (Hk.out w1 (h.fr hf1 (Nat.le_refl _) (fun _ _ _ e => e) |>.more hf1.size)).mono ?_
  rintro e w2 ⟨rfl, hf2⟩
  generalize mark (u / 72057594037927936) (u / 4294967296 % 16777216) l = M at *
  go_wp2
  go_ret
  exact ⟨by rw [Hf.out]; rfl, hf1.trans' hf2 (fun _ _ e => e)⟩
end Go.Proofs.Ytdmllfjeofiddaa
