/- What package sums does, second half: addWords, Mark, Open, Fits. -/
import Derived.Test.YtcjbdoppphjpjaaSum6
namespace Go.Proofs.Ytcjbdoppphjpjaa
open Go.RowKit

set_option maxHeartbeats 400000 in
theorem addByte_any (g x b : Nat) (hx : x < 4294967296) (hb : b < 256) (w : World) (h : Bk w g 69 foldT) :
    Calls Try.prog 43 #[.pointer (some ⟨g, 0, none⟩), .int .u32 x, .int .u8 b] w fun e w' => e = .returned (.int .u32 (bstep x b : Nat)) ∧ w = w' := by
  have Ht := Lib.hid (bstep_table x b)
  have hxx : bits BinOp.xor IntKind.u8 ((x : Int) % 256) (b : Int) = ((x % 256 ^^^ b : Nat) : Int) := by
    have h := u8_xor_nat (x % 256) b (by omega) hb
    rw [Int.natCast_emod] at h
    exact h
  have hx8 : x % 256 ^^^ b < 256 := Nat.xor_lt_two_pow (n := 8) (by omega) (by omega)
  have hh := halfs_lt 8 (x % 256 ^^^ b) (by omega)
  have h32 : bits BinOp.xor IntKind.u32 ((x : Int) / 256) (halfs 8 (x % 256 ^^^ b) : Nat) = ((x / 256 ^^^ halfs 8 (x % 256 ^^^ b) : Nat) : Int) := by
    have h := u32_xor_nat (x / 256) (halfs 8 (x % 256 ^^^ b)) (by omega) hh
    rw [Int.natCast_ediv] at h
    exact h
  have hc : w.cell? ⟨g, x % 256 ^^^ b, none⟩ = some (.int .u32 (halfs 8 (x % 256 ^^^ b) : Nat)) := by rw [h.cell]; exact foldT_at _ hx8
  go_enter Try.func43, Try.ntmps43
  go_wp2
  go_ret
  exact ⟨by rw [Ht.out]; rfl, rfl⟩

theorem byte_of (u m : Nat) : (u : Int) / 2 ^ (m * 8) % 256 = ((u / 256 ^ m % 256 : Nat) : Int) := by
  rw [Int.natCast_emod, Int.natCast_ediv, Int.natCast_pow, show ((256 : Nat) : Int) = 2 ^ 8 from rfl, ← Int.pow_mul, Nat.mul_comm]; rfl
set_option maxHeartbeats 1000000 in
theorem addWords_any (g : Nat) (X : Nat) (hX : X < 4294967296) (ws : List Nat) (h64 : ∀ u ∈ ws, u < 18446744073709551616) (n : Nat) (A : Option Addr) (c B : Nat) (w : World) (hb : Bk w g 69 foldT) (h : Sl w B A (u64s ws)) (hn : ws.length = n) (hlen : n ≤ 1073741824) :
    Calls Try.prog 37 #[.pointer (some ⟨g, 0, none⟩), .int .u32 X, .slice A n c] w fun e w' => e = .returned (.int .u32 (crc X (bytesW ws) : Nat)) ∧ w = w' := by
  have Hn := Lib.hid hn
  have Hb := Lib.hid h64
  clear hn h64
  go_enter Try.func37, Try.ntmps37
  go_wp2
  go_loop [1, 12] (fun x i => ∃ j Y : Nat, j ≤ n ∧ i = .int .i64 j ∧ x = .int .u32 Y ∧ Y < 4294967296 ∧ Hid (Y = crc X (bytesW (ws.take j)))) (fun _ i => n - (intOf i).toNat)
  case atStart => exact ⟨0, X, by omega, rfl, rfl, hX, Lib.hid rfl⟩
  case round =>
    obtain ⟨j, Y, hj, rfl, rfl, hY, HY⟩ := hrel
    by_cases hlt : j < n
    · have hjb : j < ws.length := by rw [Hn.out]; exact hlt
      obtain ⟨ad, rfl, -, hc⟩ := h.wordB hjb
      have hu := Hb.out _ (List.getElem_mem hjb)
      have Hs : Hid (ws.take (j + 1) = ws.take j ++ [ws[j]]) := Lib.hid (List.take_succ_eq_append_getElem hjb)
      generalize ws[j] = u at *
      go_wp2
      go_loop [1, 16] (fun x k => ∃ m Z : Nat, m ≤ 8 ∧ k = .int .i64 m ∧ x = .int .u32 Z ∧ Z < 4294967296 ∧ Hid (Z = crc Y (wbk u m))) (fun _ k => 8 - (intOf k).toNat)
      case atStart => exact ⟨0, Y, by omega, rfl, rfl, hY, Lib.hid rfl⟩
      case round =>
        obtain ⟨m, Z, hm, rfl, rfl, hZ, HZ⟩ := hrel
        by_cases hm8 : m < 8
        · have hb8 := Nat.mod_lt (u / 256 ^ m) (show 0 < 256 by omega)
          have hz := bstep_lt Z (u / 256 ^ m % 256) hZ hb8
          go_wp2_with fail
          rw [byte_of]
          refine (addByte_any g Z (u / 256 ^ m % 256) hZ hb8 _ hb).mono ?_
          rintro e w' ⟨rfl, rfl⟩
          go_wp2
          go_round
          case rel => exact ⟨m + 1, bstep Z (u / 256 ^ m % 256), by omega, by go_num, rfl, hz, Lib.hid (by rw [wbk_succ, crc_snoc, ← HZ.out])⟩
          case measure => simp [intOf]; omega
        · obtain rfl : m = 8 := by omega
          go_wp2
          go_round
          case rel => exact ⟨j + 1, Z, by omega, by go_num, rfl, hZ, Lib.hid (by rw [Hs.out, bytesW_app, crc_app, ← HY.out, HZ.out]; simp [bytesW, wb])⟩
          case measure => simp [intOf]; omega
    · have Hs : Hid (ws.take j = ws) := Lib.hid (List.take_of_length_le (by rw [Hn.out]; omega))
      go_wp2
      go_ret
      exact ⟨by rw [HY.out, Hs.out]; rfl, rfl⟩

theorem or_mark (K N s : Nat) (_hK : K ≤ 255) (hN : N ≤ 16777215) (hs : s < 4294967296) : K * 72057594037927936 ||| N * 4294967296 ||| s = K * 72057594037927936 + N * 4294967296 + s := by
  have h1 : K * 72057594037927936 ||| N * 4294967296 = K * 72057594037927936 + N * 4294967296 := by
    have := Nat.two_pow_add_eq_or_of_lt (i := 56) (b := N * 4294967296) (by omega) K
    rw [Nat.mul_comm K 72057594037927936]
    exact this.symm
  have h2 := Nat.two_pow_add_eq_or_of_lt (i := 32) (b := s) (by omega) (K * 16777216 + N)
  rw [h1, show K * 72057594037927936 + N * 4294967296 = 2 ^ 32 * (K * 16777216 + N) by omega]
  exact h2.symm

theorem or_mark_bits (K N s : Nat) (hK : K ≤ 255) (hN : N ≤ 16777215) (hs : s < 4294967296) : bits BinOp.or IntKind.u64 (bits BinOp.or IntKind.u64 ((K : Int) * 72057594037927936) ((N : Int) * 4294967296)) (s : Int) = ((K * 72057594037927936 ||| N * 4294967296 ||| s : Nat) : Int) := by
  have h1 := u64_or_nat (K * 72057594037927936) (N * 4294967296) (by omega) (by omega)
  have h2 := u64_or_nat (K * 72057594037927936 ||| N * 4294967296) s (Nat.or_lt_two_pow (n := 64) (by omega) (by omega)) (by omega)
  rw [← h1] at h2
  exact h2
set_option maxRecDepth 100000 in
set_option maxHeartbeats 1000000 in
theorem sumsMark_any (kind n : Int) (hk1 : -9223372036854775808 ≤ kind) (hk2 : kind < 9223372036854775808) (hn1 : -9223372036854775808 ≤ n) (hn2 : n < 9223372036854775808) (l : List Nat) (h64 : ∀ u ∈ l, u < 18446744073709551616) (m : Nat) (A : Option Addr) (c : Nat) (w : World) (h : Sl w w.heap.size A (u64s l)) (hm : l.length = m) (hlen : m ≤ 1048576) :
    Calls Try.prog 22 #[.int .i64 kind, .int .i64 n, .slice A m c] w (Marked w kind n l) := by
  by_cases hok : 0 ≤ kind ∧ kind ≤ 255 ∧ 0 ≤ n ∧ n ≤ 16777215
  · have H1 : mkOk kind n = true := by simpa [mkOk] using hok
    obtain ⟨a1, a2, a3, a4⟩ := hok
    obtain ⟨K, rfl⟩ := Int.eq_ofNat_of_zero_le a1
    obtain ⟨N, rfl⟩ := Int.eq_ofNat_of_zero_le a3
    have hsm := sumW_lt (K :: N :: l)
    have Hw : Hid (mkW K N l = K * 72057594037927936 ||| N * 4294967296 ||| sumW (K :: N :: l)) := Lib.hid (by unfold mkW; rw [if_pos H1, or_mark _ _ _ (by omega) (by omega) hsm]; rfl)
    have Ho := Lib.hid H1
    have Hm := Lib.hid hm
    clear H1 hm hk1 hk2 hn1 hn2
    have h2 : ∀ u ∈ [K, N], u < 18446744073709551616 := by intro u hu; simp at hu; omega
    have hc1 := crc_lt (bytesW [K, N]) (bytesW_lt _) 4294967295 (by omega)
    have hc2 := crc_lt (bytesW l) (bytesW_lt _) _ hc1
    have He : Hid (crc (crc 4294967295 (bytesW [K, N])) (bytesW l) ^^^ 4294967295 = sumW (K :: N :: l)) := Lib.hid (by rw [← crc_app, ← bytesW_app]; rfl)
    have hz := zero_fold.1
    have hzi := zero_fold.2
    go_enter Try.func22, Try.ntmps22
    go_wp2_with fail
    refine (folded_any _).mono ?_
    rintro e w1 ⟨rfl, hf1⟩
    have hst : (storeCells ⟨w1.heap.size, 0, none⟩ foldT.toList).run Try.prog (w1.alloc (.cells (foldJ 0) 69)) = .ok () (w1.alloc (.cells foldT 69)) :=
      run_storeCells_new w1 69 (foldJ 0) foldT (by rw [foldT_size]; exact hzi) (by rw [foldT_size, foldJ_size]) foldT_one
    have h256 := foldT_size
    have b1 := Bk.made w1 69 foldT
    have f1 : Fr No w (w1.alloc (.cells foldT 69)) := hf1.alloc _
    go_wp2_with fail
    clear hst
    obtain ⟨w2, W2⟩ : ∃ w2, Hid (w2 = w1.alloc (.cells foldT 69)) := ⟨_, Lib.hid rfl⟩
    have hsz : w2.heap.size = w1.heap.size + 1 := by rw [W2.out]; simp
    rw [← W2.out] at b1 f1
    rw [← W2.out, ← hsz]
    have f2 : Fr No w2 (w2.alloc (.cells #[.int .u64 K, .int .u64 N] 24)) := (Fr.refl _ _).alloc _
    have hsl2 : Sl (w2.alloc (.cells #[.int .u64 K, .int .u64 N] 24)) (w2.heap.size + 1) (some ⟨w2.heap.size, 0, none⟩) (u64s [K, N]) := Sl.made w2 24 #[.int .u64 K, .int .u64 N]
    have b2 := b1.fr f2 (fun e => e)
    have f3 := f1.trans' f2 (fun _ _ e => e)
    have hsl := h.since f3
    refine (addWords_any _ 4294967295 (by omega) [K, N] h2 2 _ 2 _ _ b2 hsl2 rfl (by omega)).mono ?_
    rintro e w' ⟨rfl, rfl⟩
    generalize w2.alloc (.cells #[.int .u64 K, .int .u64 N] 24) = w3 at *
    go_wp2_with fail
    refine (addWords_any _ _ hc1 l h64 m A c _ _ b2 hsl Hm.out (by omega)).mono ?_
    rintro e w' ⟨rfl, rfl⟩
    go_wp2_with fail
    refine (end_any _ hc2 _).mono ?_
    rintro e w' ⟨rfl, rfl⟩
    rw [He.out]
    generalize sumW (K :: N :: l) = s at *
    have Hb := Lib.hid (or_mark_bits K N s (by omega) (by omega) hsm)
    go_wp2
    go_ret2
    refine ⟨?_, f3⟩
    rw [Hw.out, Ho.out, ← Hb.out]
    rfl
  · have H1 : mkOk kind n = false := by simpa [mkOk] using hok
    have Hw : Hid (mkW kind n l = 0) := Lib.hid (by unfold mkW; rw [if_neg (by simp [H1])])
    have Ho := Lib.hid H1
    clear H1 h64 hm h hlen
    by_cases b1 : kind < 0
    · clear hok hk2 hn1 hn2
      go_enter Try.func22, Try.ntmps22
      go_wp2
      go_ret2
      exact ⟨by rw [Hw.out, Ho.out]; rfl, Fr.refl _ _⟩
    · by_cases b2 : 255 < kind
      · clear hok hk1 hn1 hn2
        go_enter Try.func22, Try.ntmps22
        go_wp2
        go_ret2
        exact ⟨by rw [Hw.out, Ho.out]; rfl, Fr.refl _ _⟩
      · by_cases b3 : n < 0
        · clear hok hk1 hk2 hn2
          go_enter Try.func22, Try.ntmps22
          go_wp2
          go_ret2
          exact ⟨by rw [Hw.out, Ho.out]; rfl, Fr.refl _ _⟩
        · have b4 : 16777215 < n := by omega
          clear hok hk1 hk2 hn1
          go_enter Try.func22, Try.ntmps22
          go_wp2
          go_ret2
          exact ⟨by rw [Hw.out, Ho.out]; rfl, Fr.refl _ _⟩

theorem and_low (x : Nat) (hx : x < 18446744073709551616) : bits BinOp.and IntKind.u64 (x : Int) 16777215 = ((x % 16777216 : Nat) : Int) := by
  have h := u64_and_nat x 16777215 hx (by omega)
  rw [show (16777215 : Nat) = 2 ^ 24 - 1 from rfl, Nat.and_two_pow_sub_one_eq_mod] at h
  exact h
theorem fits_mkW (u : Nat) (hu : u < 18446744073709551616) (l : List Nat) : mkW ((u / 72057594037927936 : Nat) : Int) ((u / 4294967296 % 16777216 : Nat) : Int) l = mark (u / 72057594037927936) (u / 4294967296 % 16777216) l ∧ mkOk ((u / 72057594037927936 : Nat) : Int) ((u / 4294967296 % 16777216 : Nat) : Int) = true := by
  have h : mkOk ((u / 72057594037927936 : Nat) : Int) ((u / 4294967296 % 16777216 : Nat) : Int) = true := by
    simp only [mkOk, decide_eq_true_eq]
    omega
  refine ⟨?_, h⟩
  unfold mkW
  rw [if_pos h]
  rfl
end Go.Proofs.Ytcjbdoppphjpjaa
