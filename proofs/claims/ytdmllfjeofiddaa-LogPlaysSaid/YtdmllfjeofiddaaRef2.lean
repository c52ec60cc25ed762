/- The document's own sums, and its own marks. -/
import Derived.Test.YtdmllfjeofiddaaWords
import Derived.Test.YtdmllfjeofiddaaPure2
import Derived.Laws.OwnMore
namespace Go.Proofs.Ytdmllfjeofiddaa
open Go.RowKit

theorem odd_xor (y : Nat) (h : y < 4294967296) : bits BinOp.xor IntKind.u32 (y : Int) 2197175160 = ((y ^^^ odd : Nat) : Int) := u32_xor_nat y 2197175160 h (by omega)

set_option maxHeartbeats 1000000 in
theorem refBytes_any (bs : List Nat) (hb : ∀ b ∈ bs, b < 256) (n : Nat) (A : Option Addr) (c B : Nat) (w : World) (h : Sl w B A (u8s bs)) (hn : bs.length = n) (hlen : n ≤ 1099511627776) :
    Calls Try.prog 78 #[.slice A n c] w fun e w' => e = .returned (.int .u32 (sumB bs : Nat)) ∧ w = w' := by
  have Hn := Lib.hid hn
  have Hb := Lib.hid hb
  clear hn hb
  go_enter Try.func78, Try.ntmps78
  go_wp2
  go_loop [3, 4] (fun x i => ∃ j X : Nat, j ≤ n ∧ i = .int .i64 j ∧ x = .int .u32 X ∧ X < 4294967296 ∧ Hid (X = crc 4294967295 (bs.take j))) (fun _ i => n - (intOf i).toNat)
  case atStart => exact ⟨0, 4294967295, by omega, rfl, rfl, by omega, Lib.hid rfl⟩
  case round =>
    obtain ⟨j, X, hj, rfl, rfl, hX, HX⟩ := hrel
    by_cases hlt : j < n
    · have hjb : j < bs.length := by rw [Hn.out]; exact hlt
      obtain ⟨ad, rfl, -, hc⟩ := h.byteB hjb
      have hb8 : bs[j] < 256 := Hb.out _ (List.getElem_mem hjb)
      have Hs : Hid (bs.take (j + 1) = bs.take j ++ [bs[j]]) := Lib.hid (List.take_succ_eq_append_getElem hjb)
      generalize bs[j] = b at *
      have hxx := u32_xor_nat X b hX (by omega)
      have hxb := xor_lt32 X b hX (by omega)
      go_wp2
      go_loop [3, 5] (fun x k => ∃ m Y : Nat, m ≤ 8 ∧ k = .int .i64 m ∧ x = .int .u32 Y ∧ Y < 4294967296 ∧ Hid (Y = halfs m (X ^^^ b))) (fun _ k => 8 - (intOf k).toNat)
      case atStart => exact ⟨0, X ^^^ b, by omega, rfl, by simp, hxb, Lib.hid rfl⟩
      case round =>
        obtain ⟨m, Y, hm, rfl, rfl, hY, HY⟩ := hrel
        by_cases hm8 : m < 8
        · by_cases ho : Y % 2 = 1
          · have Hh : Hid (half Y = Y / 2 ^^^ odd) := Lib.hid (by unfold half; rw [if_pos ho])
            have hh := half_lt Y hY
            have e : ((Y : Int) % 2 == 1) = true := by simp; omega
            have e2 : bits BinOp.xor IntKind.u32 ((Y : Int) / 2) 2197175160 = ((Y / 2 ^^^ odd : Nat) : Int) := by
              have := odd_xor (Y / 2) (by omega)
              simpa using this
            go_wp2
            go_round
            case rel => exact ⟨m + 1, half Y, by omega, by go_num, by rw [Hh.out], hh, Lib.hid (by rw [HY.out]; rfl)⟩
            case measure => simp [intOf]; omega
          · have Hh : Hid (half Y = Y / 2) := Lib.hid (by unfold half; rw [if_neg ho])
            have hh := half_lt Y hY
            have e : ((Y : Int) % 2 == 1) = false := by simp; omega
            go_wp2
            go_round
            case rel => exact ⟨m + 1, half Y, by omega, by go_num, by rw [Hh.out]; simp, hh, Lib.hid (by rw [HY.out]; rfl)⟩
            case measure => simp [intOf]; omega
        · obtain rfl : m = 8 := by omega
          go_wp2
          go_round
          case rel => exact ⟨j + 1, Y, by omega, by go_num, rfl, hY, Lib.hid (by rw [Hs.out, crc_snoc, ← HX.out, HY.out]; rfl)⟩
          case measure => simp [intOf]; omega
    · have e2 : bits BinOp.xor IntKind.u32 (X : Int) 4294967295 = ((X ^^^ 4294967295 : Nat) : Int) := u32_xor_nat X 4294967295 hX (by omega)
      have Hs : Hid (sumB bs = X ^^^ 4294967295) := Lib.hid (by unfold sumB; rw [HX.out, List.take_of_length_le (by rw [Hn.out]; omega)])
      go_wp2
      go_ret
      exact ⟨by rw [Hs.out]; rfl, rfl⟩

set_option maxHeartbeats 1000000 in
theorem refOf_any (ws : List Nat) (h64 : ∀ u ∈ ws, u < 18446744073709551616) (n : Nat) (A : Option Addr) (c : Nat) (w : World) (h : Sl w w.heap.size A (u64s ws)) (hn : ws.length = n) (hlen : n ≤ 1073741824) :
    Calls Try.prog 71 #[.slice A n c] w fun e w' => e = .returned (.int .u32 (sumW ws : Nat)) ∧ Fr No w w' := by
  have Hn := Lib.hid hn
  have Hb := Lib.hid h64
  clear hn h64
  go_enter Try.func71, Try.ntmps71
  go_wp2
  go_loopw [3, 4] (fun b i wr => ∃ (j k : Nat) (A2 : Option Addr) (c2 : Nat), j ≤ n ∧ i = .int .i64 j ∧ k ≤ 8 * n ∧ Hid (k = 8 * j) ∧ b = .slice A2 k c2 ∧ wr.ownsRow w.heap.size 5 1 (.slice A2 k c2) k (u8s (bytesW (ws.take j))) ∧ Fr No w wr) (fun _ i _ => n - (intOf i).toNat)
  case atStart => exact ⟨0, 0, none, 0, by omega, rfl, by omega, Lib.hid rfl, rfl, World.ownsRow_nil _ _ _ _, Fr.refl _ _⟩
  case round =>
    obtain ⟨j, k, A2, c2, hj, rfl, hk8, Hk, rfl, hown, hfr⟩ := hrel
    by_cases hlt : j < n
    · have hjb : j < ws.length := by rw [Hn.out]; exact hlt
      obtain ⟨ad, rfl, hadB, hc0⟩ := h.wordB hjb
      have hc := (hfr.cell (p := ad.add j) (by rw [block_add]; exact hadB) (fun e => e)).trans hc0
      have hu := Hb.out _ (List.getElem_mem hjb)
      have Hs : Hid (ws.take (j + 1) = ws.take j ++ [ws[j]]) := Lib.hid (List.take_succ_eq_append_getElem hjb)
      clear hc0
      generalize ws[j] = u at *
      go_wp2
      go_loopw [3, 5, 6] (fun b x m wv => ∃ (i X q : Nat) (A3 : Option Addr) (c3 : Nat), i ≤ 8 ∧ m = .int .i64 i ∧ x = .int .u64 X ∧ X < 18446744073709551616 ∧ Hid (X = u / 256 ^ i) ∧ Hid (q = k + i) ∧ q ≤ 8 * n + 8 ∧ b = .slice A3 q c3 ∧ wv.ownsRow w.heap.size 5 1 (.slice A3 q c3) q (u8s (bytesW (ws.take j) ++ wbk u i)) ∧ Fr No w wv) (fun _ _ i _ => 8 - (intOf i).toNat)
      case atStart => exact ⟨0, u, k, A2, c2, by omega, rfl, rfl, hu, Lib.hid (by simp), Lib.hid rfl, by omega, rfl, by simpa [wbk] using hown, hfr⟩
      case round =>
        obtain ⟨i, X, q, A3, c3, hi, rfl, rfl, hX, HX, Hq, hq8, rfl, hown3, hfr3⟩ := hrel
        by_cases hi8 : i < 8
        · go_wp2_with (at_builtin; (refine append_byte rfl _ _ rfl w.heap.size A3 q c3 (bytesW (ws.take j) ++ wbk u i) (X % 256) _ (by simp) rfl wr.heap.size rfl rfl hown3 (by omega) hfr3.size ?_; intro A4 c4 w4 hown4 hf4 hg4))
          go_roundw
          case rel =>
            refine ⟨i + 1, X / 256, q + 1, A4, c4, by omega, by go_num, by simp, by omega, Lib.hid (by rw [HX.out, Nat.pow_succ, Nat.div_div_eq_div_mul]), Lib.hid (by rw [Hq.out]; rfl), ?_, rfl, ?_, ?_⟩
            · have hq := Hq.out
              omega
            · have e : bytesW (ws.take j) ++ wbk u (i + 1) = bytesW (ws.take j) ++ wbk u i ++ [X % 256] := by rw [wbk_succ, HX.out, List.append_assoc]
              rw [e]
              exact hown4
            · exact hfr3.trans' hf4 (fun b hb e => by have := hown3.lt b e; omega)
          case measure => simp [intOf]; omega
        · obtain rfl : i = 8 := by omega
          go_wp2
          go_roundw
          case rel =>
            have hk := Hk.out
            refine ⟨j + 1, q, A3, c3, by omega, by go_num, ?_, Lib.hid ?_, rfl, ?_, hfr3⟩
            · rw [Hq.out]; omega
            · rw [Hq.out, Hk.out]; omega
            · have e : bytesW (ws.take (j + 1)) = bytesW (ws.take j) ++ wbk u 8 := by rw [Hs.out, bytesW_app]; simp [bytesW, wb]
              rw [e]
              exact hown3
          case measure => simp [intOf]; omega
    · have hj' : j = n := by omega
      have Hs : Hid (ws.take j = ws) := Lib.hid (List.take_of_length_le (by rw [Hn.out]; omega))
      clear hj'
      rw [Hs.out] at hown
      go_wp2_with (go_at_call 78; refine (refBytes_any (bytesW ws) (bytesW_lt ws) k A2 c2 wr.heap.size wr (Sl.ofOwn hown) (by have := hown.1; simpa [u8s_len] using this) (by omega)).mono ?_; rintro e w' ⟨rfl, rfl⟩)
      go_ret
      exact ⟨rfl, hfr⟩

/-- Is there a mark of this kind and this number? -/
def mkOk (kind n : Int) : Bool := decide (0 ≤ kind ∧ kind ≤ 255 ∧ 0 ≤ n ∧ n ≤ 16777215)
/-- The mark, or 0. -/
def mkW (kind n : Int) (l : List Nat) : Nat := if mkOk kind n = true then mark kind.toNat n.toNat l else 0
theorem mkW_lt (kind n : Int) (l : List Nat) : mkW kind n l < 18446744073709551616 := by
  unfold mkW
  split
  · next h =>
    have h1 : 0 ≤ kind ∧ kind ≤ 255 ∧ 0 ≤ n ∧ n ≤ 16777215 := by simpa [mkOk] using h
    exact mark_lt _ _ _ (by omega) (by omega)
  · omega
/-- What Mark answers. -/
def Marked (w : World) (kind n : Int) (l : List Nat) (e : Ending) (w' : World) : Prop :=
  e = .returned (.tuple #[.int .u64 (mkW kind n l : Nat), .bool (mkOk kind n)]) ∧ Fr No w w'

set_option maxRecDepth 100000 in
set_option maxHeartbeats 1000000 in
theorem refMark_any (kind n : Int) (hk1 : -9223372036854775808 ≤ kind) (hk2 : kind < 9223372036854775808) (hn1 : -9223372036854775808 ≤ n) (hn2 : n < 9223372036854775808) (l : List Nat) (h64 : ∀ u ∈ l, u < 18446744073709551616) (m : Nat) (A : Option Addr) (c : Nat) (w : World) (h : Sl w w.heap.size A (u64s l)) (hm : l.length = m) (hlen : m ≤ 1048576) :
    Calls Try.prog 61 #[.int .i64 kind, .int .i64 n, .slice A m c] w (Marked w kind n l) := by
  by_cases hok : 0 ≤ kind ∧ kind ≤ 255 ∧ 0 ≤ n ∧ n ≤ 16777215
  · have H1 : mkOk kind n = true := by simpa [mkOk] using hok
    obtain ⟨a1, a2, a3, a4⟩ := hok
    obtain ⟨K, rfl⟩ := Int.eq_ofNat_of_zero_le a1
    obtain ⟨N, rfl⟩ := Int.eq_ofNat_of_zero_le a3
    have Hw : Hid (mkW K N l = K * 72057594037927936 + N * 4294967296 + sumW (K :: N :: l)) := Lib.hid (by unfold mkW; rw [if_pos H1]; rfl)
    have Ho := Lib.hid H1
    have Hm := Lib.hid hm
    have hsm := sumW_lt (K :: N :: l)
    clear H1 hm hk1 hk2 hn1 hn2
    have hown := World.ownsRow_lit (base := 0) (e := 40) (size := 1) w #[.int .u64 K, .int .u64 N] 2 (Nat.zero_le _) (by unfold maxLen; omega) rfl
    have hsl : Sl (w.alloc (.cells #[.int .u64 K, .int .u64 N] 40)) w.heap.size A (u64s l) := h.fr (S := No) ((Fr.refl _ w).alloc _) (Nat.le_refl _) (fun _ _ _ e => e)
    go_enter Try.func61, Try.ntmps61
    go_wp2_with (at_builtin; (refine append_words rfl _ _ rfl 0 (some ⟨w.heap.size, 0, none⟩) 2 2 [K, N] rfl w.heap.size A m c l rfl Hm.out hsl (by simpa [u64s] using hown) (by omega) (Nat.zero_le _) ?_; intro A1 c1 w1 hown1 hf1 hg1))
    have hfr : Fr No w w1 := ((Fr.refl No w).alloc _).trans' hf1 (fun b hb e => by
      have : b = w.heap.size := by simpa [Value.ownBlock] using e.symm
      omega)
    go_wp2_with (go_at_call 71; refine (refOf_any ([K, N] ++ l) (by intro u hu; simp at hu; rcases hu with rfl | rfl | hu; (omega); (omega); (exact h64 u hu)) (2 + m) A1 c1 w1 (Sl.ofOwn hown1) (by simp [Hm.out]; omega) (by omega)).mono ?_; rintro e w' ⟨rfl, hf2⟩)
    go_ret2
    refine ⟨?_, hfr.trans' hf2 (fun _ _ e => e)⟩
    rw [Hw.out, Ho.out]
    simp
  · have H1 : mkOk kind n = false := by simpa [mkOk] using hok
    have Hw : Hid (mkW kind n l = 0) := Lib.hid (by unfold mkW; rw [if_neg (by simp [H1])])
    have Ho := Lib.hid H1
    clear H1 h64 hm h hlen
    by_cases b1 : kind < 0
    · clear hok hk2 hn1 hn2
      go_enter Try.func61, Try.ntmps61
      go_wp2
      go_ret2
      exact ⟨by rw [Hw.out, Ho.out]; rfl, Fr.refl _ _⟩
    · by_cases b2 : 255 < kind
      · clear hok hk1 hn1 hn2
        go_enter Try.func61, Try.ntmps61
        go_wp2
        go_ret2
        exact ⟨by rw [Hw.out, Ho.out]; rfl, Fr.refl _ _⟩
      · by_cases b3 : n < 0
        · clear hok hk1 hk2 hn2
          go_enter Try.func61, Try.ntmps61
          go_wp2
          go_ret2
          exact ⟨by rw [Hw.out, Ho.out]; rfl, Fr.refl _ _⟩
        · have b4 : 16777215 < n := by omega
          clear hok hk1 hk2 hn1
          go_enter Try.func61, Try.ntmps61
          go_wp2
          go_ret2
          exact ⟨by rw [Hw.out, Ho.out]; rfl, Fr.refl _ _⟩
end Go.Proofs.Ytdmllfjeofiddaa
