/- What package sums does, first half: half, folded, end, addByte. -/
import Derived.Test.YtcjbdoppphjpjaaRef2
import Derived.Test.YtcjbdoppphjpjaaTab
import Derived.Deep.WholeRow
namespace Go.Proofs.Ytcjbdoppphjpjaa
open Go.RowKit

/-- What each low eight bits make. -/
def foldT : Array Value := tab 256 fun i => .int .u32 (halfs 8 i : Nat)
/-- The table, up to j. -/
def foldJ (j : Nat) : Array Value := tab 256 fun i => if i < j then .int .u32 (halfs 8 i : Nat) else .int .u32 (0 : Nat)
theorem foldT_size : foldT.size = 256 := tab_size _ _
theorem foldT_at (i : Nat) (hi : i < 256) : foldT[i]? = some (.int .u32 (halfs 8 i : Nat)) := tab_at _ _ _ hi
theorem foldT_one : foldT.all (·.oneCell') = true := tab_one _ _ (fun _ _ => rfl)
theorem foldJ_size (j : Nat) : (foldJ j).size = 256 := tab_size _ _
theorem foldJ_last : foldJ 256 = foldT := tab_congr _ _ _ (fun i hi => by rw [if_pos hi])
theorem foldJ_zero : foldJ 0 = tab 256 fun _ => .int .u32 0 := tab_congr _ _ _ (fun i _ => by rw [if_neg (by omega)]; rfl)
theorem foldJ_put (j : Nat) : (foldJ j).setIfInBounds j (.int .u32 (halfs 8 j : Nat)) = foldJ (j + 1) := by
  unfold foldJ
  rw [tab_put]
  refine tab_congr _ _ _ (fun i _ => ?_)
  by_cases h : i = j
  · subst h; rw [if_pos rfl, if_pos (by omega)]
  · rw [if_neg h]
    by_cases h2 : i < j
    · rw [if_pos h2, if_pos (by omega)]
    · rw [if_neg h2, if_neg (by omega)]
theorem zero_fold : (∀ w, (zeroValue 69).run Try.prog w = .ok (.agg (foldJ 0)) w) ∧ (Try.prog.info? 69).map (·.size) = some 256 := by
  rw [foldJ_zero]
  exact zero_of_info (show (Try.prog.info? 69).map (fun i => (i.zero, i.size)) = some (some (.agg (tab 256 fun _ => .int .u32 0)), 256) by kernel_rfl)
/-- A block that is laid anew, whole. -/
theorem Bk.row {w : World} {g : Nat} {t : TypeId} {cs : Array Value} (h : Bk w g t cs) (ds : Array Value) : Bk (w.setRow g ds) g t ds := setRow_heap w g cs ds t (0, 0) h
theorem Fr.setRow {S : Nat → Prop} {a w : World} (h : Fr S a w) {g : Nat} (hg : S g ∨ a.heap.size ≤ g) (cs : Array Value) : Fr S a (w.setRow g cs) := by
  refine ⟨h.same, by simpa using h.size, fun i hi hn => ?_⟩
  have hne : i ≠ g := by
    rintro rfl
    rcases hg with hg | hg
    · exact hn hg
    · omega
  rw [setRow_other w g i cs hne, h.block i hi hn]

set_option maxHeartbeats 400000 in
theorem half_any (x : Nat) (hx : x < 4294967296) (w : World) :
    Calls Try.prog 35 #[.int .u32 x] w fun e w' => e = .returned (.int .u32 (half x : Nat)) ∧ w = w' := by
  have ha : bits BinOp.and IntKind.u32 (x : Int) 1 = ((x % 2 : Nat) : Int) := by
    have := u32_and_nat x 1 hx (by omega)
    rw [Nat.and_one_is_mod] at this
    simpa using this
  by_cases ho : x % 2 = 1
  · have Hh : Hid (half x = x / 2 ^^^ odd) := Lib.hid (by unfold half; rw [if_pos ho])
    have e : ((x : Int) % 2 == 1) = true := by simp; omega
    have e2 : bits BinOp.xor IntKind.u32 ((x : Int) / 2) 2197175160 = ((x / 2 ^^^ odd : Nat) : Int) := by
      have := odd_xor (x / 2) (by omega)
      simpa using this
    go_enter Try.func35, Try.ntmps35
    go_wp2
    go_ret
    exact ⟨by rw [Hh.out]; rfl, rfl⟩
  · have Hh : Hid (half x = x / 2) := Lib.hid (by unfold half; rw [if_neg ho])
    have e : ((x : Int) % 2 == 1) = false := by simp; omega
    go_enter Try.func35, Try.ntmps35
    go_wp2
    go_ret
    exact ⟨by rw [Hh.out]; simp, rfl⟩

set_option maxHeartbeats 400000 in
theorem end_any (x : Nat) (hx : x < 4294967296) (w : World) :
    Calls Try.prog 36 #[.int .u32 x] w fun e w' => e = .returned (.int .u32 (x ^^^ 4294967295 : Nat)) ∧ w = w' := by
  have e : bits BinOp.xor IntKind.u32 IntKind.u32.max (x : Int) = ((x ^^^ 4294967295 : Nat) : Int) := by
    have := u32_xor_nat 4294967295 x (by omega) hx
    rw [Nat.xor_comm]
    exact this
  have hs : IntKind.u32.signed = false := rfl
  go_enter Try.func36, Try.ntmps36
  go_wp2
  go_ret
  exact ⟨rfl, rfl⟩

set_option maxRecDepth 100000 in
set_option maxHeartbeats 2000000 in
theorem folded_any (w : World) : Calls Try.prog 34 #[.func (.func 35) #[] #[]] w fun e w' => e = .returned (.agg foldT) ∧ Fr No w w' := by
  have hz := zero_fold.1
  have hi := zero_fold.2
  go_enter Try.func34, Try.ntmps34
  go_wp2
  obtain ⟨g, k, Hg, Hk⟩ : ∃ g k, Hid (g = w.heap.size) ∧ Hid (k = w.heap.size + 1) := ⟨_, _, Lib.hid rfl, Lib.hid rfl⟩
  have b0 : Bk ((w.alloc (.cells (foldJ 0) 69)).alloc (.cells (foldJ 0) 69)) g 69 (foldJ 0) := by
    rw [Hg.out]
    exact (Bk.made w _ _).fr ((Fr.refl No _).alloc _) (fun e => e)
  have b1 : Bk ((w.alloc (.cells (foldJ 0) 69)).alloc (.cells (foldJ 0) 69)) k 69 (foldJ 0) := by
    have := Bk.made (w.alloc (.cells (foldJ 0) 69)) 69 (foldJ 0)
    rwa [show (w.alloc (.cells (foldJ 0) 69)).heap.size = w.heap.size + 1 from by simp, ← Hk.out] at this
  have f0 : Fr No w ((w.alloc (.cells (foldJ 0) 69)).alloc (.cells (foldJ 0) 69)) := ((Fr.refl No w).alloc _).alloc _
  have hgw : w.heap.size ≤ g := by rw [Hg.out]; omega
  have hkw : w.heap.size ≤ k := by rw [Hk.out]; omega
  have hgk : g ≠ k := by rw [Hg.out, Hk.out]; omega
  rw [← Hk.out, ← Hg.out]
  generalize (w.alloc (.cells (foldJ 0) 69)).alloc (.cells (foldJ 0) 69) = wa at *
  clear hz
  go_loopw [6] (fun iv wr => ∃ j : Nat, j ≤ 256 ∧ iv = .int .i64 j ∧ Bk wr g 69 (foldJ 0) ∧ Bk wr k 69 (foldJ j) ∧ Fr No w wr) (fun i _ => 256 - (intOf i).toNat)
  case atStart => exact ⟨0, by omega, rfl, b0, b1, f0⟩
  case round =>
    obtain ⟨j, hj, rfl, b0, b1, hfr⟩ := hrel
    by_cases hlt : j < 256
    · have hd : decide ((j : Int) < 256) = true := by simp; omega
      go_wp2
      go_loopw [5, 11] (fun x q wx => ∃ m Y : Nat, m ≤ 8 ∧ q = .int .i64 m ∧ x = .int .u32 Y ∧ Y < 4294967296 ∧ Hid (Y = halfs m j) ∧ wr = wx) (fun _ q _ => 8 - (intOf q).toNat)
      case atStart => exact ⟨0, j, by omega, rfl, by simp, by omega, Lib.hid rfl, rfl⟩
      case round =>
        obtain ⟨m, Y, hm, rfl, rfl, hY, HY, rfl⟩ := hrel
        by_cases hm8 : m < 8
        · have hh := half_lt Y hY
          go_wp2_with (go_at_call 35; refine (half_any Y hY _).mono ?_; rintro e w' ⟨rfl, rfl⟩)
          go_roundw
          case rel => exact ⟨m + 1, half Y, by omega, by go_num, rfl, hh, Lib.hid (by rw [HY.out]; rfl), trivial⟩
          case measure => simp [intOf]; omega
        · obtain rfl : m = 8 := by omega
          have hjs : j < (foldJ j).size := by rw [foldJ_size]; exact hlt
          have hc : wr.cell? ⟨k, j, none⟩ = some (foldJ j)[j] := by rw [b1.cell]; exact Array.getElem?_eq_getElem hjs
          have hf := b1.frozen j
          have b2 := b1.put j (.int .u32 (halfs 8 j : Nat))
          rw [foldJ_put, ← HY.out] at b2
          have b3 : Bk (wr.setCell ⟨k, j, none⟩ (.int .u32 Y)) g 69 (foldJ 0) := b0.fr ((Fr.refl (fun x => x = k) wr).setCell (p := ⟨k, j, none⟩) (.inl rfl) _) hgk
          have f2 := hfr.setCell (p := ⟨k, j, none⟩) (.inr hkw) (.int .u32 (Y : Int))
          clear b0 b1
          go_wp2
          go_roundw
          case rel => exact ⟨j + 1, by omega, by go_num, b3, b2, f2⟩
          case measure => simp [intOf]; omega
    · obtain rfl : j = 256 := by omega
      rw [foldJ_last] at b1
      have hst : (storeCells ⟨g, 0, none⟩ foldT.toList).run Try.prog wr = .ok () (wr.setRow g foldT) := by
        have := run_storeCells_from (P := Try.prog) g _ foldT.toList 0 _ wr b0 (by rw [foldJ_size, Array.length_toList, foldT_size]) (fun v hv => (Array.all_eq_true_iff_forall_mem.1 foldT_one) v (by simpa using hv))
        simpa using this
      have b2 := b0.row foldT
      have f2 := hfr.setRow (.inr hgw) foldT
      have h256 := foldT_size
      go_wp2
      refine wp_load_row _ _ rfl k rfl _ _ _ _ b1 Try.underlying69 rfl (by rw [foldT_size]; exact hi) ?_
      go_wp2
      clear hst b0
      generalize wr.setRow g foldT = wz at *
      refine bodyPost_ret (results_cell_row rfl _ _ g _ _ _ _ rfl b2 Try.underlying69 rfl (by rw [foldT_size]; exact hi)) rfl ?_
      exact ⟨rfl, f2⟩
end Go.Proofs.Ytcjbdoppphjpjaa
