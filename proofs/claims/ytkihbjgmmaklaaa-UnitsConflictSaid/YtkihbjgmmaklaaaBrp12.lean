/- Package cat: is there a breakpoint? How many are there? -/
import Derived.Test.YtkihbjgmmaklaaaPts12
import Derived.Test.YtkihbjgmmaklaaaHand
namespace Go.Proofs.Ytkihbjgmmaklaaa
open Go.RowKit

/-- Breakpoints of one class to each. -/
def row4 (b : Nat → Int) (c : Nat) : Array Value := #[.int .i64 (b (c * 4 + 0)), .int .i64 (b (c * 4 + 1)), .int .i64 (b (c * 4 + 2)), .int .i64 (b (c * 4 + 3))]
theorem idx_row (b : Nat → Int) {c : Nat} (hc : c < 4) (W : World) : (Instr.index 24 (.agg (br16 b)) (.int .i64 (c : Int))).run Try.prog W = .ok (.agg (row4 b c)) W := by
  have h0 : (Instr.index 24 (.agg (br16 b)) (.int .i64 0)).run Try.prog W = .ok (.agg (row4 b 0)) W := by kernel_rfl
  have h1 : (Instr.index 24 (.agg (br16 b)) (.int .i64 1)).run Try.prog W = .ok (.agg (row4 b 1)) W := by kernel_rfl
  have h2 : (Instr.index 24 (.agg (br16 b)) (.int .i64 2)).run Try.prog W = .ok (.agg (row4 b 2)) W := by kernel_rfl
  have h3 : (Instr.index 24 (.agg (br16 b)) (.int .i64 3)).run Try.prog W = .ok (.agg (row4 b 3)) W := by kernel_rfl
  have h : c = 0 ∨ c = 1 ∨ c = 2 ∨ c = 3 := by omega
  rcases h with rfl | rfl | rfl | rfl
  · exact h0
  · exact h1
  · exact h2
  · exact h3
theorem idx_col (b : Nat → Int) (c : Nat) {d : Nat} (hd : d < 4) (W : World) : (Instr.index 23 (.agg (row4 b c)) (.int .i64 (d : Int))).run Try.prog W = .ok (.int .i64 (b (c * 4 + d))) W := by
  have h0 : (Instr.index 23 (.agg (row4 b c)) (.int .i64 0)).run Try.prog W = .ok (.int .i64 (b (c * 4 + 0))) W := by kernel_rfl
  have h1 : (Instr.index 23 (.agg (row4 b c)) (.int .i64 1)).run Try.prog W = .ok (.int .i64 (b (c * 4 + 1))) W := by kernel_rfl
  have h2 : (Instr.index 23 (.agg (row4 b c)) (.int .i64 2)).run Try.prog W = .ok (.int .i64 (b (c * 4 + 2))) W := by kernel_rfl
  have h3 : (Instr.index 23 (.agg (row4 b c)) (.int .i64 3)).run Try.prog W = .ok (.int .i64 (b (c * 4 + 3))) W := by kernel_rfl
  have h : d = 0 ∨ d = 1 ∨ d = 2 ∨ d = 3 := by omega
  rcases h with rfl | rfl | rfl | rfl
  · exact h0
  · exact h1
  · exact h2
  · exact h3
theorem Ctl.Few.small {x : Ctl} (h : x.Few) {j : Nat} (hj : j < 16) : 0 ≤ x.b j ∧ x.b j ≤ 7 := by
  by_cases hin : j / 4 < x.cls.length ∧ j % 4 < x.cls.length
  · have h1 := h.at hin.1 hin.2
    have h2 := mskL_le (h.st _ (List.getElem_mem hin.1))
    rw [show j / 4 * 4 + j % 4 = j by omega] at h1
    omega
  · rw [h.none hj hin]
    decide
theorem Ctl.Few.brk {x : Ctl} (h : x.Few) {c d i : Nat} (hc : c < 4) (hd : d < 4) : x.p.brk c d i = bitB (x.b (c * 4 + d)) i := by
  have e1 : x.p.cs.length = x.cls.length := by simp [Ctl.p]
  unfold PCt.brk
  rw [e1]
  show _ = bitB (x.p.b (c * 4 + d)) i
  simp only [Int.toNat_natCast]
  by_cases hin : c < x.cls.length ∧ d < x.cls.length
  · have h1 := h.at hin.1 hin.2
    have e2 : (x.p.at c).steps.length = x.cls[c].steps.length := by rw [pct_at x hin.1]; simp [Cls.p]
    rw [decide_eq_true (show 0 ≤ (c : Int) ∧ (c : Int) < (x.cls.length : Int) ∧ (c : Int) < 4 by omega), decide_eq_true (show 0 ≤ (d : Int) ∧ (d : Int) < (x.cls.length : Int) ∧ (d : Int) < 4 by omega)]
    by_cases hi : i + 1 < x.cls[c].steps.length
    · rw [decide_eq_true (show 0 ≤ (i : Int) ∧ (i : Int) + 1 < ((x.p.at c).steps.length : Int) by rw [e2]; omega)]
      simp
    · have h2 : bitB (x.p.b (c * 4 + d)) i = false := bit_over h1.1 (by
        have h3 : (2 : Nat) ^ (x.cls[c].steps.length - 1) ≤ 2 ^ i := Nat.pow_le_pow_right (by omega) (by omega)
        have h4 := h1.2
        unfold mskL at h4
        have h5 : ((2 ^ (x.cls[c].steps.length - 1) : Nat) : Int) ≤ ((2 ^ i : Nat) : Int) := by exact_mod_cast h3
        have h6 : ((2 ^ i : Nat) : Int) = (2 : Int) ^ i := by push_cast; rfl
        show x.b (c * 4 + d) < 2 ^ i
        omega)
      rw [h2]
      simp
  · have hz : x.p.b (c * 4 + d) = 0 := h.none (j := c * 4 + d) (by omega) (by
      rw [show (c * 4 + d) / 4 = c by omega, show (c * 4 + d) % 4 = d by omega]
      exact hin)
    rw [hz, bit_zero]
    simp

attribute [local go_sem] Oper.semAt_some
theorem brk_not {x : PCt} {c d i : Int} (h : ¬ ((0 ≤ c ∧ c < 4) ∧ (0 ≤ d ∧ d < 4) ∧ 0 ≤ i)) : x.brk c d i = false := by
  unfold PCt.brk
  by_cases h1 : 0 ≤ c ∧ c < x.cs.length ∧ c < 4
  · by_cases h2 : 0 ≤ d ∧ d < x.cs.length ∧ d < 4
    · by_cases h3 : 0 ≤ i ∧ i + 1 < (x.at c.toNat).steps.length
      · exact absurd ⟨⟨h1.1, h1.2.2⟩, ⟨h2.1, h2.2.2⟩, h3.1⟩ h
      · simp [h3]
    · simp [h2]
  · simp [h1]
theorem shl_one (i : Nat) (W : World) : (Op.shift .shl .i64 1 .i64 (i : Int)).run Try.prog W = .ok (.int .i64 (oneB12 i)) W := by
  unfold Op.shift oneB12
  rw [if_neg (by omega)]
  rfl
theorem and_one (b : Int) (i : Nat) (W : World) : (Op.intBits .and .i64 b (oneB12 i)).run Try.prog W = .ok (.int .i64 (bitAnd b i)) W := rfl
theorem bne_bit {a : Int} {b : Bool} (h : decide (a = 0) = !b) : (a != 0) = b := by
  rw [show (a != 0) = !(a == 0) from rfl, show (a == 0) = decide (a = 0) from rfl, h]
  cases b <;> rfl
set_option maxRecDepth 100000 in
set_option maxHeartbeats 4000000 in
theorem break_in (x : Ctl) (c d i : Nat) (w : World) (hx : Clss w x.cA x.cls) (hF : x.Few) (hc : c < 4) (hd : d < 4) :
    Calls Try.prog 50 #[x.agg, .int .i64 (c : Int), .int .i64 (d : Int), .int .i64 (i : Int)] w (Has w (x.p.brk c d i)) := by
  have HP := Lib.hid (fun W (h : Fr No w W) => points_any x W (hx.since h) hF)
  have Hbit := Lib.hid (bitAnd_any (hF.small (j := c * 4 + d) (by omega)).1 (hF.small (j := c * 4 + d) (by omega)).2 i)
  rw [hF.brk hc hd]
  unfold Ctl.agg at HP ⊢
  obtain ⟨Z, hZ⟩ : ∃ Z, Z = x.arr := ⟨_, rfl⟩
  have hld := Lib.hid (ld_cat (hZ.trans (Ctl.arr_eq x)) (Bk.made w 26 Z))
  have hldD : Hid (LdO (w.alloc (.cells Z 26)).drew 26 ⟨w.heap.size, 0, none⟩ (.agg Z)) := Lib.hid (ld_cat (hZ.trans (Ctl.arr_eq x)) ((Bk.made w 26 Z).fr ((Fr.refl No _).drew) (fun e => e)))
  rw [← hZ] at HP ⊢
  generalize x.b = b at *
  have p1 := Lib.hid (fun W => hasPlace_any (c : Int) W)
  have p2 := Lib.hid (fun W => hasPlace_any (d : Int) W)
  rw [decide_eq_true (show 0 ≤ (c : Int) ∧ (c : Int) < 4 by omega)] at p1
  rw [decide_eq_true (show 0 ≤ (d : Int) ∧ (d : Int) < 4 by omega)] at p2
  have f0 : Fr No w (w.alloc (.cells Z 26)).drew := ((Fr.refl _ _).alloc _).drew
  have HPD := Lib.hid (HP.out _ f0)
  have HF0 := Lib.hid f0
  have hi0 : ¬ ((i : Int) < 0) := by omega
  clear hx hF hZ HP hld f0
  refine (callsIn_wide (n := 3)).1 ?_
  refine callsIn_of_wp Try.func50 rfl trivial ?_ rfl
  simp only [Try.ntmps50, List.size_toArray, List.length_cons, List.length_nil, Nat.reduceAdd, Nat.reduceSub, Array.replicate_succ, Array.replicate_zero, List.push_toArray, List.append_toArray, List.nil_append, List.cons_append]
  gi_wp2_with (first
    | (refine ⟨trivial, ?_⟩; gi_at_call 72; refine (callsIn_wide.2 (p1.out _)).mono ?_; rintro e w' ⟨rfl, rfl⟩)
    | (refine ⟨trivial, ?_⟩; gi_at_call 72; refine (callsIn_wide.2 (p2.out _)).mono ?_; rintro e w' ⟨rfl, rfl⟩))
  case _ =>
    refine region12 (by kernel_rfl) ?_
    refine take12 23 (.int .i64 (c : Int)) (i := 2) rfl rfl rfl (by kernel_rfl) (by kernel_rfl) (by kernel_rfl) (fun _ _ _ h => h) (by rfl) (by intro w; go_simp; try with_reducible rfl) (fun _ => rfl) ?_
    simp only [Act.put, List.setIfInBounds_toArray, List.set_cons_zero, List.set_cons_succ]
    refine take12 25 (.int .i64 (d : Int)) (i := 4) rfl rfl rfl (by kernel_rfl) (by kernel_rfl) (by kernel_rfl) (fun _ _ _ h => h) (by rfl) (by intro w; go_simp; try with_reducible rfl) (fun _ => rfl) ?_
    simp only [Act.put, List.setIfInBounds_toArray, List.set_cons_zero, List.set_cons_succ]
    refine take12 27 (.int .i64 (i : Int)) (i := 6) rfl rfl rfl (by kernel_rfl) (by kernel_rfl) (by kernel_rfl) (fun _ _ _ h => h) (by rfl) (by intro w; go_simp; try with_reducible rfl) (fun _ => rfl) ?_
    simp only [Act.put, List.setIfInBounds_toArray, List.set_cons_zero, List.set_cons_succ]
    refine take12 28 (.int .i64 (oneB12 i)) (i := 7) rfl rfl rfl (by kernel_rfl) (by kernel_rfl) (by kernel_rfl) (fun _ _ _ h => h) (by rfl) (by intro w; go_simp; unfold oneB12; rw [Int.one_mul]) (fun _ => rfl) ?_
    simp only [Act.put, List.setIfInBounds_toArray, List.set_cons_zero, List.set_cons_succ]
    refine val12 21 (.agg Z) (i := 0) rfl (by kernel_rfl) rfl rfl (by rfl) (by exact exec_ld rfl hldD.out) rfl ?_
    simp only [Act.put, List.setIfInBounds_toArray, List.set_cons_zero, List.set_cons_succ]
    refine call12 22 (i := 1) (f := 49) (args := #[.agg Z]) rfl (by kernel_rfl) rfl rfl (by rfl) (by go_simp) (R := fun v W' => v = .agg (br16 b) ∧ Fr No (w.alloc (.cells Z 26)).drew W') (HPD.out.mono (fun e W' h => ⟨_, h.1, rfl, h.2⟩)) ?_
    rintro v W2 ⟨rfl, f2⟩
    simp only [Act.put, List.setIfInBounds_toArray, List.set_cons_zero, List.set_cons_succ]
    refine val12 24 (.agg (row4 b c)) (i := 3) rfl (by kernel_rfl) rfl rfl (by rfl) (by go_simp; rw [idx_row b hc W2]; rfl) rfl ?_
    simp only [Act.put, List.setIfInBounds_toArray, List.set_cons_zero, List.set_cons_succ]
    refine val12 26 (.int .i64 (b (c * 4 + d))) (i := 5) rfl (by kernel_rfl) rfl rfl (by rfl) (by go_simp; rw [idx_col b c hd W2]; rfl) rfl ?_
    simp only [Act.put, List.setIfInBounds_toArray, List.set_cons_zero, List.set_cons_succ]
    refine val12 29 (.int .i64 (bitAnd (b (c * 4 + d)) i)) (i := 8) rfl (by kernel_rfl) rfl rfl (by rfl) (by go_simp; rfl) rfl ?_
    simp only [Act.put, List.setIfInBounds_toArray, List.set_cons_zero, List.set_cons_succ]
    refine val12 30 (.bool (bitB (b (c * 4 + d)) i)) (i := 9) rfl (by kernel_rfl) rfl rfl (by rfl) (by go_simp; exact bne_bit Hbit.out) rfl ?_
    simp only [Act.put, List.setIfInBounds_toArray, List.set_cons_zero, List.set_cons_succ]
    refine val12 8 (.bool (bitB (b (c * 4 + d)) i)) (i := 10) rfl (by kernel_rfl) rfl rfl (by rfl) (by go_simp) rfl ?_
    simp only [Act.put, List.setIfInBounds_toArray, List.set_cons_zero, List.set_cons_succ]
    refine wpAnyIn_done (by kernel_rfl) ?_ _
    gi_wp2
    go_ret
    exact ⟨rfl, HF0.out.trans' f2 (fun _ _ e => e)⟩

set_option maxRecDepth 100000 in
set_option maxHeartbeats 2000000 in
theorem break_any (x : Ctl) (c d i : Int) (w : World) (hx : Clss w x.cA x.cls) (hF : x.Few) : Calls Try.prog 50 #[x.agg, .int .i64 c, .int .i64 d, .int .i64 i] w (Has w (x.p.brk c d i)) := by
  by_cases h : (0 ≤ c ∧ c < 4) ∧ (0 ≤ d ∧ d < 4) ∧ 0 ≤ i
  · obtain ⟨⟨c0, c4⟩, ⟨d0, d4⟩, i0⟩ := h
    have := break_in x c.toNat d.toNat i.toNat w hx hF (by omega) (by omega)
    rwa [Int.toNat_of_nonneg c0, Int.toNat_of_nonneg d0, Int.toNat_of_nonneg i0] at this
  · rw [brk_not h]
    unfold Ctl.agg
    obtain ⟨Z, hZ⟩ : ∃ Z, Z = x.arr := ⟨_, rfl⟩
    rw [← hZ]
    have p1 := Lib.hid (fun W => hasPlace_any c W)
    have p2 := Lib.hid (fun W => hasPlace_any d W)
    have Hf : Hid (Fr No w (w.alloc (.cells Z 26))) := Lib.hid ((Fr.refl _ _).alloc _)
    clear hx hF hZ
    by_cases hc : 0 ≤ c ∧ c < 4
    · rw [decide_eq_true hc] at p1
      by_cases hd : 0 ≤ d ∧ d < 4
      · rw [decide_eq_true hd] at p2
        have hi : i < 0 := Int.not_le.1 (fun h1 => h ⟨hc, hd, h1⟩)
        clear h hc hd
        go_enter Try.func50, Try.ntmps50
        go_wp2_with (first
          | (go_at_call 72; refine (p1.out _).mono ?_; rintro e w' ⟨rfl, rfl⟩)
          | (go_at_call 72; refine (p2.out _).mono ?_; rintro e w' ⟨rfl, rfl⟩))
        go_ret
        exact ⟨rfl, Hf.out⟩
      · rw [decide_eq_false hd] at p2
        clear h hc hd
        go_enter Try.func50, Try.ntmps50
        go_wp2_with (first
          | (go_at_call 72; refine (p1.out _).mono ?_; rintro e w' ⟨rfl, rfl⟩)
          | (go_at_call 72; refine (p2.out _).mono ?_; rintro e w' ⟨rfl, rfl⟩))
        go_ret
        exact ⟨rfl, Hf.out⟩
    · rw [decide_eq_false hc] at p1
      clear h hc
      go_enter Try.func50, Try.ntmps50
      go_wp2_with (first
        | (go_at_call 72; refine (p1.out _).mono ?_; rintro e w' ⟨rfl, rfl⟩))
      go_ret
      exact ⟨rfl, Hf.out⟩
end Go.Proofs.Ytkihbjgmmaklaaa
/- Package cat: how many breakpoints a catalogue has. -/
namespace Go.Proofs.Ytkihbjgmmaklaaa
open Go.RowKit

/-- How many bits of a number. -/
def pc12 (v : Int) : Nat := cntB (fun i => bitB v i) 4
theorem pc12_le (v : Int) : pc12 v ≤ 4 := cntB_le _ 4
theorem pc12_zero : pc12 0 = 0 := cntB_none (fun i _ => bit_zero i)
def rowN (b : Nat → Int) (c d : Nat) : Nat := sumB (fun d => pc12 (b (c * 4 + d))) d
def totN (b : Nat → Int) (c : Nat) : Nat := sumB (fun c => rowN b c 4) c
theorem rowN_le (b : Nat → Int) (c d : Nat) : rowN b c d ≤ d * 4 := sumB_le d (fun _ _ => pc12_le _)
theorem totN_le (b : Nat → Int) (c : Nat) : totN b c ≤ c * 16 := sumB_le c (fun c _ => rowN_le b c 4)
theorem sumB_stop {f : Nat → Nat} {n m : Nat} (hm : n ≤ m) (h : ∀ i, n ≤ i → i < m → f i = 0) : sumB f m = sumB f n := by
  induction m with
  | zero =>
    obtain rfl : n = 0 := by omega
    rfl
  | succ m ih =>
    by_cases hn : n ≤ m
    · rw [sumB, ih hn (fun i h1 h2 => h i h1 (by omega)), h m hn (by omega)]
      rfl
    · obtain rfl : n = m + 1 := by omega
      rfl
theorem Ctl.Few.brks {x : Ctl} (h : x.Few) : x.p.brks = totN x.b 4 := by
  have e1 : x.p.cs.length = x.cls.length := by simp [Ctl.p]
  have hn := h.n
  have hz : ∀ c d, c < 4 → d < 4 → ¬ (c < x.cls.length ∧ d < x.cls.length) → pc12 (x.b (c * 4 + d)) = 0 := fun c d hc hd hin => by
    rw [h.none (j := c * 4 + d) (by omega) (by rw [show (c * 4 + d) / 4 = c by omega, show (c * 4 + d) % 4 = d by omega]; exact hin), pc12_zero]
  unfold PCt.brks totN rowN
  rw [e1, sumB_stop (n := x.cls.length) (m := 4) hn (fun c h1 h2 => sumB_none (fun d hd => hz c d h2 hd (by omega)))]
  refine sumB_congr (fun c hc => ?_)
  rw [sumB_stop (n := x.cls.length) (m := 4) hn (fun d h1 h2 => hz c d (by omega) h2 (by omega))]
  refine sumB_congr (fun d hd => ?_)
  unfold pc12
  exact cntB_congr (fun i _ => h.brk (by omega) (by omega))

end Go.Proofs.Ytkihbjgmmaklaaa
