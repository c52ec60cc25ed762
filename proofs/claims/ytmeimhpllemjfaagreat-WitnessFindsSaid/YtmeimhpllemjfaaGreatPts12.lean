/- Package cat: the breakpoints that a catalogue has; all that there may be. -/
import Derived.BigQuiet
import Derived.Test.YtmeimhpllemjfaaGreatEac12
import Derived.Test.YtmeimhpllemjfaaGreatCtp12
import Derived.Test.YtmeimhpllemjfaaGreatHand
namespace Go.Proofs.YtmeimhpllemjfaaGreat
open Go.RowKit

theorem stE_br {σ : Type} (val : σ → Nat → Int) (nxt : σ → Nat → σ) {n : Nat} (s0 : σ) (hn : n ≤ 4) (j : Nat) (hj : j ≤ n * n) :
    (stE val nxt n s0 (List.range j)).2 = fun p => if p / 4 < n ∧ p % 4 < n ∧ p / 4 * n + p % 4 < j then val (stE val nxt n s0 (List.range (p / 4 * n + p % 4))).1 (p / 4 * n + p % 4) else 0 := by
  induction j with
  | zero =>
    funext p
    rw [if_neg (by omega)]
    rfl
  | succ j ih =>
    have hn0 : 0 < n := by
      rcases Nat.eq_zero_or_pos n with e | e
      · subst e
        omega
      · exact e
    have i1 : j / n < n := Nat.div_lt_of_lt_mul (by omega)
    have i2 : j % n < n := Nat.mod_lt _ hn0
    have i3 : j / n * n + j % n = j := Nat.div_add_mod' j n
    rw [List.range_succ, stE_snoc, ih (by omega)]
    funext p
    dsimp only
    unfold updB
    by_cases hp : p = j / n * 4 + j % n
    · have e1 : p / 4 = j / n := by omega
      have e2 : p % 4 = j % n := by omega
      rw [if_pos hp, e1, e2, i3, if_pos ⟨i1, i2, by omega⟩]
    · rw [if_neg hp]
      show (if p / 4 < n ∧ p % 4 < n ∧ p / 4 * n + p % 4 < j then _ else _) = _
      by_cases h1 : p / 4 < n ∧ p % 4 < n
      · obtain ⟨h2, h3⟩ := h1
        have hne : p / 4 * n + p % 4 ≠ j := by
          intro e
          apply hp
          have h4 : j / n = p / 4 := by rw [← e, Nat.add_comm, Nat.add_mul_div_right _ _ hn0, Nat.div_eq_of_lt h3, Nat.zero_add]
          have h5 : j % n = p % 4 := by rw [← e, Nat.add_comm, Nat.add_mul_mod_self_right, Nat.mod_eq_of_lt h3]
          omega
        have hiff : (p / 4 * n + p % 4 < j) ↔ (p / 4 * n + p % 4 < j + 1) := by omega
        simp only [h2, h3, true_and, hiff]
      · rw [if_neg (fun h => h1 ⟨h.1, h.2.1⟩), if_neg (fun h => h1 ⟨h.1, h.2.1⟩)]
theorem pair_at {n p : Nat} (hd : p % 4 < n) : (p / 4 * n + p % 4) / n = p / 4 ∧ (p / 4 * n + p % 4) % n = p % 4 := by
  constructor
  · rw [Nat.add_comm, Nat.add_mul_div_right _ _ (by omega), Nat.div_eq_of_lt hd, Nat.zero_add]
  · rw [Nat.add_comm, Nat.add_mul_mod_self_right, Nat.mod_eq_of_lt hd]
theorem pair_lt {n p : Nat} (hc : p / 4 < n) (hd : p % 4 < n) : p / 4 * n + p % 4 < n * n := by
  have := Nat.mul_le_mul_right n (Nat.succ_le_of_lt hc)
  rw [Nat.succ_mul] at this
  omega
theorem stE_at (g : Nat → Int) {n : Nat} (hn : n ≤ 4) : (stE (fun (_ : Unit) i => g (i / n * 4 + i % n)) (fun s _ => s) n () (List.range (n * n))).2 = fun p => if p / 4 < n ∧ p % 4 < n then g p else 0 := by
  rw [stE_br _ _ _ hn _ (Nat.le_refl _)]
  funext p
  by_cases h : p / 4 < n ∧ p % 4 < n
  · obtain ⟨e1, e2⟩ := pair_at h.2
    rw [if_pos ⟨h.1, h.2, pair_lt h.1 h.2⟩, if_pos h, e1, e2, show p / 4 * 4 + p % 4 = p by omega]
  · rw [if_neg (fun q => h ⟨q.1, q.2.1⟩), if_neg h]
theorem br16_congr {b b' : Nat → Int} (h : ∀ j, j < 16 → b j = b' j) : br16 b = br16 b' := by
  unfold br16
  rw [h 0 (by omega), h 1 (by omega), h 2 (by omega), h 3 (by omega), h 4 (by omega), h 5 (by omega), h 6 (by omega), h 7 (by omega), h 8 (by omega), h 9 (by omega), h 10 (by omega), h 11 (by omega), h 12 (by omega), h 13 (by omega), h 14 (by omega), h 15 (by omega)]

structure Ctl.Few (x : Ctl) : Prop where
  n : x.cls.length ≤ 4
  st : ∀ c ∈ x.cls, c.steps.length ≤ 4
  br : ∀ j, j < 16 → 0 ≤ x.b j ∧ x.b j < x.p.most (j / 4) (j % 4)
theorem Ctl.most_at (x : Ctl) {c d : Nat} (hc : c < x.cls.length) (hd : d < x.cls.length) : x.p.most c d = mskL x.cls[c].steps.length + 1 := by
  have e1 : x.p.cs.length = x.cls.length := by simp [Ctl.p]
  unfold PCt.most
  rw [e1, if_pos ⟨hc, hd⟩, pct_at x hc]
  unfold mskL
  simp [Cls.p]
theorem Ctl.most_not (x : Ctl) {c d : Nat} (h : ¬ (c < x.cls.length ∧ d < x.cls.length)) : x.p.most c d = 1 := by
  have e1 : x.p.cs.length = x.cls.length := by simp [Ctl.p]
  unfold PCt.most
  rw [e1, if_neg h]
theorem Ctl.Few.at {x : Ctl} (h : x.Few) {c d : Nat} (hc : c < x.cls.length) (hd : d < x.cls.length) : 0 ≤ x.b (c * 4 + d) ∧ x.b (c * 4 + d) ≤ mskL x.cls[c].steps.length := by
  have hn := h.n
  have := h.br (c * 4 + d) (by omega)
  rw [show (c * 4 + d) / 4 = c by omega, show (c * 4 + d) % 4 = d by omega, Ctl.most_at x hc hd] at this
  omega
theorem Ctl.Few.none {x : Ctl} (h : x.Few) {j : Nat} (hj : j < 16) (hn : ¬ (j / 4 < x.cls.length ∧ j % 4 < x.cls.length)) : x.b j = 0 := by
  have := h.br j hj
  rw [Ctl.most_not x hn] at this
  omega

set_option maxRecDepth 100000 in
set_option maxHeartbeats 4000000 in
theorem pts1_any (x : Ctl) (H c d : Nat) (W : World) (hB : Bk W H 26 x.arr) (hx : Clss W x.cA x.cls) (hF : x.Few) (hc : c < x.cls.length) (hd : d < x.cls.length) :
    Calls Tryz.prog 99 #[.int .i64 (c : Int), .int .i64 (d : Int), .pointer (some ⟨H, 0, none⟩)] W fun e W' => e = .returned (.int .i64 (x.b (c * 4 + d))) ∧ Fr No W W' := by
  obtain ⟨h0, h1⟩ := hF.at hc hd
  have h4 := hF.st _ (List.getElem_mem hc)
  have hn := hF.n
  have hand : bits BinOp.and IntKind.i64 (x.b (c * 4 + d)) (mskL x.cls[c].steps.length) = x.b (c * 4 + d) := by
    have := and_all W h4 h0 h1
    unfold Op.intBits at this
    simp at this
    exact this
  have HA := Lib.hid (fun V (h : Fr No W V) => all_any x.cls[c] V h4)
  have hB' := hB
  obtain ⟨cA, cls, cc, b⟩ := x
  unfold Ctl.arr at hB hB'
  simp only at *
  obtain ⟨ad, e1, hab, c0, c1, c2, c3, c4⟩ := hx.sl.cls (k := c) hc
  obtain ⟨n, hnn⟩ : ∃ n, n = cls.length := ⟨_, rfl⟩
  rw [← hnn] at hn hc hd hB
  have x0 : W.cell? ⟨H, 0, none⟩ = some (.slice cA n cc) := hB.cell 0
  have x1 := bk_br2 hB (c := c) (d := d) (by omega) (by omega)
  have l0 := hB.lt
  unfold Cls.agg at HA
  generalize cls[c].steps.length = L at *
  generalize cls[c].comps.length = M at *
  generalize cls[c].name = nm at *
  generalize cls[c].args = ar at *
  generalize cls[c].sA = sA at *
  generalize cls[c].sc = sc at *
  generalize cls[c].uA = uA at *
  generalize cls[c].uc = uc at *
  generalize cls[c].res = re at *
  generalize b (c * 4 + d) = v at *
  have ic4 : ((c : Nat) : Int) < 4 := by omega
  have id4 : ((d : Nat) : Int) < 4 := by omega
  have icn : ((c : Nat) : Int) < (n : Int) := by omega
  clear hx hB hB' h0 h1 h4 hF hnn
  subst e1
  go_enter Tryz.func99, Tryz.ntmps99
  go_wp2_with fail
  first | go_region_with (first
    | (go_at_call 100
       refine (HA.out _ (by first | exact Fr.refl _ _ | exact (Fr.refl _ _).drew)).mono ?_
       rintro e w1 ⟨rfl, f1⟩
       have y1 : w1.cell? ⟨H, 1 + c * 4 + d, none⟩ = some (.int .i64 v) := (f1.cell (p := ⟨H, 1 + c * 4 + d, none⟩) l0 (fun e => e)).trans x1
       have F1 := ((Fr.refl No W).drew).then0 f1 (fun _ h => h.elim))) | fail
  all_goals
    go_wp2
    go_ret
    exact ⟨rfl, F1⟩

theorem Ctl.arr_eq (x : Ctl) : x.arr = brA (.slice x.cA x.cls.length x.cc) x.b := rfl
set_option maxRecDepth 100000 in
set_option maxHeartbeats 2000000 in
theorem points_any (x : Ctl) (w : World) (hx : Clss w x.cA x.cls) (hF : x.Few) : Calls Tryz.prog 73 #[x.agg] w fun e w' => e = .returned (.agg (br16 x.b)) ∧ Fr No w w' := by
  unfold Ctl.agg
  obtain ⟨Z, hZ⟩ : ∃ Z, Z = x.arr := ⟨_, rfl⟩
  obtain ⟨W0, hW0⟩ : ∃ W0, W0 = (w.alloc (.cells Z 26)).alloc (.cells (br16 fun _ => 0) 24) := ⟨_, rfl⟩
  have f0 : Fr No w W0 := by rw [hW0]; exact ((Fr.refl _ _).alloc _).alloc _
  have bZ : Bk W0 w.heap.size 26 Z := by rw [hW0]; exact (Bk.made w _ _).fr ((Fr.refl No _).alloc _) (fun e => e)
  have bR : Bk W0 (w.heap.size + 1) 24 (br16 fun _ => 0) := by
    have h := Bk.made (w.alloc (.cells Z 26)) 24 (br16 fun _ => 0)
    rw [World.size_alloc] at h
    rw [hW0]
    exact h
  rw [← hZ]
  have hZ2 := hZ
  rw [Ctl.arr_eq] at hZ2
  have hld := Lib.hid (ld_cat hZ2 bZ)
  have CE := each_pts Z x.cA x.cls.length x.cc x.b hZ2 hF.n ⟨w.heap.size, 0, none⟩ W0 (fun (_ : Unit) W => Fr No W0 W) No (fun _ i => x.b (i / x.cls.length * 4 + i % x.cls.length)) (fun s _ => s) () (fun _ h => h.elim) (Fr.refl _ _)
    (fun _ W W' h h2 => h.trans' h2 (fun i hi e => by have e : W0.heap.size ≤ i := e; omega))
    (fun _ i W hi hf hr => by
      have hn := hF.n
      have hn0 : 0 < x.cls.length := by
        rcases Nat.eq_zero_or_pos x.cls.length with e | e
        · rw [e] at hi
          omega
        · exact e
      have i1 : i / x.cls.length < x.cls.length := Nat.div_lt_of_lt_mul hi
      have i2 : i % x.cls.length < x.cls.length := Nat.mod_lt _ hn0
      refine (pts1_any x w.heap.size _ _ W ?_ ((hx.since f0).since hr) hF i1 i2).mono (fun e W' h => ⟨h.1, hr.trans' h.2 (fun _ _ e => e), h.2⟩)
      rw [← hZ]
      exact bZ.fr hr (fun e => e))
  have hbr : br16 (stE (fun (_ : Unit) i => x.b (i / x.cls.length * 4 + i % x.cls.length)) (fun s _ => s) x.cls.length () (List.range (x.cls.length * x.cls.length))).2 = br16 x.b := by
    refine br16_congr (fun j hj => ?_)
    rw [stE_at x.b hF.n]
    show (if j / 4 < x.cls.length ∧ j % 4 < x.cls.length then x.b j else 0) = x.b j
    by_cases h : j / 4 < x.cls.length ∧ j % 4 < x.cls.length
    · rw [if_pos h]
    · rw [if_neg h, hF.none hj h]
  rw [hbr] at CE
  have HE := Lib.hid CE
  have HF := Lib.hid f0
  have HR := Lib.hid bR
  unfold br16 at hW0
  have hwe := hW0.symm
  generalize x.b = b at *
  clear hZ hZ2 hW0 bZ bR f0 CE hbr hF hx
  go_enter Tryz.func73, Tryz.ntmps73
  go_wp2_with (first
    | ((with_reducible refine wpl_ld ?_ ?_ hld.out ?_); (· rfl); (· rfl); simp only [Act.put, szA, szB, szC]))
  refine (HE.out).mono ?_
  rintro e w1 ⟨rfl, -, f1⟩
  have b1 := HR.out.fr f1 (fun e => e)
  have hst := Lib.hid (st_br (b' := b) b1)
  obtain ⟨W2, hW2⟩ : ∃ W2, Hid (W2 = w1.setRow (w.heap.size + 1) (br16 b)) := ⟨_, Lib.hid rfl⟩
  have HL := Lib.hid (ld_br (show Bk W2 (w.heap.size + 1) 24 (br16 b) by rw [hW2.out]; exact bk_row12 b1 _))
  have HF2 : Hid (Fr No w W2) := Lib.hid (by rw [hW2.out]; exact fr_row12 (HF.out.trans' f1 (fun _ _ e => e)) (.inr (by omega)) _)
  rw [← hW2.out] at hst
  clear f1 b1 hwe hld
  go_wp2_with (first
    | ((with_reducible refine wpl_st ?_ ?_ ?_ hst.out ?_); (· rfl); (· rfl); (· rfl); simp only [Act.put]))
  exact bodyPost_ret (cell_result Tryz.results73 HL.out rfl) rfl ⟨rfl, HF2.out⟩
end Go.Proofs.YtmeimhpllemjfaaGreat
/- Package cat: is there a breakpoint? How many are there? -/
namespace Go.Proofs.YtmeimhpllemjfaaGreat
open Go.RowKit

def row4 (b : Nat → Int) (c : Nat) : Array Value := #[.int .i64 (b (c * 4 + 0)), .int .i64 (b (c * 4 + 1)), .int .i64 (b (c * 4 + 2)), .int .i64 (b (c * 4 + 3))]
theorem idx_row (b : Nat → Int) {c : Nat} (hc : c < 4) (W : World) : (Instr.index 24 (.agg (br16 b)) (.int .i64 (c : Int))).run Tryz.prog W = .ok (.agg (row4 b c)) W := by
  have h0 : (Instr.index 24 (.agg (br16 b)) (.int .i64 0)).run Tryz.prog W = .ok (.agg (row4 b 0)) W := by kernel_rfl
  have h1 : (Instr.index 24 (.agg (br16 b)) (.int .i64 1)).run Tryz.prog W = .ok (.agg (row4 b 1)) W := by kernel_rfl
  have h2 : (Instr.index 24 (.agg (br16 b)) (.int .i64 2)).run Tryz.prog W = .ok (.agg (row4 b 2)) W := by kernel_rfl
  have h3 : (Instr.index 24 (.agg (br16 b)) (.int .i64 3)).run Tryz.prog W = .ok (.agg (row4 b 3)) W := by kernel_rfl
  have h : c = 0 ∨ c = 1 ∨ c = 2 ∨ c = 3 := by omega
  rcases h with rfl | rfl | rfl | rfl
  · exact h0
  · exact h1
  · exact h2
  · exact h3
theorem idx_col (b : Nat → Int) (c : Nat) {d : Nat} (hd : d < 4) (W : World) : (Instr.index 23 (.agg (row4 b c)) (.int .i64 (d : Int))).run Tryz.prog W = .ok (.int .i64 (b (c * 4 + d))) W := by
  have h0 : (Instr.index 23 (.agg (row4 b c)) (.int .i64 0)).run Tryz.prog W = .ok (.int .i64 (b (c * 4 + 0))) W := by kernel_rfl
  have h1 : (Instr.index 23 (.agg (row4 b c)) (.int .i64 1)).run Tryz.prog W = .ok (.int .i64 (b (c * 4 + 1))) W := by kernel_rfl
  have h2 : (Instr.index 23 (.agg (row4 b c)) (.int .i64 2)).run Tryz.prog W = .ok (.int .i64 (b (c * 4 + 2))) W := by kernel_rfl
  have h3 : (Instr.index 23 (.agg (row4 b c)) (.int .i64 3)).run Tryz.prog W = .ok (.int .i64 (b (c * 4 + 3))) W := by kernel_rfl
  have h : d = 0 ∨ d = 1 ∨ d = 2 ∨ d = 3 := by omega
  rcases h with rfl | rfl | rfl | rfl
  · exact h0
  · exact h1
  · exact h2
  · exact h3
theorem Ctl.Few.small {x : Ctl} (h : x.Few) {j : Nat} (hj : j < 16) : 0 ≤ x.b j ∧ x.b j ≤ 7 := by
  by_cases hin : j / 4 < x.cls.length ∧ j % 4 < x.cls.length
  · have h1 := h.at hin.1 hin.2
    have h2 := mskL_le (h.st _ (List.getElem_mem hin.1))
    rw [show j / 4 * 4 + j % 4 = j by omega] at h1
    omega
  · rw [h.none hj hin]
    decide
theorem Ctl.Few.brk {x : Ctl} (h : x.Few) {c d i : Nat} (hc : c < 4) (hd : d < 4) : x.p.brk c d i = bitB (x.b (c * 4 + d)) i := by
  have e1 : x.p.cs.length = x.cls.length := by simp [Ctl.p]
  unfold PCt.brk
  rw [e1]
  show _ = bitB (x.p.b (c * 4 + d)) i
  simp only [Int.toNat_natCast]
  by_cases hin : c < x.cls.length ∧ d < x.cls.length
  · have h1 := h.at hin.1 hin.2
    have e2 : (x.p.at c).steps.length = x.cls[c].steps.length := by rw [pct_at x hin.1]; simp [Cls.p]
    rw [decide_eq_true (show 0 ≤ (c : Int) ∧ (c : Int) < (x.cls.length : Int) ∧ (c : Int) < 4 by omega), decide_eq_true (show 0 ≤ (d : Int) ∧ (d : Int) < (x.cls.length : Int) ∧ (d : Int) < 4 by omega)]
    by_cases hi : i + 1 < x.cls[c].steps.length
    · rw [decide_eq_true (show 0 ≤ (i : Int) ∧ (i : Int) + 1 < ((x.p.at c).steps.length : Int) by rw [e2]; omega)]
      simp
    · have h2 : bitB (x.p.b (c * 4 + d)) i = false := bit_over h1.1 (by
        have h3 : (2 : Nat) ^ (x.cls[c].steps.length - 1) ≤ 2 ^ i := Nat.pow_le_pow_right (by omega) (by omega)
        have h4 := h1.2
        unfold mskL at h4
        have h5 : ((2 ^ (x.cls[c].steps.length - 1) : Nat) : Int) ≤ ((2 ^ i : Nat) : Int) := by exact_mod_cast h3
        have h6 : ((2 ^ i : Nat) : Int) = (2 : Int) ^ i := by push_cast; rfl
        show x.b (c * 4 + d) < 2 ^ i
        omega)
      rw [h2]
      simp
  · have hz : x.p.b (c * 4 + d) = 0 := h.none (j := c * 4 + d) (by omega) (by
      rw [show (c * 4 + d) / 4 = c by omega, show (c * 4 + d) % 4 = d by omega]
      exact hin)
    rw [hz, bit_zero]
    simp

attribute [local go_sem] Oper.semAt_some
theorem brk_not {x : PCt} {c d i : Int} (h : ¬ ((0 ≤ c ∧ c < 4) ∧ (0 ≤ d ∧ d < 4) ∧ 0 ≤ i)) : x.brk c d i = false := by
  unfold PCt.brk
  by_cases h1 : 0 ≤ c ∧ c < x.cs.length ∧ c < 4
  · by_cases h2 : 0 ≤ d ∧ d < x.cs.length ∧ d < 4
    · by_cases h3 : 0 ≤ i ∧ i + 1 < (x.at c.toNat).steps.length
      · exact absurd ⟨⟨h1.1, h1.2.2⟩, ⟨h2.1, h2.2.2⟩, h3.1⟩ h
      · simp [h3]
    · simp [h2]
  · simp [h1]
theorem bne_bit {a : Int} {b : Bool} (h : decide (a = 0) = !b) : (a != 0) = b := by
  rw [show (a != 0) = !(a == 0) from rfl, show (a == 0) = decide (a = 0) from rfl, h]
  cases b <;> rfl
set_option maxRecDepth 100000 in
set_option maxHeartbeats 4000000 in
theorem break_in (x : Ctl) (c d i : Nat) (w : World) (hx : Clss w x.cA x.cls) (hF : x.Few) (hc : c < 4) (hd : d < 4) :
    Calls Tryz.prog 110 #[x.agg, .int .i64 (c : Int), .int .i64 (d : Int), .int .i64 (i : Int)] w (Has w (x.p.brk c d i)) := by
  have HP := Lib.hid (fun W (h : Fr No w W) => points_any x W (hx.since h) hF)
  have Hbit := Lib.hid (bitAnd_any (hF.small (j := c * 4 + d) (by omega)).1 (hF.small (j := c * 4 + d) (by omega)).2 i)
  rw [hF.brk hc hd]
  unfold Ctl.agg at HP ⊢
  obtain ⟨Z, hZ⟩ : ∃ Z, Z = x.arr := ⟨_, rfl⟩
  have hld := Lib.hid (ld_cat (hZ.trans (Ctl.arr_eq x)) (Bk.made w 26 Z))
  have hldD : Hid (LdO (w.alloc (.cells Z 26)).drew 26 ⟨w.heap.size, 0, none⟩ (.agg Z)) := Lib.hid (ld_cat (hZ.trans (Ctl.arr_eq x)) ((Bk.made w 26 Z).fr ((Fr.refl No _).drew) (fun e => e)))
  rw [← hZ] at HP ⊢
  generalize x.b = b at *
  have p1 := Lib.hid (fun W => hasPlace_any (c : Int) W)
  have p2 := Lib.hid (fun W => hasPlace_any (d : Int) W)
  rw [decide_eq_true (show 0 ≤ (c : Int) ∧ (c : Int) < 4 by omega)] at p1
  rw [decide_eq_true (show 0 ≤ (d : Int) ∧ (d : Int) < 4 by omega)] at p2
  have f0 : Fr No w (w.alloc (.cells Z 26)).drew := ((Fr.refl _ _).alloc _).drew
  have HPD := Lib.hid (HP.out _ f0)
  have HF0 := Lib.hid f0
  have hi0 : ¬ ((i : Int) < 0) := by omega
  clear hx hF hZ HP hld f0
  refine (callsIn_wide (n := 3)).1 ?_
  refine callsIn_of_wp Tryz.func110 rfl trivial ?_ rfl
  simp only [Tryz.ntmps110, List.size_toArray, List.length_cons, List.length_nil, Nat.reduceAdd, Nat.reduceSub, Array.replicate_succ, Array.replicate_zero, List.push_toArray, List.append_toArray, List.nil_append, List.cons_append]
  gi_wp2_with (first
    | (refine ⟨trivial, ?_⟩; gi_at_call 137; refine (callsIn_wide.2 (p1.out _)).mono ?_; rintro e w' ⟨rfl, rfl⟩)
    | (refine ⟨trivial, ?_⟩; gi_at_call 137; refine (callsIn_wide.2 (p2.out _)).mono ?_; rintro e w' ⟨rfl, rfl⟩))
  case _ =>
    refine region12 (by kernel_rfl) ?_
    refine take12 23 (.int .i64 (c : Int)) (i := 2) rfl rfl rfl (by kernel_rfl) (by kernel_rfl) (by kernel_rfl) (fun _ _ _ h => h) (by rfl) (by intro w; go_simp; try with_reducible rfl) (fun _ => rfl) ?_
    simp only [Act.put, szA, szB, szC]
    refine take12 25 (.int .i64 (d : Int)) (i := 4) rfl rfl rfl (by kernel_rfl) (by kernel_rfl) (by kernel_rfl) (fun _ _ _ h => h) (by rfl) (by intro w; go_simp; try with_reducible rfl) (fun _ => rfl) ?_
    simp only [Act.put, szA, szB, szC]
    refine take12 27 (.int .i64 (i : Int)) (i := 6) rfl rfl rfl (by kernel_rfl) (by kernel_rfl) (by kernel_rfl) (fun _ _ _ h => h) (by rfl) (by intro w; go_simp; try with_reducible rfl) (fun _ => rfl) ?_
    simp only [Act.put, szA, szB, szC]
    refine take12 28 (.int .i64 (oneB12 i)) (i := 7) rfl rfl rfl (by kernel_rfl) (by kernel_rfl) (by kernel_rfl) (fun _ _ _ h => h) (by rfl) (by intro w; go_simp; unfold oneB12; rw [Int.one_mul]) (fun _ => rfl) ?_
    simp only [Act.put, szA, szB, szC]
    refine val12 21 (.agg Z) (i := 0) rfl (by kernel_rfl) rfl rfl (by rfl) (by exact exec_ld rfl hldD.out) rfl ?_
    simp only [Act.put, szA, szB, szC]
    refine call12 22 (i := 1) (f := 73) (args := #[.agg Z]) rfl (by kernel_rfl) rfl rfl (by rfl) (by go_simp) (R := fun v W' => v = .agg (br16 b) ∧ Fr No (w.alloc (.cells Z 26)).drew W') (HPD.out.mono (fun e W' h => ⟨_, h.1, rfl, h.2⟩)) ?_
    rintro v W2 ⟨rfl, f2⟩
    simp only [Act.put, szA, szB, szC]
    refine val12 24 (.agg (row4 b c)) (i := 3) rfl (by kernel_rfl) rfl rfl (by rfl) (by go_simp; rw [idx_row b hc W2]; rfl) rfl ?_
    simp only [Act.put, szA, szB, szC]
    refine val12 26 (.int .i64 (b (c * 4 + d))) (i := 5) rfl (by kernel_rfl) rfl rfl (by rfl) (by go_simp; rw [idx_col b c hd W2]; rfl) rfl ?_
    simp only [Act.put, szA, szB, szC]
    refine val12 29 (.int .i64 (bitAnd (b (c * 4 + d)) i)) (i := 8) rfl (by kernel_rfl) rfl rfl (by rfl) (by go_simp; rfl) rfl ?_
    simp only [Act.put, szA, szB, szC]
    refine val12 30 (.bool (bitB (b (c * 4 + d)) i)) (i := 9) rfl (by kernel_rfl) rfl rfl (by rfl) (by go_simp; exact bne_bit Hbit.out) rfl ?_
    simp only [Act.put, szA, szB, szC]
    refine val12 8 (.bool (bitB (b (c * 4 + d)) i)) (i := 10) rfl (by kernel_rfl) rfl rfl (by rfl) (by go_simp) rfl ?_
    simp only [Act.put, szA, szB, szC]
    refine wpAnyIn_done (by kernel_rfl) ?_ _
    gi_wp2
    go_ret
    exact ⟨rfl, HF0.out.trans' f2 (fun _ _ e => e)⟩

set_option maxRecDepth 100000 in
set_option maxHeartbeats 2000000 in
theorem break_any (x : Ctl) (c d i : Int) (w : World) (hx : Clss w x.cA x.cls) (hF : x.Few) : Calls Tryz.prog 110 #[x.agg, .int .i64 c, .int .i64 d, .int .i64 i] w (Has w (x.p.brk c d i)) := by
  by_cases h : (0 ≤ c ∧ c < 4) ∧ (0 ≤ d ∧ d < 4) ∧ 0 ≤ i
  · obtain ⟨⟨c0, c4⟩, ⟨d0, d4⟩, i0⟩ := h
    have := break_in x c.toNat d.toNat i.toNat w hx hF (by omega) (by omega)
    rwa [Int.toNat_of_nonneg c0, Int.toNat_of_nonneg d0, Int.toNat_of_nonneg i0] at this
  · rw [brk_not h]
    unfold Ctl.agg
    obtain ⟨Z, hZ⟩ : ∃ Z, Z = x.arr := ⟨_, rfl⟩
    rw [← hZ]
    have p1 := Lib.hid (fun W => hasPlace_any c W)
    have p2 := Lib.hid (fun W => hasPlace_any d W)
    have Hf : Hid (Fr No w (w.alloc (.cells Z 26))) := Lib.hid ((Fr.refl _ _).alloc _)
    clear hx hF hZ
    by_cases hc : 0 ≤ c ∧ c < 4
    · rw [decide_eq_true hc] at p1
      by_cases hd : 0 ≤ d ∧ d < 4
      · rw [decide_eq_true hd] at p2
        have hi : i < 0 := Int.not_le.1 (fun h1 => h ⟨hc, hd, h1⟩)
        clear h hc hd
        go_enter Tryz.func110, Tryz.ntmps110
        go_wp2_with (first
          | (go_at_call 137; refine (p1.out _).mono ?_; rintro e w' ⟨rfl, rfl⟩)
          | (go_at_call 137; refine (p2.out _).mono ?_; rintro e w' ⟨rfl, rfl⟩))
        go_ret
        exact ⟨rfl, Hf.out⟩
      · rw [decide_eq_false hd] at p2
        clear h hc hd
        go_enter Tryz.func110, Tryz.ntmps110
        go_wp2_with (first
          | (go_at_call 137; refine (p1.out _).mono ?_; rintro e w' ⟨rfl, rfl⟩)
          | (go_at_call 137; refine (p2.out _).mono ?_; rintro e w' ⟨rfl, rfl⟩))
        go_ret
        exact ⟨rfl, Hf.out⟩
    · rw [decide_eq_false hc] at p1
      clear h hc
      go_enter Tryz.func110, Tryz.ntmps110
      go_wp2_with (first
        | (go_at_call 137; refine (p1.out _).mono ?_; rintro e w' ⟨rfl, rfl⟩))
      go_ret
      exact ⟨rfl, Hf.out⟩
end Go.Proofs.YtmeimhpllemjfaaGreat
/- Package cat: how many breakpoints a catalogue has. -/
namespace Go.Proofs.YtmeimhpllemjfaaGreat
open Go.RowKit

end Go.Proofs.YtmeimhpllemjfaaGreat
