/- Package cat: the breakpoints that a catalogue has; all that there may be. -/
import Derived.BigQuiet
import Derived.Test.YtkihbjgmmaklaaaEac12
import Derived.Test.YtkihbjgmmaklaaaBit12
namespace Go.Proofs.Ytkihbjgmmaklaaa
open Go.RowKit

theorem stE_br {σ : Type} (val : σ → Nat → Int) (nxt : σ → Nat → σ) {n : Nat} (s0 : σ) (hn : n ≤ 4) (j : Nat) (hj : j ≤ n * n) :
    (stE val nxt n s0 (List.range j)).2 = fun p => if p / 4 < n ∧ p % 4 < n ∧ p / 4 * n + p % 4 < j then val (stE val nxt n s0 (List.range (p / 4 * n + p % 4))).1 (p / 4 * n + p % 4) else 0 := by
  induction j with
  | zero =>
    funext p
    rw [if_neg (by omega)]
    rfl
  | succ j ih =>
    have hn0 : 0 < n := by
      rcases Nat.eq_zero_or_pos n with e | e
      · subst e
        omega
      · exact e
    have i1 : j / n < n := Nat.div_lt_of_lt_mul (by omega)
    have i2 : j % n < n := Nat.mod_lt _ hn0
    have i3 : j / n * n + j % n = j := Nat.div_add_mod' j n
    rw [List.range_succ, stE_snoc, ih (by omega)]
    funext p
    dsimp only
    unfold updB
    by_cases hp : p = j / n * 4 + j % n
    · have e1 : p / 4 = j / n := by omega
      have e2 : p % 4 = j % n := by omega
      rw [if_pos hp, e1, e2, i3, if_pos ⟨i1, i2, by omega⟩]
    · rw [if_neg hp]
      show (if p / 4 < n ∧ p % 4 < n ∧ p / 4 * n + p % 4 < j then _ else _) = _
      by_cases h1 : p / 4 < n ∧ p % 4 < n
      · obtain ⟨h2, h3⟩ := h1
        have hne : p / 4 * n + p % 4 ≠ j := by
          intro e
          apply hp
          have h4 : j / n = p / 4 := by rw [← e, Nat.add_comm, Nat.add_mul_div_right _ _ hn0, Nat.div_eq_of_lt h3, Nat.zero_add]
          have h5 : j % n = p % 4 := by rw [← e, Nat.add_comm, Nat.add_mul_mod_self_right, Nat.mod_eq_of_lt h3]
          omega
        have hiff : (p / 4 * n + p % 4 < j) ↔ (p / 4 * n + p % 4 < j + 1) := by omega
        simp only [h2, h3, true_and, hiff]
      · rw [if_neg (fun h => h1 ⟨h.1, h.2.1⟩), if_neg (fun h => h1 ⟨h.1, h.2.1⟩)]
theorem pair_at {n p : Nat} (hd : p % 4 < n) : (p / 4 * n + p % 4) / n = p / 4 ∧ (p / 4 * n + p % 4) % n = p % 4 := by
  constructor
  · rw [Nat.add_comm, Nat.add_mul_div_right _ _ (by omega), Nat.div_eq_of_lt hd, Nat.zero_add]
  · rw [Nat.add_comm, Nat.add_mul_mod_self_right, Nat.mod_eq_of_lt hd]
theorem pair_lt {n p : Nat} (hc : p / 4 < n) (hd : p % 4 < n) : p / 4 * n + p % 4 < n * n := by
  have := Nat.mul_le_mul_right n (Nat.succ_le_of_lt hc)
  rw [Nat.succ_mul] at this
  omega
/-- Where a function tells of two classes what stands at their place. -/
theorem stE_at (g : Nat → Int) {n : Nat} (hn : n ≤ 4) : (stE (fun (_ : Unit) i => g (i / n * 4 + i % n)) (fun s _ => s) n () (List.range (n * n))).2 = fun p => if p / 4 < n ∧ p % 4 < n then g p else 0 := by
  rw [stE_br _ _ _ hn _ (Nat.le_refl _)]
  funext p
  by_cases h : p / 4 < n ∧ p % 4 < n
  · obtain ⟨e1, e2⟩ := pair_at h.2
    rw [if_pos ⟨h.1, h.2, pair_lt h.1 h.2⟩, if_pos h, e1, e2, show p / 4 * 4 + p % 4 = p by omega]
  · rw [if_neg (fun q => h ⟨q.1, q.2.1⟩), if_neg h]
theorem br16_congr {b b' : Nat → Int} (h : ∀ j, j < 16 → b j = b' j) : br16 b = br16 b' := by
  unfold br16
  rw [h 0 (by omega), h 1 (by omega), h 2 (by omega), h 3 (by omega), h 4 (by omega), h 5 (by omega), h 6 (by omega), h 7 (by omega), h 8 (by omega), h 9 (by omega), h 10 (by omega), h 11 (by omega), h 12 (by omega), h 13 (by omega), h 14 (by omega), h 15 (by omega)]

/-- A catalogue of a few classes of a few steps, of breakpoints that there may be. -/
structure Ctl.Few (x : Ctl) : Prop where
  n : x.cls.length ≤ 4
  st : ∀ c ∈ x.cls, c.steps.length ≤ 4
  br : ∀ j, j < 16 → 0 ≤ x.b j ∧ x.b j < x.p.most (j / 4) (j % 4)
theorem Ctl.most_at (x : Ctl) {c d : Nat} (hc : c < x.cls.length) (hd : d < x.cls.length) : x.p.most c d = mskL x.cls[c].steps.length + 1 := by
  have e1 : x.p.cs.length = x.cls.length := by simp [Ctl.p]
  unfold PCt.most
  rw [e1, if_pos ⟨hc, hd⟩, pct_at x hc]
  unfold mskL
  simp [Cls.p]
theorem Ctl.most_not (x : Ctl) {c d : Nat} (h : ¬ (c < x.cls.length ∧ d < x.cls.length)) : x.p.most c d = 1 := by
  have e1 : x.p.cs.length = x.cls.length := by simp [Ctl.p]
  unfold PCt.most
  rw [e1, if_neg h]
theorem Ctl.Few.at {x : Ctl} (h : x.Few) {c d : Nat} (hc : c < x.cls.length) (hd : d < x.cls.length) : 0 ≤ x.b (c * 4 + d) ∧ x.b (c * 4 + d) ≤ mskL x.cls[c].steps.length := by
  have hn := h.n
  have := h.br (c * 4 + d) (by omega)
  rw [show (c * 4 + d) / 4 = c by omega, show (c * 4 + d) % 4 = d by omega, Ctl.most_at x hc hd] at this
  omega
theorem Ctl.Few.none {x : Ctl} (h : x.Few) {j : Nat} (hj : j < 16) (hn : ¬ (j / 4 < x.cls.length ∧ j % 4 < x.cls.length)) : x.b j = 0 := by
  have := h.br j hj
  rw [Ctl.most_not x hn] at this
  omega

set_option maxRecDepth 100000 in
set_option maxHeartbeats 4000000 in
theorem pts1_any (x : Ctl) (H c d : Nat) (W : World) (hB : Bk W H 26 x.arr) (hx : Clss W x.cA x.cls) (hF : x.Few) (hc : c < x.cls.length) (hd : d < x.cls.length) :
    Calls Try.prog 71 #[.int .i64 (c : Int), .int .i64 (d : Int), .pointer (some ⟨H, 0, none⟩)] W fun e W' => e = .returned (.int .i64 (x.b (c * 4 + d))) ∧ Fr No W W' := by
  obtain ⟨h0, h1⟩ := hF.at hc hd
  have h4 := hF.st _ (List.getElem_mem hc)
  have hn := hF.n
  have hand : bits BinOp.and IntKind.i64 (x.b (c * 4 + d)) (mskL x.cls[c].steps.length) = x.b (c * 4 + d) := by
    have := and_all W h4 h0 h1
    unfold Op.intBits at this
    simp at this
    exact this
  have HA := Lib.hid (fun V (h : Fr No W V) => all_any x.cls[c] V h4)
  have hB' := hB
  obtain ⟨cA, cls, cc, b⟩ := x
  unfold Ctl.arr at hB hB'
  simp only at *
  obtain ⟨ad, e1, hab, c0, c1, c2, c3, c4⟩ := hx.sl.cls (k := c) hc
  obtain ⟨n, hnn⟩ : ∃ n, n = cls.length := ⟨_, rfl⟩
  rw [← hnn] at hn hc hd hB
  have x0 : W.cell? ⟨H, 0, none⟩ = some (.slice cA n cc) := hB.cell 0
  have x1 := bk_br2 hB (c := c) (d := d) (by omega) (by omega)
  have l0 := hB.lt
  unfold Cls.agg at HA
  generalize cls[c].steps.length = L at *
  generalize cls[c].comps.length = M at *
  generalize cls[c].name = nm at *
  generalize cls[c].args = ar at *
  generalize cls[c].sA = sA at *
  generalize cls[c].sc = sc at *
  generalize cls[c].uA = uA at *
  generalize cls[c].uc = uc at *
  generalize cls[c].res = re at *
  generalize b (c * 4 + d) = v at *
  have ic4 : ((c : Nat) : Int) < 4 := by omega
  have id4 : ((d : Nat) : Int) < 4 := by omega
  have icn : ((c : Nat) : Int) < (n : Int) := by omega
  clear hx hB hB' h0 h1 h4 hF hnn
  subst e1
  go_enter Try.func71, Try.ntmps71
  go_wp2_with fail
  first | go_region_with (first
    | (go_at_call 33
       refine (HA.out _ (by first | exact Fr.refl _ _ | exact (Fr.refl _ _).drew)).mono ?_
       rintro e w1 ⟨rfl, f1⟩
       have y1 : w1.cell? ⟨H, 1 + c * 4 + d, none⟩ = some (.int .i64 v) := (f1.cell (p := ⟨H, 1 + c * 4 + d, none⟩) l0 (fun e => e)).trans x1
       have F1 := ((Fr.refl No W).drew).then0 f1 (fun _ h => h.elim))) | fail
  all_goals
    go_wp2
    go_ret
    exact ⟨rfl, F1⟩

set_option maxRecDepth 100000 in
set_option maxHeartbeats 2000000 in
theorem opn1_any (x : Ctl) (H c d : Nat) (W : World) (hB : Bk W H 26 x.arr) (hx : Clss W x.cA x.cls) (hF : x.Few) (hc : c < x.cls.length) :
    Calls Try.prog 32 #[.int .i64 (c : Int), .int .i64 (d : Int), .pointer (some ⟨H, 0, none⟩)] W fun e W' => e = .returned (.int .i64 (mskL x.cls[c].steps.length)) ∧ Fr No W W' := by
  have h4 := hF.st _ (List.getElem_mem hc)
  have HA := Lib.hid (fun V (h : Fr No W V) => all_any x.cls[c] V h4)
  obtain ⟨cA, cls, cc, b⟩ := x
  unfold Ctl.arr at hB
  simp only at *
  obtain ⟨ad, e1, hab, c0, c1, c2, c3, c4⟩ := hx.sl.cls (k := c) hc
  obtain ⟨n, hnn⟩ : ∃ n, n = cls.length := ⟨_, rfl⟩
  rw [← hnn] at hc hB
  have x0 : W.cell? ⟨H, 0, none⟩ = some (.slice cA n cc) := hB.cell 0
  have l0 := hB.lt
  unfold Cls.agg at HA
  generalize cls[c].steps.length = L at *
  generalize cls[c].comps.length = M at *
  generalize cls[c].name = nm at *
  generalize cls[c].args = ar at *
  generalize cls[c].sA = sA at *
  generalize cls[c].sc = sc at *
  generalize cls[c].uA = uA at *
  generalize cls[c].uc = uc at *
  generalize cls[c].res = re at *
  have icn : ((c : Nat) : Int) < (n : Int) := by omega
  clear hx hB h4 hF hnn
  subst e1
  go_enter Try.func32, Try.ntmps32
  go_wp2_with fail
  refine (HA.out _ (Fr.refl _ _)).mono ?_
  rintro e w1 ⟨rfl, f1⟩
  go_wp2
  go_ret
  exact ⟨rfl, f1⟩

/-- How a catalogue's array of cells is read by each of the package's functions. -/
theorem Ctl.arr_eq (x : Ctl) : x.arr = brA (.slice x.cA x.cls.length x.cc) x.b := rfl
set_option maxRecDepth 100000 in
set_option maxHeartbeats 2000000 in
theorem points_any (x : Ctl) (w : World) (hx : Clss w x.cA x.cls) (hF : x.Few) : Calls Try.prog 49 #[x.agg] w fun e w' => e = .returned (.agg (br16 x.b)) ∧ Fr No w w' := by
  unfold Ctl.agg
  obtain ⟨Z, hZ⟩ : ∃ Z, Z = x.arr := ⟨_, rfl⟩
  obtain ⟨W0, hW0⟩ : ∃ W0, W0 = (w.alloc (.cells Z 26)).alloc (.cells (br16 fun _ => 0) 24) := ⟨_, rfl⟩
  have f0 : Fr No w W0 := by rw [hW0]; exact ((Fr.refl _ _).alloc _).alloc _
  have bZ : Bk W0 w.heap.size 26 Z := by rw [hW0]; exact (Bk.made w _ _).fr ((Fr.refl No _).alloc _) (fun e => e)
  have bR : Bk W0 (w.heap.size + 1) 24 (br16 fun _ => 0) := by
    have h := Bk.made (w.alloc (.cells Z 26)) 24 (br16 fun _ => 0)
    rw [World.size_alloc] at h
    rw [hW0]
    exact h
  rw [← hZ]
  have hZ2 := hZ
  rw [Ctl.arr_eq] at hZ2
  have hld := Lib.hid (ld_cat hZ2 bZ)
  have CE := each_pts Z x.cA x.cls.length x.cc x.b hZ2 hF.n ⟨w.heap.size, 0, none⟩ W0 (fun (_ : Unit) W => Fr No W0 W) No (fun _ i => x.b (i / x.cls.length * 4 + i % x.cls.length)) (fun s _ => s) () (fun _ h => h.elim) (Fr.refl _ _)
    (fun _ W W' h h2 => h.trans' h2 (fun i hi e => by have e : W0.heap.size ≤ i := e; omega))
    (fun _ i W hi hf hr => by
      have hn := hF.n
      have hn0 : 0 < x.cls.length := by
        rcases Nat.eq_zero_or_pos x.cls.length with e | e
        · rw [e] at hi
          omega
        · exact e
      have i1 : i / x.cls.length < x.cls.length := Nat.div_lt_of_lt_mul hi
      have i2 : i % x.cls.length < x.cls.length := Nat.mod_lt _ hn0
      refine (pts1_any x w.heap.size _ _ W ?_ ((hx.since f0).since hr) hF i1 i2).mono (fun e W' h => ⟨h.1, hr.trans' h.2 (fun _ _ e => e), h.2⟩)
      rw [← hZ]
      exact bZ.fr hr (fun e => e))
  have hbr : br16 (stE (fun (_ : Unit) i => x.b (i / x.cls.length * 4 + i % x.cls.length)) (fun s _ => s) x.cls.length () (List.range (x.cls.length * x.cls.length))).2 = br16 x.b := by
    refine br16_congr (fun j hj => ?_)
    rw [stE_at x.b hF.n]
    show (if j / 4 < x.cls.length ∧ j % 4 < x.cls.length then x.b j else 0) = x.b j
    by_cases h : j / 4 < x.cls.length ∧ j % 4 < x.cls.length
    · rw [if_pos h]
    · rw [if_neg h, hF.none hj h]
  rw [hbr] at CE
  have HE := Lib.hid CE
  have HF := Lib.hid f0
  have HR := Lib.hid bR
  unfold br16 at hW0
  have hwe := hW0.symm
  generalize x.b = b at *
  clear hZ hZ2 hW0 bZ bR f0 CE hbr hF hx
  go_enter Try.func49, Try.ntmps49
  go_wp2_with (first
    | ((with_reducible refine wpl_ld ?_ ?_ hld.out ?_); (· rfl); (· rfl); simp only [Act.put, List.setIfInBounds_toArray, List.set_cons_zero, List.set_cons_succ]))
  refine (HE.out).mono ?_
  rintro e w1 ⟨rfl, -, f1⟩
  have b1 := HR.out.fr f1 (fun e => e)
  have hst := Lib.hid (st_br (b' := b) b1)
  obtain ⟨W2, hW2⟩ : ∃ W2, Hid (W2 = w1.setRow (w.heap.size + 1) (br16 b)) := ⟨_, Lib.hid rfl⟩
  have HL := Lib.hid (ld_br (show Bk W2 (w.heap.size + 1) 24 (br16 b) by rw [hW2.out]; exact bk_row12 b1 _))
  have HF2 : Hid (Fr No w W2) := Lib.hid (by rw [hW2.out]; exact fr_row12 (HF.out.trans' f1 (fun _ _ e => e)) (.inr (by omega)) _)
  rw [← hW2.out] at hst
  clear f1 b1 hwe hld
  go_wp2_with (first
    | ((with_reducible refine wpl_st ?_ ?_ ?_ hst.out ?_); (· rfl); (· rfl); (· rfl); simp only [Act.put]))
  exact bodyPost_ret (cell_result Try.results49 HL.out rfl) rfl ⟨rfl, HF2.out⟩
end Go.Proofs.Ytkihbjgmmaklaaa
