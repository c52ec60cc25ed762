/- What package step reckons, purely: keys taken down, the footprint asked, numbers that fit, how many keys there are. No program is spoken of. -/
import Derived.Test.YthenadijiepmnaaGreatMpc13
import Derived.Test.YthenadijiepmnaaGreatCov10
import Derived.Test.YthenadijiepmnaaGreatMaps
import Derived.Test.YthenadijiepmnaaGreatPgs5
import Derived.Test.YthenadijiepmnaaGreatHand
namespace Go.Proofs.YthenadijiepmnaaGreat
open Go.RowKit

theorem keysOf_oneL {k : Nat} (hk : k < 1000) (j : Nat) : keysOf (oneL (k : Int)) j = decide (j = k) := by
  unfold oneL
  rw [if_pos ⟨by omega, by omega⟩]
  simp only [keysOf, List.any_cons, List.any_nil, Bool.or_false, spHas]
  exact decide_eq_decide.2 ⟨fun h => by omega, fun h => by omega⟩
theorem plain_none (s : Nat → Bool) : (plainOf fun j => keysOf (plainOf s) j || keysOf [] j) = plainOf s :=
  plainOf_congr fun j hj => by rw [keysOf_plain s j hj]; simp [keysOf]
theorem plain_one (s : Nat → Bool) {k : Nat} (hk : k < 1000) : (plainOf fun j => keysOf (plainOf s) j || keysOf (oneL (k : Int)) j) = plainOf (upd s k true) :=
  plainOf_congr fun j hj => by
    rw [keysOf_plain s j hj, keysOf_oneL hk]
    unfold upd
    by_cases e : j = k
    · rw [if_pos e, decide_eq_true e, Bool.or_true]
    · rw [if_neg e, decide_eq_false e, Bool.or_false]
theorem keysOf_span {lo : Nat} {hi : Int} (h1 : hi ≤ 999) {n : Nat} (hn : n = (hi + 1 - lo).toNat) (j : Nat) : keysOf [((lo : Int), hi)] j = between lo n j := by
  simp only [keysOf, List.any_cons, List.any_nil, Bool.or_false, spHas, between]
  exact decide_eq_decide.2 ⟨fun h => by omega, fun h => by omega⟩
theorem plain_span (s : Nat → Bool) {lo : Nat} {hi : Int} (h1 : hi ≤ 999) {n : Nat} (hn : n = (hi + 1 - lo).toNat) : (plainOf fun j => keysOf (plainOf s) j || keysOf [((lo : Int), hi)] j) = plainOf (fun j => s j || between lo n j) :=
  plainOf_congr fun j hj => by rw [keysOf_plain s j hj, keysOf_span h1 hn]
theorem insideS_nil (t : Nat → Bool) : insideS (keysOf []) t = true := (insideS_iff _ _).2 fun k _ h => by simp [keysOf] at h
theorem insideS_one {k : Nat} (hk : k < 1000) (t : Nat → Bool) : insideS (keysOf (oneL (k : Int))) t = t k := by
  refine Bool.eq_iff_iff.2 ((insideS_iff _ _).trans ⟨fun h => h k hk (by rw [keysOf_oneL hk]; simp), fun h j _ hj => ?_⟩)
  rw [keysOf_oneL hk, decide_eq_true_eq] at hj
  rw [hj]; exact h
theorem insideS_span {lo : Nat} {hi : Int} (h1 : hi ≤ 999) {n : Nat} (hn : n = (hi + 1 - lo).toNat) (t : Nat → Bool) : insideS (keysOf [((lo : Int), hi)]) t = allIn t lo n := by
  refine Bool.eq_iff_iff.2 ((insideS_iff _ _).trans ((allIn_iff _ _ _).trans ?_).symm)
  constructor
  · intro h k hk hs
    rw [keysOf_span h1 hn] at hs
    have := of_decide_eq_true hs
    exact h k this.1 this.2
  · intro h k h2 h3
    exact h k (by omega) (by rw [keysOf_span h1 hn]; exact decide_eq_true ⟨h2, h3⟩)
theorem cov_read {l : List Fsp} {gs : List Int} (hr : footRight l gs = true) {k : Nat} (hk : k < 1000) : coversB l gs (oneL (k : Int)) [] = keysOf (chosen false gs l) k := by
  unfold coversB
  rw [hr, insideS_one hk, insideS_nil, Bool.and_true, Bool.true_and]
theorem cov_write {l : List Fsp} {gs : List Int} (hr : footRight l gs = true) {k : Nat} (hk : k < 1000) : coversB l gs [] (oneL (k : Int)) = keysOf (chosen true gs l) k := by
  unfold coversB
  rw [hr, insideS_one hk, insideS_nil, Bool.true_and, Bool.true_and]
theorem cov_span {l : List Fsp} {gs : List Int} (hr : footRight l gs = true) {lo : Nat} {hi : Int} (h1 : hi ≤ 999) {n : Nat} (hn : n = (hi + 1 - lo).toNat) : coversB l gs [((lo : Int), hi)] [] = allIn (keysOf (chosen false gs l)) lo n := by
  unfold coversB
  rw [hr, insideS_span h1 hn, insideS_nil, Bool.and_true, Bool.true_and]

/-- Does a sum fit? The wrapped one lies on the other side. -/
theorem over_add {b c : Int} (hb : I64 b) (hc : I64 c) : (decide (wrap64 (b + c) < b) == decide (c < 0)) = fitI (b + c) := by
  unfold I64 at *
  have h : wrap64 (b + c) = b + c ∨ wrap64 (b + c) = b + c - 18446744073709551616 ∨ wrap64 (b + c) = b + c + 18446744073709551616 := by unfold wrap64; omega
  have h1 : -9223372036854775808 ≤ wrap64 (b + c) ∧ wrap64 (b + c) ≤ 9223372036854775807 := by unfold wrap64; omega
  refine Bool.eq_iff_iff.2 ?_
  unfold fitI
  rw [beq_iff_eq, decide_eq_decide, decide_eq_true_eq]
  omega
theorem over_sub {b c : Int} (hb : I64 b) (hc : I64 c) : (decide (wrap64 (b - c) < b) == decide (0 < c)) = fitI (b - c) := by
  unfold I64 at *
  have h : wrap64 (b - c) = b - c ∨ wrap64 (b - c) = b - c - 18446744073709551616 ∨ wrap64 (b - c) = b - c + 18446744073709551616 := by unfold wrap64; omega
  have h1 : -9223372036854775808 ≤ wrap64 (b - c) ∧ wrap64 (b - c) ≤ 9223372036854775807 := by unfold wrap64; omega
  refine Bool.eq_iff_iff.2 ?_
  unfold fitI
  rw [beq_iff_eq, decide_eq_decide, decide_eq_true_eq]
  omega
theorem fit_wrap {v : Int} (h : fitI v = true) : wrap64 v = v := by
  have := of_decide_eq_true h
  unfold wrap64; omega

/-- How many are there? -/
theorem cnt_none (n : Nat) : cnt (fun _ => false) n = 0 := by
  induction n with
  | zero => rfl
  | succ n ih => rw [cnt, ih]; rfl
theorem cnt_one {d : Nat → Bool} {i : Nat} (n : Nat) (hi : i < n) (hd : d i = false) : cnt (upd d i true) n = cnt d n + 1 := by
  induction n with
  | zero => omega
  | succ n ih =>
    rw [cnt, cnt]
    by_cases e : i = n
    · subst e
      rw [upd_same, hd, cnt_congr (t := d) i (fun k hk => upd_other _ _ _ _ (by omega))]
      rfl
    · rw [ih (by omega), upd_other _ _ _ _ (fun h => e h.symm)]
      omega
theorem cnt_le13 (d : Nat → Bool) (n : Nat) : cnt d n ≤ n := by
  induction n with
  | zero => exact Nat.le_refl _
  | succ n ih =>
    rw [cnt]
    have : (d n).toNat ≤ 1 := by cases d n <;> decide
    omega
/-- Two that lie apart. -/
theorem cnt_add {d e f : Nat → Bool} (n : Nat) (h : ∀ k, k < n → (f k = (d k || e k)) ∧ (d k && e k) = false) : cnt f n = cnt d n + cnt e n := by
  induction n with
  | zero => rfl
  | succ n ih =>
    rw [cnt, cnt, cnt, ih (fun k hk => h k (by omega))]
    obtain ⟨h1, h2⟩ := h n (by omega)
    rw [h1]
    cases hd : d n <;> cases he : e n <;> simp [hd, he] at h2 ⊢ <;> omega
/-- One more that isn't to come any more. -/
theorem cnt_left {g left : Nat → Bool} {i n : Nat} (hi : i < n) (hl : left i = true) : cnt (fun k => g k && !(upd left i false k)) n = cnt (fun k => g k && !left k) n + (g i).toNat := by
  cases hg : g i with
  | false =>
    refine (cnt_congr n fun k _ => ?_).trans (Nat.add_zero _).symm
    by_cases e : k = i
    · rw [e, hg]; rfl
    · rw [upd_other _ _ _ _ e]
  | true =>
    have h := cnt_one (d := fun k => g k && !left k) n hi (by rw [hl]; simp)
    refine (cnt_congr n fun k _ => ?_).trans h
    by_cases e : k = i
    · rw [e, upd_same, upd_same, hg]; rfl
    · rw [upd_other _ _ _ _ e, upd_other _ _ _ _ e]
theorem cnt_between (d : Nat → Bool) (lo n N : Nat) (h : lo + n ≤ N) : cnt (fun k => between lo n k && d k) N = cnt (fun k => between lo n k && d k) (lo + n) := by
  induction N with
  | zero => rw [show lo + n = 0 by omega]
  | succ N ih =>
    by_cases e : lo + n = N + 1
    · rw [e]
    · rw [cnt, ih (by omega)]
      have : between lo n N = false := decide_eq_false (by omega)
      rw [this]; rfl
theorem cntM_cnt (m : Mp) (lo n : Nat) : cnt (fun k => between lo n k && isM m k) (lo + n) = cntM m lo n := by
  induction n with
  | zero =>
    refine (cnt_congr (t := fun _ => false) _ fun k _ => ?_).trans (cnt_none _)
    rw [show between lo 0 k = false from decide_eq_false (by omega), Bool.false_and]
  | succ n ih =>
    rw [cntM, ← ih, show lo + (n + 1) = (lo + n) + 1 by omega, cnt]
    congr 1
    · refine cnt_congr _ fun k hk => ?_
      rw [show between lo (n + 1) k = between lo n k from decide_eq_decide.2 ⟨fun h => by omega, fun h => by omega⟩]
    · show (between lo (n + 1) (lo + n) && isM m (lo + n)).toNat = _
      rw [show between lo (n + 1) (lo + n) = true from decide_eq_true ⟨by omega, by omega⟩, Bool.true_and]
      cases isM m (lo + n) <;> rfl
theorem cntM_thousand (m : Mp) {lo n : Nat} (h : lo + n ≤ 1000) : cntM m lo n = cnt (fun k => between lo n k && isM m k) 1000 := by
  rw [cnt_between _ _ _ _ h, cntM_cnt]
/-- How many of a rising list's keys are such. -/
theorem countP_pairsTo (m : Mp) (q : Nat → Bool) (n : Nat) : (pairsTo m n).countP (fun x => q x.1) = cnt (fun k => isM m k && q k) n := by
  induction n with
  | zero => rfl
  | succ n ih =>
    rw [pairsTo, List.countP_append, ih, cnt]
    congr 1
    cases isM m n with
    | false => rfl
    | true =>
      rw [if_pos rfl, List.countP_singleton]
      cases q n <;> rfl
theorem countP_rise {l : List (Nat × Int)} (h : Rise l) (hk : ∀ x ∈ l, x.1 < 1000) (q : Nat → Bool) : l.countP (fun x => q x.1) = cnt (fun k => (valP l k).isSome && q k) 1000 := by
  have e := pairsTo_eq h hk (m := valP l) fun _ _ => rfl
  have e2 := countP_pairsTo (valP l) q 1000
  rw [e] at e2
  exact e2
end Go.Proofs.YthenadijiepmnaaGreat
/- Package step: a step while it is done, as it lies there; what an instruction asks of it. -/
namespace Go.Proofs.YthenadijiepmnaaGreat
open Go.RowKit

theorem int_k13 : Tryz.prog.underlying 3 = some (.int .i64) := Tryz.underlying3
theorem map_t13 : Tryz.prog.underlying 78 = some (.map 3 57) := Tryz.underlying78
def Chg.agg (c : Chg) : Value := .agg #[.int .i64 c.key, .bool c.gone, .int .i64 c.value]
/-- What doesn't turn of a step while it is done: where it lies, its map of changes, its instructions, its footprint, its arguments, the store. -/
structure Dx where
  d : Nat
  m : Nat
  cA : Option Addr
  code : List Ins
  cc : Nat
  fA : Option Addr
  foot : List Fsp
  fc : Nat
  gA : Option Addr
  gs : List Int
  gc : Nat
  s : Nat
  S : Nat → Prop
  P : List Pg
  ask : Bool
def Dx.cells (x : Dx) (r : Nat → Int) (rA : Option Addr) (rn rc : Nat) (wA : Option Addr) (wn wc : Nat) : Array Value :=
  #[.slice x.cA x.code.length x.cc, .slice x.fA x.foot.length x.fc, .slice x.gA x.gs.length x.gc, .pointer (some ⟨x.s, 0, none⟩), .bool x.ask, .int .i64 (r 0), .int .i64 (r 1), .int .i64 (r 2), .int .i64 (r 3), .slice rA rn rc, .slice wA wn wc, .map (some x.m)]
theorem Dx.cells_reg (x : Dx) (r : Nat → Int) (rA : Option Addr) (rn rc : Nat) (wA : Option Addr) (wn wc : Nat) {a : Nat} (ha : a < 4) : (x.cells r rA rn rc wA wn wc)[5 + a]? = some (.int .i64 (r a)) := by
  rcases (show a = 0 ∨ a = 1 ∨ a = 2 ∨ a = 3 by omega) with rfl | rfl | rfl | rfl <;> rfl
theorem Dx.cells_put (x : Dx) (r : Nat → Int) (rA : Option Addr) (rn rc : Nat) (wA : Option Addr) (wn wc : Nat) {a : Nat} (ha : a < 4) (v : Int) : (x.cells r rA rn rc wA wn wc).setIfInBounds (5 + a) (.int .i64 v) = x.cells (upd r a v) rA rn rc wA wn wc := by
  rcases (show a = 0 ∨ a = 1 ∨ a = 2 ∨ a = 3 by omega) with rfl | rfl | rfl | rfl <;> simp [Dx.cells, upd]
/-- What stands of it throughout. -/
structure Dst (x : Dx) (w : World) : Prop where
  code : Sl w x.m x.cA (x.code.flatMap Ins.cells)
  foot : Sl w x.m x.fA (x.foot.flatMap Fsp.cells)
  args : Sl w x.m x.gA (ints x.gs)
  dm : x.m < x.d
  right : footRight x.foot x.gs = true
  prog : x.code = [] ∨ progOk x.code x.gs.length = true
  inv : InvP x.P
  ps : PS w x.S x.s x.P
  ap : ∀ k, x.S k → k < x.m
  lt : x.m < w.heap.size
  vals : ∀ k v, valP x.P.flatten k = some v → I64 v
  imm : ∀ i ∈ x.code, I64 i.x
/-- What turns: the object's own block, and its map. -/
def DM (x : Dx) (k : Nat) : Prop := k = x.d ∨ k = x.m
section
variable {x : Dx} {w w' : World}
theorem Dst.fr (h : Dst x w) (hf : Fr (DM x) w w') : Dst x w' := by
  have hd := h.lt
  have hm := h.dm
  have hk : ∀ p : Addr, p.block < x.m → w'.cell? p = w.cell? p := fun p hp => hf.cell (by omega) (fun e => by rcases e with e | e <;> omega)
  exact ⟨h.code.keep hk, h.foot.keep hk, h.args.keep hk, hm, h.right, h.prog, h.inv, h.ps.fr hf (fun k hS e => by have := h.ap k hS; rcases e with e | e <;> omega), h.ap, Nat.lt_of_lt_of_le hd hf.size, h.vals, h.imm⟩
theorem Dst.fr0 (h : Dst x w) (hf : Fr No w w') : Dst x w' := h.fr (hf.weak fun _ _ e => e.elim)
theorem Dst.gl (h : Dst x w) : x.gs.length ≤ 3 := by
  have := h.right
  unfold footRight argsOk at this
  simp only [Bool.and_eq_true, decide_eq_true_eq] at this
  exact this.1.2
theorem Dst.ga (h : Dst x w) : argsOk x.gs = true := by
  have := h.right
  unfold footRight at this
  rw [Bool.and_eq_true] at this
  exact this.1
theorem Dst.fl (h : Dst x w) : x.foot.length ≤ 4 := by
  have := h.right
  unfold footRight footOk at this
  simp only [Bool.and_eq_true, decide_eq_true_eq] at this
  exact this.2.2.1
theorem Dst.cl (h : Dst x w) : x.code.length ≤ 8 := by
  rcases h.prog with e | e
  · rw [e]; exact Nat.zero_le _
  · unfold progOk at e
    simp only [Bool.and_eq_true, decide_eq_true_eq] at e
    omega
theorem Dst.ins (h : Dst x w) {k : Nat} (hk : k < x.code.length) : InsOk x.code[k] x.gs.length := by
  rcases h.prog with e | e
  · rw [e] at hk; simp at hk
  · unfold progOk at e
    simp only [Bool.and_eq_true, decide_eq_true_eq, List.all_eq_true] at e
    exact (insOk_iff _ _).1 (e.2.2 _ (List.getElem_mem hk))
end

/-- What is taken down, and what stands at its map's keys. -/
structure DL (x : Dx) (r : Nat → Int) (rd wt : Nat → Bool) (f : Nat → Option Value) (w : World) : Prop where
  lies : ∃ rA rc wA wc, Bk w x.d 80 (x.cells r rA (plainOf rd).length rc wA (plainOf wt).length wc) ∧
    w.ownsRow x.m 72 2 (.slice rA (plainOf rd).length rc) (plainOf rd).length (sps (plainOf rd)) ∧
    w.ownsRow x.m 72 2 (.slice wA (plainOf wt).length wc) (plainOf wt).length (sps (plainOf wt))
  mp : MI Tryz.prog 3 w x.m 1000 f
  reg : ∀ i, i < 4 → I64 (r i)
section
variable {x : Dx} {w w' : World} {r : Nat → Int} {rd wt : Nat → Bool} {f : Nat → Option Value}
theorem own_map {P : Program} {k : TypeId} {m n : Nat} {g : Nat → Option Value} {b : Nat} {t : TypeId} {sz l : Nat} {v : Value} {xs : List Value} (h : MI P k w m n g) (ho : w.ownsRow b t sz v l xs) : v.ownBlock ≠ some m := by
  obtain ⟨D, ⟨es, clock, hb, _⟩, _⟩ := h
  rcases ho.2 with ⟨rfl, _⟩ | ⟨g', cap, cur, rfl, _, hh, _⟩
  · simp [Value.ownBlock]
  · intro e
    obtain rfl : g' = m := by simpa [Value.ownBlock] using e
    have := hb.symm.trans hh
    cases this
theorem DL.fr0 (h : DL x r rd wt f w) (hf : Fr No w w') : DL x r rd wt f w' := by
  obtain ⟨rA, rc, wA, wc, h1, h2, h3⟩ := h.lies
  exact ⟨⟨rA, rc, wA, wc, h1.fr hf (fun e => e), own_fr h2 hf (fun _ _ e => e), own_fr h3 hf (fun _ _ e => e)⟩, h.mp.fr hf (fun e => e), h.reg⟩
theorem DL.cell (h : DL x r rd wt f w) : w.cell? ⟨x.d, 0, none⟩ = some (.slice x.cA x.code.length x.cc) ∧ w.cell? ⟨x.d, 1, none⟩ = some (.slice x.fA x.foot.length x.fc) ∧ w.cell? ⟨x.d, 2, none⟩ = some (.slice x.gA x.gs.length x.gc) ∧
    w.cell? ⟨x.d, 3, none⟩ = some (.pointer (some ⟨x.s, 0, none⟩)) ∧ w.cell? ⟨x.d, 4, none⟩ = some (.bool x.ask) ∧ w.cell? ⟨x.d, 11, none⟩ = some (.map (some x.m)) := by
  obtain ⟨rA, rc, wA, wc, h1, -, -⟩ := h.lies
  exact ⟨h1.cell 0, h1.cell 1, h1.cell 2, h1.cell 3, h1.cell 4, h1.cell 11⟩
theorem DL.rg (h : DL x r rd wt f w) {a : Nat} (ha : a < 4) : w.cell? ⟨x.d, 5 + a, none⟩ = some (.int .i64 (r a)) := by
  obtain ⟨rA, rc, wA, wc, h1, -, -⟩ := h.lies
  rw [h1.cell, x.cells_reg _ _ _ _ _ _ _ ha]
theorem DL.lt (h : DL x r rd wt f w) : x.d < w.heap.size := by
  obtain ⟨rA, rc, wA, wc, h1, -, -⟩ := h.lies
  exact h1.lt
theorem DL.frozen (h : DL x r rd wt f w) (i : Nat) : w.frozen? ⟨x.d, i, none⟩ = false := by
  obtain ⟨rA, rc, wA, wc, h1, -, -⟩ := h.lies
  exact h1.frozen i
theorem DL.md (h : DL x r rd wt f w) : x.m ≠ x.d := by
  obtain ⟨rA, rc, wA, wc, h1, -, -⟩ := h.lies
  exact h.mp.apart h1
/-- A register turned. -/
theorem DL.put (h : DL x r rd wt f w) {a : Nat} (ha : a < 4) {v : Int} (hv : I64 v) : DL x (upd r a v) rd wt f (w.setCell ⟨x.d, 5 + a, none⟩ (.int .i64 v)) := by
  obtain ⟨rA, rc, wA, wc, h1, h2, h3⟩ := h.lies
  have hb := h1.put (5 + a) (.int .i64 v)
  rw [x.cells_put _ _ _ _ _ _ _ ha] at hb
  have hf : Fr (fun k => k = x.d) w (w.setCell ⟨x.d, 5 + a, none⟩ (.int .i64 v)) := (Fr.refl (fun k => k = x.d) w).setCell (p := ⟨x.d, 5 + a, none⟩) (.inl rfl) _
  refine ⟨⟨rA, rc, wA, wc, hb, own_fr h2 hf (fun k hk e => own_apart h2 h1 (by decide) (by rw [hk, e])), own_fr h3 hf (fun k hk e => own_apart h3 h1 (by decide) (by rw [hk, e]))⟩, h.mp.fr hf h.md, fun i hi => ?_⟩
  unfold upd
  split
  · exact hv
  · exact h.reg i hi
/-- The map turned. -/
theorem DL.map (h : DL x r rd wt f w) {g : Nat → Option Value} (hf : Fr (fun k => k = x.m) w w') (hg : MI Tryz.prog 3 w' x.m 1000 g) : DL x r rd wt g w' := by
  obtain ⟨rA, rc, wA, wc, h1, h2, h3⟩ := h.lies
  exact ⟨⟨rA, rc, wA, wc, h1.fr hf (fun e => h.md e.symm), own_fr h2 hf (fun k hk e => own_map h.mp h2 (by rw [hk, e])), own_fr h3 hf (fun k hk e => own_map h.mp h3 (by rw [hk, e]))⟩, hg, h.reg⟩
end

/-- Unless all is well: a panic of its own type. -/
def pan13 (c : Int) : List PanicEntry := [{ v := .iface 111 (.int .i64 c), recovered := false }]
theorem must_any (b : Bool) (c : Int) (w : World) : Calls Tryz.prog 119 #[.bool b, .int .i64 c] w fun e w' => w' = w ∧ e = if b = true then .returned (.tuple #[]) else .panicked (pan13 c) := by
  cases b
  · go_enter Tryz.func119, Tryz.ntmps119
    go_wp2
    exact ⟨rfl, rfl, rfl⟩
  · go_enter Tryz.func119, Tryz.ntmps119
    go_wp2
    first | go_end0 | skip
    exact ⟨rfl, rfl⟩

section
variable {x : Dx} {w w' : World} {r : Nat → Int} {rd wt : Nat → Bool} {f : Nat → Option Value}
set_option maxHeartbeats 1000000 in
theorem dKey_any (hs : Dst x w) (hl : DL x r rd wt f w) (a b : Int) (hk : keyOk a b x.gs.length = true) :
    Calls Tryz.prog 113 #[.pointer (some ⟨x.d, 0, none⟩), kcell (a, b)] w fun e w' => e = .returned (.int .i64 (keyOf a b x.gs)) ∧ Fr No w w' := by
  have h3 := hs.gl
  have HC := Lib.hid (fun W (h : Fr No w W) => key_any a b x.gs x.gA x.gs.length x.gc W ((hs.fr0 h).args.more (Nat.le_of_lt (hs.fr0 h).lt)) rfl (by omega))
  have e1 : keyV a b x.gs = (keyOf a b x.gs, true) := by unfold keyV; rw [hs.ga, hk]; rfl
  rw [e1] at HC
  obtain ⟨-, -, c2, -⟩ := hl.cell
  have hdl := hl.lt
  have f0 : Fr No w (w.alloc (.cells #[.int .i64 a, .int .i64 b] 64)) := (Fr.refl _ _).alloc _
  have b0 := Bk.made w 64 #[.int .i64 a, .int .i64 b]
  have Hcs : Hid (∀ W, Fr No (w.alloc (.cells #[.int .i64 a, .int .i64 b] 64)) W → W.cell? ⟨w.heap.size, 0, none⟩ = some (.int .i64 a) ∧ W.cell? ⟨w.heap.size, 1, none⟩ = some (.int .i64 b) ∧ W.cell? ⟨x.d, 2, none⟩ = some (.slice x.gA x.gs.length x.gc)) := Lib.hid (fun W hW => ⟨(b0.fr hW (fun e => e)).cell 0, (b0.fr hW (fun e => e)).cell 1, ((f0.trans' hW (fun _ _ e => e)).cell (p := ⟨x.d, 2, none⟩) hdl (fun e => e)).trans c2⟩)
  have HF0 := Lib.hid f0
  unfold KeyGot at HC
  simp only [kcell] at HC ⊢
  generalize keyOf a b x.gs = k at *
  generalize x.gs.length = n at *
  generalize x.gA = gA at *
  generalize x.gc = gc at *
  generalize x.d = d at *
  clear hs hl hk h3 e1 f0 b0 c2
  go_enter Tryz.func113, Tryz.ntmps113
  go_wp2_with fail
  have g0 := Hcs.out _ ((Fr.refl No _).drew)
  go_region_held3 (fun w' => w'.cell? ⟨w.heap.size, 0, none⟩ = some (.int .i64 a) ∧ w'.cell? ⟨w.heap.size, 1, none⟩ = some (.int .i64 b) ∧ w'.cell? ⟨d, 2, none⟩ = some (.slice gA n gc))
    (first | exact g1 | exact g0 | go_keep)
    ((go_at_call 130
      refine (HC.out _ HF0.out.drew).mono ?_
      rintro e w1 ⟨rfl, f1⟩
      have F1 : Fr No (w.alloc (.cells #[.int .i64 a, .int .i64 b] 64)) w1 := ((Fr.refl No _).drew).trans' f1 (fun _ _ e => e)
      have g1 := Hcs.out _ F1))
  all_goals
    go_wp2
    go_ret
    exact ⟨rfl, HF0.out.trans' F1 (fun _ _ e => e)⟩
end
end Go.Proofs.YthenadijiepmnaaGreat
