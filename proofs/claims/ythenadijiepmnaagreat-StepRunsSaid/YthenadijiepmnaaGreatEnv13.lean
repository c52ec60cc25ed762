/- What the document's own Run holds while a step is done: the two sets that may be, the map, the registers, what was read and written. -/
import Derived.Test.YthenadijiepmnaaGreatRcp13
namespace Go.Proofs.YthenadijiepmnaaGreat
open Go.RowKit

def rcells (r : Nat → Int) : Array Value := #[.int .i64 (r 0), .int .i64 (r 1), .int .i64 (r 2), .int .i64 (r 3)]
theorem rcells_at (r : Nat → Int) {a : Nat} (ha : a < 4) : (rcells r)[a]? = some (.int .i64 (r a)) := by
  rcases (show a = 0 ∨ a = 1 ∨ a = 2 ∨ a = 3 by omega) with rfl | rfl | rfl | rfl <;> rfl
theorem rcells_put (r : Nat → Int) {a : Nat} (ha : a < 4) (v : Int) : (rcells r).setIfInBounds a (.int .i64 v) = rcells (upd r a v) := by
  rcases (show a = 0 ∨ a = 1 ∨ a = 2 ∨ a = 3 by omega) with rfl | rfl | rfl | rfl <;> simp [rcells, upd]
theorem upd_twice {α : Type} (f : Nat → α) (i : Nat) (u v : α) : upd (upd f i u) i v = upd f i v := by
  funext k
  unfold upd
  split <;> rfl
structure RE (w : World) (g1 g2 gc gr gd gw : Nat) (mr mw : Nat → Bool) (s : Sst) : Prop where
  b1 : Bk w g1 87 (flags 1000 mr)
  b2 : Bk w g2 87 (flags 1000 mw)
  mp : RM w gc s.m
  rg : Bk w gr 27 (rcells s.r)
  rd : Bk w gd 87 (flags 1000 s.rd)
  wt : Bk w gw 87 (flags 1000 s.wt)
  o1 : g1 < gc
  o2 : g2 < gc
  o3 : gc < gr
  o4 : gr < gd
  o5 : gd < gw
  reg : ∀ i, i < 4 → I64 (s.r i)
  vals : ∀ k v, s.m k = some v → I64 v
section
variable {ask : Bool} {mr mw : Nat → Bool} {gs : List Int} {i : Ins} {s : Sst} {k a b c : Nat}
theorem st_one (ho : i.op = 1) (hk : keyOf i.ka i.kb gs = (k : Int)) (ha : i.a = (a : Int)) : stepI ask mr mw gs i s = if (ask && !mr k) = true then .error 9 else .ok { s with rd := upd s.rd k true, r := upd s.r a (valM s.m k) } := by
  unfold stepI keyN
  rw [if_pos ho, hk, ha]
  rfl
theorem st_two (ho : i.op = 2) (hk : keyOf i.ka i.kb gs = (k : Int)) (ha : i.a = (a : Int)) : stepI ask mr mw gs i s = if (ask && !mw k) = true then .error 9 else .ok { s with wt := upd s.wt k true, m := upd s.m k (some (s.r a)) } := by
  unfold stepI keyN
  rw [if_neg (by omega), if_pos ho, hk, ha]
  rfl
theorem st_three (ho : i.op = 3) (hk : keyOf i.ka i.kb gs = (k : Int)) : stepI ask mr mw gs i s = if (ask && !mw k) = true then .error 9 else .ok { s with wt := upd s.wt k true, m := upd s.m k none } := by
  unfold stepI keyN
  rw [if_neg (by omega), if_neg (by omega), if_pos ho, hk]
  rfl
theorem st_four {n : Nat} (ho : i.op = 4) (hk : keyOf i.ka i.kb gs = (k : Int)) (hn : (keyOf i.la i.lb gs + 1 - k).toNat = n) (ha : i.a = (a : Int)) : stepI ask mr mw gs i s = if (ask && !allIn mr k n) = true then .error 9 else .ok { s with rd := fun j => s.rd j || between k n j, r := upd s.r a (cntM s.m k n : Nat) } := by
  unfold stepI keyN span
  rw [if_neg (by omega), if_neg (by omega), if_neg (by omega), if_pos ho, hk, ha, hn]
  rfl
theorem st_five (ho : i.op = 5) (ha : i.a = (a : Int)) : stepI ask mr mw gs i s = .ok { s with r := upd s.r a i.x } := by
  unfold stepI
  rw [if_neg (by omega), if_neg (by omega), if_neg (by omega), if_neg (by omega), if_pos ho, ha]
  rfl
theorem st_six (ho : i.op = 6) (ha : i.a = (a : Int)) (hb : i.b = (b : Int)) (hc : i.c = (c : Int)) : stepI ask mr mw gs i s = if fitI (s.r b + s.r c) = true then .ok { s with r := upd s.r a (s.r b + s.r c) } else .error 8 := by
  unfold stepI
  rw [if_neg (by omega), if_neg (by omega), if_neg (by omega), if_neg (by omega), if_neg (by omega), if_pos ho, ha, hb, hc]
  rfl
theorem st_seven (ho : i.op = 7) (ha : i.a = (a : Int)) (hb : i.b = (b : Int)) (hc : i.c = (c : Int)) : stepI ask mr mw gs i s = if fitI (s.r b - s.r c) = true then .ok { s with r := upd s.r a (s.r b - s.r c) } else .error 8 := by
  unfold stepI
  rw [if_neg (by omega), if_neg (by omega), if_neg (by omega), if_neg (by omega), if_neg (by omega), if_neg (by omega), if_pos ho, ha, hb, hc]
  rfl
theorem st_eight (ho : i.op = 8) (ha : i.a = (a : Int)) : stepI ask mr mw gs i s = if s.r a < i.x then .error 7 else .ok s := by
  unfold stepI
  rw [if_neg (by omega), if_neg (by omega), if_neg (by omega), if_neg (by omega), if_neg (by omega), if_neg (by omega), if_neg (by omega), ha]
  rfl
theorem valM_no {m : Mp} {k : Nat} (h : isM m k = false) : valM m k = 0 := by
  unfold isM at h
  unfold valM
  cases e : m k with
  | none => rfl
  | some v => rw [e] at h; cases h
end
/-- The blocks that turn. -/
def RT (gc gr gd gw : Nat) (k : Nat) : Prop := k = gc ∨ k = gr ∨ k = gd ∨ k = gw
section
variable {w w' : World} {g1 g2 gc gr gd gw : Nat} {mr mw : Nat → Bool} {s : Sst}
theorem RE.fr (h : RE w g1 g2 gc gr gd gw mr mw s) (hf : Fr No w w') : RE w' g1 g2 gc gr gd gw mr mw s :=
  ⟨h.b1.fr hf (fun e => e), h.b2.fr hf (fun e => e), h.mp.fr hf (fun e => e), h.rg.fr hf (fun e => e), h.rd.fr hf (fun e => e), h.wt.fr hf (fun e => e), h.o1, h.o2, h.o3, h.o4, h.o5, h.reg, h.vals⟩
theorem RE.may1 (h : RE w g1 g2 gc gr gd gw mr mw s) {k : Nat} (hk : k < 1000) : w.cell? ⟨g1, k, none⟩ = some (.bool (mr k)) := by rw [h.b1.cell, flags_at _ _ _ hk]
theorem RE.may2 (h : RE w g1 g2 gc gr gd gw mr mw s) {k : Nat} (hk : k < 1000) : w.cell? ⟨g2, k, none⟩ = some (.bool (mw k)) := by rw [h.b2.cell, flags_at _ _ _ hk]
theorem RE.is (h : RE w g1 g2 gc gr gd gw mr mw s) {k : Nat} (hk : k < 1000) : w.cell? ⟨gc, k, none⟩ = some (.bool (isM s.m k)) := by
  obtain ⟨b, v, h1, h2⟩ := h.mp
  rw [h1.mis hk, h2.is hk]
theorem RE.val (h : RE w g1 g2 gc gr gd gw mr mw s) {k : Nat} (hk : k < 1000) (hi : isM s.m k = true) : w.cell? ⟨gc, 1000 + k, none⟩ = some (.int .i64 (valM s.m k)) := by
  obtain ⟨b, v, h1, h2⟩ := h.mp
  rw [h2.is hk] at hi
  rw [h1.mv hk, h2.val hk, if_pos hi]
theorem RE.reg_at (h : RE w g1 g2 gc gr gd gw mr mw s) {a : Nat} (ha : a < 4) : w.cell? ⟨gr, a, none⟩ = some (.int .i64 (s.r a)) := by rw [h.rg.cell, rcells_at _ ha]
theorem RE.wr_at (h : RE w g1 g2 gc gr gd gw mr mw s) {k : Nat} (hk : k < 1000) : w.cell? ⟨gw, k, none⟩ = some (.bool (s.wt k)) := by rw [h.wt.cell, flags_at _ _ _ hk]
theorem RE.rd_at (h : RE w g1 g2 gc gr gd gw mr mw s) {k : Nat} (hk : k < 1000) : w.cell? ⟨gd, k, none⟩ = some (.bool (s.rd k)) := by rw [h.rd.cell, flags_at _ _ _ hk]
theorem RE.frz (h : RE w g1 g2 gc gr gd gw mr mw s) (k : Nat) : w.frozen? ⟨gr, k, none⟩ = false ∧ w.frozen? ⟨gd, k, none⟩ = false ∧ w.frozen? ⟨gw, k, none⟩ = false ∧ w.frozen? ⟨gc, k, none⟩ = false := by
  obtain ⟨b, v, h1, h2⟩ := h.mp
  exact ⟨h.rg.frozen k, h.rd.frozen k, h.wt.frozen k, h1.frozen k⟩
theorem valM_I64 (h : RE w g1 g2 gc gr gd gw mr mw s) (k : Nat) : I64 (valM s.m k) := by
  unfold valM
  cases e : s.m k with
  | none => exact ⟨by decide, by decide⟩
  | some v => exact h.vals k v e
theorem one_set (w : World) (g k : Nat) (v : Value) : Fr (fun i => i = g) w (w.setCell ⟨g, k, none⟩ v) := (Fr.refl (fun i => i = g) w).setCell (p := ⟨g, k, none⟩) (.inl rfl) v
theorem RE.setR (h : RE w g1 g2 gc gr gd gw mr mw s) {a : Nat} (ha : a < 4) {v : Int} (hv : I64 v) : RE (w.setCell ⟨gr, a, none⟩ (.int .i64 v)) g1 g2 gc gr gd gw mr mw { s with r := upd s.r a v } := by
  have hf := one_set w gr a (.int .i64 v)
  have h1 := h.o1; have h2 := h.o2; have h3 := h.o3; have h4 := h.o4; have h5 := h.o5
  have hb := h.rg.put a (.int .i64 v)
  rw [rcells_put _ ha] at hb
  refine ⟨h.b1.fr hf (by omega), h.b2.fr hf (by omega), h.mp.fr hf (by omega), hb, h.rd.fr hf (by omega), h.wt.fr hf (by omega), h1, h2, h3, h4, h5, fun i hi => ?_, h.vals⟩
  show I64 (upd s.r a v i)
  unfold upd
  split
  · exact hv
  · exact h.reg i hi
theorem RE.setD (h : RE w g1 g2 gc gr gd gw mr mw s) (k : Nat) : RE (w.setCell ⟨gd, k, none⟩ (.bool true)) g1 g2 gc gr gd gw mr mw { s with rd := upd s.rd k true } := by
  have hf := one_set w gd k (.bool true)
  have h1 := h.o1; have h2 := h.o2; have h3 := h.o3; have h4 := h.o4; have h5 := h.o5
  have hb := h.rd.put k (.bool true)
  rw [flags_put] at hb
  exact ⟨h.b1.fr hf (by omega), h.b2.fr hf (by omega), h.mp.fr hf (by omega), h.rg.fr hf (by omega), hb, h.wt.fr hf (by omega), h1, h2, h3, h4, h5, h.reg, h.vals⟩
theorem RE.setW (h : RE w g1 g2 gc gr gd gw mr mw s) (k : Nat) : RE (w.setCell ⟨gw, k, none⟩ (.bool true)) g1 g2 gc gr gd gw mr mw { s with wt := upd s.wt k true } := by
  have hf := one_set w gw k (.bool true)
  have h1 := h.o1; have h2 := h.o2; have h3 := h.o3; have h4 := h.o4; have h5 := h.o5
  have hb := h.wt.put k (.bool true)
  rw [flags_put] at hb
  exact ⟨h.b1.fr hf (by omega), h.b2.fr hf (by omega), h.mp.fr hf (by omega), h.rg.fr hf (by omega), h.rd.fr hf (by omega), hb, h1, h2, h3, h4, h5, h.reg, h.vals⟩
theorem RE.setM (h : RE w g1 g2 gc gr gd gw mr mw s) {k : Nat} (hk : k < 1000) {v : Int} (hv : I64 v) : RE ((w.setCell ⟨gc, k, none⟩ (.bool true)).setCell ⟨gc, 1000 + k, none⟩ (.int .i64 v)) g1 g2 gc gr gd gw mr mw { s with m := upd s.m k (some v) } := by
  have hf : Fr (fun i => i = gc) w ((w.setCell ⟨gc, k, none⟩ (.bool true)).setCell ⟨gc, 1000 + k, none⟩ (.int .i64 v)) := (one_set w gc k (.bool true)).setCell (p := ⟨gc, 1000 + k, none⟩) (.inl rfl) _
  have h1 := h.o1; have h2 := h.o2; have h3 := h.o3; have h4 := h.o4; have h5 := h.o5
  obtain ⟨b, u, hb, hm⟩ := h.mp
  have hb1 := hb.put k (.bool true)
  rw [mcells_putB _ _ hk] at hb1
  have hb2 := hb1.put (1000 + k) (.int .i64 v)
  rw [mcells_putV _ _ hk] at hb2
  refine ⟨h.b1.fr hf (by omega), h.b2.fr hf (by omega), ⟨_, _, hb2, hm.put k v⟩, h.rg.fr hf (by omega), h.rd.fr hf (by omega), h.wt.fr hf (by omega), h1, h2, h3, h4, h5, h.reg, fun j x hj => ?_⟩
  have hj : upd s.m k (some v) j = some x := hj
  unfold upd at hj
  split at hj
  · injection hj with hj; rw [← hj]; exact hv
  · exact h.vals j x hj
theorem RE.outM (h : RE w g1 g2 gc gr gd gw mr mw s) {k : Nat} (hk : k < 1000) : RE (w.setCell ⟨gc, k, none⟩ (.bool false)) g1 g2 gc gr gd gw mr mw { s with m := upd s.m k none } := by
  have hf := one_set w gc k (.bool false)
  have h1 := h.o1; have h2 := h.o2; have h3 := h.o3; have h4 := h.o4; have h5 := h.o5
  obtain ⟨b, u, hb, hm⟩ := h.mp
  have hb1 := hb.put k (.bool false)
  rw [mcells_putB _ _ hk] at hb1
  refine ⟨h.b1.fr hf (by omega), h.b2.fr hf (by omega), ⟨_, _, hb1, hm.out k⟩, h.rg.fr hf (by omega), h.rd.fr hf (by omega), h.wt.fr hf (by omega), h1, h2, h3, h4, h5, h.reg, fun j x hj => ?_⟩
  have hj : upd s.m k none j = some x := hj
  unfold upd at hj
  split at hj
  · cases hj
  · exact h.vals j x hj
/-- Some of an instruction's cells stand in a block that doesn't turn. -/
theorem cell_T {T : Nat → Prop} {p j : Nat} {v : Value} (h : w.cell? ⟨p, j, none⟩ = some v) (hf : Fr T w w') (hp : ¬ T p) : w'.cell? ⟨p, j, none⟩ = some v := by
  have hlt : p < w.heap.size := Decidable.byContradiction fun hn => by
    rw [show w.cell? ⟨p, j, none⟩ = none from by simp [World.cell?, Array.getElem?_eq_none (Nat.le_of_not_lt hn)]] at h
    cases h
  rw [hf.cell (p := ⟨p, j, none⟩) hlt hp]
  exact h
end
end Go.Proofs.YthenadijiepmnaaGreat
