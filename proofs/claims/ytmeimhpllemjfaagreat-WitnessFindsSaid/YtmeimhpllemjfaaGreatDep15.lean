/- Which nodes depend on which, purely: a relation that grows until it doesn't; what it is. -/
import Derived.Test.YtmeimhpllemjfaaGreatUnt14
import Derived.Test.YtmeimhpllemjfaaGreatRef4
namespace Go.Proofs.YtmeimhpllemjfaaGreat
open Go.RowKit

def dirB (h : List Nd) (i k : Nat) : Bool := decide (k < i ∧ i < h.length) && (decide ((ndAt h i).saga = (ndAt h k).saga) || confN (ndAt h i) (ndAt h k))
def wsh (d : Nat → Nat → Bool) : Nat → Nat → Nat → Bool
 | 0, i, k => d i k
 | m + 1, i, k => wsh d m i k || (wsh d m i m && wsh d m m k)
theorem wsh_more {d : Nat → Nat → Bool} {m i k : Nat} (h : wsh d m i k = true) : wsh d (m + 1) i k = true := by
 unfold wsh
 rw [h]
 rfl
theorem wsh_up {d : Nat → Nat → Bool} {m n i k : Nat} (hmn : m ≤ n) (h : wsh d m i k = true) : wsh d n i k = true := by
 induction n with
 | zero => cases (show m = 0 by omega); exact h
 | succ n ih =>
  by_cases e : m = n + 1
  ·rw [← e]; exact h
  ·exact wsh_more (ih (by omega))
theorem wsh_step {d : Nat → Nat → Bool} {m i k : Nat} : wsh d (m + 1) i k = true ↔ wsh d m i k = true ∨ (wsh d m i m = true ∧ wsh d m m k = true) := by
 show (wsh d m i k || (wsh d m i m && wsh d m m k)) = true ↔ _
 rw [Bool.or_eq_true, Bool.and_eq_true]
theorem wsh_closed {d : Nat → Nat → Bool} : ∀ (m : Nat) {i j k : Nat}, j < m → wsh d m i j = true → wsh d m j k = true → wsh d m i k = true
 | 0, _, _, _, hj, _, _ => by omega
 | m + 1, i, j, k, hj, h1, h2 => by
  rw [wsh_step] at h1 h2 ⊢
  by_cases e : j = m
  ·subst e
   have a1 : wsh d j i j = true := h1.elim id (fun q => q.1)
   have a2 : wsh d j j k = true := h2.elim id (fun q => q.2)
   exact .inr ⟨a1, a2⟩
  ·have hj' : j < m := by omega
   rcases h1 with h1 | ⟨h1, h1'⟩
   ·rcases h2 with h2 | ⟨h2, h2'⟩
    ·exact .inl (wsh_closed m hj' h1 h2)
    ·exact .inr ⟨wsh_closed m hj' h1 h2, h2'⟩
   ·rcases h2 with h2 | ⟨h2, h2'⟩
    ·exact .inr ⟨h1, wsh_closed m hj' h1' h2⟩
    ·exact .inr ⟨h1, h2'⟩
theorem wsh_least {d : Nat → Nat → Bool} {R : Nat → Nat → Prop} (hd : ∀ i k, d i k = true → R i k) (hR : ∀ i j k, R i j → R j k → R i k) : ∀ m i k, wsh d m i k = true → R i k
 | 0, i, k, h => hd i k h
 | m + 1, i, k, h => by
  rw [wsh_step] at h
  rcases h with h | ⟨h1, h2⟩
  ·exact wsh_least hd hR m i k h
  ·exact hR _ _ _ (wsh_least hd hR m i m h1) (wsh_least hd hR m m k h2)
def depB (h : List Nd) (i k : Nat) : Bool := wsh (dirB h) h.length i k
theorem dirB_lt {h : List Nd} {i k : Nat} (e : dirB h i k = true) : k < i ∧ i < h.length := by
 unfold dirB at e
 rw [Bool.and_eq_true, decide_eq_true_eq] at e
 exact e.1
theorem depB_lt {h : List Nd} {i k : Nat} (e : depB h i k = true) : k < i ∧ i < h.length :=
 wsh_least (R := fun i k => k < i ∧ i < h.length) (fun _ _ q => dirB_lt q) (fun _ _ _ q r => ⟨by omega, q.2⟩) _ _ _ e
theorem depB_dir {h : List Nd} {i k : Nat} (e : dirB h i k = true) : depB h i k = true := wsh_up (m := 0) (Nat.zero_le _) e
theorem depB_trans {h : List Nd} {i j k : Nat} (e : depB h i j = true) (f : depB h j k = true) : depB h i k = true := wsh_closed _ (depB_lt f).2 e f
theorem depB_iff {h : List Nd} {i k : Nat} : depB h i k = true ↔ dirB h i k = true ∨ ∃ m, dirB h i m = true ∧ depB h m k = true := by
 constructor
 ·intro e
  refine wsh_least (R := fun i k => dirB h i k = true ∨ ∃ m, dirB h i m = true ∧ depB h m k = true) (fun _ _ q => .inl q) (fun i j k q r => ?_) _ _ _ e
  have rj : depB h j k = true := by
   rcases r with r | ⟨m, r1, r2⟩
   ·exact depB_dir r
   ·exact depB_trans (depB_dir r1) r2
  rcases q with q | ⟨m, q1, q2⟩
  ·exact .inr ⟨j, q, rj⟩
  ·exact .inr ⟨m, q1, depB_trans q2 rj⟩
 ·rintro (e | ⟨m, e, f⟩)
  ·exact depB_dir e
  ·exact depB_trans (depB_dir e) f
theorem depB_same {h g : List Nd} {n : Nat} (hd : ∀ i k, i < n → dirB h i k = dirB g i k) : ∀ i, i < n → ∀ k, depB h i k = depB g i k := by
 intro i
 induction i using Nat.strongRecOn with
 | _ i ih =>
  intro hi k
  rw [Bool.eq_iff_iff, depB_iff, depB_iff, hd i k hi]
  constructor
  ·rintro (e | ⟨m, e, f⟩)
   ·exact .inl e
   ·rw [hd i m hi] at e
    exact .inr ⟨m, e, by rw [← ih m (dirB_lt e).1 (by have := (dirB_lt e).1; omega)]; exact f⟩
  ·rintro (e | ⟨m, e, f⟩)
   ·exact .inl e
   ·have hm := (dirB_lt e).1
    rw [← hd i m hi] at e
    exact .inr ⟨m, e, by rw [ih m hm (by omega)]; exact f⟩
theorem dirB_take {h : List Nd} {n i k : Nat} (hn : n ≤ h.length) (hi : i < n) : dirB (h.take n) i k = dirB h i k := by
 unfold dirB
 rw [List.length_take, Nat.min_eq_left hn]
 by_cases hk : k < i
 ·have e1 : ndAt (h.take n) i = ndAt h i := by unfold ndAt; rw [List.getD_eq_getElem?_getD, List.getD_eq_getElem?_getD, List.getElem?_take, if_pos hi]
  have e2 : ndAt (h.take n) k = ndAt h k := by unfold ndAt; rw [List.getD_eq_getElem?_getD, List.getD_eq_getElem?_getD, List.getElem?_take, if_pos (by omega)]
  rw [e1, e2, decide_eq_true (show k < i ∧ i < n by omega), decide_eq_true (show k < i ∧ i < h.length by omega)]
 ·rw [decide_eq_false (show ¬ (k < i ∧ i < n) by omega), decide_eq_false (show ¬ (k < i ∧ i < h.length) by omega)]
  rfl
def depL (h : List Nd) (i : Nat) : List Nat := (List.range i).filter (depB h i)
theorem depL_mem {h : List Nd} {i k : Nat} : k ∈ depL h i ↔ depB h i k = true := by
 unfold depL
 rw [List.mem_filter, List.mem_range]
 exact ⟨fun q => q.2, fun q => ⟨(depB_lt q).1, q⟩⟩
theorem wsh_place {d : Nat → Nat → Bool} (hd : ∀ i k, d i k = true → k < i) (m i k : Nat) : wsh d (m + 1) m k = wsh d m m k ∧ wsh d (m + 1) i m = wsh d m i m := by
 have hm : wsh d m m m = false := by
  cases e : wsh d m m m
  ·rfl
  ·exact absurd (wsh_least (R := fun i k => k < i) hd (fun _ _ _ q r => by omega) _ _ _ e) (Nat.lt_irrefl m)
 constructor
 ·show (wsh d m m k || (wsh d m m m && wsh d m m k)) = _
  rw [hm]
  simp
 ·show (wsh d m i m || (wsh d m i m && wsh d m m m)) = _
  rw [hm]
  simp
def curW (d : Nat → Nat → Bool) (m i k i' k' : Nat) : Bool := if i' < i ∨ (i' = i ∧ k' < k) then wsh d (m + 1) i' k' else wsh d m i' k'
theorem curW_zero (d : Nat → Nat → Bool) (m i' k' : Nat) : curW d m 0 0 i' k' = wsh d m i' k' := by
 unfold curW
 rw [if_neg (by omega)]
theorem curW_row (d : Nat → Nat → Bool) {m i n i' k' : Nat} (hk : k' < n) : curW d m i n i' k' = curW d m (i + 1) 0 i' k' := by
 unfold curW
 by_cases h : i' < i ∨ i' = i
 ·rw [if_pos (by omega), if_pos (by omega)]
 ·rw [if_neg (by omega), if_neg (by omega)]
theorem curW_end (d : Nat → Nat → Bool) {m n i' k' : Nat} (hi : i' < n) : curW d m n 0 i' k' = wsh d (m + 1) i' k' := by
 unfold curW
 rw [if_pos (.inl hi)]
theorem curW_left {d : Nat → Nat → Bool} (hd : ∀ i k, d i k = true → k < i) (m i k i' : Nat) : curW d m i k i' m = wsh d m i' m := by
 unfold curW
 split
 ·exact (wsh_place hd m i' 0).2
 ·rfl
theorem curW_right {d : Nat → Nat → Bool} (hd : ∀ i k, d i k = true → k < i) (m i k k' : Nat) : curW d m i k m k' = wsh d m m k' := by
 unfold curW
 split
 ·exact (wsh_place hd m 0 k').1
 ·rfl
theorem curW_step (d : Nat → Nat → Bool) (m i k i' k' : Nat) : curW d m i (k + 1) i' k' = if i' = i ∧ k' = k then (curW d m i k i k || (wsh d m i m && wsh d m m k)) else curW d m i k i' k' := by
 by_cases h : i' = i ∧ k' = k
 ·obtain ⟨rfl, rfl⟩ := h
  rw [if_pos ⟨rfl, rfl⟩]
  unfold curW
  rw [if_pos (by omega), if_neg (by omega)]
  rfl
 ·rw [if_neg h]
  unfold curW
  by_cases h2 : i' < i ∨ (i' = i ∧ k' < k)
  ·rw [if_pos h2, if_pos (by omega)]
  ·rw [if_neg h2, if_neg (by omega)]
theorem dirB_down (h : List Nd) (i k : Nat) (e : dirB h i k = true) : k < i := (dirB_lt e).1
theorem depL_lt {h : List Nd} {i k : Nat} (e : k ∈ depL h i) : k < i := (depB_lt (depL_mem.1 e)).1
theorem dirB_snoc {h : List Nd} (n : Nd) {i k : Nat} (hi : i < h.length) : dirB (h ++ [n]) i k = dirB h i k := by
 have := dirB_take (h := h ++ [n]) (n := h.length) (k := k) (by simp) hi
 rw [List.take_left] at this
 exact this.symm
theorem depB_snoc {h : List Nd} (n : Nd) {i : Nat} (hi : i < h.length) (k : Nat) : depB (h ++ [n]) i k = depB h i k := depB_same (fun _ _ hi => dirB_snoc n hi) i hi k
theorem depL_snoc {h : List Nd} (n : Nd) {i : Nat} (hi : i < h.length) : depL (h ++ [n]) i = depL h i := by
 unfold depL
 congr 1
 funext k
 exact depB_snoc n hi k
end Go.Proofs.YtmeimhpllemjfaaGreat
/- Lists of lists of numbers as they lie. -/
namespace Go.Proofs.YtmeimhpllemjfaaGreat
open Go.RowKit

structure IL where
 A : Option Addr
 l : List Nat
 c : Nat
def IL.cell (x : IL) : Value := .slice x.A x.l.length x.c
def nums (l : List Nat) : List Value := l.map fun (k : Nat) => Value.int .i64 (k : Int)
theorem nums_at (l : List Nat) {k : Nat} (hk : k < l.length) : (nums l)[k]? = some (.int .i64 ((l[k] : Nat) : Int)) := by simp [nums, hk]
theorem Sl.num {w : World} {B : Nat} {A : Option Addr} {l : List Nat} (h : Sl w B A (nums l)) {k : Nat} (hk : k < l.length) : ∃ ad, A = some ad ∧ ad.block < B ∧ w.cell? (ad.add k) = some (.int .i64 ((l[k] : Nat) : Int)) := by
 obtain ⟨ad, e, hb, hc⟩ := h (by intro e; simp [nums] at e; subst e; simp at hk)
 exact ⟨ad, e, hb, hc k _ (nums_at l hk)⟩
structure Ils (w : World) (A : Option Addr) (ls : List IL) : Prop where
 sl : Sl w w.heap.size A (ls.map IL.cell)
 all : ∀ x ∈ ls, Sl w w.heap.size x.A (nums x.l)
theorem Ils.since {w W : World} {A : Option Addr} {ls : List IL} (h : Ils w A ls) (hf : Fr No w W) : Ils W A ls := ⟨h.sl.since hf, fun x hx => (h.all x hx).since hf⟩
theorem Sl.il {w : World} {B : Nat} {A : Option Addr} {ls : List IL} (h : Sl w B A (ls.map IL.cell)) {k : Nat} (hk : k < ls.length) : ∃ ad, A = some ad ∧ ad.block < B ∧ w.cell? (ad.add k) = some (.slice ls[k].A ls[k].l.length ls[k].c) := by
 obtain ⟨ad, e, hb, hc⟩ := h (by intro e; simp at e; subst e; simp at hk)
 exact ⟨ad, e, hb, hc k _ (by simp [hk, IL.cell])⟩
def OfL (h : List Nd) (ls : List IL) : Prop := ls.map IL.l = (List.range h.length).map (depL h)
theorem OfL.len {h : List Nd} {ls : List IL} (e : OfL h ls) : ls.length = h.length := by
 have := congrArg List.length e
 simpa using this
theorem OfL.at {h : List Nd} {ls : List IL} (e : OfL h ls) {k : Nat} (hk : k < ls.length) : ls[k].l = depL h k := by
 have h1 : (ls.map IL.l)[k]? = ((List.range h.length).map (depL h))[k]? := by rw [e]
 have hl := e.len
 simpa [hk, show k < h.length by omega] using h1
end Go.Proofs.YtmeimhpllemjfaaGreat
/- A relation as it lies: rows of flags, each in a block of its own. -/
namespace Go.Proofs.YtmeimhpllemjfaaGreat
open Go.RowKit

def rowsA (n i : Nat) (g : Nat → Nat) : Array Value := ((List.range n).map fun j => if j < i then Value.slice (some ⟨g j, 0, none⟩) n n else Value.slice none 0 0).toArray
theorem rowsA_size (n i : Nat) (g : Nat → Nat) : (rowsA n i g).size = n := by simp [rowsA]
theorem rowsA_at {n i : Nat} (g : Nat → Nat) {j : Nat} (hj : j < n) : (rowsA n i g)[j]? = some (if j < i then Value.slice (some ⟨g j, 0, none⟩) n n else Value.slice none 0 0) := by simp [rowsA, hj]
theorem rowsA_made (n : Nat) (g : Nat → Nat) : madeCells #[Value.slice none 0 0] n = rowsA n 0 g := by
 refine Array.ext (by rw [size_madeCells, rowsA_size]) fun j h1 h2 => ?_
 simp [madeCells, rowsA, Nat.mod_one]
def updN (g : Nat → Nat) (i q : Nat) (j : Nat) : Nat := if j = i then q else g j
theorem rowsA_put {n i : Nat} (g : Nat → Nat) (q : Nat) : (rowsA n i g).setIfInBounds i (.slice (some ⟨q, 0, none⟩) n n) = rowsA n (i + 1) (updN g i q) := by
 refine Array.ext_getElem? fun j => ?_
 rw [Array.getElem?_setIfInBounds, rowsA_size]
 by_cases hj : j < n
 ·rw [rowsA_at _ hj, rowsA_at _ hj]
  by_cases e : i = j
  ·subst e
   rw [if_pos rfl, if_pos hj, if_pos (by omega)]
   simp [updN]
  ·rw [if_neg e]
   by_cases h : j < i
   ·rw [if_pos h, if_pos (by omega)]
    simp [updN, show ¬ j = i by omega]
   ·rw [if_neg h, if_neg (by omega)]
 ·rw [Array.getElem?_eq_none (by rw [rowsA_size]; omega), Array.getElem?_eq_none (by rw [rowsA_size]; omega)]
  by_cases e : i = j
  ·rw [if_pos e, if_neg (by omega)]
  ·rw [if_neg e]
structure MatB (w : World) (B : Nat) (tr tb : TypeId) (G n i : Nat) (g : Nat → Nat) (f : Nat → Nat → Bool) : Prop where
 rows : Bk w G tr (rowsA n i g)
 row : ∀ j, j < i → Bk w (g j) tb (flags n (f j))
 inj : ∀ j k, j < i → k < i → g j = g k → j = k
 new : B ≤ G ∧ ∀ j, j < i → B ≤ g j
section
variable {w w' : World} {B : Nat} {tr tb : TypeId} {G n i : Nat} {g : Nat → Nat} {f f' : Nat → Nat → Bool}
theorem MatB.since (h : MatB w B tr tb G n i g f) (hf : Fr No w w') : MatB w' B tr tb G n i g f := ⟨h.rows.fr hf (fun e => e), fun j hj => (h.row j hj).fr hf (fun e => e), h.inj, h.new⟩
theorem MatB.fr {S : Nat → Prop} (h : MatB w B tr tb G n i g f) (hf : Fr S w w') (h1 : ¬ S G) (h2 : ∀ j, j < i → ¬ S (g j)) : MatB w' B tr tb G n i g f := ⟨h.rows.fr hf h1, fun j hj => (h.row j hj).fr hf (h2 j hj), h.inj, h.new⟩
theorem MatB.congr (h : MatB w B tr tb G n i g f) (he : ∀ j k, j < i → k < n → f j k = f' j k) : MatB w B tr tb G n i g f' := ⟨h.rows, fun j hj => by rw [← flags_congr n (f j) (f' j) (fun k hk => he j k hj hk)]; exact h.row j hj, h.inj, h.new⟩
theorem MatB.apart (h : MatB w B tr tb G n i g f) (ht : tr ≠ tb) {j : Nat} (hj : j < i) : g j ≠ G := fun e => Bk.apart h.rows (h.row j hj) ht e.symm
theorem MatB.cellR (h : MatB w B tr tb G n i g f) {j : Nat} (hj : j < i) (hn : i ≤ n) : w.cell? ⟨G, j, none⟩ = some (.slice (some ⟨g j, 0, none⟩) n n) := by
 rw [h.rows.cell j, rowsA_at g (by omega), if_pos hj]
theorem MatB.cellB (h : MatB w B tr tb G n i g f) {j k : Nat} (hj : j < i) (hk : k < n) : w.cell? ⟨g j, k, none⟩ = some (.bool (f j k)) := by
 rw [(h.row j hj).cell k, flags_at n _ k hk]
theorem MatB.start (w : World) (B : Nat) (tr tb : TypeId) (n : Nat) (hB : B ≤ w.heap.size) : MatB (w.alloc (.cells (rowsA n 0 fun _ => 0) tr)) B tr tb w.heap.size n 0 (fun _ => 0) fun _ _ => false :=
 ⟨Bk.made w tr _, fun j hj => by omega, fun j k hj => by omega, hB, fun j hj => by omega⟩
theorem MatB.more (h : MatB w B tr tb G n i g f) (ht : tr ≠ tb) (q : Nat) {W : World} (hW : Fr No w W) (hq : Bk W q tb (flags n (f' i))) (hqn : w.heap.size ≤ q) (hBw : B ≤ w.heap.size) (hff : ∀ j, j < i → ∀ k, k < n → f j k = f' j k) :
  MatB (W.setCell ⟨G, i, none⟩ (.slice (some ⟨q, 0, none⟩) n n)) B tr tb G n (i + 1) (updN g i q) f' := by
 have h0 := h.since hW
 have hX : Fr (fun k => k = G) W (W.setCell ⟨G, i, none⟩ (.slice (some ⟨q, 0, none⟩) n n)) := (Fr.refl (fun k => k = G) W).setCell (.inl rfl) _
 have hlt : ∀ j, j < i → g j < w.heap.size := fun j hj => (h.row j hj).lt
 refine ⟨?_, fun j hj => ?_, fun j k hj hk e => ?_, h.new.1, fun j hj => ?_⟩
 ·rw [← rowsA_put]
  exact h0.rows.put i _
 ·by_cases e : j = i
  ·subst e
   rw [show updN g j q j = q by simp [updN]]
   exact hq.fr hX (fun e => Bk.apart h0.rows hq ht (show G = q from (show q = G from e).symm))
  ·rw [show updN g i q j = g j by simp [updN, e], ← flags_congr n (f j) (f' j) (fun k hk => hff j (by omega) k hk)]
   exact (h0.row j (by omega)).fr hX (fun e2 => h0.apart ht (show j < i by omega) e2)
 ·by_cases e1 : j = i
  ·by_cases e2 : k = i
   ·omega
   ·rw [e1, show updN g i q i = q by simp [updN], show updN g i q k = g k by simp [updN, e2]] at e
    have := hlt k (by omega)
    omega
  ·by_cases e2 : k = i
   ·rw [e2, show updN g i q i = q by simp [updN], show updN g i q j = g j by simp [updN, e1]] at e
    have := hlt j (by omega)
    omega
   ·rw [show updN g i q j = g j by simp [updN, e1], show updN g i q k = g k by simp [updN, e2]] at e
    exact h.inj j k (by omega) (by omega) e
 ·by_cases e : j = i
  ·rw [e, show updN g i q i = q by simp [updN]]
   omega
  ·rw [show updN g i q j = g j by simp [updN, e]]
   exact h.new.2 j (by omega)
theorem MatB.put (h : MatB w B tr tb G n i g f) (ht : tr ≠ tb) {a k : Nat} (ha : a < i) (b : Bool) : MatB (w.setCell ⟨g a, k, none⟩ (.bool b)) B tr tb G n i g (fun j => if j = a then upd (f a) k b else f j) := by
 have hX : Fr (fun j => j = g a) w (w.setCell ⟨g a, k, none⟩ (.bool b)) := (Fr.refl (fun j => j = g a) w).setCell (.inl rfl) _
 refine ⟨h.rows.fr hX (fun e => h.apart ht ha (show G = g a from e).symm), fun j hj => ?_, h.inj, h.new⟩
 by_cases e : j = a
 ·subst e
  rw [if_pos rfl, ← flags_put]
  exact (h.row j hj).put k (.bool b)
 ·rw [if_neg e]
  exact (h.row j hj).fr hX (fun e2 => e (h.inj j a hj ha e2))
end
theorem MatB.weak {w : World} {B B' : Nat} {tr tb : TypeId} {G n i : Nat} {g : Nat → Nat} {f : Nat → Nat → Bool} (h : MatB w B tr tb G n i g f) (hB : B' ≤ B) : MatB w B' tr tb G n i g f := ⟨h.rows, h.row, h.inj, Nat.le_trans hB h.new.1, fun j hj => Nat.le_trans hB (h.new.2 j hj)⟩
end Go.Proofs.YtmeimhpllemjfaaGreat
/- What a node that comes behind a history depends on: a set that grows as the history is gone through backwards; and a history that grows node by node. -/
namespace Go.Proofs.YtmeimhpllemjfaaGreat
open Go.RowKit

def dirN (n a : Nd) : Bool := decide (n.saga = a.saga) || confN n a
def nxS (h : List Nd) (n : Nd) (s : Nat → Bool) (k : Nat) : Nat → Bool := if !s k && dirN n (ndAt h k) then fun j => s j || (decide (j = k) || depB h k j) else s
def nxL (h : List Nd) (n : Nd) (ks : List Nat) : Nat → Bool := ks.foldl (nxS h n) fun _ => false
theorem nxL_snoc (h : List Nd) (n : Nd) (ks : List Nat) (k : Nat) : nxL h n (ks ++ [k]) = nxS h n (nxL h n ks) k := by
 unfold nxL
 rw [List.foldl_append]
 rfl
theorem ndAt_snoc_old {h : List Nd} (n : Nd) {k : Nat} (hk : k < h.length) : ndAt (h ++ [n]) k = ndAt h k := by
 unfold ndAt
 rw [List.getD_eq_getElem?_getD, List.getD_eq_getElem?_getD, List.getElem?_append_left hk]
theorem ndAt_snoc_new (h : List Nd) (n : Nd) : ndAt (h ++ [n]) h.length = n := by
 unfold ndAt
 rw [List.getD_eq_getElem?_getD, List.getElem?_append_right (Nat.le_refl _), Nat.sub_self]
 rfl
theorem dirB_new (h : List Nd) (n : Nd) (k : Nat) : dirB (h ++ [n]) h.length k = (decide (k < h.length) && dirN n (ndAt h k)) := by
 unfold dirB dirN
 rw [ndAt_snoc_new, List.length_append, List.length_singleton]
 by_cases hk : k < h.length
 ·rw [ndAt_snoc_old n hk, decide_eq_true (show k < h.length ∧ h.length < h.length + 1 by omega), decide_eq_true hk]
 ·rw [decide_eq_false (show ¬ (k < h.length ∧ h.length < h.length + 1) by omega), decide_eq_false hk]
  rfl
structure NxI (h : List Nd) (n : Nd) (s : Nat → Bool) (j : Nat) : Prop where
 sound : ∀ k, s k = true → depB (h ++ [n]) h.length k = true
 closed : ∀ k i, s k = true → depB h k i = true → s i = true
 all : ∀ k, j ≤ k → k < h.length → dirN n (ndAt h k) = true → s k = true
theorem NxI.start (h : List Nd) (n : Nd) : NxI h n (fun _ => false) h.length := ⟨fun k e => (by cases e), fun k i e => (by cases e), fun k h1 h2 => (by omega)⟩
theorem NxI.step {h : List Nd} {n : Nd} {s : Nat → Bool} {k : Nat} (hI : NxI h n s (k + 1)) (hk : k < h.length) : NxI h n (nxS h n s k) k := by
 unfold nxS
 by_cases e : (!s k && dirN n (ndAt h k)) = true
 ·rw [if_pos e]
  rw [Bool.and_eq_true, Bool.not_eq_true'] at e
  have hd : depB (h ++ [n]) h.length k = true := depB_dir (by rw [dirB_new, decide_eq_true hk, e.2]; rfl)
  refine ⟨fun i hi => ?_, fun i j hi hij => ?_, fun i hi him hdi => ?_⟩
  ·simp only [Bool.or_eq_true, decide_eq_true_eq] at hi
   rcases hi with hi | hi | hi
   ·exact hI.sound i hi
   ·rw [hi]; exact hd
   ·exact depB_trans hd (by rw [depB_snoc n hk]; exact hi)
  ·simp only [Bool.or_eq_true, decide_eq_true_eq] at hi ⊢
   rcases hi with hi | hi | hi
   ·exact .inl (hI.closed i j hi hij)
   ·rw [hi] at hij
    exact .inr (.inr hij)
   ·exact .inr (.inr (depB_trans hi hij))
  ·simp only [Bool.or_eq_true, decide_eq_true_eq]
   by_cases e2 : i = k
   ·exact .inr (.inl e2)
   ·exact .inl (hI.all i (by omega) him hdi)
 ·rw [if_neg e]
  refine ⟨hI.sound, hI.closed, fun i hi him hdi => ?_⟩
  by_cases e2 : i = k
  ·subst e2
   cases q : s i
   ·rw [q, hdi] at e
    exact absurd rfl e
   ·rfl
  ·exact hI.all i (by omega) him hdi
theorem NxI.fin {h : List Nd} {n : Nd} {s : Nat → Bool} (hI : NxI h n s 0) (k : Nat) : s k = depB (h ++ [n]) h.length k := by
 rw [Bool.eq_iff_iff]
 refine ⟨hI.sound k, fun e => ?_⟩
 have hdir : ∀ i, dirB (h ++ [n]) h.length i = true → i < h.length ∧ s i = true := fun i hi => by
  rw [dirB_new, Bool.and_eq_true, decide_eq_true_eq] at hi
  exact ⟨hi.1, hI.all i (Nat.zero_le _) hi.1 hi.2⟩
 rcases depB_iff.1 e with e | ⟨m, e, f⟩
 ·exact (hdir k e).2
 ·have hm := hdir m e
  rw [depB_snoc n hm.1] at f
  exact hI.closed m k hm.2 f
theorem nx_down (h : List Nd) (n : Nd) (ks : Nat → List Nat) (h0 : ks h.length = []) (hs : ∀ j, j < h.length → ks j = ks (j + 1) ++ [j]) : ∀ d j, j + d = h.length → NxI h n (nxL h n (ks j)) j
 | 0, j, e => by
  have e : j = h.length := by omega
  rw [e, h0]
  exact NxI.start h n
 | d + 1, j, e => by
  rw [hs j (by omega), nxL_snoc]
  exact (nx_down h n ks h0 hs d (j + 1) (by omega)).step (by omega)
theorem depL_new (h : List Nd) (n : Nd) (s : Nat → Bool) (hs : ∀ k, s k = depB (h ++ [n]) h.length k) : (List.range h.length).filter s = depL (h ++ [n]) h.length := by
 unfold depL
 congr 1
 funext k
 exact hs k
theorem OfL.more {h : List Nd} {ls : List IL} (e : OfL h ls) (n : Nd) (x : IL) (hx : x.l = depL (h ++ [n]) h.length) : OfL (h ++ [n]) (ls ++ [x]) := by
 unfold OfL at e ⊢
 rw [List.map_append, e, List.length_append, List.length_singleton, List.range_succ, List.map_append, List.map_singleton, List.map_singleton, hx]
 congr 1
 refine List.map_congr_left fun i hi => ?_
 exact (depL_snoc n (List.mem_range.1 hi)).symm
theorem OfL.nil : OfL [] [] := rfl
theorem ndsOf_len (l : List Ndl) : (ndsOf l).length = l.length := by simp [ndsOf]
theorem take_snoc_nd (l : List Ndl) {i : Nat} (hi : i < l.length) : ndsOf (l.take (i + 1)) = ndsOf (l.take i) ++ [l[i].n] := by
 unfold ndsOf
 rw [List.take_succ_eq_append_getElem hi, List.map_append]
 rfl
end Go.Proofs.YtmeimhpllemjfaaGreat
