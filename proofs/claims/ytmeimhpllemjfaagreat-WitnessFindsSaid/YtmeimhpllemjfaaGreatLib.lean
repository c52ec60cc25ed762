/- Plain words for memory: what a call may have turned (Fr), cells in a row behind an address (Sl), a block known whole (Bk). No program is spoken of. -/
import Derived.WalkKit
import Derived.WalkSpells
import Derived.WalkLawsBesides
import Derived.Maps.AppendAt
import Derived.Deep.AppendLies
import Derived.Deep.RegionLaw
import Derived.Deep.QuietTactic
import Derived.BigQuiet
import Derived.Deep.Draws
import Derived.Lib.Hide
import Derived.RegionTactic
import Derived.Test.YtmeimhpllemjfaaGreatRows
import Derived.StillTailTactics
import Derived.Deep.OwnRows
import Derived.Deep.RegionHeld3
namespace Go.Proofs.YtmeimhpllemjfaaGreat
open Go.RowKit

theorem szA {α : Type} (l : List α) (i : Nat) (a : α) : l.toArray.setIfInBounds i a = (l.set i a).toArray := by simp
theorem szB {α : Type} (a b : α) (l : List α) : (a :: l).set 0 b = b :: l := rfl
theorem szC {α : Type} (a b : α) (l : List α) (n : Nat) : (a :: l).set (n + 1) b = a :: l.set n b := rfl

theorem block_add (a : Addr) (n : Nat) : (a.add n).block = a.block := by
 cases n <;> rfl
theorem add_add' (a : Addr) (i j : Nat) : (a.add i).add j = a.add (i + j) := by
 cases i with
 | zero => simp [Addr.add]
 | succ i => cases j <;> simp [Addr.add, Nat.add_assoc]

structure Fr (S : Nat → Prop) (a w : World) : Prop where
 same : w.os = a.os ∧ w.tape = a.tape ∧ w.output = a.output
 size : a.heap.size ≤ w.heap.size
 block : ∀ k, k < a.heap.size → ¬ S k → w.heap[k]? = a.heap[k]?

def No : Nat → Prop := fun _ => False
def Of (p : Nat) (g : Option Nat) : Nat → Prop := fun k => k = p ∨ g = some k

section
variable {S S' : Nat → Prop} {a b w w' : World}
theorem Fr.refl (S : Nat → Prop) (w : World) : Fr S w w := ⟨⟨rfl, rfl, rfl⟩, Nat.le_refl _, fun _ _ _ => rfl⟩
theorem Fr.trans' (h : Fr S a b) (k : Fr S' b w) (hS : ∀ i, i < a.heap.size → S' i → S i) : Fr S a w := by
 refine ⟨⟨k.same.1.trans h.same.1, k.same.2.1.trans h.same.2.1, k.same.2.2.trans h.same.2.2⟩, Nat.le_trans h.size k.size, fun i hi hn => ?_⟩
 rw [k.block i (Nat.lt_of_lt_of_le hi h.size) (fun e => hn (hS i hi e)), h.block i hi hn]
theorem Fr.weak (h : Fr S a w) (hS : ∀ i, i < a.heap.size → S i → S' i) : Fr S' a w :=
 ⟨h.same, h.size, fun i hi hn => h.block i hi (fun e => hn (hS i hi e))⟩
theorem Fr.drew (h : Fr S a w) : Fr S a w.drew := ⟨h.same, h.size, h.block⟩
theorem Fr.drewN (h : Fr S a w) (n : Nat) : Fr S a (w.drewN n) := ⟨h.same, h.size, h.block⟩
theorem Fr.alloc (h : Fr S a w) (o : Obj) : Fr S a (w.alloc o) := by
 refine ⟨h.same, Nat.le_trans h.size (by simp), fun i hi hn => ?_⟩
 rw [Below.heap_alloc w o i (Nat.lt_of_lt_of_le hi h.size), h.block i hi hn]
theorem Fr.setCell (h : Fr S a w) {p : Addr} (hp : S p.block ∨ a.heap.size ≤ p.block) (u : Value) : Fr S a (w.setCell p u) := by
 refine ⟨h.same, by simpa [World.setCell] using h.size, fun i hi hn => ?_⟩
 have hne : i ≠ p.block := by
  rintro rfl
  rcases hp with hp | hp
  ·exact hn hp
  ·omega
 rw [heap_setCell_other w p i u hne, h.block i hi hn]
theorem Fr.grown (h : Fr S a w) {row : Option Nat} (hg : w.grownBy w' row) (hr : ∀ k, row = some k → S k ∨ a.heap.size ≤ k) : Fr S a w' := by
 refine ⟨⟨hg.os.trans h.same.1, hg.tape.trans h.same.2.1, hg.output.trans h.same.2.2⟩, Nat.le_trans h.size hg.size, fun i hi hn => ?_⟩
 have hne : some i ≠ row := by
  intro e
  rcases hr i e.symm with h1 | h1
  ·exact hn h1
  ·omega
 rw [hg.block i (Nat.lt_of_lt_of_le hi h.size) hne, h.block i hi hn]
theorem Fr.toBelow (h : Fr S a w) {B : Nat} (hB : B ≤ a.heap.size) (hS : ∀ k, S k → B ≤ k) : Below B a w :=
 ⟨h.same.1, h.same.2.1, h.same.2.2, h.size, fun k hk => h.block k (by omega) (fun e => by have := hS k e; omega)⟩
theorem Fr.below0 (h : Fr No a w) : Below a.heap.size a w := h.toBelow (Nat.le_refl _) (fun _ e => e.elim)
theorem Fr.ofBelow (h : Below a.heap.size a w) (S : Nat → Prop) : Fr S a w := ⟨⟨h.os, h.tape, h.output⟩, h.size, fun k hk _ => h.block k hk⟩
theorem Fr.cell (h : Fr S a w) {p : Addr} (hp : p.block < a.heap.size) (hn : ¬ S p.block) : w.cell? p = a.cell? p := World.cell?_of_block (w := a) (h.block p.block hp hn)
theorem Fr.then0 (h : Fr No a b) (k : Fr S b w) (hS : ∀ i, S i → a.heap.size ≤ i) : Fr No a w := h.trans' k (fun i hi e => by have := hS i e; omega)
end

def Sl (w : World) (B : Nat) (A : Option Addr) (xs : List Value) : Prop :=
 xs ≠ [] → ∃ ad, A = some ad ∧ ad.block < B ∧ ∀ j u, xs[j]? = some u → w.cell? (ad.add j) = some u

section
variable {w w' : World} {B B' : Nat} {A : Option Addr} {xs : List Value}
theorem Sl.nil (w : World) (B : Nat) (A : Option Addr) : Sl w B A [] := fun h => absurd rfl h
theorem Sl.at (h : Sl w B A xs) {k : Nat} (hk : k < xs.length) : ∃ ad, A = some ad ∧ ad.block < B ∧ w.cell? (ad.add k) = some xs[k] := by
 obtain ⟨ad, e, hb, hc⟩ := h (by rintro rfl; simp at hk)
 exact ⟨ad, e, hb, hc k _ (List.getElem?_eq_getElem hk)⟩
theorem Sl.keep (h : Sl w B A xs) (hk : ∀ p : Addr, p.block < B → w'.cell? p = w.cell? p) : Sl w' B A xs := by
 intro hn
 obtain ⟨ad, e, hb, hc⟩ := h hn
 refine ⟨ad, e, hb, fun j u hu => ?_⟩
 rw [hk _ (by rw [block_add]; exact hb)]
 exact hc j u hu
theorem Sl.more (h : Sl w B A xs) (hB : B ≤ B') : Sl w B' A xs := by
 intro hn
 obtain ⟨ad, e, hb, hc⟩ := h hn
 exact ⟨ad, e, Nat.lt_of_lt_of_le hb hB, hc⟩
theorem Sl.below (h : Sl w B A xs) (hb : Below B w w') : Sl w' B A xs := h.keep fun _ hp => hb.cell hp
theorem Sl.drop (h : Sl w B A xs) {k n cap sz : Nat} (hn : xs.length = n * sz) (hk : k ≤ n) (hc : n ≤ cap) :
  Sl w B (if cap = k then A else A.map (·.add (k * sz))) (xs.drop (k * sz)) := by
 intro hne
 have hlt : k * sz < xs.length := by
  rcases Nat.lt_or_ge (k * sz) xs.length with h1 | h1
  ·exact h1
  ·exact absurd (List.drop_eq_nil_of_le h1) hne
 have hkn : k ≠ n := by rintro rfl; omega
 obtain ⟨ad, rfl, hb, hcell⟩ := h (by rintro rfl; simp at hlt)
 rw [if_neg (by omega)]
 refine ⟨ad.add (k * sz), rfl, by rw [block_add]; exact hb, fun j u hu => ?_⟩
 rw [add_add']
 exact hcell _ u (by rw [← hu, List.getElem?_drop])
theorem Sl.take (h : Sl w B A xs) (k : Nat) : Sl w B A (xs.take k) := by
 intro hne
 obtain ⟨ad, e, hb, hc⟩ := h (by rintro rfl; simp at hne)
 refine ⟨ad, e, hb, fun j u hu => hc j u ?_⟩
 rw [List.getElem?_take] at hu
 split at hu
 ·exact hu
 ·cases hu
theorem Sl.ofOwn {base : Nat} {e : TypeId} {size n c : Nat} (h : w.ownsRow base e size (.slice A n c) n xs) : Sl w w.heap.size A xs := by
 intro hne
 have hn : 0 < n := by
  rcases Nat.eq_zero_or_pos n with h0 | h0
  ·subst h0
   exact absurd (List.eq_nil_of_length_eq_zero (by simpa using h.1)) hne
  ·exact h0
 obtain ⟨g, cap, hv, _, hlt⟩ := h.form hn
 obtain rfl : A = some ⟨g, 0, none⟩ := by injection hv
 exact ⟨_, rfl, hlt, h.cells (g := g) rfl⟩
end

theorem Sl.fr {S : Nat → Prop} {a w : World} {B : Nat} {A : Option Addr} {xs : List Value} (h : Sl a B A xs) (hf : Fr S a w) (hB : B ≤ a.heap.size) (hap : ∀ ad, A = some ad → xs ≠ [] → ¬ S ad.block) : Sl w B A xs := by
 intro hne
 obtain ⟨ad, rfl, hb, hc⟩ := h hne
 refine ⟨ad, rfl, hb, fun j u hu => ?_⟩
 rw [hf.cell (by rw [block_add]; omega) (by rw [block_add]; exact hap ad rfl hne)]
 exact hc j u hu

def Bk (w : World) (g : Nat) (t : TypeId) (cs : Array Value) : Prop := w.heap[g]? = some (.cells cs t (0, 0))

section
variable {w w' : World} {g : Nat} {t : TypeId} {cs : Array Value} {S : Nat → Prop}
theorem Bk.lt (h : Bk w g t cs) : g < w.heap.size := (Array.getElem?_eq_some_iff.1 h).1
theorem Bk.cell (h : Bk w g t cs) (i : Nat) : w.cell? ⟨g, i, none⟩ = cs[i]? := cell_of_row w g i cs t (0, 0) h
theorem Bk.frozen (h : Bk w g t cs) (i : Nat) : w.frozen? ⟨g, i, none⟩ = false := frozen_of_row w g i cs t h
theorem Bk.made (w : World) (t : TypeId) (cs : Array Value) : Bk (w.alloc (.cells cs t)) w.heap.size t cs := heap_alloc_new w _
theorem Bk.put (h : Bk w g t cs) (i : Nat) (u : Value) : Bk (w.setCell ⟨g, i, none⟩ u) g t (cs.setIfInBounds i u) := heap_setCell_same w g i cs t u h
theorem Bk.fr (h : Bk w g t cs) (hb : Fr S w w') (hg : ¬ S g) : Bk w' g t cs := (hb.block g h.lt hg).trans h
theorem Bk.grown {row : Option Nat} (h : Bk w g t cs) (hb : w.grownBy w' row) (hg : row ≠ some g) : Bk w' g t cs := (hb.block g h.lt (fun e => hg e.symm)).trans h
theorem Bk.apart {g' : Nat} {t' : TypeId} {cs' : Array Value} (h : Bk w g t cs) (h' : Bk w g' t' cs') (hne : t ≠ t') : g ≠ g' := by
 rintro rfl
 have := h.symm.trans h'
 injection this with this
 injection this with _ ht
 exact hne ht
end

section
variable {w w' : World} {base : Nat} {e : TypeId} {size n : Nat} {v : Value} {xs : List Value} {S : Nat → Prop}
theorem own_apart {g : Nat} {t : TypeId} {cs : Array Value} (h : w.ownsRow base e size v n xs) (hg : Bk w g t cs) (hne : e ≠ t) : v.ownBlock ≠ some g := by
 rcases h.2 with ⟨rfl, _⟩ | ⟨g', cap, cur, rfl, _, hh, _⟩
 ·simp [Value.ownBlock]
 ·intro he
  obtain rfl : g' = g := by simpa [Value.ownBlock] using he
  exact Bk.apart (t := e) hh hg hne rfl
theorem own_fr (h : w.ownsRow base e size v n xs) (hb : Fr S w w') (hn : ∀ k, v.ownBlock = some k → ¬ S k) : w'.ownsRow base e size v n xs := by
 refine ⟨h.1, ?_⟩
 rcases h.2 with h0 | ⟨g, cap, cur, rfl, hbg, hg, r⟩
 ·exact .inl h0
 ·exact .inr ⟨g, cap, cur, rfl, hbg, Bk.fr (t := e) hg hb (hn g rfl), r⟩
theorem own_shape (h : w.ownsRow base e size v n xs) : ∃ A c, v = .slice A n c ∧ n ≤ c ∧ c ≤ maxLen ∧ (A = none → n = 0 ∧ c = 0) := by
 rcases h.2 with ⟨rfl, rfl⟩ | ⟨g, cap, cur, rfl, _, _, h1, h2, _⟩
 ·exact ⟨none, 0, rfl, Nat.le_refl _, Nat.zero_le _, fun _ => ⟨rfl, rfl⟩⟩
 ·exact ⟨_, cap, rfl, h1, h2, by simp⟩
end

section
variable {P : Program} (w : World)
theorem run_append_src (base : Nat) (t ty e : TypeId) (i : TypeInfo) (z : Value) (size bytes : Nat) (ht : P.underlying t = some (.slice e)) (hi : P.info? e = some i) (hz : i.zero = some z)
  (hsize : i.size = size) (hby : i.bytes = bytes) (hzs : z.cells.size = size) (hsz : 0 < size)
  (v : Value) (n : Nat) (xs : List Value) (hown : w.ownsRow base e size v n xs)
  (B : Nat) (A : Option Addr) (m c : Nat) (news : List Value) (hl : news.length = m * size) (hr : Sl w B A news) (h1 : ∀ u ∈ news, u.oneCell' = true)
  (h63 : n + m ≤ maxLen) (hbytes : (n + m) * bytes ≤ 140737488355328) (hbase : base ≤ w.heap.size) :
  ∃ v' w', (Builtin.append_ #[t, t] ty #[v, .slice A m c]).run P w = .ok v' w' ∧ w'.ownsRow base e size v' (n + m) (xs ++ news) ∧ w.grownBy w' v.ownBlock ∧
   (v'.ownBlock = v.ownBlock ∨ v'.ownBlock = some w.heap.size) := by
 cases A with
 | some ad =>
  have hcells : ∀ j u, news[j]? = some u → w.cell? (ad.add j) = some u := by
   intro j u hu
   obtain ⟨ad', e', _, hc⟩ := hr (by rintro rfl; simp at hu)
   obtain rfl : ad = ad' := by injection e'
   exact hc j u hu
  obtain ⟨v', w', q1, q2, q3, _, q5⟩ := run_append_own_at (P := P) w base t ty e i z size bytes ht hi hz hsize hby hzs hsz v n xs hown ad m c news hl hcells h1 h63 hbytes hbase
  exact ⟨v', w', q1, q2, q3, q5⟩
 | none =>
  have hn : news = [] := Classical.byContradiction fun hne => by
   obtain ⟨_, e', _⟩ := hr hne
   cases e'
  subst hn
  have hm : m = 0 := by
   rcases Nat.eq_zero_or_pos m with h0 | h0
   ·exact h0
   ·have := Nat.mul_pos h0 hsz
    simp at hl
    omega
  subst hm
  refine ⟨v, w, ?_, by simpa using hown, World.grownBy.refl w _, .inl rfl⟩
  rcases hown.2 with ⟨rfl, rfl⟩ | ⟨g, cap, cur, rfl, _, _, hnc, _⟩
  ·simp [Builtin.append_, run_underlying ht, sizeOf, typeInfo, hi, Builtin.lenOf, Builtin.firstCells]
  ·simp [Builtin.append_, run_underlying ht, sizeOf, typeInfo, hi, Builtin.lenOf, Builtin.firstCells, hnc, storeCells]

theorem wp_append_src {o : Oper} {a : Act} {K : Act → World → Prop} {Q : Exit → Act → World → Prop} (s x : Operand) (t : TypeId)
  (ho : o.op = .call { callee := .builtin .append, args := #[s, x], argTypes := #[t, t] })
  (base : Nat) (e : TypeId) (i : TypeInfo) (z : Value) (size bytes : Nat) (ht : P.underlying t = some (.slice e)) (hi : P.info? e = some i) (hz : i.zero = some z)
  (hsize : i.size = size) (hby : i.bytes = bytes) (hzs : z.cells.size = size) (hsz : 0 < size)
  (v : Value) (n : Nat) (xs : List Value) (hs : a.eval s = v) (hown : w.ownsRow base e size v n xs)
  (B : Nat) (A : Option Addr) (m c : Nat) (news : List Value) (hx : a.eval x = .slice A m c) (hl : news.length = m * size) (hr : Sl w B A news) (h1 : ∀ u ∈ news, u.oneCell' = true)
  (h63 : n + m ≤ maxLen) (hbytes : (n + m) * bytes ≤ 140737488355328) (hbase : base ≤ w.heap.size)
  (h : ∀ v' w', w'.ownsRow base e size v' (n + m) (xs ++ news) → w.grownBy w' v.ownBlock → (v'.ownBlock = v.ownBlock ∨ v'.ownBlock = some w.heap.size) → K (a.put o.dst v') w') : o.wp P a w K Q := by
 obtain ⟨v', w', hrun, q2, q3, q4⟩ := run_append_src (P := P) w base t o.type e i z size bytes ht hi hz hsize hby hzs hsz v n xs hown B A m c news hl hr h1 h63 hbytes hbase
 unfold Oper.wp
 simp [execOp, ho, resolve, invoke, builtin, hs, hx, hrun, Result.andThen]
 exact h v' w' q2 q3 q4
theorem wpList_append_src {ops : Array Oper} {rest : List Oper} {o : Oper} {a : Act} {Q : Exit → Act → World → Prop} (hgd : o.guard = none) (s x : Operand) (t : TypeId)
  (ho : o.op = .call { callee := .builtin .append, args := #[s, x], argTypes := #[t, t] })
  (base : Nat) (e : TypeId) (i : TypeInfo) (z : Value) (size bytes : Nat) (ht : P.underlying t = some (.slice e)) (hi : P.info? e = some i) (hz : i.zero = some z)
  (hsize : i.size = size) (hby : i.bytes = bytes) (hzs : z.cells.size = size) (hsz : 0 < size)
  (v : Value) (n : Nat) (xs : List Value) (hs : a.eval s = v) (hown : w.ownsRow base e size v n xs)
  (B : Nat) (A : Option Addr) (m c : Nat) (news : List Value) (hx : a.eval x = .slice A m c) (hl : news.length = m * size) (hr : Sl w B A news) (h1 : ∀ u ∈ news, u.oneCell' = true)
  (h63 : n + m ≤ maxLen) (hbytes : (n + m) * bytes ≤ 140737488355328) (hbase : base ≤ w.heap.size)
  (h : ∀ v' w', w'.ownsRow base e size v' (n + m) (xs ++ news) → w.grownBy w' v.ownBlock → (v'.ownBlock = v.ownBlock ∨ v'.ownBlock = some w.heap.size) → wpList P ops Q rest (a.put o.dst v') w') :
  wpList P ops Q (o :: rest) a w :=
 wpList_plain hgd fun _ hK => wp_append_src w s x t ho base e i z size bytes ht hi hz hsize hby hzs hsz v n xs hs hown B A m c news hx hl hr h1 h63 hbytes hbase fun v' w' q2 q3 q4 => hK _ _ (h v' w' q2 q3 q4)
theorem step_append_src {ops : Array Oper} {o : Oper} {a : Act} {K : Act → World → Prop} {Q : Exit → Act → World → Prop} {E : Prop} (hgd : o.guard = none) (s x : Operand) (t : TypeId)
  (ho : o.op = .call { callee := .builtin .append, args := #[s, x], argTypes := #[t, t] })
  (base : Nat) (e : TypeId) (i : TypeInfo) (z : Value) (size bytes : Nat) (ht : P.underlying t = some (.slice e)) (hi : P.info? e = some i) (hz : i.zero = some z)
  (hsize : i.size = size) (hby : i.bytes = bytes) (hzs : z.cells.size = size) (hsz : 0 < size)
  (v : Value) (n : Nat) (xs : List Value) (hs : a.eval s = v) (hown : w.ownsRow base e size v n xs)
  (B : Nat) (A : Option Addr) (m c : Nat) (news : List Value) (hx : a.eval x = .slice A m c) (hl : news.length = m * size) (hr : Sl w B A news) (h1 : ∀ u ∈ news, u.oneCell' = true)
  (h63 : n + m ≤ maxLen) (hbytes : (n + m) * bytes ≤ 140737488355328) (hbase : base ≤ w.heap.size)
  (h : ∀ v' w', w'.ownsRow base e size v' (n + m) (xs ++ news) → w.grownBy w' v.ownBlock → (v'.ownBlock = v.ownBlock ∨ v'.ownBlock = some w.heap.size) → K (a.put o.dst v') w') :
  if Region.wanted o (yielded ops a.tmps) = true then Oper.wp P o a w K Q else E := by
 rw [if_pos (by simp [Region.wanted, hgd])]
 exact wp_append_src w s x t ho base e i z size bytes ht hi hz hsize hby hzs hsz v n xs hs hown B A m c news hx hl hr h1 h63 hbytes hbase h
end

theorem flat_at {α : Type} (f : α → List Value) (m : Nat) (hm : ∀ x, (f x).length = m) (l : List α) (k j : Nat) (hk : k < l.length) (hj : j < m) : (l.flatMap f)[k * m + j]? = (f l[k])[j]? := by
 induction l generalizing k with
 | nil => simp at hk
 | cons x r ih =>
  rw [List.flatMap_cons]
  cases k with
  | zero => rw [Nat.zero_mul, Nat.zero_add, List.getElem?_append_left (by rw [hm]; exact hj)]; rfl
  | succ k =>
   rw [List.getElem?_append_right (by rw [hm, Nat.succ_mul]; omega), hm, show (k + 1) * m + j - m = k * m + j by rw [Nat.succ_mul]; omega]
   exact ih k (by simpa using hk)
theorem flat_len {α : Type} (f : α → List Value) (m : Nat) (hm : ∀ x, (f x).length = m) (l : List α) : (l.flatMap f).length = l.length * m := by
 induction l with
 | nil => simp
 | cons x r ih => rw [List.flatMap_cons, List.length_append, hm, ih, List.length_cons, Nat.succ_mul]; omega
theorem Sl.row {w : World} {B : Nat} {A : Option Addr} {α : Type} {f : α → List Value} {l : List α} (m : Nat) (hm : ∀ x, (f x).length = m) (h : Sl w B A (l.flatMap f)) {k : Nat} (hk : k < l.length) (h0 : 0 < m) :
  ∃ ad, A = some ad ∧ ad.block < B ∧ ∀ j u, (f l[k])[j]? = some u → w.cell? ((ad.add (k * m)).add j) = some u := by
 have hlt : k * m < (l.flatMap f).length := by
  rw [flat_len f m hm]
  exact (Nat.mul_lt_mul_right h0).2 hk
 obtain ⟨ad, e, hb, hc⟩ := h (by intro e; rw [e] at hlt; simp at hlt)
 refine ⟨ad, e, hb, fun j u hu => ?_⟩
 have hj : j < m := by
  have := (List.getElem?_eq_some_iff.1 hu).1
  rwa [hm] at this
 rw [add_add']
 exact hc _ u (by rw [flat_at f m hm l k j hk hj]; exact hu)

def u64s (xs : List Nat) : List Value := xs.map fun (x : Nat) => Value.int .u64 (x : Int)
end Go.Proofs.YtmeimhpllemjfaaGreat
/- More plain words for memory: rows of words and of bytes, read; rows just made; a store into what is owned. -/
namespace Go.Proofs.YtmeimhpllemjfaaGreat
open Go.RowKit

theorem Sl.madeF (w : World) (t : TypeId) (cs : Array Value) (fr : Nat × Nat) : Sl (w.alloc (.cells cs t fr)) (w.heap.size + 1) (some ⟨w.heap.size, 0, none⟩) cs.toList := by
 intro _
 refine ⟨_, rfl, by simp, fun j u hu => ?_⟩
 have e : (⟨w.heap.size, 0, none⟩ : Addr).add j = ⟨w.heap.size, j, none⟩ := by cases j <;> simp [Addr.add]
 rw [e, cell_of_row (w.alloc (.cells cs t fr)) w.heap.size j cs t fr (heap_alloc_new w _)]
 simpa using hu
theorem Sl.made (w : World) (t : TypeId) (cs : Array Value) : Sl (w.alloc (.cells cs t)) (w.heap.size + 1) (some ⟨w.heap.size, 0, none⟩) cs.toList := Sl.madeF w t cs (0, 0)

theorem own_set {w : World} {base size n c g : Nat} {e : TypeId} {xs : List Value} (h : w.ownsRow base e size (.slice (some ⟨g, 0, none⟩) n c) n xs) (i : Nat) (u : Value) :
  (w.setCell ⟨g, i, none⟩ u).ownsRow base e size (.slice (some ⟨g, 0, none⟩) n c) n (xs.set i u) := by
 refine ⟨by rw [List.length_set]; exact h.1, ?_⟩
 rcases h.2 with ⟨hv, _⟩ | ⟨g', cap, cur, hv, hb, hg, h1, h2, h3, h4⟩
 ·cases hv
 ·obtain ⟨rfl, rfl⟩ : g = g' ∧ c = cap := by simpa using hv
  refine .inr ⟨g, c, cur.setIfInBounds i u, rfl, hb, heap_setCell_same w g i cur e u hg, h1, h2, by simpa using h3, ?_⟩
  rw [Array.toList_setIfInBounds, List.take_set, h4]

theorem Sl.since {w W : World} {A : Option Addr} {xs : List Value} (h : Sl w w.heap.size A xs) (hf : Fr No w W) : Sl W W.heap.size A xs := (h.fr hf (Nat.le_refl _) (fun _ _ _ e => e)).more hf.size


theorem wpList_append_elem {P : Program} {w : World} {ops : Array Oper} {rest : List Oper} {o : Oper} {a : Act} {Q : Exit → Act → World → Prop} (hgd : o.guard = none) (s x : Operand) (t : TypeId)
  (ho : o.op = .call { callee := .builtin .append, args := #[s, x], argTypes := #[t, t] })
  (base : Nat) (e : TypeId) (z : Value) (size bytes : Nat) (ht : P.underlying t = some (.slice e)) (hinfo : (P.info? e).map (fun i => (i.zero, i.size, i.bytes)) = some (some z, size, bytes)) (hzs : z.cells.size = size) (hsz : 0 < size)
  (v : Value) (n : Nat) (xs : List Value) (us : Array Value) (hus : us.size = size) (hu : ∀ u ∈ us.toList, u.oneCell' = true) (hs : a.eval s = v) (H : Nat) (hH : w.heap.size = H) (hx : a.eval x = .slice (some ⟨H, 0, none⟩) 1 1) (hown : w.ownsRow base e size v n xs)
  (h63 : n + 1 ≤ maxLen) (hbytes : (n + 1) * bytes ≤ 140737488355328) (hbase : base ≤ w.heap.size)
  (h : ∀ A' c' w', w'.ownsRow base e size (.slice A' (n + 1) c') (n + 1) (xs ++ us.toList) → Fr (fun k => v.ownBlock = some k) w w' →
   ((Value.slice A' (n + 1) c').ownBlock = v.ownBlock ∨ ∃ k, (Value.slice A' (n + 1) c').ownBlock = some k ∧ w.heap.size ≤ k) → wpList P ops Q rest (a.put o.dst (.slice A' (n + 1) c')) w') :
  wpList P ops Q (o :: rest) a (w.alloc (.cells us e)) := by
 subst hH
 obtain ⟨i, hi, hz, hz1, hz2⟩ := info_parts hinfo
 refine wpList_append_src _ hgd s x t ho base e i z size bytes ht hi hz hz1 hz2 hzs hsz v n xs hs (hown.alloc _) (w.heap.size + 1) _ 1 1 us.toList hx (by simp [hus]) (Sl.made w e us) hu h63 hbytes (by simp; omega) ?_
 intro v' w' q1 q2 q3
 obtain ⟨A', c', rfl, -, -, -⟩ := own_shape q1
 refine h A' c' w' q1 (((Fr.refl _ w).alloc _).grown q2 (fun k hk => .inl hk)) ?_
 rcases q3 with q3 | q3
 ·exact .inl q3
 ·exact .inr ⟨_, q3, by simp⟩
end Go.Proofs.YtmeimhpllemjfaaGreat
/- Two answers that are the same. No program is spoken of. -/
namespace Go.Proofs.YtmeimhpllemjfaaGreat
open Go.RowKit

end Go.Proofs.YtmeimhpllemjfaaGreat
/- The cells of small blocks, one by one. No program is spoken of. -/
namespace Go.Proofs.YtmeimhpllemjfaaGreat
open Go.RowKit

section
variable {w : World} {g : Nat} {t : TypeId} {c0 c1 c2 c3 c4 c5 c6 c7 : Value}
end
end Go.Proofs.YtmeimhpllemjfaaGreat
/- Rows of words and of bytes: appends of one, and of several, as steps of the walk; what is read of them. -/
namespace Go.Proofs.YtmeimhpllemjfaaGreat
open Go.RowKit

end Go.Proofs.YtmeimhpllemjfaaGreat
/- Rows of bytes: appends of one, and of several, as steps of the walk; what is read of them. -/
namespace Go.Proofs.YtmeimhpllemjfaaGreat
open Go.RowKit

end Go.Proofs.YtmeimhpllemjfaaGreat
/- New rows: told of fewer blocks; their room; rows of other types lie apart. -/
namespace Go.Proofs.YtmeimhpllemjfaaGreat
open Go.RowKit

theorem own_base {w : World} {B B' : Nat} {t : TypeId} {n k : Nat} {v : Value} {xs : List Value} (h : w.ownsRow B t k v n xs) (hB : B' ≤ B) : w.ownsRow B' t k v n xs := by
 refine ⟨h.1, ?_⟩
 rcases h.2 with h0 | ⟨g, cap, cur, hv, hb, r⟩
 ·exact .inl h0
 ·exact .inr ⟨g, cap, cur, hv, Nat.le_trans hB hb, r⟩
theorem own_cap {w : World} {B : Nat} {t : TypeId} {n c k : Nat} {A : Option Addr} {xs : List Value} (h : w.ownsRow B t k (.slice A n c) n xs) : n ≤ c := by
 obtain ⟨A3, c3, hv3, hc3, -⟩ := own_shape h
 injection hv3 with _ _ h3
 omega
theorem own_types {w : World} {b1 b2 : Nat} {e1 e2 : TypeId} {s1 s2 n1 n2 : Nat} {v1 v2 : Value} {xs1 xs2 : List Value} (h1 : w.ownsRow b1 e1 s1 v1 n1 xs1) (h2 : w.ownsRow b2 e2 s2 v2 n2 xs2) (hne : e1 ≠ e2) {k : Nat} (hk : v1.ownBlock = some k) : v2.ownBlock ≠ some k := by
 rcases h1.2 with ⟨rfl, _⟩ | ⟨g, cap, cur, rfl, _, hg, _⟩
 ·simp [Value.ownBlock] at hk
 ·simp [Value.ownBlock] at hk
  subst hk
  exact own_apart h2 (t := e1) hg (fun e => hne e.symm)
end Go.Proofs.YtmeimhpllemjfaaGreat
