/- Some pages of the document's store in the place of others: what lies in memory then. -/
import Derived.Test.YtenmiociinogeaaRgt5
import Derived.Deep.RegionHeld3
namespace Go.Proofs.Ytenmiociinogeaa
open Go.RowKit

theorem set_as {α : Type} (l : List α) (a : Nat) (x : α) (ha : a < l.length) : l.take a ++ [x] ++ l.drop (a + 1) = l.set a x := by
  rw [List.set_eq_take_append_cons_drop, if_pos ha]
  simp
theorem set_take {α : Type} (l : List α) (a n : Nat) (x : α) (hn : n ≤ a) : (l.set a x).take n = l.take n := by
  refine List.ext_getElem? fun i => ?_
  rw [List.getElem?_take, List.getElem?_take, List.getElem?_set]
  split
  · rw [if_neg (by omega)]
  · rfl
theorem set_drop {α : Type} (l : List α) (a n : Nat) (x : α) (hn : a < n) : (l.set a x).drop n = l.drop n := by
  refine List.ext_getElem? fun i => ?_
  rw [List.getElem?_drop, List.getElem?_drop, List.getElem?_set, if_neg (by omega)]
/-- Some new pages stand in the place of others. -/
theorem rs_some {w w' : World} {R : Nat → Prop} {p : Nat} {P : List Pg} {v0 v' : Value} {hs : List Value} {a many : Nat} {ls : List Value} {L : List Pg} (hd0 : Hd w p v0 hs) (hll : hs.length = P.length)
    (hpg : ∀ (i : Nat) (h1 : i < hs.length) (h2 : i < P.length), PgO w hs[i] P[i]) (r1 : R p) (r3 : ∀ u ∈ hs, ∀ k, u.ownBlock = some k → R k) (r4 : ∀ k, R k → k < w.heap.size) (hle : a + many ≤ hs.length)
    (f : Fr (fun x => x = p) w w') (hd : Hd w' p v' (hs.take a ++ ls ++ hs.drop (a + many))) (hlL : ls.length = L.length) (hL : ∀ i (c1 : i < ls.length) (c2 : i < L.length), PgO w' ls[i] L[i])
    (hn : ∀ u ∈ ls, ∀ x, u.ownBlock = some x → w.heap.size ≤ x) (hv : ∀ x, v'.ownBlock = some x → w.heap.size ≤ x) :
    ∃ R', RS w' R' p (setP P a many L) ∧ Fr (fun x => x = p) w w' ∧ ∀ x, R' x → R x ∨ w.heap.size ≤ x := by
  have hsz := f.size
  refine ⟨fun x => R x ∨ (w.heap.size ≤ x ∧ x < w'.heap.size), ?_, f, fun x hx => hx.imp_right (fun h => h.1)⟩
  refine RS.of f hd hll hlL hle (fun i c1 c2 _ => (hpg i c1 c2).fr f (fun x e1 e2 => ?_)) hL (.inl r1) (fun x e => ?_) (fun u hu x e => .inl (r3 u hu x e)) (fun u hu x e => ?_) (fun x hx => ?_)
  · subst e2
    exact own_apart (hpg i c1 c2) hd0.self (by decide) e1
  · exact .inr ⟨hv x e, (hd.row.lt x e).2⟩
  · obtain ⟨i, hi, rfl⟩ := List.getElem_of_mem hu
    exact .inr ⟨hn _ hu x e, ((hL i hi (by omega)).lt x e).2⟩
  · rcases hx with hx | hx
    · have := r4 x hx; omega
    · exact hx.2
/-- The same, for one page. -/
theorem rs_one {w w' : World} {R : Nat → Prop} {p : Nat} {P : List Pg} {v0 v' : Value} {hs : List Value} {a many : Nat} {lv : Value} {L : Pg} (hd0 : Hd w p v0 hs) (hll : hs.length = P.length)
    (hpg : ∀ (i : Nat) (h1 : i < hs.length) (h2 : i < P.length), PgO w hs[i] P[i]) (r1 : R p) (r3 : ∀ u ∈ hs, ∀ k, u.ownBlock = some k → R k) (r4 : ∀ k, R k → k < w.heap.size) (hle : a + many ≤ hs.length)
    (f : Fr (fun x => x = p) w w') (hd : Hd w' p v' (hs.take a ++ [lv] ++ hs.drop (a + many))) (hL : PgO w' lv L)
    (hn : ∀ x, lv.ownBlock = some x → w.heap.size ≤ x) (hv : ∀ x, v'.ownBlock = some x → w.heap.size ≤ x) :
    ∃ R', RS w' R' p (setP P a many [L]) ∧ Fr (fun x => x = p) w w' ∧ ∀ x, R' x → R x ∨ w.heap.size ≤ x := by
  refine rs_some hd0 hll hpg r1 r3 r4 hle f hd rfl (fun i c1 c2 => ?_) (fun u hu => ?_) hv
  · obtain rfl : i = 0 := by simp at c1; omega
    exact hL
  · rw [List.mem_singleton.1 hu]
    exact hn
/-- append of whatever lies in memory onto what is owned; where else nothing turns. -/
theorem wpList_append_at {P : Program} {w : World} {base : Nat} {ops : Array Oper} {rest : List Oper} {o : Oper} {a : Act} {Q : Exit → Act → World → Prop} (hgd : o.guard = none) (s x : Operand) (t : TypeId)
    (ho : o.op = .call { callee := .builtin .append, args := #[s, x], argTypes := #[t, t] })
    (e : TypeId) (z : Value) (size bytes : Nat) (ht : P.underlying t = some (.slice e)) (hinfo : (P.info? e).map (fun i => (i.zero, i.size, i.bytes)) = some (some z, size, bytes)) (hzs : z.cells.size = size) (hsz : 0 < size)
    (v : Value) (n : Nat) (xs : List Value) (hs : a.eval s = v) (hown : w.ownsRow base e size v n xs) (hbase : base ≤ w.heap.size)
    (B : Nat) (A : Option Addr) (m c : Nat) (news : List Value) (hx : a.eval x = .slice A m c) (hl : news.length = m * size) (hr : Sl w B A news) (h1 : ∀ u ∈ news, u.oneCell' = true)
    (h63 : n + m ≤ maxLen) (hbytes : (n + m) * bytes ≤ 140737488355328)
    (h : ∀ A' c' w', w'.ownsRow base e size (.slice A' (n + m) c') (n + m) (xs ++ news) → Fr (fun k => v.ownBlock = some k) w w' → wpList P ops Q rest (a.put o.dst (.slice A' (n + m) c')) w') :
    wpList P ops Q (o :: rest) a w := by
  obtain ⟨i, hi, hz, hz1, hz2⟩ := info_parts hinfo
  refine wpList_append_src _ hgd s x t ho base e i z size bytes ht hi hz hz1 hz2 hzs hsz v n xs hs hown B A m c news hx hl hr h1 h63 hbytes hbase ?_
  intro v' w' q1 q2 q3
  obtain ⟨A', c', rfl, -, -, -⟩ := own_shape q1
  exact h A' c' w' q1 ((Fr.refl _ w).grown q2 (fun k e => .inl e))
/-- Rows of two types lie in two blocks. -/
theorem own_types {w : World} {b1 b2 : Nat} {e1 e2 : TypeId} {s1 s2 n1 n2 : Nat} {v1 v2 : Value} {xs1 xs2 : List Value} (h1 : w.ownsRow b1 e1 s1 v1 n1 xs1) (h2 : w.ownsRow b2 e2 s2 v2 n2 xs2) (hne : e1 ≠ e2) {k : Nat} (hk : v1.ownBlock = some k) : v2.ownBlock ≠ some k := by
  rcases h1.2 with ⟨rfl, _⟩ | ⟨g, cap, cur, rfl, _, hg, _⟩
  · simp [Value.ownBlock] at hk
  · simp [Value.ownBlock] at hk
    subst hk
    exact own_apart h2 (t := e1) hg (fun e => hne e.symm)
end Go.Proofs.Ytenmiociinogeaa
