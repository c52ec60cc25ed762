/- Appends onto what is new. No program is spoken of. -/
import Derived.Test.YthenadijiepmnaaGreatLib
import Derived.Test.YthenadijiepmnaaGreatRef4
import Derived.Deep.OwnRows
import Derived.Test.YthenadijiepmnaaGreatRows
import Derived.Test.YthenadijiepmnaaGreatPag5
import Derived.Deep.CutRange
import Derived.Deep.RegionWith
import Derived.BigQuiet
import Derived.Deep.RegionHeld3
namespace Go.Proofs.YthenadijiepmnaaGreat
open Go.RowKit

theorem own_made (w : World) (e : TypeId) (size n : Nat) (cs : Array Value) (hs : cs.size = n * size) (hn : n ≤ maxLen) :
    (w.alloc (.cells cs e)).ownsRow w.heap.size e size (.slice (some ⟨w.heap.size, 0, none⟩) n n) n cs.toList :=
  ⟨by simpa using hs, .inr ⟨w.heap.size, n, cs, rfl, Nat.le_refl _, heap_alloc_new w _, Nat.le_refl _, hn, hs, by rw [List.take_of_length_le (by simp [hs])]⟩⟩
/-- append, of whatever lies in memory, onto a row that is new since w0. -/
theorem wpList_append_new {P : Program} {w0 w : World} {ops : Array Oper} {rest : List Oper} {o : Oper} {a : Act} {Q : Exit → Act → World → Prop} (hgd : o.guard = none) (s x : Operand) (t : TypeId)
    (ho : o.op = .call { callee := .builtin .append, args := #[s, x], argTypes := #[t, t] })
    (e : TypeId) (z : Value) (size bytes : Nat) (ht : P.underlying t = some (.slice e)) (hinfo : (P.info? e).map (fun i => (i.zero, i.size, i.bytes)) = some (some z, size, bytes)) (hzs : z.cells.size = size) (hsz : 0 < size)
    (v : Value) (n : Nat) (xs : List Value) (hs : a.eval s = v) (hown : w.ownsRow w0.heap.size e size v n xs) (hf : Fr No w0 w)
    (B : Nat) (A : Option Addr) (m c : Nat) (news : List Value) (hx : a.eval x = .slice A m c) (hl : news.length = m * size) (hr : Sl w B A news) (h1 : ∀ u ∈ news, u.oneCell' = true)
    (h63 : n + m ≤ maxLen) (hbytes : (n + m) * bytes ≤ 140737488355328)
    (h : ∀ A' c' w', w'.ownsRow w0.heap.size e size (.slice A' (n + m) c') (n + m) (xs ++ news) → Fr No w0 w' → Fr (fun k => v.ownBlock = some k) w w' → wpList P ops Q rest (a.put o.dst (.slice A' (n + m) c')) w') :
    wpList P ops Q (o :: rest) a w := by
  obtain ⟨i, hi, hz, hz1, hz2⟩ := info_parts hinfo
  refine wpList_append_src _ hgd s x t ho w0.heap.size e i z size bytes ht hi hz hz1 hz2 hzs hsz v n xs hs hown B A m c news hx hl hr h1 h63 hbytes hf.size ?_
  intro v' w' q1 q2 q3
  obtain ⟨A', c', rfl, -, -, -⟩ := own_shape q1
  have hb : ∀ k, v.ownBlock = some k → w0.heap.size ≤ k := fun k e => (hown.lt k e).1
  exact h A' c' w' q1 (hf.grown q2 (fun k e => .inr (hb k e))) ((Fr.refl _ w).grown q2 (fun k e => .inl e))

theorem Bk.made1 (w : World) (o : Obj) (t : TypeId) (cs : Array Value) : Bk ((w.alloc o).alloc (.cells cs t)) (w.heap.size + 1) t cs := by
  have := Bk.made (w.alloc o) t cs
  rwa [World.size_alloc] at this
/-- An empty row. -/
theorem own_empty {W : World} {B X size : Nat} {e : TypeId} (h : Bk W X e #[]) (hB : B ≤ X) : W.ownsRow B e size (.slice (some ⟨X, 0, none⟩) 0 0) 0 [] :=
  ⟨by simp, .inr ⟨X, 0, #[], rfl, hB, h, Nat.le_refl _, Nat.zero_le _, by simp, by simp⟩⟩
/-- The same as a step of a region that draws its order; where the row lies then is told. -/
theorem step_append_new {P : Program} {w0 w : World} {ops : Array Oper} {o : Oper} {a : Act} {K : Act → World → Prop} {Q : Exit → Act → World → Prop} {E : Prop} (hgd : o.guard = none) (s x : Operand) (t : TypeId)
    (ho : o.op = .call { callee := .builtin .append, args := #[s, x], argTypes := #[t, t] })
    (e : TypeId) (z : Value) (size bytes : Nat) (ht : P.underlying t = some (.slice e)) (hinfo : (P.info? e).map (fun i => (i.zero, i.size, i.bytes)) = some (some z, size, bytes)) (hzs : z.cells.size = size) (hsz : 0 < size)
    (v : Value) (n : Nat) (xs : List Value) (hs : a.eval s = v) (B : Nat) (A : Option Addr) (m c : Nat) (news : List Value) (hx : a.eval x = .slice A m c) (hown : w.ownsRow w0.heap.size e size v n xs) (hf : Fr No w0 w)
    (hl : news.length = m * size) (hr : Sl w B A news) (h1 : ∀ u ∈ news, u.oneCell' = true)
    (h63 : n + m ≤ maxLen) (hbytes : (n + m) * bytes ≤ 140737488355328)
    (h : ∀ A' c' w', w'.ownsRow w0.heap.size e size (.slice A' (n + m) c') (n + m) (xs ++ news) → Fr No w0 w' → Fr (fun k => v.ownBlock = some k) w w' →
      ((Value.slice A' (n + m) c').ownBlock = v.ownBlock ∨ (Value.slice A' (n + m) c').ownBlock = some w.heap.size) → K (a.put o.dst (.slice A' (n + m) c')) w') :
    if Region.wanted o (yielded ops a.tmps) = true then Oper.wp P o a w K Q else E := by
  obtain ⟨i, hi, hz, hz1, hz2⟩ := info_parts hinfo
  refine step_append_src _ hgd s x t ho w0.heap.size e i z size bytes ht hi hz hz1 hz2 hzs hsz v n xs hs hown B A m c news hx hl hr h1 h63 hbytes hf.size ?_
  intro v' w' q1 q2 q3
  obtain ⟨A', c', rfl, -, -, -⟩ := own_shape q1
  have hb : ∀ k, v.ownBlock = some k → w0.heap.size ≤ k := fun k e => (hown.lt k e).1
  exact h A' c' w' q1 (hf.grown q2 (fun k e => .inr (hb k e))) ((Fr.refl _ w).grown q2 (fun k e => .inl e)) q3

/-- append of one new element onto a row that is new since w0. -/
theorem wpList_app1 {P : Program} {w0 w : World} {ops : Array Oper} {rest : List Oper} {o : Oper} {a : Act} {Q : Exit → Act → World → Prop} (hgd : o.guard = none) (s x : Operand) (t : TypeId)
    (ho : o.op = .call { callee := .builtin .append, args := #[s, x], argTypes := #[t, t] })
    (e : TypeId) (z : Value) (size bytes : Nat) (ht : P.underlying t = some (.slice e)) (hinfo : (P.info? e).map (fun i => (i.zero, i.size, i.bytes)) = some (some z, size, bytes)) (hzs : z.cells.size = size) (hsz : 0 < size)
    (v : Value) (n : Nat) (xs : List Value) (us : Array Value) (hus : us.size = size) (hu : ∀ u ∈ us.toList, u.oneCell' = true) (hs : a.eval s = v) (H : Nat) (hH : w.heap.size = H) (hx : a.eval x = .slice (some ⟨H, 0, none⟩) 1 1) (hown : w.ownsRow w0.heap.size e size v n xs) (hf : Fr No w0 w)
    (h63 : n + 1 ≤ maxLen) (hbytes : (n + 1) * bytes ≤ 140737488355328)
    (h : ∀ A' c' w', w'.ownsRow w0.heap.size e size (.slice A' (n + 1) c') (n + 1) (xs ++ us.toList) → Fr No w0 w' → Fr (fun k => v.ownBlock = some k) w w' → wpList P ops Q rest (a.put o.dst (.slice A' (n + 1) c')) w') :
    wpList P ops Q (o :: rest) a (w.alloc (.cells us e)) := by
  refine wpList_append_elem hgd s x t ho w0.heap.size e z size bytes ht hinfo hzs hsz v n xs us hus hu hs H hH hx hown h63 hbytes hf.size ?_
  intro A' c' w' q1 q2 q3
  have hb : ∀ k, v.ownBlock = some k → w0.heap.size ≤ k := fun k e => (hown.lt k e).1
  exact h A' c' w' q1 (hf.trans' q2 (fun k hk e => by have := hb k e; omega)) q2

end Go.Proofs.YthenadijiepmnaaGreat
/- Rows of pairs and of lists, as plain words for memory; a store of pages of the document's. -/
namespace Go.Proofs.YthenadijiepmnaaGreat
open Go.RowKit

/-- Pairs as cells. -/
def prC (x : Nat × Int) : List Value := [.int .i64 (x.1 : Int), .int .i64 x.2]
theorem prC_len (x : Nat × Int) : (prC x).length = 2 := rfl
def prs (l : List (Nat × Int)) : List Value := l.flatMap prC
theorem prs_len (l : List (Nat × Int)) : (prs l).length = l.length * 2 := flat_len prC 2 prC_len l
theorem prs_app (l m : List (Nat × Int)) : prs (l ++ m) = prs l ++ prs m := by simp [prs]
theorem prs_one (l : List (Nat × Int)) : ∀ u ∈ prs l, u.oneCell' = true := by
  intro u hu
  obtain ⟨x, _, hx⟩ := List.mem_flatMap.1 hu
  simp [prC] at hx
  rcases hx with rfl | rfl <;> rfl
theorem prs_at (l : List (Nat × Int)) (i : Nat) (hi : i < l.length) : (prs l)[i * 2]? = some (.int .i64 (l[i].1 : Int)) ∧ (prs l)[i * 2 + 1]? = some (.int .i64 l[i].2) := by
  have h0 := flat_at prC 2 prC_len l i 0 hi (by omega)
  have h1 := flat_at prC 2 prC_len l i 1 hi (by omega)
  exact ⟨h0.trans rfl, h1.trans rfl⟩
theorem prs_take (l : List (Nat × Int)) (k : Nat) : (prs l).take (k * 2) = prs (l.take k) := by
  rcases Nat.le_total k l.length with h | h
  · conv => lhs; rw [← List.take_append_drop k l, prs_app]
    rw [List.take_append_of_le_length (by rw [prs_len, List.length_take]; omega), List.take_of_length_le (by rw [prs_len, List.length_take]; omega)]
  · rw [List.take_of_length_le h, List.take_of_length_le (by rw [prs_len]; omega)]
theorem prs_drop (l : List (Nat × Int)) (k : Nat) : (prs l).drop (k * 2) = prs (l.drop k) := by
  rcases Nat.le_total k l.length with h | h
  · conv => lhs; rw [← List.take_append_drop k l, prs_app]
    rw [List.drop_append_of_le_length (by rw [prs_len, List.length_take]; omega), List.drop_eq_nil_of_le (by rw [prs_len, List.length_take]; omega)]
    rfl
  · rw [List.drop_eq_nil_of_le h, List.drop_eq_nil_of_le (by rw [prs_len]; omega)]
    rfl
theorem info_pair : (Tryz.prog.info? 54).map (fun i => (i.zero, i.size, i.bytes)) = some (some (.agg #[.int .i64 0, .int .i64 0]), 2, 16) := by kernel_rfl
theorem info_prs : (Tryz.prog.info? 28).map (fun i => (i.zero, i.size, i.bytes)) = some (some (.slice none 0 0), 1, 24) := by kernel_rfl
/-- A page in memory: a row of pairs. -/
def PgO (w : World) (v : Value) (l : List (Nat × Int)) : Prop := w.ownsRow 0 54 2 v l.length (prs l)
theorem PgO.shape {w : World} {v : Value} {l : List (Nat × Int)} (h : PgO w v l) : ∃ A c, v = .slice A l.length c ∧ l.length ≤ c := by
  obtain ⟨A, c, h1, h2, _⟩ := own_shape h
  exact ⟨A, c, h1, h2⟩
theorem PgO.one {w : World} {v : Value} {l : List (Nat × Int)} (h : PgO w v l) : v.oneCell' = true := by
  obtain ⟨A, c, rfl, _⟩ := h.shape
  rfl
theorem PgO.cells {w : World} {A : Option Addr} {n c : Nat} {l : List (Nat × Int)} (h : PgO w (.slice A n c) l) {i : Nat} (hi : i < l.length) :
    ∃ g, A = some ⟨g, 0, none⟩ ∧ n = l.length ∧ n ≤ c ∧ w.cell? ⟨g, i * 2, none⟩ = some (.int .i64 (l[i].1 : Int)) ∧ w.cell? ⟨g, i * 2 + 1, none⟩ = some (.int .i64 l[i].2) := by
  obtain ⟨g, cap, hv, _, _⟩ := World.ownsRow.form h (by omega)
  injection hv with h1 h2 h3
  subst h1 h2 h3
  obtain ⟨s0, s1⟩ := prs_at l i hi
  exact ⟨g, rfl, rfl, own_cap h, (World.ownsRow.cellAt h _ (by omega)).trans s0, (World.ownsRow.cellAt h _ (by omega)).trans s1⟩
theorem PgO.fr {S : Nat → Prop} {w w' : World} {v : Value} {l : List (Nat × Int)} (h : PgO w v l) (hf : Fr S w w') (hs : ∀ k, v.ownBlock = some k → ¬ S k) : PgO w' v l := own_fr h hf hs
/-- What a call leaves of what lies in S: only that has turned, and S' is S and what is new. -/
structure Step5 (S S' : Nat → Prop) (w w' : World) : Prop where
  fr : Fr S w w'
  new : ∀ k, S' k → S k ∨ w.heap.size ≤ k
end Go.Proofs.YthenadijiepmnaaGreat
/- The document's store: its pairs; where a key is. -/
namespace Go.Proofs.YthenadijiepmnaaGreat
open Go.RowKit

abbrev Pg := List (Nat × Int)
/-- A new list of pairs, in a row of its own. -/
def NewP (w : World) (l : Pg) (e : Ending) (w' : World) : Prop :=
  ∃ A c, e = .returned (.slice A l.length c) ∧ w'.ownsRow w.heap.size 54 2 (.slice A l.length c) l.length (prs l) ∧ Fr No w w'
theorem flat_take_le (P : List Pg) (j : Nat) : (P.take j).flatten.length ≤ P.flatten.length := by
  conv => rhs; rw [← List.take_append_drop j P, List.flatten_append, List.length_append]
  omega
theorem flat_snoc (P : List Pg) (j : Nat) (hj : j < P.length) : (P.take (j + 1)).flatten = (P.take j).flatten ++ P[j] := by
  rw [List.take_succ_eq_append_getElem hj, List.flatten_append, List.flatten_cons, List.flatten_nil, List.append_nil]
/-- Where a key is in a page; -1: it isn't there. -/
def idxTo (l : Pg) (k : Nat) : Nat → Option Nat
  | 0 => none
  | j + 1 => match idxTo l k j with
    | some i => some i
    | none => if (l.getD j (0, 0)).1 = k then some j else none
def idxI (l : Pg) (k : Nat) : Int := match idxTo l k l.length with
  | some i => (i : Int)
  | none => -1
/-- Where a key is in its page. -/
def idxP (P : List Pg) (k : Nat) : Int := idxI (P.getD (atP P k) []) k
theorem idxTo_more (l : Pg) (k j i : Nat) (h : idxTo l k j = some i) : ∀ m, j ≤ m → idxTo l k m = some i := by
  intro m hm
  induction m with
  | zero => obtain rfl : j = 0 := by omega
            cases h
  | succ m ih =>
    rcases Nat.lt_or_ge m j with h1 | h1
    · obtain rfl : j = m + 1 := by omega
      exact h
    · rw [idxTo, ih h1]
theorem headK_get (P : List Pg) (j : Nat) (hj : j < P.length) (h0 : 0 < P[j].length) : headK (P.getD j []) = P[j][0].1 := by
  have e : P.getD j [] = P[j] := by simp [List.getD, hj]
  rw [e]
  unfold headK
  obtain ⟨x, r, hq⟩ : ∃ x r, P[j] = x :: r := by
    cases hq : P[j] with
    | nil => rw [hq] at h0; exact absurd h0 (by simp)
    | cons x r => exact ⟨x, r, rfl⟩
  simp [hq]
theorem atTo_lt (P : List Pg) (k : Nat) : ∀ j, atTo P k j ≤ j - 1
  | 0 => Nat.le_refl _
  | j + 1 => by
    unfold atTo
    split
    · omega
    · have := atTo_lt P k j
      omega
theorem atP_lt (P : List Pg) (k : Nat) (h : P ≠ []) : atP P k < P.length := by
  have := atTo_lt P k P.length
  have : 0 < P.length := List.length_pos_iff.2 h
  unfold atP
  omega

end Go.Proofs.YthenadijiepmnaaGreat
/- What a page is while a value is put, pair by pair; where a key is. No program is spoken of. -/
namespace Go.Proofs.YthenadijiepmnaaGreat

/-- Has a page a key? -/
def hasK (q : Pg) (k : Nat) : Bool := q.any fun x => decide (x.1 = k)
/-- A pair, or what is put for its key. -/
def rep (k : Nat) (v : Int) (x : Nat × Int) : Nat × Int := if x.1 = k then (k, v) else x
def goB (q : Pg) (k j : Nat) : Bool := hasK q k || (q.take j).any fun x => decide (k < x.1)
def goL (q : Pg) (k : Nat) (v : Int) (j : Nat) : Pg :=
  if hasK q k = true then (q.map (rep k v)).take j else if goB q k j = true then insP (q.take j) k v else q.take j
theorem goL_zero (q : Pg) (k : Nat) (v : Int) : goL q k v 0 = [] := by
  unfold goL
  cases h : hasK q k <;> simp [goB, h]
theorem goB_zero (q : Pg) (k : Nat) : goB q k 0 = hasK q k := by simp [goB]
theorem goB_step (q : Pg) (k j : Nat) (hj : j < q.length) : goB q k (j + 1) = (goB q k j || decide (k < q[j].1)) := by
  unfold goB
  rw [List.take_succ_eq_append_getElem hj, List.any_append]
  simp [Bool.or_assoc]
theorem hasK_at (q : Pg) (k j : Nat) (hj : j < q.length) (h : q[j].1 = k) : hasK q k = true := List.any_eq_true.2 ⟨_, List.getElem_mem hj, by simpa using h⟩
theorem goL_step (q : Pg) (hr : Rise q) (k : Nat) (v : Int) (j : Nat) (hj : j < q.length) :
    goL q k v (j + 1) = goL q k v j ++ (if goB q k j = false ∧ k < q[j].1 then [(k, v)] else []) ++ [rep k v q[j]] := by
  have ht := List.take_succ_eq_append_getElem hj
  unfold goL
  cases h : hasK q k with
  | true =>
    have hb : goB q k j = true := by unfold goB; rw [h]; rfl
    rw [if_pos rfl, if_pos rfl, if_neg (by rw [hb]; simp), List.append_nil, List.take_succ_eq_append_getElem (by simpa using hj)]
    simp
  | false =>
    have hne : q[j].1 ≠ k := fun e => by rw [hasK_at q k j hj e] at h; cases h
    have hrep : rep k v q[j] = q[j] := by unfold rep; rw [if_neg hne]
    simp only [Bool.false_eq_true, if_false]
    rw [goB_step q k j hj, hrep, ht]
    have hpre : ∀ x ∈ q.take j, x.1 < q[j].1 := fun x hx => by
      have h1 : Rise (q.take j ++ (q[j] :: q.drop (j + 1))) := by rw [← List.drop_eq_getElem_cons hj, List.take_append_drop]; exact hr
      exact (Rise.app h1).2.2 x hx _ List.mem_cons_self
    cases hb : goB q k j with
    | true =>
      have hgt : k < q[j].1 := by
        unfold goB at hb
        rw [h, Bool.false_or, List.any_eq_true] at hb
        obtain ⟨x, hx, hk⟩ := hb
        have := hpre x hx
        simp at hk
        omega
      rw [if_pos (by simp), if_pos rfl, if_neg (by simp), List.append_nil, insP_right (b := [q[j]]) (fun x hx => by rw [List.mem_singleton.1 hx]; exact hgt)]
    | false =>
      have hlt : ∀ x ∈ q.take j, x.1 < k := fun x hx => by
        have h1 : ¬ k < x.1 := fun hk => by
          have : goB q k j = true := by unfold goB; rw [h, Bool.false_or, List.any_eq_true]; exact ⟨x, hx, by simpa using hk⟩
          rw [hb] at this; cases this
        have h2 : x.1 ≠ k := fun e => by
          have : hasK q k = true := List.any_eq_true.2 ⟨x, List.mem_of_mem_take hx, by simpa using e⟩
          rw [h] at this; cases this
        omega
      by_cases hgt : k < q[j].1
      · rw [if_pos (by simp [hgt]), if_neg (by simp), if_pos ⟨rfl, hgt⟩, insP_left hlt, insP, if_neg (by omega), if_pos hgt]
        simp
      · rw [if_neg (by simp; omega), if_neg (by simp), if_neg (by simp; omega)]
        simp
theorem ins_has : ∀ (q : Pg), Rise q → ∀ (k : Nat) (v : Int), hasK q k = true → q.map (rep k v) = insP q k v
  | [], _, k, v, h => by cases h
  | x :: r, hr, k, v, h => by
    obtain ⟨h1, h2⟩ := List.pairwise_cons.1 hr
    rw [List.map_cons, insP]
    by_cases e : x.1 = k
    · have hrest : r.map (rep k v) = r := by
        conv => rhs; rw [← List.map_id r]
        refine List.map_congr_left fun y hy => ?_
        have := h1 y hy
        unfold rep
        rw [if_neg (by omega)]
        rfl
      rw [if_pos e, hrest]
      unfold rep
      rw [if_pos e]
    · have h3 : hasK r k = true := by
        unfold hasK at h ⊢
        rw [List.any_cons] at h
        simpa [e] using h
      have h4 : ¬ k < x.1 := fun hk => by
        obtain ⟨y, hy, e2⟩ := List.any_eq_true.1 h3
        have := h1 y hy
        simp at e2
        omega
      rw [if_neg e, if_neg h4, ← ins_has r h2 k v h3]
      unfold rep
      rw [if_neg e]
theorem goL_len (q : Pg) (k : Nat) (v : Int) (j : Nat) : (goL q k v j).length ≤ j + 1 := by
  unfold goL
  split
  · simp; omega
  · split
    · have := (insP_len (q.take j) k v).2.1
      simp at this
      omega
    · simp; omega
theorem goL_end (q : Pg) (hr : Rise q) (k : Nat) (v : Int) : goL q k v q.length ++ (if goB q k q.length = true then [] else [(k, v)]) = insP q k v := by
  unfold goL
  cases h : hasK q k with
  | true =>
    have hb : goB q k q.length = true := by unfold goB; rw [h]; rfl
    rw [if_pos rfl, if_pos hb, List.append_nil, List.take_of_length_le (by simp), ins_has q hr k v h]
  | false =>
    rw [if_neg (by simp), List.take_length]
    cases hb : goB q k q.length with
    | true => simp
    | false =>
      have hlt : ∀ x ∈ q, x.1 < k := fun x hx => by
        have h1 : ¬ k < x.1 := fun hk => by
          have : goB q k q.length = true := by unfold goB; rw [h, Bool.false_or, List.any_eq_true]; exact ⟨x, by simpa using hx, by simpa using hk⟩
          rw [hb] at this; cases this
        have h2 : x.1 ≠ k := fun e => by
          have : hasK q k = true := List.any_eq_true.2 ⟨x, hx, by simpa using e⟩
          rw [h] at this; cases this
        omega
      have := insP_left (l := []) (v := v) hlt
      rw [List.append_nil] at this
      rw [this]
      simp [insP]
theorem idxTo_some (q : Pg) (k : Nat) : ∀ n i, idxTo q k n = some i → i < n ∧ (q.getD i (0, 0)).1 = k
  | 0, i, h => by cases h
  | n + 1, i, h => by
    rw [idxTo] at h
    cases h1 : idxTo q k n with
    | some m =>
      rw [h1] at h
      simp only [Option.some.injEq] at h
      subst h
      obtain ⟨h2, h3⟩ := idxTo_some q k n m h1
      exact ⟨by omega, h3⟩
    | none =>
      rw [h1] at h
      simp only at h
      split at h
      · next e => injection h with h; subst h; exact ⟨by omega, e⟩
      · cases h
theorem idxTo_none (q : Pg) (k : Nat) : ∀ n, idxTo q k n = none → ∀ i, i < n → (q.getD i (0, 0)).1 ≠ k
  | 0, _, i, hi => absurd hi (by omega)
  | n + 1, h, i, hi => by
    rw [idxTo] at h
    cases h1 : idxTo q k n with
    | some m => rw [h1] at h; cases h
    | none =>
      rw [h1] at h
      simp only at h
      split at h
      · cases h
      · next e =>
        rcases Nat.lt_or_ge i n with h2 | h2
        · exact idxTo_none q k n h1 i h2
        · obtain rfl : i = n := by omega
          exact e
/-- In a rising page a key is where it is found, and nowhere else. -/
theorem idxI_iff (q : Pg) (hr : Rise q) (k j : Nat) (hj : j < q.length) : ((j : Int) = idxI q k) ↔ q[j].1 = k := by
  have hg : ∀ i (hi : i < q.length), q.getD i (0, 0) = q[i] := fun i hi => by simp [List.getD, hi]
  unfold idxI
  cases h : idxTo q k q.length with
  | none =>
    have h1 := idxTo_none q k _ h j hj
    rw [hg j hj] at h1
    constructor
    · intro e
      have e2 : (j : Int) = -1 := e
      omega
    · intro e; exact absurd e h1
  | some i =>
    obtain ⟨h1, h2⟩ := idxTo_some q k _ i h
    rw [hg i h1] at h2
    constructor
    · intro e
      have e2 : (j : Int) = (i : Int) := e
      obtain rfl : j = i := by omega
      exact h2
    · intro e
      have : ¬ j < i ∧ ¬ i < j := by
        constructor
        · intro hlt
          have := List.pairwise_iff_getElem.1 hr j i hj h1 hlt
          omega
        · intro hlt
          have := List.pairwise_iff_getElem.1 hr i j h1 hj hlt
          omega
      have : j = i := by omega
      subst this
      rfl
theorem idxI_neg (q : Pg) (k : Nat) : (idxI q k < 0) ↔ hasK q k = false := by
  have hg : ∀ i (hi : i < q.length), q.getD i (0, 0) = q[i] := fun i hi => by simp [List.getD, hi]
  unfold idxI
  cases h : idxTo q k q.length with
  | none =>
    constructor
    · intro _
      rw [Bool.eq_false_iff]
      intro h1
      obtain ⟨x, hx, e⟩ := List.any_eq_true.1 h1
      obtain ⟨i, hi, rfl⟩ := List.getElem_of_mem hx
      have := idxTo_none q k _ h i hi
      rw [hg i hi] at this
      exact this (by simpa using e)
    · intro _; simp
  | some i =>
    obtain ⟨h1, h2⟩ := idxTo_some q k _ i h
    rw [hg i h1] at h2
    constructor
    · intro e; simp at e; omega
    · intro e; rw [hasK_at q k i h1 h2] at e; cases e
theorem idxI_lt (q : Pg) (k : Nat) : idxI q k < (q.length : Int) ∧ -1 ≤ idxI q k := by
  unfold idxI
  cases h : idxTo q k q.length with
  | none => constructor <;> simp <;> omega
  | some i =>
    obtain ⟨h1, _⟩ := idxTo_some q k _ i h
    constructor <;> simp <;> omega
end Go.Proofs.YthenadijiepmnaaGreat
/- The document's store: some pages in the place of others. -/
namespace Go.Proofs.YthenadijiepmnaaGreat
open Go.RowKit

end Go.Proofs.YthenadijiepmnaaGreat
/- The document's store: a value is put. -/
namespace Go.Proofs.YthenadijiepmnaaGreat
open Go.RowKit

theorem rise_len : ∀ (l : List (Nat × Int)) (lo n : Nat), Rise l → (∀ x ∈ l, lo ≤ x.1 ∧ x.1 < n) → l.length ≤ n - lo
  | [], _, _, _, _ => Nat.zero_le _
  | x :: r, lo, n, hr, h => by
    obtain ⟨a1, a2⟩ := List.pairwise_cons.1 hr
    have h2 := rise_len r (x.1 + 1) n a2 (fun y hy => ⟨a1 y hy, (h y (by simp [hy])).2⟩)
    have h3 := h x (by simp)
    simp
    omega
theorem pages_le : ∀ (P : List Pg), (∀ q ∈ P, 1 ≤ q.length) → P.length ≤ P.flatten.length
  | [], _ => Nat.le_refl _
  | q :: P, h => by
    have h1 := pages_le P (fun x hx => h x (by simp [hx]))
    have h2 := h q (by simp)
    rw [List.flatten_cons, List.length_append, List.length_cons]
    omega
theorem InvP.len {P : List Pg} (h : InvP P) : P.flatten.length ≤ 1000 ∧ P.length ≤ 1000 := by
  have h1 := rise_len P.flatten 0 1000 h.rise (fun x hx => ⟨Nat.zero_le _, h.key x hx⟩)
  have h2 := pages_le P (fun q hq => (h.one q hq).1)
  omega
theorem PgO.since {w W : World} {v : Value} {l : Pg} (h : PgO w v l) (hf : Fr No w W) : PgO W v l := h.fr hf (fun _ _ e => e)

end Go.Proofs.YthenadijiepmnaaGreat
/- The document's store: a value put into none, and got; the pairs of some keys; lists that are the same. -/
namespace Go.Proofs.YthenadijiepmnaaGreat
open Go.RowKit

theorem val_idx (q : Pg) (hr : Rise q) (k i : Nat) (hi : (i : Int) = idxI q k) (hl : i < q.length) : valP q k = some q[i].2 := by
  have hk := (idxI_iff q hr k i hl).1 hi
  have hm := List.getElem_mem hl
  clear hi
  generalize q[i] = x at *
  obtain ⟨xk, xv⟩ := x
  simp only at hk
  subst hk
  clear hl
  induction q with
  | nil => cases hm
  | cons y r ih =>
    obtain ⟨h1, h2⟩ := List.pairwise_cons.1 hr
    rcases List.mem_cons.1 hm with e | hm
    · subst e; simp [valP]
    · have := h1 _ hm
      rw [valP, if_neg (by simp only at this; omega)]
      exact ih h2 hm
theorem val_none (q : Pg) (k : Nat) (h : idxI q k < 0) : valP q k = none := by
  have h1 := (idxI_neg q k).1 h
  refine valP_none fun x hx e => ?_
  have : hasK q k = true := List.any_eq_true.2 ⟨x, hx, by simpa using e⟩
  rw [h1] at this
  cases this
/-- What Get answers: the value, and an error's number. -/
def getA (P : List Pg) (k : Nat) : Int × Int := match valP P.flatten k with
  | some v => (v, 0)
  | none => (0, 5)
end Go.Proofs.YthenadijiepmnaaGreat
/- Some pages of the document's store in the place of others: what lies in memory then. -/
namespace Go.Proofs.YthenadijiepmnaaGreat
open Go.RowKit

theorem set_as {α : Type} (l : List α) (a : Nat) (x : α) (ha : a < l.length) : l.take a ++ [x] ++ l.drop (a + 1) = l.set a x := by
  rw [List.set_eq_take_append_cons_drop, if_pos ha]
  simp
theorem set_take {α : Type} (l : List α) (a n : Nat) (x : α) (hn : n ≤ a) : (l.set a x).take n = l.take n := by
  refine List.ext_getElem? fun i => ?_
  rw [List.getElem?_take, List.getElem?_take, List.getElem?_set]
  split
  · rw [if_neg (by omega)]
  · rfl
theorem set_drop {α : Type} (l : List α) (a n : Nat) (x : α) (hn : a < n) : (l.set a x).drop n = l.drop n := by
  refine List.ext_getElem? fun i => ?_
  rw [List.getElem?_drop, List.getElem?_drop, List.getElem?_set, if_neg (by omega)]
/-- append of whatever lies in memory onto what is owned; where else nothing turns. -/
theorem wpList_append_at {P : Program} {w : World} {base : Nat} {ops : Array Oper} {rest : List Oper} {o : Oper} {a : Act} {Q : Exit → Act → World → Prop} (hgd : o.guard = none) (s x : Operand) (t : TypeId)
    (ho : o.op = .call { callee := .builtin .append, args := #[s, x], argTypes := #[t, t] })
    (e : TypeId) (z : Value) (size bytes : Nat) (ht : P.underlying t = some (.slice e)) (hinfo : (P.info? e).map (fun i => (i.zero, i.size, i.bytes)) = some (some z, size, bytes)) (hzs : z.cells.size = size) (hsz : 0 < size)
    (v : Value) (n : Nat) (xs : List Value) (hs : a.eval s = v) (hown : w.ownsRow base e size v n xs) (hbase : base ≤ w.heap.size)
    (B : Nat) (A : Option Addr) (m c : Nat) (news : List Value) (hx : a.eval x = .slice A m c) (hl : news.length = m * size) (hr : Sl w B A news) (h1 : ∀ u ∈ news, u.oneCell' = true)
    (h63 : n + m ≤ maxLen) (hbytes : (n + m) * bytes ≤ 140737488355328)
    (h : ∀ A' c' w', w'.ownsRow base e size (.slice A' (n + m) c') (n + m) (xs ++ news) → Fr (fun k => v.ownBlock = some k) w w' → wpList P ops Q rest (a.put o.dst (.slice A' (n + m) c')) w') :
    wpList P ops Q (o :: rest) a w := by
  obtain ⟨i, hi, hz, hz1, hz2⟩ := info_parts hinfo
  refine wpList_append_src _ hgd s x t ho base e i z size bytes ht hi hz hz1 hz2 hzs hsz v n xs hs hown B A m c news hx hl hr h1 h63 hbytes hbase ?_
  intro v' w' q1 q2 q3
  obtain ⟨A', c', rfl, -, -, -⟩ := own_shape q1
  exact h A' c' w' q1 ((Fr.refl _ w).grown q2 (fun k e => .inl e))
end Go.Proofs.YthenadijiepmnaaGreat
/- The document's store: a key is taken out. -/
namespace Go.Proofs.YthenadijiepmnaaGreat
open Go.RowKit

theorem out_idx (q : Pg) (hr : Rise q) (k i : Nat) (hl : i < q.length) (hk : q[i].1 = k) : outP q k = q.take i ++ q.drop (i + 1) := by
  have e : q = q.take i ++ (q[i] :: q.drop (i + 1)) := by rw [← List.drop_eq_getElem_cons hl, List.take_append_drop]
  have hr2 : Rise (q.take i ++ (q[i] :: q.drop (i + 1))) := by rw [← e]; exact hr
  obtain ⟨r1, r2, r3⟩ := Rise.app hr2
  obtain ⟨r4, _⟩ := List.pairwise_cons.1 r2
  have h1 : outP (q.take i) k = q.take i := outP_same fun x hx he => by
    have := r3 x hx q[i] List.mem_cons_self
    omega
  have h2 : outP (q.drop (i + 1)) k = q.drop (i + 1) := outP_same fun x hx he => by
    have := r4 x hx
    omega
  conv => lhs; rw [e]
  rw [outP_app, h1]
  congr 1
  rw [show q[i] :: q.drop (i + 1) = [q[i]] ++ q.drop (i + 1) from rfl, outP_app, h2]
  simp [outP, hk]

end Go.Proofs.YthenadijiepmnaaGreat
/- The document's lists of pairs: are two the same? -/
namespace Go.Proofs.YthenadijiepmnaaGreat
open Go.RowKit

theorem Sl.pair {w : World} {B : Nat} {A : Option Addr} {l : List (Nat × Int)} (h : Sl w B A (prs l)) {k : Nat} (hk : k < l.length) :
    ∃ ad, A = some ad ∧ ad.block < B ∧ w.cell? (ad.add (k * 2)) = some (.int .i64 (l[k].1 : Int)) ∧ w.cell? ⟨(ad.add (k * 2)).block, (ad.add (k * 2)).off + 1, none⟩ = some (.int .i64 l[k].2) := by
  obtain ⟨ad, e, hb, hc⟩ := h.row 2 prC_len hk (by omega)
  exact ⟨ad, e, hb, hc 0 _ rfl, hc 1 _ rfl⟩
theorem eqPr (a b c d : Int) (w : World) : (Op.equalIn 10000 54 (.agg #[.int .i64 a, .int .i64 b]) (.agg #[.int .i64 c, .int .i64 d])).run Tryz.prog w = .ok (a == c && b == d) w := by
  have u3 := Tryz.underlying3
  have a3 : ∀ w, (isAgg 3).run Tryz.prog w = .ok false w := fun w => by simp [isAgg, run_underlying Tryz.underlying3]
  have u4 := Tryz.underlying2
  have a4 : ∀ w, (isAgg 2).run Tryz.prog w = .ok false w := fun w => by simp [isAgg, run_underlying Tryz.underlying2]
  have hs : Tryz.prog.underlying 54 = some (.struct (Tryz.prog.fieldsOf 54)) := by kernel_rfl
  rw [run_equalIn_agg w 9999 54 _ _ hs (by kernel_rfl)]
  simp only [Program.fieldsOf, Tryz.underlying54]
  go_simp
  by_cases h1 : a = c <;> by_cases h2 : b = d <;> simp [h1, h2]

set_option maxHeartbeats 1000000 in
theorem refSame5_any (xs ys : List (Nat × Int)) (A1 A2 : Option Addr) (n m c1 c2 : Nat) (w : World) (h1 : Sl w w.heap.size A1 (prs xs)) (h2 : Sl w w.heap.size A2 (prs ys)) (hn : xs.length = n) (hm : ys.length = m) (hn1 : n ≤ 1099511627776) (hm1 : m ≤ 1099511627776) :
    Calls Tryz.prog 15 #[.slice A1 n c1, .slice A2 m c2] w fun e w' => e = .returned (.bool (decide (xs = ys))) ∧ Fr No w w' := by
  have Hn := Lib.hid hn
  have Hm := Lib.hid hm
  clear hn hm
  have q2 := eqPr
  by_cases hnm : n = m
  · subst hnm
    go_enter Tryz.func15, Tryz.ntmps15
    go_wp2
    go_loopw [5] (fun i wr => ∃ k : Nat, k ≤ n ∧ i = .int .i64 k ∧ Hid (xs.take k = ys.take k) ∧ Hid (∃ q, wr = w.drewN q)) (fun i _ => n - (intOf i).toNat)
    case atStart => exact ⟨0, Nat.zero_le _, rfl, Lib.hid (by simp), Lib.hid ⟨0, rfl⟩⟩
    case round =>
      obtain ⟨k, hk, rfl, hpre, hwr⟩ := hrel
      obtain ⟨q, rfl⟩ := hwr.out
      clear hwr
      by_cases hlt : k < n
      · have hkx : k < xs.length := by rw [Hn.out]; exact hlt
        have hky : k < ys.length := by rw [Hm.out]; exact hlt
        obtain ⟨ad1, rfl, -, x0, x1⟩ := h1.pair hkx
        obtain ⟨ad2, rfl, -, y0, y1⟩ := h2.pair hky
        have hx := List.take_succ_eq_append_getElem hkx
        have hy := List.take_succ_eq_append_getElem hky
        have hgx := List.getElem?_eq_getElem hkx
        have hgy := List.getElem?_eq_getElem hky
        generalize xs[k] = x at *
        generalize ys[k] = y at *
        obtain ⟨xa, xb⟩ := x
        obtain ⟨ya, yb⟩ := y
        by_cases hxy : xa = ya ∧ xb = yb
        · obtain ⟨rfl, rfl⟩ := hxy
          have Hr : Hid (xs.take (k + 1) = ys.take (k + 1)) := Lib.hid (by rw [hx, hy, hpre.out])
          clear hx hy hgx hgy
          go_wp2
          go_quiet (fail)
          go_wp2
          go_roundw
          case rel => exact ⟨k + 1, by omega, by go_num, Hr, Lib.hid ⟨_, rfl⟩⟩
          case measure => simp [intOf]; omega
        · have Hr : Hid (xs ≠ ys) := Lib.hid (by
            rintro rfl
            rw [hgx] at hgy
            injection hgy with hgy
            injection hgy with e1 e2
            exact hxy ⟨e1, e2⟩)
          have hb : (((xa : Nat) : Int) == ((ya : Nat) : Int) && xb == yb) = false := by
            rw [Bool.and_eq_false_iff, beq_eq_false_iff_ne, beq_eq_false_iff_ne]
            by_cases h : xa = ya
            · exact .inr (fun e => hxy ⟨h, e⟩)
            · exact .inl (by omega)
          clear hx hy hgx hgy hxy
          go_wp2
          go_quiet (fail)
          go_wp2
          go_ret
          exact ⟨by simp [Hr.out], ((Fr.refl _ _).drewN _).drewN _⟩
      · have Hr : Hid (xs = ys) := Lib.hid (by
          have h := hpre.out
          rwa [List.take_of_length_le (by rw [Hn.out]; omega), List.take_of_length_le (by rw [Hm.out]; omega)] at h)
        go_wp2
        go_ret
        exact ⟨by simp [Hr.out], (Fr.refl _ _).drewN _⟩
  · have Hr : Hid (xs ≠ ys) := Lib.hid (by rintro rfl; exact hnm (Hn.out.symm.trans Hm.out))
    have hb : ((n : Int) != (m : Int)) = true := by rw [bne_iff_ne]; omega
    clear hnm
    go_enter Tryz.func15, Tryz.ntmps15
    go_wp2
    go_ret
    exact ⟨by simp [Hr.out], Fr.refl _ _⟩
end Go.Proofs.YthenadijiepmnaaGreat
