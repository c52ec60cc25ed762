/- Rows of pairs and of lists, as plain words for memory; a store of pages of the document's. -/
import Derived.Test.YtenmiociinogeaaRows
import Derived.Test.YtenmiociinogeaaLib2
import Derived.Test.YtenmiociinogeaaPag5
import Derived.Test.YtenmiociinogeaaRanges
import Derived.Deep.OwnRows
namespace Go.Proofs.Ytenmiociinogeaa
open Go.RowKit

theorem own_made (w : World) (e : TypeId) (size n : Nat) (cs : Array Value) (hs : cs.size = n * size) (hn : n ≤ maxLen) :
    (w.alloc (.cells cs e)).ownsRow w.heap.size e size (.slice (some ⟨w.heap.size, 0, none⟩) n n) n cs.toList :=
  ⟨by simpa using hs, .inr ⟨w.heap.size, n, cs, rfl, Nat.le_refl _, heap_alloc_new w _, Nat.le_refl _, hn, hs, by rw [List.take_of_length_le (by simp [hs])]⟩⟩
theorem own_base {w : World} {B B' : Nat} {t : TypeId} {n k : Nat} {v : Value} {xs : List Value} (h : w.ownsRow B t k v n xs) (hB : B' ≤ B) : w.ownsRow B' t k v n xs := by
  refine ⟨h.1, ?_⟩
  rcases h.2 with h0 | ⟨g, cap, cur, hv, hb, r⟩
  · exact .inl h0
  · exact .inr ⟨g, cap, cur, hv, Nat.le_trans hB hb, r⟩
theorem own_cap {w : World} {B : Nat} {t : TypeId} {n c k : Nat} {A : Option Addr} {xs : List Value} (h : w.ownsRow B t k (.slice A n c) n xs) : n ≤ c := by
  obtain ⟨A3, c3, hv3, hc3, -⟩ := own_shape h
  injection hv3 with _ _ h3
  omega

/-- append, of whatever lies in memory, onto a row that is new since w0. -/
theorem wpList_append_new {P : Program} {w0 w : World} {ops : Array Oper} {rest : List Oper} {o : Oper} {a : Act} {Q : Exit → Act → World → Prop} (hgd : o.guard = none) (s x : Operand) (t : TypeId)
    (ho : o.op = .call { callee := .builtin .append, args := #[s, x], argTypes := #[t, t] })
    (e : TypeId) (z : Value) (size bytes : Nat) (ht : P.underlying t = some (.slice e)) (hinfo : (P.info? e).map (fun i => (i.zero, i.size, i.bytes)) = some (some z, size, bytes)) (hzs : z.cells.size = size) (hsz : 0 < size)
    (v : Value) (n : Nat) (xs : List Value) (hs : a.eval s = v) (hown : w.ownsRow w0.heap.size e size v n xs) (hf : Fr No w0 w)
    (B : Nat) (A : Option Addr) (m c : Nat) (news : List Value) (hx : a.eval x = .slice A m c) (hl : news.length = m * size) (hr : Sl w B A news) (h1 : ∀ u ∈ news, u.oneCell' = true)
    (h63 : n + m ≤ maxLen) (hbytes : (n + m) * bytes ≤ 140737488355328)
    (h : ∀ A' c' w', w'.ownsRow w0.heap.size e size (.slice A' (n + m) c') (n + m) (xs ++ news) → Fr No w0 w' → Fr (fun k => v.ownBlock = some k) w w' → wpList P ops Q rest (a.put o.dst (.slice A' (n + m) c')) w') :
    wpList P ops Q (o :: rest) a w := by
  obtain ⟨i, hi, hz, hz1, hz2⟩ := info_parts hinfo
  refine wpList_append_src _ hgd s x t ho w0.heap.size e i z size bytes ht hi hz hz1 hz2 hzs hsz v n xs hs hown B A m c news hx hl hr h1 h63 hbytes hf.size ?_
  intro v' w' q1 q2 q3
  obtain ⟨A', c', rfl, -, -, -⟩ := own_shape q1
  have hb : ∀ k, v.ownBlock = some k → w0.heap.size ≤ k := fun k e => (hown.lt k e).1
  exact h A' c' w' q1 (hf.grown q2 (fun k e => .inr (hb k e))) ((Fr.refl _ w).grown q2 (fun k e => .inl e))

theorem Bk.made1 (w : World) (o : Obj) (t : TypeId) (cs : Array Value) : Bk ((w.alloc o).alloc (.cells cs t)) (w.heap.size + 1) t cs := by
  have := Bk.made (w.alloc o) t cs
  rwa [World.size_alloc] at this
/-- An empty row. -/
theorem own_empty {W : World} {B X size : Nat} {e : TypeId} (h : Bk W X e #[]) (hB : B ≤ X) : W.ownsRow B e size (.slice (some ⟨X, 0, none⟩) 0 0) 0 [] :=
  ⟨by simp, .inr ⟨X, 0, #[], rfl, hB, h, Nat.le_refl _, Nat.zero_le _, by simp, by simp⟩⟩
/-- The same as a step of a region that draws its order; where the row lies then is told. -/
theorem step_append_new {P : Program} {w0 w : World} {ops : Array Oper} {o : Oper} {a : Act} {K : Act → World → Prop} {Q : Exit → Act → World → Prop} {E : Prop} (hgd : o.guard = none) (s x : Operand) (t : TypeId)
    (ho : o.op = .call { callee := .builtin .append, args := #[s, x], argTypes := #[t, t] })
    (e : TypeId) (z : Value) (size bytes : Nat) (ht : P.underlying t = some (.slice e)) (hinfo : (P.info? e).map (fun i => (i.zero, i.size, i.bytes)) = some (some z, size, bytes)) (hzs : z.cells.size = size) (hsz : 0 < size)
    (v : Value) (n : Nat) (xs : List Value) (hs : a.eval s = v) (B : Nat) (A : Option Addr) (m c : Nat) (news : List Value) (hx : a.eval x = .slice A m c) (hown : w.ownsRow w0.heap.size e size v n xs) (hf : Fr No w0 w)
    (hl : news.length = m * size) (hr : Sl w B A news) (h1 : ∀ u ∈ news, u.oneCell' = true)
    (h63 : n + m ≤ maxLen) (hbytes : (n + m) * bytes ≤ 140737488355328)
    (h : ∀ A' c' w', w'.ownsRow w0.heap.size e size (.slice A' (n + m) c') (n + m) (xs ++ news) → Fr No w0 w' → Fr (fun k => v.ownBlock = some k) w w' →
      ((Value.slice A' (n + m) c').ownBlock = v.ownBlock ∨ (Value.slice A' (n + m) c').ownBlock = some w.heap.size) → K (a.put o.dst (.slice A' (n + m) c')) w') :
    if Region.wanted o (yielded ops a.tmps) = true then Oper.wp P o a w K Q else E := by
  obtain ⟨i, hi, hz, hz1, hz2⟩ := info_parts hinfo
  refine step_append_src _ hgd s x t ho w0.heap.size e i z size bytes ht hi hz hz1 hz2 hzs hsz v n xs hs hown B A m c news hx hl hr h1 h63 hbytes hf.size ?_
  intro v' w' q1 q2 q3
  obtain ⟨A', c', rfl, -, -, -⟩ := own_shape q1
  have hb : ∀ k, v.ownBlock = some k → w0.heap.size ≤ k := fun k e => (hown.lt k e).1
  exact h A' c' w' q1 (hf.grown q2 (fun k e => .inr (hb k e))) ((Fr.refl _ w).grown q2 (fun k e => .inl e)) q3

/-- append of one new element onto a row that is new since w0. -/
theorem wpList_app1 {P : Program} {w0 w : World} {ops : Array Oper} {rest : List Oper} {o : Oper} {a : Act} {Q : Exit → Act → World → Prop} (hgd : o.guard = none) (s x : Operand) (t : TypeId)
    (ho : o.op = .call { callee := .builtin .append, args := #[s, x], argTypes := #[t, t] })
    (e : TypeId) (z : Value) (size bytes : Nat) (ht : P.underlying t = some (.slice e)) (hinfo : (P.info? e).map (fun i => (i.zero, i.size, i.bytes)) = some (some z, size, bytes)) (hzs : z.cells.size = size) (hsz : 0 < size)
    (v : Value) (n : Nat) (xs : List Value) (us : Array Value) (hus : us.size = size) (hu : ∀ u ∈ us.toList, u.oneCell' = true) (hs : a.eval s = v) (H : Nat) (hH : w.heap.size = H) (hx : a.eval x = .slice (some ⟨H, 0, none⟩) 1 1) (hown : w.ownsRow w0.heap.size e size v n xs) (hf : Fr No w0 w)
    (h63 : n + 1 ≤ maxLen) (hbytes : (n + 1) * bytes ≤ 140737488355328)
    (h : ∀ A' c' w', w'.ownsRow w0.heap.size e size (.slice A' (n + 1) c') (n + 1) (xs ++ us.toList) → Fr No w0 w' → Fr (fun k => v.ownBlock = some k) w w' → wpList P ops Q rest (a.put o.dst (.slice A' (n + 1) c')) w') :
    wpList P ops Q (o :: rest) a (w.alloc (.cells us e)) := by
  refine wpList_append_elem hgd s x t ho w0.heap.size e z size bytes ht hinfo hzs hsz v n xs us hus hu hs H hH hx hown h63 hbytes hf.size ?_
  intro A' c' w' q1 q2 q3
  have hb : ∀ k, v.ownBlock = some k → w0.heap.size ≤ k := fun k e => (hown.lt k e).1
  exact h A' c' w' q1 (hf.trans' q2 (fun k hk e => by have := hb k e; omega)) q2

/-- Pairs as cells. -/
def prC (x : Nat × Int) : List Value := [.int .i64 (x.1 : Int), .int .i64 x.2]
theorem prC_len (x : Nat × Int) : (prC x).length = 2 := rfl
def prs (l : List (Nat × Int)) : List Value := l.flatMap prC
theorem prs_len (l : List (Nat × Int)) : (prs l).length = l.length * 2 := flat_len prC 2 prC_len l
theorem prs_app (l m : List (Nat × Int)) : prs (l ++ m) = prs l ++ prs m := by simp [prs]
theorem prs_one (l : List (Nat × Int)) : ∀ u ∈ prs l, u.oneCell' = true := by
  intro u hu
  obtain ⟨x, _, hx⟩ := List.mem_flatMap.1 hu
  simp [prC] at hx
  rcases hx with rfl | rfl <;> rfl
theorem prs_at (l : List (Nat × Int)) (i : Nat) (hi : i < l.length) : (prs l)[i * 2]? = some (.int .i64 (l[i].1 : Int)) ∧ (prs l)[i * 2 + 1]? = some (.int .i64 l[i].2) := by
  have h0 := flat_at prC 2 prC_len l i 0 hi (by omega)
  have h1 := flat_at prC 2 prC_len l i 1 hi (by omega)
  exact ⟨h0.trans rfl, h1.trans rfl⟩
theorem prs_take (l : List (Nat × Int)) (k : Nat) : (prs l).take (k * 2) = prs (l.take k) := by
  rcases Nat.le_total k l.length with h | h
  · conv => lhs; rw [← List.take_append_drop k l, prs_app]
    rw [List.take_append_of_le_length (by rw [prs_len, List.length_take]; omega), List.take_of_length_le (by rw [prs_len, List.length_take]; omega)]
  · rw [List.take_of_length_le h, List.take_of_length_le (by rw [prs_len]; omega)]
theorem prs_drop (l : List (Nat × Int)) (k : Nat) : (prs l).drop (k * 2) = prs (l.drop k) := by
  rcases Nat.le_total k l.length with h | h
  · conv => lhs; rw [← List.take_append_drop k l, prs_app]
    rw [List.drop_append_of_le_length (by rw [prs_len, List.length_take]; omega), List.drop_eq_nil_of_le (by rw [prs_len, List.length_take]; omega)]
    rfl
  · rw [List.drop_eq_nil_of_le h, List.drop_eq_nil_of_le (by rw [prs_len]; omega)]
    rfl
theorem info_pair : (Try.prog.info? 50).map (fun i => (i.zero, i.size, i.bytes)) = some (some (.agg #[.int .i64 0, .int .i64 0]), 2, 16) := by kernel_rfl
theorem info_prs : (Try.prog.info? 47).map (fun i => (i.zero, i.size, i.bytes)) = some (some (.slice none 0 0), 1, 24) := by kernel_rfl
/-- A page in memory: a row of pairs. -/
def PgO (w : World) (v : Value) (l : List (Nat × Int)) : Prop := w.ownsRow 0 50 2 v l.length (prs l)
theorem PgO.shape {w : World} {v : Value} {l : List (Nat × Int)} (h : PgO w v l) : ∃ A c, v = .slice A l.length c ∧ l.length ≤ c := by
  obtain ⟨A, c, h1, h2, _⟩ := own_shape h
  exact ⟨A, c, h1, h2⟩
theorem PgO.one {w : World} {v : Value} {l : List (Nat × Int)} (h : PgO w v l) : v.oneCell' = true := by
  obtain ⟨A, c, rfl, _⟩ := h.shape
  rfl
theorem PgO.cells {w : World} {A : Option Addr} {n c : Nat} {l : List (Nat × Int)} (h : PgO w (.slice A n c) l) {i : Nat} (hi : i < l.length) :
    ∃ g, A = some ⟨g, 0, none⟩ ∧ n = l.length ∧ n ≤ c ∧ w.cell? ⟨g, i * 2, none⟩ = some (.int .i64 (l[i].1 : Int)) ∧ w.cell? ⟨g, i * 2 + 1, none⟩ = some (.int .i64 l[i].2) := by
  obtain ⟨g, cap, hv, _, _⟩ := World.ownsRow.form h (by omega)
  injection hv with h1 h2 h3
  subst h1 h2 h3
  obtain ⟨s0, s1⟩ := prs_at l i hi
  exact ⟨g, rfl, rfl, own_cap h, (World.ownsRow.cellAt h _ (by omega)).trans s0, (World.ownsRow.cellAt h _ (by omega)).trans s1⟩
/-- The headers of a store's pages. -/
structure Hd (w : World) (p : Nat) (v : Value) (hs : List Value) : Prop where
  self : Bk w p 32 #[v]
  row : w.ownsRow 0 47 1 v hs.length hs
  one : ∀ u ∈ hs, u.oneCell' = true
  le : hs.length ≤ 100000
theorem Hd.cells {w : World} {p : Nat} {A : Option Addr} {n c : Nat} {hs : List Value} (h : Hd w p (.slice A n c) hs) {i : Nat} (hi : i < hs.length) :
    ∃ g, A = some ⟨g, 0, none⟩ ∧ n = hs.length ∧ n ≤ c ∧ w.cell? ⟨g, i, none⟩ = some hs[i] := by
  obtain ⟨g, cap, hv, _, _⟩ := h.row.form (by omega)
  injection hv with h1 h2 h3
  subst h1 h2 h3
  exact ⟨g, rfl, rfl, own_cap h.row, (h.row.cellAt _ (by omega)).trans (List.getElem?_eq_getElem hi)⟩
theorem Hd.shape {w : World} {p : Nat} {v : Value} {hs : List Value} (h : Hd w p v hs) : ∃ A c, v = .slice A hs.length c ∧ hs.length ≤ c := by
  obtain ⟨A, c, h1, h2, _⟩ := own_shape h.row
  exact ⟨A, c, h1, h2⟩
theorem Hd.fr {S : Nat → Prop} {w w' : World} {p : Nat} {v : Value} {hs : List Value} (h : Hd w p v hs) (hf : Fr S w w') (h1 : ¬ S p) (h2 : ∀ k, v.ownBlock = some k → ¬ S k) : Hd w' p v hs := ⟨h.self.fr hf h1, own_fr h.row hf h2, h.one, h.le⟩
/-- The document's store at p, in the blocks R: its pages. -/
def RS (w : World) (R : Nat → Prop) (p : Nat) (P : List (List (Nat × Int))) : Prop :=
  ∃ v hs, Hd w p v hs ∧ hs.length = P.length ∧ (∀ i (h1 : i < hs.length) (h2 : i < P.length), PgO w hs[i] P[i]) ∧
    R p ∧ (∀ k, v.ownBlock = some k → R k) ∧ (∀ u ∈ hs, ∀ k, u.ownBlock = some k → R k) ∧ ∀ k, R k → k < w.heap.size
theorem PgO.fr {S : Nat → Prop} {w w' : World} {v : Value} {l : List (Nat × Int)} (h : PgO w v l) (hf : Fr S w w') (hs : ∀ k, v.ownBlock = some k → ¬ S k) : PgO w' v l := own_fr h hf hs
theorem RS.fr {S R : Nat → Prop} {w w' : World} {p : Nat} {P : List (List (Nat × Int))} (h : RS w R p P) (hf : Fr S w w') (hs : ∀ k, R k → ¬ S k) : RS w' R p P := by
  obtain ⟨v, hs', hd, hlen, hpg, h1, h2, h3, h4⟩ := h
  exact ⟨v, hs', hd.fr hf (hs p h1) (fun k e => hs k (h2 k e)), hlen, fun i a b => (hpg i a b).fr hf (fun k e => hs k (h3 _ (List.getElem_mem a) k e)), h1, h2, h3, fun k hk => Nat.lt_of_lt_of_le (h4 k hk) hf.size⟩
/-- What a call leaves of what lies in S: only that has turned, and S' is S and what is new. -/
structure Step5 (S S' : Nat → Prop) (w w' : World) : Prop where
  fr : Fr S w w'
  new : ∀ k, S' k → S k ∨ w.heap.size ≤ k
/-- The pages of a store, once some stand in the place of others. -/
theorem RS.of {w w' : World} {R : Nat → Prop} {p : Nat} {P : List (List (Nat × Int))} {v' : Value} {hs : List Value} {a many : Nat} {ls : List Value} {L : List (List (Nat × Int))} (_hf : Fr (fun k => k = p) w w')
    (hd : Hd w' p v' (hs.take a ++ ls ++ hs.drop (a + many))) (hlen : hs.length = P.length) (hlL : ls.length = L.length) (_hle : a + many ≤ hs.length)
    (h1 : ∀ i (c1 : i < hs.length) (c2 : i < P.length), (i < a ∨ a + many ≤ i) → PgO w' hs[i] P[i]) (h2 : ∀ i (c1 : i < ls.length) (c2 : i < L.length), PgO w' ls[i] L[i])
    (r0 : R p) (r1 : ∀ k, v'.ownBlock = some k → R k) (r2 : ∀ u ∈ hs, ∀ k, u.ownBlock = some k → R k) (r3 : ∀ u ∈ ls, ∀ k, u.ownBlock = some k → R k) (r4 : ∀ k, R k → k < w'.heap.size) :
    RS w' R p (setP P a many L) := by
  refine ⟨v', _, hd, ?_, fun i c1 c2 => ?_, r0, r1, fun u hu => ?_, r4⟩
  · unfold setP
    simp only [List.length_append, List.length_take, List.length_drop, hlen, hlL]
  · unfold setP at c2 ⊢
    have hta : (hs.take a).length = (P.take a).length := by simp [hlen]
    rcases Nat.lt_or_ge i (hs.take a).length with b1 | b1
    · have b2 : i < (P.take a).length := by omega
      have e1 : (hs.take a ++ ls ++ hs.drop (a + many))[i] = hs[i]'(by rw [List.length_take] at b1; omega) := by
        rw [List.getElem_append_left (by rw [List.length_append]; omega), List.getElem_append_left b1, List.getElem_take]
      have e2 : (P.take a ++ L ++ P.drop (a + many))[i] = P[i]'(by rw [List.length_take] at b2; omega) := by
        rw [List.getElem_append_left (by rw [List.length_append]; omega), List.getElem_append_left b2, List.getElem_take]
      rw [e1, e2]
      rw [List.length_take] at b1
      exact h1 i _ _ (.inl (by omega))
    · rcases Nat.lt_or_ge i (hs.take a ++ ls).length with b3 | b3
      · have e1 : (hs.take a ++ ls ++ hs.drop (a + many))[i] = ls[i - (hs.take a).length]'(by rw [List.length_append] at b3; omega) := by
          rw [List.getElem_append_left b3, List.getElem_append_right b1]
        have e2 : (P.take a ++ L ++ P.drop (a + many))[i] = L[i - (P.take a).length]'(by rw [List.length_append] at b3; omega) := by
          rw [List.getElem_append_left (by rw [List.length_append] at b3 ⊢; omega), List.getElem_append_right (by omega)]
        rw [e1, e2]
        have hx := h2 (i - (hs.take a).length) (by rw [List.length_append] at b3; omega) (by rw [List.length_append] at b3; omega)
        simpa only [hta] using hx
      · have hl1 : (hs.take a ++ ls).length = (P.take a ++ L).length := by rw [List.length_append, List.length_append, hta, hlL]
        have e1 : (hs.take a ++ ls ++ hs.drop (a + many))[i] = hs[a + many + (i - (hs.take a ++ ls).length)]'(by rw [List.length_append, List.length_drop] at c1; omega) := by
          rw [List.getElem_append_right b3, List.getElem_drop]
        have e2 : (P.take a ++ L ++ P.drop (a + many))[i] = P[a + many + (i - (P.take a ++ L).length)]'(by rw [List.length_append, List.length_drop] at c2; omega) := by
          rw [List.getElem_append_right (by omega), List.getElem_drop]
        rw [e1, e2]
        have hx := h1 (a + many + (i - (hs.take a ++ ls).length)) (by rw [List.length_append, List.length_drop] at c1; omega) (by rw [List.length_append, List.length_drop] at c1; omega) (.inr (by omega))
        simpa only [hl1] using hx
  · rcases List.mem_append.1 hu with hu | hu
    · rcases List.mem_append.1 hu with hu | hu
      · exact r2 u (List.mem_of_mem_take hu)
      · exact r3 u hu
    · exact r2 u (List.mem_of_mem_drop hu)
end Go.Proofs.Ytenmiociinogeaa
