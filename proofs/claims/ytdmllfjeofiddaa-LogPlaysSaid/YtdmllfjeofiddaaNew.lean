/- Appends onto what is new. No program is spoken of. -/
import Derived.Test.YtdmllfjeofiddaaLib2
import Derived.Test.YtdmllfjeofiddaaRanges
import Derived.Deep.OwnRows
namespace Go.Proofs.Ytdmllfjeofiddaa
open Go.RowKit

theorem own_made (w : World) (e : TypeId) (size n : Nat) (cs : Array Value) (hs : cs.size = n * size) (hn : n ≤ maxLen) :
    (w.alloc (.cells cs e)).ownsRow w.heap.size e size (.slice (some ⟨w.heap.size, 0, none⟩) n n) n cs.toList :=
  ⟨by simpa using hs, .inr ⟨w.heap.size, n, cs, rfl, Nat.le_refl _, heap_alloc_new w _, Nat.le_refl _, hn, hs, by rw [List.take_of_length_le (by simp [hs])]⟩⟩
theorem own_base {w : World} {B B' : Nat} {t : TypeId} {n k : Nat} {v : Value} {xs : List Value} (h : w.ownsRow B t k v n xs) (hB : B' ≤ B) : w.ownsRow B' t k v n xs := by
  refine ⟨h.1, ?_⟩
  rcases h.2 with h0 | ⟨g, cap, cur, hv, hb, r⟩
  · exact .inl h0
  · exact .inr ⟨g, cap, cur, hv, Nat.le_trans hB hb, r⟩
theorem own_cap {w : World} {B : Nat} {t : TypeId} {n c k : Nat} {A : Option Addr} {xs : List Value} (h : w.ownsRow B t k (.slice A n c) n xs) : n ≤ c := by
  obtain ⟨A3, c3, hv3, hc3, -⟩ := own_shape h
  injection hv3 with _ _ h3
  omega

/-- append, of whatever lies in memory, onto a row that is new since w0. -/
theorem wpList_append_new {P : Program} {w0 w : World} {ops : Array Oper} {rest : List Oper} {o : Oper} {a : Act} {Q : Exit → Act → World → Prop} (hgd : o.guard = none) (s x : Operand) (t : TypeId)
    (ho : o.op = .call { callee := .builtin .append, args := #[s, x], argTypes := #[t, t] })
    (e : TypeId) (z : Value) (size bytes : Nat) (ht : P.underlying t = some (.slice e)) (hinfo : (P.info? e).map (fun i => (i.zero, i.size, i.bytes)) = some (some z, size, bytes)) (hzs : z.cells.size = size) (hsz : 0 < size)
    (v : Value) (n : Nat) (xs : List Value) (hs : a.eval s = v) (hown : w.ownsRow w0.heap.size e size v n xs) (hf : Fr No w0 w)
    (B : Nat) (A : Option Addr) (m c : Nat) (news : List Value) (hx : a.eval x = .slice A m c) (hl : news.length = m * size) (hr : Sl w B A news) (h1 : ∀ u ∈ news, u.oneCell' = true)
    (h63 : n + m ≤ maxLen) (hbytes : (n + m) * bytes ≤ 140737488355328)
    (h : ∀ A' c' w', w'.ownsRow w0.heap.size e size (.slice A' (n + m) c') (n + m) (xs ++ news) → Fr No w0 w' → Fr (fun k => v.ownBlock = some k) w w' → wpList P ops Q rest (a.put o.dst (.slice A' (n + m) c')) w') :
    wpList P ops Q (o :: rest) a w := by
  obtain ⟨i, hi, hz, hz1, hz2⟩ := info_parts hinfo
  refine wpList_append_src _ hgd s x t ho w0.heap.size e i z size bytes ht hi hz hz1 hz2 hzs hsz v n xs hs hown B A m c news hx hl hr h1 h63 hbytes hf.size ?_
  intro v' w' q1 q2 q3
  obtain ⟨A', c', rfl, -, -, -⟩ := own_shape q1
  have hb : ∀ k, v.ownBlock = some k → w0.heap.size ≤ k := fun k e => (hown.lt k e).1
  exact h A' c' w' q1 (hf.grown q2 (fun k e => .inr (hb k e))) ((Fr.refl _ w).grown q2 (fun k e => .inl e))

theorem Bk.made1 (w : World) (o : Obj) (t : TypeId) (cs : Array Value) : Bk ((w.alloc o).alloc (.cells cs t)) (w.heap.size + 1) t cs := by
  have := Bk.made (w.alloc o) t cs
  rwa [World.size_alloc] at this
/-- An empty row. -/
theorem own_empty {W : World} {B X size : Nat} {e : TypeId} (h : Bk W X e #[]) (hB : B ≤ X) : W.ownsRow B e size (.slice (some ⟨X, 0, none⟩) 0 0) 0 [] :=
  ⟨by simp, .inr ⟨X, 0, #[], rfl, hB, h, Nat.le_refl _, Nat.zero_le _, by simp, by simp⟩⟩
/-- The same as a step of a region that draws its order; where the row lies then is told. -/
theorem step_append_new {P : Program} {w0 w : World} {ops : Array Oper} {o : Oper} {a : Act} {K : Act → World → Prop} {Q : Exit → Act → World → Prop} {E : Prop} (hgd : o.guard = none) (s x : Operand) (t : TypeId)
    (ho : o.op = .call { callee := .builtin .append, args := #[s, x], argTypes := #[t, t] })
    (e : TypeId) (z : Value) (size bytes : Nat) (ht : P.underlying t = some (.slice e)) (hinfo : (P.info? e).map (fun i => (i.zero, i.size, i.bytes)) = some (some z, size, bytes)) (hzs : z.cells.size = size) (hsz : 0 < size)
    (v : Value) (n : Nat) (xs : List Value) (hs : a.eval s = v) (B : Nat) (A : Option Addr) (m c : Nat) (news : List Value) (hx : a.eval x = .slice A m c) (hown : w.ownsRow w0.heap.size e size v n xs) (hf : Fr No w0 w)
    (hl : news.length = m * size) (hr : Sl w B A news) (h1 : ∀ u ∈ news, u.oneCell' = true)
    (h63 : n + m ≤ maxLen) (hbytes : (n + m) * bytes ≤ 140737488355328)
    (h : ∀ A' c' w', w'.ownsRow w0.heap.size e size (.slice A' (n + m) c') (n + m) (xs ++ news) → Fr No w0 w' → Fr (fun k => v.ownBlock = some k) w w' →
      ((Value.slice A' (n + m) c').ownBlock = v.ownBlock ∨ (Value.slice A' (n + m) c').ownBlock = some w.heap.size) → K (a.put o.dst (.slice A' (n + m) c')) w') :
    if Region.wanted o (yielded ops a.tmps) = true then Oper.wp P o a w K Q else E := by
  obtain ⟨i, hi, hz, hz1, hz2⟩ := info_parts hinfo
  refine step_append_src _ hgd s x t ho w0.heap.size e i z size bytes ht hi hz hz1 hz2 hzs hsz v n xs hs hown B A m c news hx hl hr h1 h63 hbytes hf.size ?_
  intro v' w' q1 q2 q3
  obtain ⟨A', c', rfl, -, -, -⟩ := own_shape q1
  have hb : ∀ k, v.ownBlock = some k → w0.heap.size ≤ k := fun k e => (hown.lt k e).1
  exact h A' c' w' q1 (hf.grown q2 (fun k e => .inr (hb k e))) ((Fr.refl _ w).grown q2 (fun k e => .inl e)) q3

/-- append of one new element onto a row that is new since w0. -/
theorem wpList_app1 {P : Program} {w0 w : World} {ops : Array Oper} {rest : List Oper} {o : Oper} {a : Act} {Q : Exit → Act → World → Prop} (hgd : o.guard = none) (s x : Operand) (t : TypeId)
    (ho : o.op = .call { callee := .builtin .append, args := #[s, x], argTypes := #[t, t] })
    (e : TypeId) (z : Value) (size bytes : Nat) (ht : P.underlying t = some (.slice e)) (hinfo : (P.info? e).map (fun i => (i.zero, i.size, i.bytes)) = some (some z, size, bytes)) (hzs : z.cells.size = size) (hsz : 0 < size)
    (v : Value) (n : Nat) (xs : List Value) (us : Array Value) (hus : us.size = size) (hu : ∀ u ∈ us.toList, u.oneCell' = true) (hs : a.eval s = v) (H : Nat) (hH : w.heap.size = H) (hx : a.eval x = .slice (some ⟨H, 0, none⟩) 1 1) (hown : w.ownsRow w0.heap.size e size v n xs) (hf : Fr No w0 w)
    (h63 : n + 1 ≤ maxLen) (hbytes : (n + 1) * bytes ≤ 140737488355328)
    (h : ∀ A' c' w', w'.ownsRow w0.heap.size e size (.slice A' (n + 1) c') (n + 1) (xs ++ us.toList) → Fr No w0 w' → Fr (fun k => v.ownBlock = some k) w w' → wpList P ops Q rest (a.put o.dst (.slice A' (n + 1) c')) w') :
    wpList P ops Q (o :: rest) a (w.alloc (.cells us e)) := by
  refine wpList_append_elem hgd s x t ho w0.heap.size e z size bytes ht hinfo hzs hsz v n xs us hus hu hs H hH hx hown h63 hbytes hf.size ?_
  intro A' c' w' q1 q2 q3
  have hb : ∀ k, v.ownBlock = some k → w0.heap.size ≤ k := fun k e => (hown.lt k e).1
  exact h A' c' w' q1 (hf.trans' q2 (fun k hk e => by have := hb k e; omega)) q2

end Go.Proofs.Ytdmllfjeofiddaa
