/- Items of the document's; what it writes of those that are one word. -/
import Derived.Test.YtbemfomiiikpoaaGreatCodesW
import Derived.Test.YtbemfomiiikpoaaGreatRrd9
import Derived.Test.YtbemfomiiikpoaaGreatHand
import Derived.Deep.RegionHeld3
namespace Go.Proofs.YtbemfomiiikpoaaGreat
open Go.RowKit

/-- An item of the document's. -/
structure It where
  kind : Int
  n : Int
  most : Int
  x : Int
  s : ByteArray
  L : List Nat
  A : Option Addr
  c : Nat
def It.cells (t : It) : List Value := [.int .i64 t.kind, .int .i64 t.n, .int .i64 t.most, .int .i64 t.x, .string t.s, .slice t.A t.L.length t.c]
def It.val (t : It) : Value := .agg #[.int .i64 t.kind, .int .i64 t.n, .int .i64 t.most, .int .i64 t.x, .string t.s, .slice t.A t.L.length t.c]
structure It.Ok (w : World) (B : Nat) (t : It) : Prop where
  kind : 0 ≤ t.kind ∧ t.kind ≤ 4
  n : -9223372036854775808 ≤ t.n ∧ t.n < 9223372036854775808
  most : -9223372036854775808 ≤ t.most ∧ t.most < 9223372036854775808
  x : -9223372036854775808 ≤ t.x ∧ t.x < 9223372036854775808
  s : t.s.size ≤ 200
  L : t.L.length ≤ 100
  w64 : ∀ u ∈ t.L, u < 18446744073709551616
  c : t.L.length ≤ t.c ∧ t.c ≤ maxLen
  nil : t.A = none → t.L.length = 0 ∧ t.c = 0
  sl : Sl w B t.A (u64s t.L)
/-- The words of an item. -/
def It.words (t : It) : List Nat :=
  if t.kind = 0 then [t.n.toNat] else if t.kind = 1 then [sgn t.x] else if t.kind = 2 then [if t.n = 1 then 1 else 0]
  else if t.kind = 3 then ((byts t.s).take 64).length :: packed ((byts t.s).take 64) else t.L.length :: t.L

set_option maxHeartbeats 400000 in
theorem refSigned_any (n : Int) (hn : -9223372036854775808 ≤ n) (hm : n < 9223372036854775808) (w : World) :
    Calls Tryz.prog 55 #[.int .i64 n] w fun e w' => e = .returned (.int .u64 (sgn n)) ∧ w = w' := by
  by_cases h0 : 0 ≤ n
  all_goals
    go_enter Tryz.func55, Tryz.ntmps55
    go_wp2
    go_ret
    refine ⟨?_, rfl⟩
    unfold sgn
    split
    all_goals first | omega | (simp; omega)

/-- A list of the call's own with more words, and what else may have turned: the block in which it was. -/
def Grew (w : World) (g : Option Nat) (ws : List Nat) (e : Ending) (w' : World) : Prop :=
  ∃ A c, e = .returned (.slice A ws.length c) ∧ w'.ownsRow 0 70 1 (.slice A ws.length c) ws.length (u64s ws) ∧ Fr (fun k => g = some k) w w' ∧
    ((Value.slice A ws.length c).ownBlock = g ∨ ∃ k, (Value.slice A ws.length c).ownBlock = some k ∧ w.heap.size ≤ k)

/-- The end of a walk that has put one word behind what was owned. -/
theorem grew_one {w w0 w1 : World} {A A1 : Option Addr} {n c c1 : Nat} {ws : List Nat} {u : Nat} {us : List Nat} (hn : n = ws.length) (hus : us = [u]) (h0 : Fr No w w0)
    (hown : w1.ownsRow 0 70 1 (.slice A1 (n + 1) c1) (n + 1) (u64s (ws ++ [u]))) (hf : Fr (fun k => (Value.slice A n c).ownBlock = some k) w0 w1)
    (hg : (Value.slice A1 (n + 1) c1).ownBlock = (Value.slice A n c).ownBlock ∨ ∃ k, (Value.slice A1 (n + 1) c1).ownBlock = some k ∧ w0.heap.size ≤ k) :
    Grew w (Value.slice A n c).ownBlock (ws ++ us) (.returned (.slice A1 (n + 1) c1)) w1 := by
  subst hn hus
  refine ⟨A1, c1, by simp, by simpa using hown, (h0.weak (fun _ _ h => h.elim)).trans' hf (fun _ _ h => h), ?_⟩
  rcases hg with hg | ⟨k, hg, hk⟩
  · exact .inl (by simpa [Value.ownBlock] using hg)
  · exact .inr ⟨k, by simpa [Value.ownBlock] using hg, Nat.le_trans h0.size hk⟩

theorem grew_two {w w0 w1 w2 w3 : World} {A A1 A3 : Option Addr} {n c c1 c3 m : Nat} {ws : List Nat} {u : Nat} {us ys : List Nat} (hn : n = ws.length) (hus : us = u :: ys) (h0 : Fr No w w0) (hf : Fr (fun k => (Value.slice A n c).ownBlock = some k) w0 w1)
    (hg : (Value.slice A1 (n + 1) c1).ownBlock = (Value.slice A n c).ownBlock ∨ ∃ k, (Value.slice A1 (n + 1) c1).ownBlock = some k ∧ w0.heap.size ≤ k) (h2 : Fr No w1 w2)
    (hown : w3.ownsRow 0 70 1 (.slice A3 (n + 1 + m) c3) (n + 1 + m) (u64s (ws ++ [u] ++ ys))) (hf3 : Fr (fun k => (Value.slice A1 (n + 1) c1).ownBlock = some k) w2 w3)
    (hg3 : (Value.slice A3 (n + 1 + m) c3).ownBlock = (Value.slice A1 (n + 1) c1).ownBlock ∨ ∃ k, (Value.slice A3 (n + 1 + m) c3).ownBlock = some k ∧ w2.heap.size ≤ k) :
    Grew w (Value.slice A n c).ownBlock (ws ++ us) (.returned (.slice A3 (n + 1 + m) c3)) w3 := by
  subst hn hus
  have hl := hown.1
  simp [u64s] at hl
  obtain rfl : ys.length = m := by omega
  have e : (ws ++ u :: ys).length = ws.length + 1 + ys.length := by simp; omega
  have hf1' := (h0.weak (S' := fun k => (Value.slice A ws.length c).ownBlock = some k) (fun _ _ h => h.elim)).trans' hf (fun _ _ h => h)
  have hs2 := Nat.le_trans hf1'.size h2.size
  refine ⟨A3, c3, by rw [e], by rw [e]; simpa using hown, (hf1'.trans' h2 (fun _ _ h => h.elim)).trans' hf3 ?_, ?_⟩
  · intro k hk h
    rcases hg with hg | ⟨k', hg, hk'⟩
    · rw [← hg]; exact h
    · rw [hg] at h
      injection h with h
      have := h0.size
      omega
  · rcases hg3 with hg3 | ⟨k, hg3, hk⟩
    · have hg3' : (Value.slice A3 (ws ++ u :: ys).length c3).ownBlock = (Value.slice A1 (ws.length + 1) c1).ownBlock := by rw [e]; exact hg3
      rw [hg3']
      rcases hg with hg | ⟨k', hg, hk'⟩
      · exact .inl hg
      · exact .inr ⟨k', hg, Nat.le_trans h0.size hk'⟩
    · exact .inr ⟨k, by rw [e]; exact hg3, by omega⟩

set_option maxHeartbeats 1000000 in
theorem refWrite_0 (ws : List Nat) (A : Option Addr) (c : Nat) (t : It) (w : World) (hown : w.ownsRow 0 70 1 (.slice A ws.length c) ws.length (u64s ws)) (hk : t.kind = 0) (hn : t.Ok w w.heap.size) (hlen : ws.length + 200 ≤ 1099511627776) :
    Calls Tryz.prog 29 #[.slice A ws.length c, t.val] w (Grew w (Value.slice A ws.length c).ownBlock (ws ++ t.words)) := by
  have Hw : Hid (t.words = [t.n.toNat]) := Lib.hid (by simp [It.words, hk])
  have Hx : Hid (t.n < 0 → t.n.toNat = 0) := Lib.hid (by omega)
  obtain ⟨h1, h2⟩ := hn.n
  unfold It.val
  rw [hk] at *
  generalize t.n = n at *
  clear hn hk
  go_enter Tryz.func29, Tryz.ntmps29
  go_wp2_with (at_builtin; (refine append_word rfl _ _ rfl 0 A ws.length c ws n.toNat _ (by omega) rfl (w.heap.size + 1) (by simp) rfl (hown.alloc _) (by omega) (Nat.zero_le _) ?_; intro A1 c1 w1 hown1 hf1 hg1))
  all_goals
    go_ret
    exact grew_one rfl Hw.out ((Fr.refl _ _).alloc _) hown1 hf1 hg1

set_option maxHeartbeats 1000000 in
theorem refWrite_1 (ws : List Nat) (A : Option Addr) (c : Nat) (t : It) (w : World) (hown : w.ownsRow 0 70 1 (.slice A ws.length c) ws.length (u64s ws)) (hk : t.kind = 1) (hn : t.Ok w w.heap.size) (hlen : ws.length + 200 ≤ 1099511627776) :
    Calls Tryz.prog 29 #[.slice A ws.length c, t.val] w (Grew w (Value.slice A ws.length c).ownBlock (ws ++ t.words)) := by
  have Hw : Hid (t.words = [sgn t.x]) := Lib.hid (by simp [It.words, hk])
  obtain ⟨h1, h2⟩ := hn.x
  unfold It.val
  rw [hk] at *
  generalize t.x = x at *
  clear hn hk
  go_enter Tryz.func29, Tryz.ntmps29
  go_wp2_with (first
    | (go_at_call 55; refine (refSigned_any x h1 h2 _).mono ?_; rintro e w' ⟨rfl, rfl⟩)
    | (at_builtin; (refine append_word rfl _ _ rfl 0 A ws.length c ws (sgn x) _ rfl rfl (w.heap.size + 1) (by simp) rfl (hown.alloc _) (by omega) (Nat.zero_le _) ?_; intro A1 c1 w1 hown1 hf1 hg1)))
  go_ret
  exact grew_one rfl Hw.out ((Fr.refl _ _).alloc _) hown1 hf1 hg1

set_option maxHeartbeats 1000000 in
theorem refWrite_2 (ws : List Nat) (A : Option Addr) (c : Nat) (t : It) (w : World) (hown : w.ownsRow 0 70 1 (.slice A ws.length c) ws.length (u64s ws)) (hk : t.kind = 2) (_hn : t.Ok w w.heap.size) (hlen : ws.length + 200 ≤ 1099511627776) :
    Calls Tryz.prog 29 #[.slice A ws.length c, t.val] w (Grew w (Value.slice A ws.length c).ownBlock (ws ++ t.words)) := by
  by_cases h1 : t.n = 1
  · have Hw : Hid (t.words = [1]) := Lib.hid (by simp [It.words, hk, h1])
    unfold It.val
    rw [hk, h1] at *
    clear hk h1
    go_enter Tryz.func29, Tryz.ntmps29
    go_wp2_with (at_builtin; (refine append_word rfl _ _ rfl 0 A ws.length c ws 1 _ rfl rfl (w.heap.size + 1) (by simp) rfl (hown.alloc _) (by omega) (Nat.zero_le _) ?_; intro A1 c1 w1 hown1 hf1 hg1))
    go_ret
    exact grew_one rfl Hw.out ((Fr.refl _ _).alloc _) hown1 hf1 hg1
  · have Hw : Hid (t.words = [0]) := Lib.hid (by simp [It.words, hk, h1])
    have hb : (t.n == 1) = false := by simpa using h1
    unfold It.val
    rw [hk] at *
    clear hk h1
    go_enter Tryz.func29, Tryz.ntmps29
    go_wp2_with (at_builtin; (refine append_word rfl _ _ rfl 0 A ws.length c ws 0 _ rfl rfl (w.heap.size + 1) (by simp) rfl (hown.alloc _) (by omega) (Nat.zero_le _) ?_; intro A1 c1 w1 hown1 hf1 hg1))
    go_ret
    exact grew_one rfl Hw.out ((Fr.refl _ _).alloc _) hown1 hf1 hg1
set_option maxHeartbeats 1000000 in
theorem refWords_any (xs ys : List Nat) (A1 A2 : Option Addr) (n m c1 c2 : Nat) (w : World) (h1 : Sl w w.heap.size A1 (u64s xs)) (h2 : Sl w w.heap.size A2 (u64s ys)) (hn : xs.length = n) (hm : ys.length = m) (hn1 : n ≤ 1099511627776) (hm1 : m ≤ 1099511627776) :
    Calls Tryz.prog 11 #[.slice A1 n c1, .slice A2 m c2] w fun e w' => e = .returned (.bool (decide (xs = ys))) ∧ Fr No w w' := by
  have Hn := Lib.hid hn
  have Hm := Lib.hid hm
  clear hn hm
  by_cases hnm : n = m
  · subst hnm
    go_enter Tryz.func11, Tryz.ntmps11
    go_wp2
    go_loopw [5] (fun i wr => ∃ k : Nat, k ≤ n ∧ i = .int .i64 k ∧ Hid (xs.take k = ys.take k) ∧ Hid (∃ q, wr = w.drewN q)) (fun i _ => n - (intOf i).toNat)
    case atStart => exact ⟨0, Nat.zero_le _, rfl, Lib.hid (by simp), Lib.hid ⟨0, rfl⟩⟩
    case round =>
      obtain ⟨k, hk, rfl, hpre, hwr⟩ := hrel
      obtain ⟨q, rfl⟩ := hwr.out
      clear hwr
      by_cases hlt : k < n
      · obtain ⟨ad1, rfl, hc1⟩ := h1.word (k := k) (by rw [Hn.out]; exact hlt)
        obtain ⟨ad2, rfl, hc2⟩ := h2.word (k := k) (by rw [Hm.out]; exact hlt)
        have hx := List.take_succ_eq_append_getElem (show k < xs.length by rw [Hn.out]; exact hlt)
        have hy := List.take_succ_eq_append_getElem (show k < ys.length by rw [Hm.out]; exact hlt)
        have hgx := List.getElem?_eq_getElem (show k < xs.length by rw [Hn.out]; exact hlt)
        have hgy := List.getElem?_eq_getElem (show k < ys.length by rw [Hm.out]; exact hlt)
        have hkx : k < xs.length := by rw [Hn.out]; exact hlt
        have hky : k < ys.length := by rw [Hm.out]; exact hlt
        generalize xs[k] = x at *
        generalize ys[k] = y at *
        by_cases hxy : x = y
        · subst hxy
          have Hr : Hid (xs.take (k + 1) = ys.take (k + 1)) := Lib.hid (by rw [hx, hy, hpre.out])
          have hb : ((x : Int) != (x : Int)) = false := by simp
          clear hx hy hgx hgy
          go_wp2
          go_quiet (fail)
          go_wp2
          go_roundw
          case rel => exact ⟨k + 1, by omega, by go_num, Hr, Lib.hid ⟨_, rfl⟩⟩
          case measure => simp [intOf]; omega
        · have Hr : Hid (xs ≠ ys) := Lib.hid (by
            rintro rfl
            rw [hgx] at hgy
            injection hgy with hgy
            exact hxy hgy)
          have hb : ((x : Int) != (y : Int)) = true := by rw [bne_iff_ne]; omega
          clear hx hy hgx hgy hxy
          go_wp2
          go_quiet (fail)
          go_wp2
          go_ret
          exact ⟨by simp [Hr.out], ((Fr.refl _ _).drewN _).drewN _⟩
      · have Hr : Hid (xs = ys) := Lib.hid (by
          have h := hpre.out
          rwa [List.take_of_length_le (by rw [Hn.out]; omega), List.take_of_length_le (by rw [Hm.out]; omega)] at h)
        go_wp2
        go_ret
        exact ⟨by simp [Hr.out], (Fr.refl _ _).drewN _⟩
  · have Hr : Hid (xs ≠ ys) := Lib.hid (by rintro rfl; exact hnm (Hn.out.symm.trans Hm.out))
    have hb : ((n : Int) != (m : Int)) = true := by rw [bne_iff_ne]; omega
    clear hnm
    go_enter Tryz.func11, Tryz.ntmps11
    go_wp2
    go_ret
    exact ⟨by simp [Hr.out], Fr.refl _ _⟩

end Go.Proofs.YtbemfomiiikpoaaGreat
/- A program as the document's items; their words. -/
namespace Go.Proofs.YtbemfomiiikpoaaGreat
open Go.RowKit

theorem info_item : (Tryz.prog.info? 77).map (fun i => (i.zero, i.size, i.bytes)) = some (some (.agg #[.int .i64 0, .int .i64 0, .int .i64 0, .int .i64 0, .string ⟨#[]⟩, .slice none 0 0]), 6, 72) := by kernel_rfl
theorem It.cells_len9 (t : It) : t.cells.length = 6 := rfl
theorem its_one (l : List It) : ∀ u ∈ l.flatMap It.cells, u.oneCell' = true := by
  intro u hu
  obtain ⟨t, _, h⟩ := List.mem_flatMap.1 hu
  simp only [It.cells, List.mem_cons, List.not_mem_nil, or_false] at h
  rcases h with rfl | rfl | rfl | rfl | rfl | rfl <;> rfl
theorem its_len (l : List It) : (l.flatMap It.cells).length = l.length * 6 := flat_len _ 6 It.cells_len9 l

theorem slLit (w : World) (t : TypeId) (cs : Array Value) (xs : List Value) (H : Nat) (hH : H = w.heap.size) (hl : cs.toList = xs) : Sl (w.alloc (.cells cs t)) (H + 1) (some ⟨H, 0, none⟩) xs := by
  subst hH hl
  exact Sl.made w t cs
/-- Items behind what is owned, as one step of the walk. -/
theorem append_items {w : World} {ops : Array Oper} {rest : List Oper} {o : Oper} {a : Act} {Q : Exit → Act → World → Prop} (hgd : o.guard = none) (s x : Operand)
    (ho : o.op = .call { callee := .builtin .append, args := #[s, x], argTypes := #[41, 41] })
    (base : Nat) (A : Option Addr) (n c : Nat) (xs : List It) (hs : a.eval s = .slice A n c) (B : Nat) (A2 : Option Addr) (m c2 : Nat) (ys : List It) (hx : a.eval x = .slice A2 m c2) (hm : ys.length = m) (hr : Sl w B A2 (ys.flatMap It.cells))
    (hown : w.ownsRow base 77 6 (.slice A n c) n (xs.flatMap It.cells)) (hlen : n + m ≤ 1000000) (hbase : base ≤ w.heap.size)
    (h : ∀ A' c' w', w'.ownsRow base 77 6 (.slice A' (n + m) c') (n + m) ((xs ++ ys).flatMap It.cells) → Fr (fun k => (Value.slice A n c).ownBlock = some k) w w' →
      ((Value.slice A' (n + m) c').ownBlock = (Value.slice A n c).ownBlock ∨ ∃ k, (Value.slice A' (n + m) c').ownBlock = some k ∧ w.heap.size ≤ k) → wpList Tryz.prog ops Q rest (a.put o.dst (.slice A' (n + m) c')) w') :
    wpList Tryz.prog ops Q (o :: rest) a w := by
  obtain ⟨i, hi, hz, hz1, hz2⟩ := info_parts info_item
  refine wpList_append_src _ hgd s x _ ho base 77 i _ 6 72 Tryz.underlying41 hi hz hz1 hz2 rfl (by omega) (.slice A n c) n (xs.flatMap It.cells) hs hown B A2 m c2 (ys.flatMap It.cells) hx (by rw [its_len, hm]) hr (its_one ys) (by unfold maxLen; omega) (by omega) hbase ?_
  intro v' w' q1 q2 q3
  obtain ⟨A', c', rfl, -, -, -⟩ := own_shape q1
  rw [List.flatMap_append] at h
  refine h A' c' w' q1 ((Fr.refl _ w).grown q2 (fun k hk => .inl hk)) ?_
  rcases q3 with q3 | q3
  · exact .inl q3
  · exact .inr ⟨_, q3, Nat.le_refl _⟩
/-- The same as one step of a region that draws its order. -/
theorem wp_items {w : World} {o : Oper} {a : Act} {K : Act → World → Prop} {Q : Exit → Act → World → Prop} (s x : Operand)
    (ho : o.op = .call { callee := .builtin .append, args := #[s, x], argTypes := #[41, 41] })
    (base : Nat) (A : Option Addr) (n c : Nat) (xs : List It) (hs : a.eval s = .slice A n c) (B : Nat) (A2 : Option Addr) (m c2 : Nat) (ys : List It) (hx : a.eval x = .slice A2 m c2) (hm : ys.length = m) (hr : Sl w B A2 (ys.flatMap It.cells))
    (hown : w.ownsRow base 77 6 (.slice A n c) n (xs.flatMap It.cells)) (hlen : n + m ≤ 1000000) (hbase : base ≤ w.heap.size)
    (h : ∀ A' c' w', w'.ownsRow base 77 6 (.slice A' (n + m) c') (n + m) ((xs ++ ys).flatMap It.cells) → Fr (fun k => (Value.slice A n c).ownBlock = some k) w w' →
      ((Value.slice A' (n + m) c').ownBlock = (Value.slice A n c).ownBlock ∨ ∃ k, (Value.slice A' (n + m) c').ownBlock = some k ∧ w.heap.size ≤ k) → K (a.put o.dst (.slice A' (n + m) c')) w') :
    Oper.wp Tryz.prog o a w K Q := by
  obtain ⟨i, hi, hz, hz1, hz2⟩ := info_parts info_item
  refine wp_append_src w s x _ ho base 77 i _ 6 72 Tryz.underlying41 hi hz hz1 hz2 rfl (by omega) (.slice A n c) n (xs.flatMap It.cells) hs hown B A2 m c2 (ys.flatMap It.cells) hx (by rw [its_len, hm]) hr (its_one ys) (by unfold maxLen; omega) (by omega) hbase ?_
  intro v' w' q1 q2 q3
  obtain ⟨A', c', rfl, -, -, -⟩ := own_shape q1
  rw [List.flatMap_append] at h
  refine h A' c' w' q1 ((Fr.refl _ w).grown q2 (fun k hk => .inl hk)) ?_
  rcases q3 with q3 | q3
  · exact .inl q3
  · exact .inr ⟨_, q3, Nat.le_refl _⟩

/-- A count, and a number with a sign, as items. -/
def itN (n most : Int) : It := ⟨0, n, most, 0, ⟨#[]⟩, [], none, 0⟩
def itS (x : Int) : It := ⟨1, 0, 0, x, ⟨#[]⟩, [], none, 0⟩
def itK (x y : Int) : List It := [itS x, itN y 999]
def itI (i : Ins) : List It := [itN i.op 255, itN i.a 255, itN i.b 255, itN i.c 255] ++ itK i.ka i.kb ++ itK i.la i.lb ++ [itS i.x]
def itP (l : List Ins) : List It := itN l.length 8 :: l.flatMap itI
theorem itI_len (i : Ins) : (itI i).length = 9 := rfl
theorem itI_flat (l : List Ins) : (l.flatMap itI).length = l.length * 9 := by
  induction l with
  | nil => simp
  | cons x r ih => rw [List.flatMap_cons, List.length_append, itI_len, ih, List.length_cons]; omega
theorem itP_len (l : List Ins) : (itP l).length = 1 + l.length * 9 := by
  rw [itP, List.length_cons, itI_flat l]
  omega
theorem itN_words (n m : Int) : (itN n m).words = [n.toNat] := by simp [itN, It.words]
theorem itS_words (x : Int) : (itS x).words = [sgn x] := by simp [itS, It.words]
theorem itI_words (i : Ins) : (itI i).flatMap It.words = wordsI i := by
  simp [itI, itK, List.flatMap_cons, itN_words, itS_words, wordsI]
theorem itP_words (l : List Ins) : (itP l).flatMap It.words = wordsP l := by
  rw [itP, List.flatMap_cons, itN_words, wordsP]
  simp only [Int.toNat_natCast, List.cons_append, List.nil_append, List.cons.injEq, true_and]
  induction l with
  | nil => rfl
  | cons x r ih => rw [List.flatMap_cons, List.flatMap_append, itI_words, ih, List.flatMap_cons]

/-- What is made of items. -/
def Items9 (w : World) (l : List It) (e : Ending) (w' : World) : Prop := ∃ A c, e = .returned (.slice A l.length c) ∧ Sl w' w'.heap.size A (l.flatMap It.cells) ∧ (∀ ad, A = some ad → w.heap.size ≤ ad.block) ∧ Fr No w w'
set_option maxHeartbeats 400000 in
theorem keyItems_any (x y : Int) (w : World) : Calls Tryz.prog 82 #[.agg #[.int .i64 x, .int .i64 y]] w (Items9 w (itK x y)) := by
  go_enter Tryz.func82, Tryz.ntmps82
  go_wp2
  go_ret
  refine ⟨some ⟨w.heap.size + 1, 0, none⟩, 2, rfl, ?_, by intro ad h; injection h with h; subst h; simp, ((Fr.refl _ _).alloc _).alloc _⟩
  have h := Sl.made (w.alloc (.cells #[.int .i64 x, .int .i64 y] 50)) 77 ((itK x y).flatMap It.cells).toArray
  simpa [itK, itS, itN, It.cells] using h

set_option maxHeartbeats 4000000 in
theorem items_any (l : List Ins) (A : Option Addr) (n c : Nat) (w : World) (hsl : Sl w w.heap.size A (l.flatMap Ins.cells)) (hn : l.length = n) (hnm : n ≤ 8) :
    Calls Tryz.prog 57 #[.slice A n c] w (Items9 w (itP l)) := by
  have Hn := Lib.hid hn
  have Hsl := Lib.hid hsl
  clear hn hsl
  obtain ⟨i0, hi0, hz0, hz1, hz2⟩ := info_parts info_item
  go_enter Tryz.func57, Tryz.ntmps57
  go_wp2
  go_loopw [3, 4] (fun out at_ wr => ∃ (k : Nat) (B : Option Addr) (d : Nat), k ≤ n ∧ at_ = .int .i64 k ∧ out = .slice B (1 + k * 9) d ∧ Hid (wr.ownsRow w.heap.size 77 6 (.slice B (1 + k * 9) d) (1 + k * 9) ((itN n 8 :: (l.take k).flatMap itI).flatMap It.cells)) ∧ Fr No w wr) (fun _ i _ => n - (intOf i).toNat)
  case atStart =>
    refine ⟨0, some ⟨w.heap.size, 0, none⟩, 1, Nat.zero_le _, rfl, rfl, Lib.hid ?_, (Fr.refl _ w).alloc _⟩
    have h := World.ownsRow_lit (base := w.heap.size) (e := 77) (size := 6) w ((itN n 8).cells).toArray 1 (Nat.le_refl _) (by decide) rfl
    simpa [itN, It.cells] using h
  case round =>
    obtain ⟨k, B, d, hk, rfl, rfl, hown, hfr⟩ := hrel
    by_cases hlt : k < n
    · have hkl : k < l.length := by rw [Hn.out]; exact hlt
      obtain ⟨ad, rfl, hab, c0, c1, c2, c3, c4, c5, c6, c7, c8⟩ := (Hsl.out.since hfr).ins9 (k := k) hkl
      have Hs : Hid (l.take (k + 1) = l.take k ++ [l[k]]) := Lib.hid (List.take_succ_eq_append_getElem hkl)
      generalize l[k] = i at *
      obtain ⟨o, a, b, cc, ka, kb, la, lb, x⟩ := i
      dsimp only at c0 c1 c2 c3 c4 c5 c6 c7 c8
      have hX := Bk.made wr 52 #[.int .i64 o, .int .i64 a, .int .i64 b, .int .i64 cc, .int .i64 ka, .int .i64 kb, .int .i64 la, .int .i64 lb, .int .i64 x]
      go_wp2_with (at_builtin; (refine append_items rfl _ _ rfl w.heap.size B (1 + k * 9) d (itN n 8 :: (l.take k).flatMap itI) rfl (wr.heap.size + 1 + 1) (some ⟨wr.heap.size + 1, 0, none⟩) 4 4 [itN o 255, itN a 255, itN b 255, itN cc 255] (by rfl) rfl (by exact slLit _ _ _ _ _ (by simp) rfl) (by exact (hown.out.alloc _).alloc _) (by omega) (by have := hfr.size; simp; omega) ?_; intro B1 d1 w1 hown1 hf1 hg1))
      have hX1 := (hX.fr ((Fr.refl No _).alloc (.cells (([itN o 255, itN a 255, itN b 255, itN cc 255] : List It).flatMap It.cells).toArray 77)) (fun e => e)).fr hf1 (fun e => by have := own_lt hown.out e; omega)
      have hne1 := own_apart hown1 hX1 (by decide)
      have hlt1 := hX1.lt
      have x4 : w1.cell? ⟨wr.heap.size, 4, none⟩ = some (.int .i64 ka) := hX1.cell 4
      have x5 : w1.cell? ⟨wr.heap.size, 5, none⟩ = some (.int .i64 kb) := hX1.cell 5
      have x6 : w1.cell? ⟨wr.heap.size, 6, none⟩ = some (.int .i64 la) := hX1.cell 6
      have x7 : w1.cell? ⟨wr.heap.size, 7, none⟩ = some (.int .i64 lb) := hX1.cell 7
      have hbase1 : w.heap.size ≤ w1.heap.size := by have h1 := hf1.size; have h2 := hfr.size; simp at h1; omega
      have hX2 : Bk w1.drew wr.heap.size 52 #[.int .i64 o, .int .i64 a, .int .i64 b, .int .i64 cc, .int .i64 ka, .int .i64 kb, .int .i64 la, .int .i64 lb, .int .i64 x] := hX1.fr ((Fr.refl No w1).drew) (fun e => e)
      have hown2 := own_fr hown1 ((Fr.refl No w1).drew) (fun _ _ e => e)
      have hbase2 : w.heap.size ≤ w1.drew.heap.size := hbase1
      have HS : Hid (∀ W, Bk W wr.heap.size 52 #[.int .i64 o, .int .i64 a, .int .i64 b, .int .i64 cc, .int .i64 ka, .int .i64 kb, .int .i64 la, .int .i64 lb, .int .i64 x] → W.cell? ⟨wr.heap.size, 4, none⟩ = some (.int .i64 ka) ∧ W.cell? ⟨wr.heap.size, 5, none⟩ = some (.int .i64 kb) ∧ W.cell? ⟨wr.heap.size, 6, none⟩ = some (.int .i64 la) ∧ W.cell? ⟨wr.heap.size, 7, none⟩ = some (.int .i64 lb)) := Lib.hid (fun W h => ⟨h.cell 4, h.cell 5, h.cell 6, h.cell 7⟩)
      clear x4 x5 x6 x7
      refine wp_region_held_drew (S := fun w' => w'.cell? ⟨wr.heap.size, 4, none⟩ = some (.int .i64 ka) ∧ w'.cell? ⟨wr.heap.size, 5, none⟩ = some (.int .i64 kb) ∧ w'.cell? ⟨wr.heap.size, 6, none⟩ = some (.int .i64 la) ∧ w'.cell? ⟨wr.heap.size, 7, none⟩ = some (.int .i64 lb)) (by kernel_rfl) (HS.out w1 hX1) (fun hHeld => ?_)
      refine any_take 35 (.slice B1 (1 + k * 9 + 4) d1) (i := 0) rfl rfl (by kernel_rfl) (by kernel_rfl) (by kernel_rfl) (fun _ _ _ h => h) (by rfl) (by intro w hSw; (try dsimp only at hSw); go_simp; try with_reducible rfl) (by assumption) ?_
      simp only [Act.put, List.setIfInBounds_toArray, List.set_cons_zero, List.set_cons_succ]
      refine any_take 36 (.pointer (some ⟨wr.heap.size, 4, none⟩)) (i := 1) rfl rfl (by kernel_rfl) (by kernel_rfl) (by kernel_rfl) (fun _ _ _ h => h) (by rfl) (by intro w hSw; (try dsimp only at hSw); go_simp; try with_reducible rfl) (by assumption) ?_
      simp only [Act.put, List.setIfInBounds_toArray, List.set_cons_zero, List.set_cons_succ]
      refine any_take 37 (.agg #[.int .i64 ka, .int .i64 kb]) (i := 2) rfl rfl (by kernel_rfl) (by kernel_rfl) (by kernel_rfl) (fun _ _ _ h => h) (by rfl) (by intro w hSw; (try dsimp only at hSw); go_simp; try with_reducible rfl) (by assumption) ?_
      simp only [Act.put, List.setIfInBounds_toArray, List.set_cons_zero, List.set_cons_succ]
      refine any_take 40 (.pointer (some ⟨wr.heap.size, 6, none⟩)) (i := 5) rfl rfl (by kernel_rfl) (by kernel_rfl) (by kernel_rfl) (fun _ _ _ h => h) (by rfl) (by intro w hSw; (try dsimp only at hSw); go_simp; try with_reducible rfl) (by assumption) ?_
      simp only [Act.put, List.setIfInBounds_toArray, List.set_cons_zero, List.set_cons_succ]
      refine any_take 41 (.agg #[.int .i64 la, .int .i64 lb]) (i := 6) rfl rfl (by kernel_rfl) (by kernel_rfl) (by kernel_rfl) (fun _ _ _ h => h) (by rfl) (by intro w hSw; (try dsimp only at hSw); go_simp; try with_reducible rfl) (by assumption) ?_
      simp only [Act.put, List.setIfInBounds_toArray, List.set_cons_zero, List.set_cons_succ]
      refine wpAnyH_ready (rs := [3]) (by kernel_rfl) (by simp) ?_
      refine AllReadyH.cons rfl (fun K' hK => ?_) AllReadyH.nil
      go_simp
      go_at_call 82
      refine (keyItems_any _ _ _).mono ?_
      rintro e' wK ⟨AK, cK, rfl, hsK, hnK, hfK⟩
      have hXK := hX2.fr hfK (fun e => e)
      have hownK := own_fr hown2 hfK (fun _ _ e => e)
      have hbK : w.heap.size ≤ wK.heap.size := Nat.le_trans hbase2 hfK.size
      dsimp only
      refine hK.out _ _ (HS.out wK hXK) (fun hHeld => ?_)
      clear hK
      try simp only [Act.put, List.setIfInBounds_toArray, List.set_cons_zero, List.set_cons_succ]
      refine wpAnyH_ready (rs := [4]) (by kernel_rfl) (by simp) ?_
      refine AllReadyH.cons rfl (fun K' hK => ?_) AllReadyH.nil
      refine wp_items _ _ rfl w.heap.size B1 (1 + k * 9 + 4) d1 ((itN n 8 :: (l.take k).flatMap itI) ++ [itN o 255, itN a 255, itN b 255, itN cc 255]) rfl wK.heap.size AK 2 cK (itK ka kb) rfl rfl hsK hownK (by omega) hbK ?_
      intro B2 d2 w2 hown2a hf2a hg2
      have hX2a := hXK.fr hf2a (own_apart hownK hXK (by decide))
      refine hK.out _ _ (HS.out w2 hX2a) (fun hHeld => ?_)
      clear hK
      try simp only [Act.put, List.setIfInBounds_toArray]
      have hb2 : w.heap.size ≤ w2.heap.size := Nat.le_trans hbK hf2a.size
      refine wpAnyH_ready (rs := [7]) (by kernel_rfl) (by simp) ?_
      refine AllReadyH.cons rfl (fun K' hK => ?_) AllReadyH.nil
      go_simp
      go_at_call 82
      refine (keyItems_any _ _ _).mono ?_
      rintro e' wL ⟨AL, cL, rfl, hsL, hnL, hfL⟩
      have hXL := hX2a.fr hfL (fun e => e)
      have hbL : w.heap.size ≤ wL.heap.size := Nat.le_trans hb2 hfL.size
      dsimp only
      refine hK.out _ _ (HS.out wL hXL) (fun hHeld => ?_)
      clear hK
      try simp only [Act.put, List.setIfInBounds_toArray, List.set_cons_zero, List.set_cons_succ]
      have hownL := own_fr hown2a hfL (fun _ _ e => e)
      refine wpAnyH_ready (rs := [8]) (by kernel_rfl) (by simp) ?_
      refine AllReadyH.cons rfl (fun K' hK => ?_) AllReadyH.nil
      refine wp_items _ _ rfl w.heap.size B2 (1 + k * 9 + 4 + 2) d2 (((itN n 8 :: (l.take k).flatMap itI) ++ [itN o 255, itN a 255, itN b 255, itN cc 255]) ++ itK ka kb) rfl wL.heap.size AL 2 cL (itK la lb) rfl rfl hsL hownL (by omega) hbL ?_
      intro B3 d3 w3 hown3a hf3a hg3
      have hX3a := hXL.fr hf3a (own_apart hownL hXL (by decide))
      refine hK.out _ _ (HS.out w3 hX3a) (fun hHeld => ?_)
      clear hK
      try simp only [Act.put, List.setIfInBounds_toArray]
      refine any_take 3 (.slice B3 (1 + k * 9 + 4 + 2 + 2) d3) (i := 9) rfl rfl (by kernel_rfl) (by kernel_rfl) (by kernel_rfl) (fun _ _ _ h => h) (by rfl) (by intro w hSw; (try dsimp only at hSw); go_simp; try with_reducible rfl) (by assumption) ?_
      simp only [Act.put]
      refine wpAnyH_done (by kernel_rfl) ?_ _
      clear hHeld
      have k8 : w3.cell? ⟨wr.heap.size, 8, none⟩ = some (.int .i64 x) := hX3a.cell 8
      have hne3 := own_apart hown3a hX3a (by decide)
      have hb3 : w.heap.size ≤ w3.heap.size := Nat.le_trans hbL hf3a.size
      have hz3 : Fr No w w3 := by
        have q1 : Fr No w w1 := (((hfr.alloc _).alloc _).trans' hf1 (fun i hi e => by have := (hown.out.lt _ e).1; omega))
        have q2 : Fr No w w2 := (q1.drew.trans' hfK (fun _ _ e => e)).trans' hf2a (fun i hi e => by have := (hownK.lt _ e).1; omega)
        exact (q2.trans' hfL (fun _ _ e => e)).trans' hf3a (fun i hi e => by have := (hownL.lt _ e).1; omega)
      go_wp2_with (at_builtin; (refine append_items rfl _ _ rfl w.heap.size B3 (1 + k * 9 + 4 + 2 + 2) d3 ((((itN n 8 :: (l.take k).flatMap itI) ++ [itN o 255, itN a 255, itN b 255, itN cc 255]) ++ itK ka kb) ++ itK la lb) rfl (w3.heap.size + 1) (some ⟨w3.heap.size, 0, none⟩) 1 1 [itS x] (by rfl) rfl (by exact slLit _ _ _ _ _ (by simp) rfl) (by exact hown3a.alloc _) (by omega) (by simp; omega) ?_; intro B4 d4 w4 hown4 hf4 hg4))
      go_roundw
      case rel =>
        refine ⟨k + 1, B4, d4, by omega, by go_num, by rw [show 1 + (k + 1) * 9 = 1 + k * 9 + 4 + 2 + 2 + 1 by omega], Lib.hid ?_, (hz3.alloc _).trans' hf4 (fun i hi e => by have := (hown3a.lt _ e).1; omega)⟩
        have e1 : (itN n 8 :: (l.take (k + 1)).flatMap itI) = ((((itN n 8 :: (l.take k).flatMap itI) ++ [itN o 255, itN a 255, itN b 255, itN cc 255]) ++ itK ka kb) ++ itK la lb) ++ [itS x] := by
          rw [Hs.out, List.flatMap_append]
          simp [itI]
        rw [e1, show 1 + (k + 1) * 9 = 1 + k * 9 + 4 + 2 + 2 + 1 by omega]
        exact hown4
      case measure => simp [intOf]; omega
    · obtain rfl : k = n := by omega
      have Hp : Hid (itP l = itN k 8 :: (l.take k).flatMap itI) := Lib.hid (by rw [itP, List.take_of_length_le (by rw [Hn.out]; exact Nat.le_refl _), Hn.out])
      have Hl : Hid ((itP l).length = 1 + k * 9) := Lib.hid (by rw [itP_len, Hn.out])
      go_wp2
      go_ret
      refine ⟨B, d, by rw [Hl.out]; rfl, by rw [Hp.out]; exact Sl.ofOwn hown.out, ?_, hfr⟩
      intro ad e
      have h1 := (hown.out.lt ad.block (by subst e; rfl)).1
      exact h1

set_option maxHeartbeats 2000000 in
theorem words9_any (ts : List It) (A : Option Addr) (n c : Nat) (w : World) (hsl : Sl w w.heap.size A (ts.flatMap It.cells)) (hn : ts.length = n) (hnm : n ≤ 1000) (hok : ∀ t ∈ ts, (t.kind = 0 ∨ t.kind = 1) ∧ I64 t.n ∧ I64 t.most ∧ I64 t.x ∧ t.s = ⟨#[]⟩ ∧ t.L = [] ∧ t.A = none ∧ t.c = 0) :
    Calls Tryz.prog 12 #[.slice A n c] w (NewL w (ts.flatMap It.words)) := by
  have Hn := Lib.hid hn
  have Hsl := Lib.hid hsl
  have Hok := Lib.hid hok
  have Hone : Hid (∀ t ∈ ts, t.words.length = 1) := Lib.hid (fun t ht => by
    rcases (hok t ht).1 with h | h <;> simp [It.words, h])
  clear hn hsl hok
  go_enter Tryz.func12, Tryz.ntmps12
  go_wp2
  go_loopw [3, 4] (fun out at_ wr => ∃ (k : Nat) (B : Option Addr) (d : Nat), k ≤ n ∧ at_ = .int .i64 k ∧ out = .slice B ((ts.take k).flatMap It.words).length d ∧ Hid (wr.ownsRow w.heap.size 70 1 (.slice B ((ts.take k).flatMap It.words).length d) ((ts.take k).flatMap It.words).length (u64s ((ts.take k).flatMap It.words))) ∧ Fr No w wr) (fun _ i _ => n - (intOf i).toNat)
  case atStart => exact ⟨0, none, 0, Nat.zero_le _, rfl, by simp, Lib.hid (by simpa [u64s] using World.ownsRow_nil _ _ _ _), Fr.refl _ _⟩
  case round =>
    obtain ⟨k, B, d, hk, rfl, rfl, hown, hfr⟩ := hrel
    by_cases hlt : k < n
    · have hkl : k < ts.length := by rw [Hn.out]; exact hlt
      have Hs : Hid (ts.take (k + 1) = ts.take k ++ [ts[k]]) := Lib.hid (List.take_succ_eq_append_getElem hkl)
      have hq := Hok.out _ (List.getElem_mem hkl)
      have Hlen : Hid (((ts.take k).flatMap It.words).length ≤ 1000) := Lib.hid (by
        have e : ∀ us : List It, (∀ t ∈ us, t.words.length = 1) → (us.flatMap It.words).length = us.length := by
          intro us hu
          induction us with
          | nil => rfl
          | cons a r ih => rw [List.flatMap_cons, List.length_append, hu a (by simp), ih (fun t ht => hu t (by simp [ht])), List.length_cons]; omega
        rw [e _ (fun t ht => Hone.out t (List.mem_of_mem_take ht)), List.length_take]
        omega)
      obtain ⟨ad, rfl, hab, hrow⟩ := (Hsl.out.since hfr).row 6 It.cells_len9 hkl (by omega)
      have C0 := fun (h0 : ts[k].kind = 0) (hOk : ts[k].Ok wr wr.heap.size) (hb : wr.ownsRow 0 70 1 (.slice B ((ts.take k).flatMap It.words).length d) ((ts.take k).flatMap It.words).length (u64s ((ts.take k).flatMap It.words))) => refWrite_0 ((ts.take k).flatMap It.words) B d ts[k] wr hb h0 hOk (by have := Hlen.out; omega)
      have C1 := fun (h0 : ts[k].kind = 1) (hOk : ts[k].Ok wr wr.heap.size) (hb : wr.ownsRow 0 70 1 (.slice B ((ts.take k).flatMap It.words).length d) ((ts.take k).flatMap It.words).length (u64s ((ts.take k).flatMap It.words))) => refWrite_1 ((ts.take k).flatMap It.words) B d ts[k] wr hb h0 hOk (by have := Hlen.out; omega)
      generalize ts[k] = t at *
      obtain ⟨kind, n0, most, x, s, L, A0, c0⟩ := t
      dsimp only at hq
      obtain ⟨q1, q2, q3, q4, rfl, rfl, rfl, rfl⟩ := hq
      have hOk : It.Ok wr wr.heap.size ⟨kind, n0, most, x, ⟨#[]⟩, [], none, 0⟩ := ⟨by dsimp only; omega, q2, q3, q4, (show (0 : Nat) ≤ 200 by decide), Nat.zero_le _, by simp, ⟨Nat.le_refl _, Nat.zero_le _⟩, by simp, Sl.nil _ _ _⟩
      have hCC : Calls Tryz.prog 29 #[.slice B ((ts.take k).flatMap It.words).length d, .agg #[.int .i64 kind, .int .i64 n0, .int .i64 most, .int .i64 x, .string ⟨#[]⟩, .slice none 0 0]] wr (Grew wr (Value.slice B ((ts.take k).flatMap It.words).length d).ownBlock ((ts.take k).flatMap It.words ++ It.words ⟨kind, n0, most, x, ⟨#[]⟩, [], none, 0⟩)) := by
        have hb : wr.ownsRow 0 70 1 (.slice B ((ts.take k).flatMap It.words).length d) ((ts.take k).flatMap It.words).length (u64s ((ts.take k).flatMap It.words)) := by
          obtain ⟨z1, z2⟩ := hown.out
          refine ⟨z1, ?_⟩
          rcases z2 with z2 | ⟨g, cap, cur, hv, hbg, rr⟩
          · exact .inl z2
          · exact .inr ⟨g, cap, cur, hv, Nat.zero_le _, rr⟩
        rcases q1 with q1 | q1
        · exact C0 q1 hOk hb
        · exact C1 q1 hOk hb
      have HC := Lib.hid hCC
      have r0 := hrow 0 _ rfl
      have r1 := hrow 1 _ rfl
      have r2 := hrow 2 _ rfl
      have r3 := hrow 3 _ rfl
      have r4 := hrow 4 _ rfl
      have r5 := hrow 5 _ rfl
      have r0 : wr.cell? (ad.add (k * 6)) = some (.int .i64 kind) := r0
      have r1 : wr.cell? ⟨(ad.add (k * 6)).block, (ad.add (k * 6)).off + 1, none⟩ = some (.int .i64 n0) := r1
      have r2 : wr.cell? ⟨(ad.add (k * 6)).block, (ad.add (k * 6)).off + 2, none⟩ = some (.int .i64 most) := r2
      have r3 : wr.cell? ⟨(ad.add (k * 6)).block, (ad.add (k * 6)).off + 3, none⟩ = some (.int .i64 x) := r3
      have r4 : wr.cell? ⟨(ad.add (k * 6)).block, (ad.add (k * 6)).off + 4, none⟩ = some (.string ⟨#[]⟩) := r4
      have r5 : wr.cell? ⟨(ad.add (k * 6)).block, (ad.add (k * 6)).off + 5, none⟩ = some (.slice none 0 0) := r5
      have Hfl : Hid ((ts.take (k + 1)).flatMap It.words = (ts.take k).flatMap It.words ++ It.words ⟨kind, n0, most, x, ⟨#[]⟩, [], none, 0⟩) := Lib.hid (by rw [Hs.out, List.flatMap_append]; simp)
      clear hrow C0 C1 hCC q1
      generalize (ts.take k).flatMap It.words = ws at *
      go_wp2_with fail
      refine (HC.out).mono ?_
      rintro e w2 ⟨B2, d2, rfl, hown2, hf2, hg2⟩
      go_wp2
      go_roundw
      case rel =>
        refine ⟨k + 1, B2, d2, by omega, by go_num, by rw [Hfl.out, List.length_append], Lib.hid ?_, hfr.trans' hf2 (fun i hi e => by have := (hown.out.lt _ e).1; omega)⟩
        rw [Hfl.out]
        obtain ⟨z1, z2⟩ := hown2
        refine ⟨z1, ?_⟩
        rcases z2 with z2 | ⟨g, cap, cur, hv, hbg, rr⟩
        · exact .inl z2
        · refine .inr ⟨g, cap, cur, hv, ?_, rr⟩
          rw [hv] at hg2
          rcases hg2 with hg2 | ⟨i, hg2, hi⟩
          · exact (hown.out.lt g (by rw [← hg2]; rfl)).1
          · have : g = i := by simpa [Value.ownBlock] using hg2
            subst this
            exact Nat.le_trans hfr.size hi
      case measure => simp [intOf]; omega
    · obtain rfl : k = n := by omega
      have Hall : Hid (ts.take k = ts) := Lib.hid (List.take_of_length_le (by rw [Hn.out]; exact Nat.le_refl _))
      rw [Hall.out] at hown ⊢
      go_wp2
      go_ret
      exact ⟨B, d, rfl, hown.out, hfr⟩
end Go.Proofs.YtbemfomiiikpoaaGreat
