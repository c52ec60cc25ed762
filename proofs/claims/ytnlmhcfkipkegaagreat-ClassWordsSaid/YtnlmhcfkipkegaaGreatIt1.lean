/- Items of the document's; what it writes of those that are one word. -/
import Derived.Test.YtnlmhcfkipkegaaGreatCodesW
namespace Go.Proofs.YtnlmhcfkipkegaaGreat
open Go.RowKit

/-- An item of the document's. -/
structure It where
  kind : Int
  n : Int
  most : Int
  x : Int
  s : ByteArray
  L : List Nat
  A : Option Addr
  c : Nat
def It.cells (t : It) : List Value := [.int .i64 t.kind, .int .i64 t.n, .int .i64 t.most, .int .i64 t.x, .string t.s, .slice t.A t.L.length t.c]
def It.val (t : It) : Value := .agg #[.int .i64 t.kind, .int .i64 t.n, .int .i64 t.most, .int .i64 t.x, .string t.s, .slice t.A t.L.length t.c]
structure It.Ok (w : World) (B : Nat) (t : It) : Prop where
  kind : 0 ≤ t.kind ∧ t.kind ≤ 4
  n : -9223372036854775808 ≤ t.n ∧ t.n < 9223372036854775808
  most : -9223372036854775808 ≤ t.most ∧ t.most < 9223372036854775808
  x : -9223372036854775808 ≤ t.x ∧ t.x < 9223372036854775808
  s : t.s.size ≤ 200
  L : t.L.length ≤ 100
  w64 : ∀ u ∈ t.L, u < 18446744073709551616
  c : t.L.length ≤ t.c ∧ t.c ≤ maxLen
  nil : t.A = none → t.L.length = 0 ∧ t.c = 0
  sl : Sl w B t.A (u64s t.L)
/-- The words of an item. -/
def It.words (t : It) : List Nat :=
  if t.kind = 0 then [t.n.toNat] else if t.kind = 1 then [sgn t.x] else if t.kind = 2 then [if t.n = 1 then 1 else 0]
  else if t.kind = 3 then ((byts t.s).take 64).length :: packed ((byts t.s).take 64) else t.L.length :: t.L

set_option maxHeartbeats 400000 in
theorem refSigned_any (n : Int) (hn : -9223372036854775808 ≤ n) (hm : n < 9223372036854775808) (w : World) :
    Calls Tryz.prog 50 #[.int .i64 n] w fun e w' => e = .returned (.int .u64 (sgn n)) ∧ w = w' := by
  by_cases h0 : 0 ≤ n
  all_goals
    go_enter Tryz.func50, Tryz.ntmps50
    go_wp2
    go_ret
    refine ⟨?_, rfl⟩
    unfold sgn
    split
    all_goals first | omega | (simp; omega)

/-- A list of the call's own with more words, and what else may have turned: the block in which it was. -/
def Grew (w : World) (g : Option Nat) (ws : List Nat) (e : Ending) (w' : World) : Prop :=
  ∃ A c, e = .returned (.slice A ws.length c) ∧ w'.ownsRow 0 60 1 (.slice A ws.length c) ws.length (u64s ws) ∧ Fr (fun k => g = some k) w w' ∧
    ((Value.slice A ws.length c).ownBlock = g ∨ ∃ k, (Value.slice A ws.length c).ownBlock = some k ∧ w.heap.size ≤ k)

/-- The end of a walk that has put one word behind what was owned. -/
theorem grew_one {w w0 w1 : World} {A A1 : Option Addr} {n c c1 : Nat} {ws : List Nat} {u : Nat} {us : List Nat} (hn : n = ws.length) (hus : us = [u]) (h0 : Fr No w w0)
    (hown : w1.ownsRow 0 60 1 (.slice A1 (n + 1) c1) (n + 1) (u64s (ws ++ [u]))) (hf : Fr (fun k => (Value.slice A n c).ownBlock = some k) w0 w1)
    (hg : (Value.slice A1 (n + 1) c1).ownBlock = (Value.slice A n c).ownBlock ∨ ∃ k, (Value.slice A1 (n + 1) c1).ownBlock = some k ∧ w0.heap.size ≤ k) :
    Grew w (Value.slice A n c).ownBlock (ws ++ us) (.returned (.slice A1 (n + 1) c1)) w1 := by
  subst hn hus
  refine ⟨A1, c1, by simp, by simpa using hown, (h0.weak (fun _ _ h => h.elim)).trans' hf (fun _ _ h => h), ?_⟩
  rcases hg with hg | ⟨k, hg, hk⟩
  · exact .inl (by simpa [Value.ownBlock] using hg)
  · exact .inr ⟨k, by simpa [Value.ownBlock] using hg, Nat.le_trans h0.size hk⟩

theorem grew_two {w w0 w1 w2 w3 : World} {A A1 A3 : Option Addr} {n c c1 c3 m : Nat} {ws : List Nat} {u : Nat} {us ys : List Nat} (hn : n = ws.length) (hus : us = u :: ys) (h0 : Fr No w w0) (hf : Fr (fun k => (Value.slice A n c).ownBlock = some k) w0 w1)
    (hg : (Value.slice A1 (n + 1) c1).ownBlock = (Value.slice A n c).ownBlock ∨ ∃ k, (Value.slice A1 (n + 1) c1).ownBlock = some k ∧ w0.heap.size ≤ k) (h2 : Fr No w1 w2)
    (hown : w3.ownsRow 0 60 1 (.slice A3 (n + 1 + m) c3) (n + 1 + m) (u64s (ws ++ [u] ++ ys))) (hf3 : Fr (fun k => (Value.slice A1 (n + 1) c1).ownBlock = some k) w2 w3)
    (hg3 : (Value.slice A3 (n + 1 + m) c3).ownBlock = (Value.slice A1 (n + 1) c1).ownBlock ∨ ∃ k, (Value.slice A3 (n + 1 + m) c3).ownBlock = some k ∧ w2.heap.size ≤ k) :
    Grew w (Value.slice A n c).ownBlock (ws ++ us) (.returned (.slice A3 (n + 1 + m) c3)) w3 := by
  subst hn hus
  have hl := hown.1
  simp [u64s] at hl
  obtain rfl : ys.length = m := by omega
  have e : (ws ++ u :: ys).length = ws.length + 1 + ys.length := by simp; omega
  have hf1' := (h0.weak (S' := fun k => (Value.slice A ws.length c).ownBlock = some k) (fun _ _ h => h.elim)).trans' hf (fun _ _ h => h)
  have hs2 := Nat.le_trans hf1'.size h2.size
  refine ⟨A3, c3, by rw [e], by rw [e]; simpa using hown, (hf1'.trans' h2 (fun _ _ h => h.elim)).trans' hf3 ?_, ?_⟩
  · intro k hk h
    rcases hg with hg | ⟨k', hg, hk'⟩
    · rw [← hg]; exact h
    · rw [hg] at h
      injection h with h
      have := h0.size
      omega
  · rcases hg3 with hg3 | ⟨k, hg3, hk⟩
    · have hg3' : (Value.slice A3 (ws ++ u :: ys).length c3).ownBlock = (Value.slice A1 (ws.length + 1) c1).ownBlock := by rw [e]; exact hg3
      rw [hg3']
      rcases hg with hg | ⟨k', hg, hk'⟩
      · exact .inl hg
      · exact .inr ⟨k', hg, Nat.le_trans h0.size hk'⟩
    · exact .inr ⟨k, by rw [e]; exact hg3, by omega⟩

set_option maxHeartbeats 1000000 in
theorem refWrite_0 (ws : List Nat) (A : Option Addr) (c : Nat) (t : It) (w : World) (hown : w.ownsRow 0 60 1 (.slice A ws.length c) ws.length (u64s ws)) (hk : t.kind = 0) (hn : t.Ok w w.heap.size) (hlen : ws.length + 200 ≤ 1099511627776) :
    Calls Tryz.prog 28 #[.slice A ws.length c, t.val] w (Grew w (Value.slice A ws.length c).ownBlock (ws ++ t.words)) := by
  have Hw : Hid (t.words = [t.n.toNat]) := Lib.hid (by simp [It.words, hk])
  have Hx : Hid (t.n < 0 → t.n.toNat = 0) := Lib.hid (by omega)
  obtain ⟨h1, h2⟩ := hn.n
  unfold It.val
  rw [hk] at *
  generalize t.n = n at *
  clear hn hk
  go_enter Tryz.func28, Tryz.ntmps28
  go_wp2_with (at_builtin; (refine append_word rfl _ _ rfl 0 A ws.length c ws n.toNat _ (by omega) rfl (w.heap.size + 1) (by simp) rfl (hown.alloc _) (by omega) (Nat.zero_le _) ?_; intro A1 c1 w1 hown1 hf1 hg1))
  all_goals
    go_ret
    exact grew_one rfl Hw.out ((Fr.refl _ _).alloc _) hown1 hf1 hg1

set_option maxHeartbeats 1000000 in
theorem refWrite_1 (ws : List Nat) (A : Option Addr) (c : Nat) (t : It) (w : World) (hown : w.ownsRow 0 60 1 (.slice A ws.length c) ws.length (u64s ws)) (hk : t.kind = 1) (hn : t.Ok w w.heap.size) (hlen : ws.length + 200 ≤ 1099511627776) :
    Calls Tryz.prog 28 #[.slice A ws.length c, t.val] w (Grew w (Value.slice A ws.length c).ownBlock (ws ++ t.words)) := by
  have Hw : Hid (t.words = [sgn t.x]) := Lib.hid (by simp [It.words, hk])
  obtain ⟨h1, h2⟩ := hn.x
  unfold It.val
  rw [hk] at *
  generalize t.x = x at *
  clear hn hk
  go_enter Tryz.func28, Tryz.ntmps28
  go_wp2_with (first
    | (go_at_call 50; refine (refSigned_any x h1 h2 _).mono ?_; rintro e w' ⟨rfl, rfl⟩)
    | (at_builtin; (refine append_word rfl _ _ rfl 0 A ws.length c ws (sgn x) _ rfl rfl (w.heap.size + 1) (by simp) rfl (hown.alloc _) (by omega) (Nat.zero_le _) ?_; intro A1 c1 w1 hown1 hf1 hg1)))
  go_ret
  exact grew_one rfl Hw.out ((Fr.refl _ _).alloc _) hown1 hf1 hg1

set_option maxHeartbeats 1000000 in
theorem refWrite_2 (ws : List Nat) (A : Option Addr) (c : Nat) (t : It) (w : World) (hown : w.ownsRow 0 60 1 (.slice A ws.length c) ws.length (u64s ws)) (hk : t.kind = 2) (_hn : t.Ok w w.heap.size) (hlen : ws.length + 200 ≤ 1099511627776) :
    Calls Tryz.prog 28 #[.slice A ws.length c, t.val] w (Grew w (Value.slice A ws.length c).ownBlock (ws ++ t.words)) := by
  by_cases h1 : t.n = 1
  · have Hw : Hid (t.words = [1]) := Lib.hid (by simp [It.words, hk, h1])
    unfold It.val
    rw [hk, h1] at *
    clear hk h1
    go_enter Tryz.func28, Tryz.ntmps28
    go_wp2_with (at_builtin; (refine append_word rfl _ _ rfl 0 A ws.length c ws 1 _ rfl rfl (w.heap.size + 1) (by simp) rfl (hown.alloc _) (by omega) (Nat.zero_le _) ?_; intro A1 c1 w1 hown1 hf1 hg1))
    go_ret
    exact grew_one rfl Hw.out ((Fr.refl _ _).alloc _) hown1 hf1 hg1
  · have Hw : Hid (t.words = [0]) := Lib.hid (by simp [It.words, hk, h1])
    have hb : (t.n == 1) = false := by simpa using h1
    unfold It.val
    rw [hk] at *
    clear hk h1
    go_enter Tryz.func28, Tryz.ntmps28
    go_wp2_with (at_builtin; (refine append_word rfl _ _ rfl 0 A ws.length c ws 0 _ rfl rfl (w.heap.size + 1) (by simp) rfl (hown.alloc _) (by omega) (Nat.zero_le _) ?_; intro A1 c1 w1 hown1 hf1 hg1))
    go_ret
    exact grew_one rfl Hw.out ((Fr.refl _ _).alloc _) hown1 hf1 hg1
set_option maxHeartbeats 1000000 in
theorem refWords_any (xs ys : List Nat) (A1 A2 : Option Addr) (n m c1 c2 : Nat) (w : World) (h1 : Sl w w.heap.size A1 (u64s xs)) (h2 : Sl w w.heap.size A2 (u64s ys)) (hn : xs.length = n) (hm : ys.length = m) (hn1 : n ≤ 1099511627776) (hm1 : m ≤ 1099511627776) :
    Calls Tryz.prog 10 #[.slice A1 n c1, .slice A2 m c2] w fun e w' => e = .returned (.bool (decide (xs = ys))) ∧ Fr No w w' := by
  have Hn := Lib.hid hn
  have Hm := Lib.hid hm
  clear hn hm
  by_cases hnm : n = m
  · subst hnm
    go_enter Tryz.func10, Tryz.ntmps10
    go_wp2
    go_loopw [5] (fun i wr => ∃ k : Nat, k ≤ n ∧ i = .int .i64 k ∧ Hid (xs.take k = ys.take k) ∧ Hid (∃ q, wr = w.drewN q)) (fun i _ => n - (intOf i).toNat)
    case atStart => exact ⟨0, Nat.zero_le _, rfl, Lib.hid (by simp), Lib.hid ⟨0, rfl⟩⟩
    case round =>
      obtain ⟨k, hk, rfl, hpre, hwr⟩ := hrel
      obtain ⟨q, rfl⟩ := hwr.out
      clear hwr
      by_cases hlt : k < n
      · obtain ⟨ad1, rfl, hc1⟩ := h1.word (k := k) (by rw [Hn.out]; exact hlt)
        obtain ⟨ad2, rfl, hc2⟩ := h2.word (k := k) (by rw [Hm.out]; exact hlt)
        have hx := List.take_succ_eq_append_getElem (show k < xs.length by rw [Hn.out]; exact hlt)
        have hy := List.take_succ_eq_append_getElem (show k < ys.length by rw [Hm.out]; exact hlt)
        have hgx := List.getElem?_eq_getElem (show k < xs.length by rw [Hn.out]; exact hlt)
        have hgy := List.getElem?_eq_getElem (show k < ys.length by rw [Hm.out]; exact hlt)
        have hkx : k < xs.length := by rw [Hn.out]; exact hlt
        have hky : k < ys.length := by rw [Hm.out]; exact hlt
        generalize xs[k] = x at *
        generalize ys[k] = y at *
        by_cases hxy : x = y
        · subst hxy
          have Hr : Hid (xs.take (k + 1) = ys.take (k + 1)) := Lib.hid (by rw [hx, hy, hpre.out])
          have hb : ((x : Int) != (x : Int)) = false := by simp
          clear hx hy hgx hgy
          go_wp2
          go_quiet (fail)
          go_wp2
          go_roundw
          case rel => exact ⟨k + 1, by omega, by go_num, Hr, Lib.hid ⟨_, rfl⟩⟩
          case measure => simp [intOf]; omega
        · have Hr : Hid (xs ≠ ys) := Lib.hid (by
            rintro rfl
            rw [hgx] at hgy
            injection hgy with hgy
            exact hxy hgy)
          have hb : ((x : Int) != (y : Int)) = true := by rw [bne_iff_ne]; omega
          clear hx hy hgx hgy hxy
          go_wp2
          go_quiet (fail)
          go_wp2
          go_ret
          exact ⟨by simp [Hr.out], ((Fr.refl _ _).drewN _).drewN _⟩
      · have Hr : Hid (xs = ys) := Lib.hid (by
          have h := hpre.out
          rwa [List.take_of_length_le (by rw [Hn.out]; omega), List.take_of_length_le (by rw [Hm.out]; omega)] at h)
        go_wp2
        go_ret
        exact ⟨by simp [Hr.out], (Fr.refl _ _).drewN _⟩
  · have Hr : Hid (xs ≠ ys) := Lib.hid (by rintro rfl; exact hnm (Hn.out.symm.trans Hm.out))
    have hb : ((n : Int) != (m : Int)) = true := by rw [bne_iff_ne]; omega
    clear hnm
    go_enter Tryz.func10, Tryz.ntmps10
    go_wp2
    go_ret
    exact ⟨by simp [Hr.out], Fr.refl _ _⟩

end Go.Proofs.YtnlmhcfkipkegaaGreat
