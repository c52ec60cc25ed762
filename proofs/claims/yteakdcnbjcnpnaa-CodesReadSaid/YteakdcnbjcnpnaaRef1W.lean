/- What the document's own answers do: the words of a text, of a number, of an item; whether two lists are the same. And what the law's 'write' does. -/
import Derived.Test.YteakdcnbjcnpnaaCodesW
namespace Go.Proofs.Yteakdcnbjcnpnaa
open Go.RowKit

theorem hn_down (l : List Nat) (i m : Nat) (hi : i < l.length) : hn ((l.drop i).take (m + 1)) = l[i] + 256 * hn ((l.drop (i + 1)).take m) := by
  rw [List.drop_eq_getElem_cons hi]
  rfl
theorem hn_end (l : List Nat) (i m : Nat) (hi : l.length ≤ i) : hn ((l.drop i).take m) = 0 := by
  rw [List.drop_eq_nil_of_le hi]
  simp [hn]
theorem hn_small (l : List Nat) (hl : ∀ b ∈ l, b < 256) (i m : Nat) (hm : m ≤ 7) : hn ((l.drop i).take m) < 72057594037927936 := by
  have h1 := hn_lt ((l.drop i).take m) (fun b hb => hl b (List.mem_of_mem_drop (List.mem_of_mem_take hb)))
  have h2 : (256 : Nat) ^ ((l.drop i).take m).length ≤ 256 ^ 7 := Nat.pow_le_pow_right (by omega) (by simp; omega)
  omega

set_option maxHeartbeats 1000000 in
theorem refPacked_any (s : ByteArray) (hs : s.size ≤ 4096) (w : World) :
    Calls Try.prog 23 #[.string s] w (NewL w (packed (byts s))) := by
  obtain ⟨i0, hi0, hz0, hz1, hz2⟩ := info_parts info43
  go_enter Try.func23, Try.ntmps23
  go_wp2
  go_loopw [3, 4] (fun out at_ wr => ∃ (j : Nat) (A : Option Addr) (c : Nat), 8 * j ≤ s.size + 7 ∧ at_ = .int .i64 (8 * (j : Int)) ∧ out = .slice A j c ∧ wr.ownsRow w.heap.size 43 1 (.slice A j c) j (u64s ((List.range j).map (pw (byts s)))) ∧ Fr No w wr) (fun _ i _ => s.size + 8 - (intOf i).toNat)
  case atStart => exact ⟨0, none, 0, by omega, rfl, rfl, World.ownsRow_nil _ _ _ _, Fr.refl _ _⟩
  case round =>
    obtain ⟨j, A, c, hj, rfl, rfl, hown, hfr⟩ := hrel
    by_cases hlt : 8 * j < s.size
    · have hd : decide (8 * (j : Int) < (s.size : Int)) = true := by simp; omega
      go_wp2
      go_loop [5, 6] (fun x k => ∃ (m X : Nat), m ≤ 8 ∧ k = .int .i64 ((m : Int) - 1) ∧ x = .int .u64 X ∧ Hid (X = hn (((byts s).drop (8 * j + m)).take (8 - m)))) (fun _ k => (intOf k + 1).toNat)
      case atStart => exact ⟨8, 0, by omega, rfl, rfl, Lib.hid (by simp [hn])⟩
      case round =>
        obtain ⟨m, X, hm, rfl, rfl, hX⟩ := hrel
        by_cases hm0 : 1 ≤ m
        · obtain ⟨m, rfl⟩ : ∃ m', m = m' + 1 := ⟨m - 1, by omega⟩
          have hXs : X < 72057594037927936 := by rw [hX.out]; exact hn_small _ (byts_lt s) _ _ (by omega)
          by_cases hin : 8 * j + m < s.size
          · have hb : s[8 * j + m].toNat < 256 := s[8 * j + m].toNat_lt
            go_wp2
            go_round
            case rel =>
              refine ⟨m, X * 256 + s[8 * j + m].toNat, by omega, rfl, by simp, Lib.hid ?_⟩
              rw [show 8 - m = (8 - (m + 1)) + 1 by omega, hn_down _ _ _ (by rw [byts_len]; exact hin), byts_at s _ hin, hX.out, ← Nat.add_assoc]
              omega
            case measure => simp [intOf]
          · go_wp2
            go_round
            case rel =>
              refine ⟨m, X * 256, by omega, rfl, by simp, Lib.hid ?_⟩
              have h0 : X = 0 := by rw [hX.out]; exact hn_end _ _ _ (by rw [byts_len]; omega)
              rw [hn_end _ _ _ (by rw [byts_len]; omega), h0]
            case measure => simp [intOf]
        · obtain rfl : m = 0 := by omega
          go_wp2_with (at_builtin; refine wpList_append_src _ rfl (.tmp 33) (.tmp 35) _ rfl w.heap.size 43 i0 _ 1 8 Try.underlying25 hi0 hz0 hz1 hz2 rfl (by omega) _ j (u64s ((List.range j).map (pw (byts s)))) rfl (hown.alloc _) (wr.heap.size + 1) (some ⟨wr.heap.size, 0, none⟩) 1 1 (u64s [X]) rfl ?hl ?hr (u64s_one [X]) ?h63 ?hby ?hbase ?rest)
          case hl => rfl
          case hr =>
            intro _
            refine ⟨_, rfl, by simp, fun i u hu => ?_⟩
            match i, hu with
            | 0, hu =>
              simp [u64s] at hu
              subst hu
              exact (Bk.made wr 43 #[.int .u64 X]).cell 0
          case h63 => unfold maxLen; omega
          case hby => omega
          case hbase => have := hfr.size; simp; omega
          case rest =>
            intro v' w1 hown1 hgr hat
            obtain ⟨A1, c1, rfl, -, -, -⟩ := own_shape hown1
            go_wp2
            go_roundw
            case rel =>
              refine ⟨j + 1, A1, c1, by omega, by simp; omega, rfl, ?_, ?_⟩
              · have e : u64s ((List.range (j + 1)).map (pw (byts s))) = u64s ((List.range j).map (pw (byts s))) ++ u64s [X] := by
                  rw [List.range_succ, List.map_append, u64s_app, hX.out]
                  rfl
                rw [e]
                exact hown1
              · exact (hfr.alloc _).grown hgr (fun k hk => .inr (hown.lt k hk).1)
            case measure => simp [intOf]; omega
    · go_wp2
      go_ret
      have hN : j = (s.size + 7) / 8 := by omega
      have e : (List.range j).map (pw (byts s)) = packed (byts s) := by rw [packed, byts_len, hN]
      have hl : (packed (byts s)).length = j := by rw [packed_len, byts_len, hN]
      rw [e] at hown
      refine ⟨A, c, by rw [hl]; rfl, ?_, hfr⟩
      rw [hl]
      exact hown

/-- An item of the document's. -/
structure It where
  kind : Int
  n : Int
  most : Int
  x : Int
  s : ByteArray
  L : List Nat
  A : Option Addr
  c : Nat
def It.cells (t : It) : List Value := [.int .i64 t.kind, .int .i64 t.n, .int .i64 t.most, .int .i64 t.x, .string t.s, .slice t.A t.L.length t.c]
def It.val (t : It) : Value := .agg #[.int .i64 t.kind, .int .i64 t.n, .int .i64 t.most, .int .i64 t.x, .string t.s, .slice t.A t.L.length t.c]
structure It.Ok (w : World) (B : Nat) (t : It) : Prop where
  kind : 0 ≤ t.kind ∧ t.kind ≤ 4
  n : -9223372036854775808 ≤ t.n ∧ t.n < 9223372036854775808
  most : -9223372036854775808 ≤ t.most ∧ t.most < 9223372036854775808
  x : -9223372036854775808 ≤ t.x ∧ t.x < 9223372036854775808
  s : t.s.size ≤ 200
  L : t.L.length ≤ 100
  w64 : ∀ u ∈ t.L, u < 18446744073709551616
  c : t.L.length ≤ t.c ∧ t.c ≤ maxLen
  nil : t.A = none → t.L.length = 0 ∧ t.c = 0
  sl : Sl w B t.A (u64s t.L)
/-- The words of an item. -/
def It.words (t : It) : List Nat :=
  if t.kind = 0 then [t.n.toNat] else if t.kind = 1 then [sgn t.x] else if t.kind = 2 then [if t.n = 1 then 1 else 0]
  else if t.kind = 3 then ((byts t.s).take 64).length :: packed ((byts t.s).take 64) else t.L.length :: t.L

set_option maxHeartbeats 400000 in
theorem refSigned_any (n : Int) (hn : -9223372036854775808 ≤ n) (hm : n < 9223372036854775808) (w : World) :
    Calls Try.prog 22 #[.int .i64 n] w fun e w' => e = .returned (.int .u64 (sgn n)) ∧ w = w' := by
  by_cases h0 : 0 ≤ n
  all_goals
    go_enter Try.func22, Try.ntmps22
    go_wp2
    go_ret
    refine ⟨?_, rfl⟩
    unfold sgn
    split
    all_goals first | omega | (simp; omega)

/-- A list of the call's own with more words, and what else may have turned: the block in which it was. -/
def Grew (w : World) (g : Option Nat) (ws : List Nat) (e : Ending) (w' : World) : Prop :=
  ∃ A c, e = .returned (.slice A ws.length c) ∧ w'.ownsRow 0 43 1 (.slice A ws.length c) ws.length (u64s ws) ∧ Fr (fun k => g = some k) w w' ∧
    ((Value.slice A ws.length c).ownBlock = g ∨ ∃ k, (Value.slice A ws.length c).ownBlock = some k ∧ w.heap.size ≤ k)

/-- The end of a walk that has put one word behind what was owned. -/
theorem grew_one {w w0 w1 : World} {A A1 : Option Addr} {n c c1 : Nat} {ws : List Nat} {u : Nat} {us : List Nat} (hn : n = ws.length) (hus : us = [u]) (h0 : Fr No w w0)
    (hown : w1.ownsRow 0 43 1 (.slice A1 (n + 1) c1) (n + 1) (u64s (ws ++ [u]))) (hf : Fr (fun k => (Value.slice A n c).ownBlock = some k) w0 w1)
    (hg : (Value.slice A1 (n + 1) c1).ownBlock = (Value.slice A n c).ownBlock ∨ ∃ k, (Value.slice A1 (n + 1) c1).ownBlock = some k ∧ w0.heap.size ≤ k) :
    Grew w (Value.slice A n c).ownBlock (ws ++ us) (.returned (.slice A1 (n + 1) c1)) w1 := by
  subst hn hus
  refine ⟨A1, c1, by simp, by simpa using hown, (h0.weak (fun _ _ h => h.elim)).trans' hf (fun _ _ h => h), ?_⟩
  rcases hg with hg | ⟨k, hg, hk⟩
  · exact .inl (by simpa [Value.ownBlock] using hg)
  · exact .inr ⟨k, by simpa [Value.ownBlock] using hg, Nat.le_trans h0.size hk⟩

theorem grew_two {w w0 w1 w2 w3 : World} {A A1 A3 : Option Addr} {n c c1 c3 m : Nat} {ws : List Nat} {u : Nat} {us ys : List Nat} (hn : n = ws.length) (hus : us = u :: ys) (h0 : Fr No w w0) (hf : Fr (fun k => (Value.slice A n c).ownBlock = some k) w0 w1)
    (hg : (Value.slice A1 (n + 1) c1).ownBlock = (Value.slice A n c).ownBlock ∨ ∃ k, (Value.slice A1 (n + 1) c1).ownBlock = some k ∧ w0.heap.size ≤ k) (h2 : Fr No w1 w2)
    (hown : w3.ownsRow 0 43 1 (.slice A3 (n + 1 + m) c3) (n + 1 + m) (u64s (ws ++ [u] ++ ys))) (hf3 : Fr (fun k => (Value.slice A1 (n + 1) c1).ownBlock = some k) w2 w3)
    (hg3 : (Value.slice A3 (n + 1 + m) c3).ownBlock = (Value.slice A1 (n + 1) c1).ownBlock ∨ ∃ k, (Value.slice A3 (n + 1 + m) c3).ownBlock = some k ∧ w2.heap.size ≤ k) :
    Grew w (Value.slice A n c).ownBlock (ws ++ us) (.returned (.slice A3 (n + 1 + m) c3)) w3 := by
  subst hn hus
  have hl := hown.1
  simp [u64s] at hl
  obtain rfl : ys.length = m := by omega
  have e : (ws ++ u :: ys).length = ws.length + 1 + ys.length := by simp; omega
  have hf1' := (h0.weak (S' := fun k => (Value.slice A ws.length c).ownBlock = some k) (fun _ _ h => h.elim)).trans' hf (fun _ _ h => h)
  have hs2 := Nat.le_trans hf1'.size h2.size
  refine ⟨A3, c3, by rw [e], by rw [e]; simpa using hown, (hf1'.trans' h2 (fun _ _ h => h.elim)).trans' hf3 ?_, ?_⟩
  · intro k hk h
    rcases hg with hg | ⟨k', hg, hk'⟩
    · rw [← hg]; exact h
    · rw [hg] at h
      injection h with h
      have := h0.size
      omega
  · rcases hg3 with hg3 | ⟨k, hg3, hk⟩
    · have hg3' : (Value.slice A3 (ws ++ u :: ys).length c3).ownBlock = (Value.slice A1 (ws.length + 1) c1).ownBlock := by rw [e]; exact hg3
      rw [hg3']
      rcases hg with hg | ⟨k', hg, hk'⟩
      · exact .inl hg
      · exact .inr ⟨k', hg, Nat.le_trans h0.size hk'⟩
    · exact .inr ⟨k, by rw [e]; exact hg3, by omega⟩

set_option maxHeartbeats 1000000 in
theorem refWrite_0 (ws : List Nat) (A : Option Addr) (c : Nat) (t : It) (w : World) (hown : w.ownsRow 0 43 1 (.slice A ws.length c) ws.length (u64s ws)) (hk : t.kind = 0) (hn : t.Ok w w.heap.size) (hlen : ws.length + 200 ≤ 1099511627776) :
    Calls Try.prog 9 #[.slice A ws.length c, t.val] w (Grew w (Value.slice A ws.length c).ownBlock (ws ++ t.words)) := by
  have Hw : Hid (t.words = [t.n.toNat]) := Lib.hid (by simp [It.words, hk])
  have Hx : Hid (t.n < 0 → t.n.toNat = 0) := Lib.hid (by omega)
  obtain ⟨h1, h2⟩ := hn.n
  unfold It.val
  rw [hk] at *
  generalize t.n = n at *
  clear hn hk
  go_enter Try.func9, Try.ntmps9
  go_wp2_with (at_builtin; (refine append_word rfl _ _ rfl 0 A ws.length c ws n.toNat _ (by omega) rfl (w.heap.size + 1) (by simp) rfl (hown.alloc _) (by omega) (Nat.zero_le _) ?_; intro A1 c1 w1 hown1 hf1 hg1))
  all_goals
    go_ret
    exact grew_one rfl Hw.out ((Fr.refl _ _).alloc _) hown1 hf1 hg1

set_option maxHeartbeats 1000000 in
theorem refWrite_1 (ws : List Nat) (A : Option Addr) (c : Nat) (t : It) (w : World) (hown : w.ownsRow 0 43 1 (.slice A ws.length c) ws.length (u64s ws)) (hk : t.kind = 1) (hn : t.Ok w w.heap.size) (hlen : ws.length + 200 ≤ 1099511627776) :
    Calls Try.prog 9 #[.slice A ws.length c, t.val] w (Grew w (Value.slice A ws.length c).ownBlock (ws ++ t.words)) := by
  have Hw : Hid (t.words = [sgn t.x]) := Lib.hid (by simp [It.words, hk])
  obtain ⟨h1, h2⟩ := hn.x
  unfold It.val
  rw [hk] at *
  generalize t.x = x at *
  clear hn hk
  go_enter Try.func9, Try.ntmps9
  go_wp2_with (first
    | (go_at_call 22; refine (refSigned_any x h1 h2 _).mono ?_; rintro e w' ⟨rfl, rfl⟩)
    | (at_builtin; (refine append_word rfl _ _ rfl 0 A ws.length c ws (sgn x) _ rfl rfl (w.heap.size + 1) (by simp) rfl (hown.alloc _) (by omega) (Nat.zero_le _) ?_; intro A1 c1 w1 hown1 hf1 hg1)))
  go_ret
  exact grew_one rfl Hw.out ((Fr.refl _ _).alloc _) hown1 hf1 hg1

set_option maxHeartbeats 1000000 in
theorem refWrite_2 (ws : List Nat) (A : Option Addr) (c : Nat) (t : It) (w : World) (hown : w.ownsRow 0 43 1 (.slice A ws.length c) ws.length (u64s ws)) (hk : t.kind = 2) (_hn : t.Ok w w.heap.size) (hlen : ws.length + 200 ≤ 1099511627776) :
    Calls Try.prog 9 #[.slice A ws.length c, t.val] w (Grew w (Value.slice A ws.length c).ownBlock (ws ++ t.words)) := by
  by_cases h1 : t.n = 1
  · have Hw : Hid (t.words = [1]) := Lib.hid (by simp [It.words, hk, h1])
    unfold It.val
    rw [hk, h1] at *
    clear hk h1
    go_enter Try.func9, Try.ntmps9
    go_wp2_with (at_builtin; (refine append_word rfl _ _ rfl 0 A ws.length c ws 1 _ rfl rfl (w.heap.size + 1) (by simp) rfl (hown.alloc _) (by omega) (Nat.zero_le _) ?_; intro A1 c1 w1 hown1 hf1 hg1))
    go_ret
    exact grew_one rfl Hw.out ((Fr.refl _ _).alloc _) hown1 hf1 hg1
  · have Hw : Hid (t.words = [0]) := Lib.hid (by simp [It.words, hk, h1])
    have hb : (t.n == 1) = false := by simpa using h1
    unfold It.val
    rw [hk] at *
    clear hk h1
    go_enter Try.func9, Try.ntmps9
    go_wp2_with (at_builtin; (refine append_word rfl _ _ rfl 0 A ws.length c ws 0 _ rfl rfl (w.heap.size + 1) (by simp) rfl (hown.alloc _) (by omega) (Nat.zero_le _) ?_; intro A1 c1 w1 hown1 hf1 hg1))
    go_ret
    exact grew_one rfl Hw.out ((Fr.refl _ _).alloc _) hown1 hf1 hg1
set_option maxHeartbeats 1000000 in
theorem refWrite_3 (ws : List Nat) (A : Option Addr) (c : Nat) (t : It) (w : World) (hown : w.ownsRow 0 43 1 (.slice A ws.length c) ws.length (u64s ws)) (hk : t.kind = 3) (hn : t.Ok w w.heap.size) (hlen : ws.length + 200 ≤ 1099511627776) :
    Calls Try.prog 9 #[.slice A ws.length c, t.val] w (Grew w (Value.slice A ws.length c).ownBlock (ws ++ t.words)) := by
  have hs := hn.s
  have Hw : Hid (t.words = ((byts t.s).take 64).length :: packed ((byts t.s).take 64)) := Lib.hid (by simp [It.words, hk])
  obtain ⟨i0, hi0, hz0, hz1, hz2⟩ := info_parts info43
  unfold It.val
  rw [hk] at *
  generalize t.s = s at *
  clear hn hk
  by_cases h64 : s.size ≤ 64
  · have e1 : (byts s).take 64 = byts s := List.take_of_length_le (by rw [byts_len]; exact h64)
    rw [e1, byts_len] at Hw
    go_enter Try.func9, Try.ntmps9
    go_wp2_with (at_builtin; (refine append_word rfl _ _ rfl 0 A ws.length c ws s.size _ rfl rfl (w.heap.size + 1) (by simp) rfl (hown.alloc _) (by omega) (Nat.zero_le _) ?_; intro A1 c1 w1 hown1 hf1 hg1))
    refine (refPacked_any s (by omega) w1).mono ?_
    rintro e w2 ⟨A2, c2, rfl, hown2, hf2⟩
    have hown1' := own_fr hown1 hf2 (fun _ _ => id)
    have hpl : (packed (byts s)).length ≤ 8 := by rw [packed_len, byts_len]; omega
    go_wp2_with (at_builtin; (refine append_words rfl _ _ rfl 0 A1 (ws.length + 1) c1 (ws ++ [s.size]) rfl w2.heap.size A2 _ c2 (packed (byts s)) rfl rfl (Sl.ofOwn hown2) hown1' (by omega) (Nat.zero_le _) ?_; intro A3 c3 w3 hown3 hf3 hg3))
    go_ret
    exact grew_two rfl Hw.out ((Fr.refl _ _).alloc _) hf1 hg1 hf2 hown3 hf3 hg3
  · have e1 : s.size.min 64 = 64 := by simp [Nat.min_def]; omega
    have e2 : ((byts s).take 64).length = 64 := by rw [List.length_take, byts_len]; omega
    rw [e2] at Hw
    clear e1 e2
    have hmin : (↑(min 64 s.size) : Int) = 64 := by omega
    go_enter Try.func9, Try.ntmps9
    go_wp2_with (at_builtin; (refine append_word rfl _ _ rfl 0 A ws.length c ws 64 _ rfl rfl (w.heap.size + 1) (by simp) rfl (hown.alloc _) (by omega) (Nat.zero_le _) ?_; intro A1 c1 w1 hown1 hf1 hg1))
    refine (refPacked_any (s.extract 0 64) (by simp; omega) w1).mono ?_
    rw [byts_take]
    rintro e w2 ⟨A2, c2, rfl, hown2, hf2⟩
    have hown1' := own_fr hown1 hf2 (fun _ _ => id)
    have hpl : (packed ((byts s).take 64)).length ≤ 8 := by rw [packed_len, List.length_take, byts_len]; omega
    go_wp2_with (at_builtin; (refine append_words rfl _ _ rfl 0 A1 (ws.length + 1) c1 (ws ++ [64]) rfl w2.heap.size A2 _ c2 (packed ((byts s).take 64)) rfl rfl (Sl.ofOwn hown2) hown1' (by omega) (Nat.zero_le _) ?_; intro A3 c3 w3 hown3 hf3 hg3))
    go_ret
    exact grew_two rfl Hw.out ((Fr.refl _ _).alloc _) hf1 hg1 hf2 hown3 hf3 hg3

set_option maxHeartbeats 1000000 in
theorem refWrite_4 (ws : List Nat) (A : Option Addr) (c : Nat) (t : It) (w : World) (hown : w.ownsRow 0 43 1 (.slice A ws.length c) ws.length (u64s ws)) (hk : t.kind = 4) (hn : t.Ok w w.heap.size) (hap : ∀ ad, t.A = some ad → t.L ≠ [] → (Value.slice A ws.length c).ownBlock ≠ some ad.block) (hlen : ws.length + 200 ≤ 1099511627776) :
    Calls Try.prog 9 #[.slice A ws.length c, t.val] w (Grew w (Value.slice A ws.length c).ownBlock (ws ++ t.words)) := by
  have Hw : Hid (t.words = t.L.length :: t.L) := Lib.hid (by simp [It.words, hk])
  have hL := hn.L
  have hsl := hn.sl
  unfold It.val
  rw [hk] at *
  clear hn hk
  have hA : ¬ (Value.slice A ws.length c).ownBlock = some w.heap.size := fun e => by have := own_lt hown e; omega
  go_enter Try.func9, Try.ntmps9
  go_wp2_with fail
  have hwr : IntKind.u64.wrap (t.L.length : Int) = t.L.length := IntWalk.u64_in _ (by omega)
  go_region_held3 (fun w' => w'.cell? ⟨w.heap.size, 5, none⟩ = some (.slice t.A t.L.length t.c)) (first
    | go_keep
    | exact (hf1.cell (by simp; omega) hA).trans (by simp)
    | (refine (hf3.cell (by have := hf1.size; simp at this; simp; omega) ?_).trans ((hf1.cell (by simp; omega) hA).trans (by simp))
       intro e
       rcases hg1 with hg1 | ⟨k, hg1, hk1⟩
       · exact hA (hg1.symm.trans e)
       · have := hg1.symm.trans e
         simp at this hk1
         omega))
    (first
     | (refine step_words rfl _ _ rfl 0 A ws.length c ws (by rfl) (w.heap.size + 2) _ 1 1 [t.L.length] (by rfl) rfl (by exact sl_word t.L.length _ rfl (w.heap.size + 1) (by simp)) (by exact (hown.alloc _).alloc _) (by omega) (Nat.zero_le _) ?_
        intro A1 c1 w1 hown1 hf1 hg1)
     | (refine step_words rfl _ _ rfl 0 A1 (ws.length + 1) c1 (ws ++ [t.L.length]) (by rfl) w.heap.size t.A t.L.length t.c t.L (by rfl) rfl (by exact (Sl.fr (hsl.keep (fun p hp => by simp [World.cell?_alloc_lt, hp, Nat.lt_succ_of_lt hp])) hf1 (by simp; omega) (fun ad h1 h2 => hap ad h1 (u64s_ne h2)))) (by exact hown1) (by omega) (Nat.zero_le _) ?_
        intro A3 c3 w3 hown3 hf3 hg3))
  go_wp2
  go_ret
  exact grew_two rfl Hw.out ((((Fr.refl No w).alloc _).alloc _).drew) hf1 hg1 (Fr.refl _ _) hown3 hf3 hg3

theorem refWrite_any (ws : List Nat) (A : Option Addr) (c : Nat) (t : It) (w : World) (hown : w.ownsRow 0 43 1 (.slice A ws.length c) ws.length (u64s ws)) (hn : t.Ok w w.heap.size) (hap : ∀ ad, t.A = some ad → t.L ≠ [] → (Value.slice A ws.length c).ownBlock ≠ some ad.block) (hlen : ws.length + 200 ≤ 1099511627776) :
    Calls Try.prog 9 #[.slice A ws.length c, t.val] w (Grew w (Value.slice A ws.length c).ownBlock (ws ++ t.words)) := by
  have hk := hn.kind
  rcases (show t.kind = 0 ∨ t.kind = 1 ∨ t.kind = 2 ∨ t.kind = 3 ∨ t.kind = 4 by omega) with h | h | h | h | h
  · exact refWrite_0 ws A c t w hown h hn hlen
  · exact refWrite_1 ws A c t w hown h hn hlen
  · exact refWrite_2 ws A c t w hown h hn hlen
  · exact refWrite_3 ws A c t w hown h hn hlen
  · exact refWrite_4 ws A c t w hown h hn hap hlen

set_option maxHeartbeats 1000000 in
theorem lawWrite_any (p : Nat) (g : Option Nat) (xs : List Nat) (t : It) (w : World) (hwr : Wr w p g xs) (hn : t.Ok w w.heap.size) (hap : ∀ ad, t.A = some ad → t.L ≠ [] → ¬ Of p g ad.block) (hlen : xs.length + 200 ≤ 1099511627776) :
    Calls Try.prog 8 #[.pointer (some ⟨p, 0, none⟩), t.val] w (Wrote w p g (xs ++ t.words)) := by
  obtain ⟨hpl, hgl⟩ := hwr.lt
  obtain ⟨hk1, hk2⟩ := hn.kind
  obtain ⟨hn1, hn2⟩ := hn.n
  obtain ⟨hx1, hx2⟩ := hn.x
  have hs := hn.s
  have hL := hn.L
  have hsl := hn.sl
  have Hn := Lib.hid hn
  clear hn
  have hwr2 := fun o => hwr.fr ((Fr.refl No w).alloc o) (fun _ _ => id)
  rcases (show t.kind = 0 ∨ t.kind = 1 ∨ t.kind = 2 ∨ t.kind = 3 ∨ t.kind = 4 by omega) with h | h | h | h | h
  all_goals
    unfold It.val
    clear hk1 hk2
  · have Hw : Hid (t.words = [t.n.toNat]) := Lib.hid (by simp [It.words, h])
    rw [h]
    clear h
    go_enter Try.func8, Try.ntmps8
    go_wp2_with (go_at_call 19; refine (count_any p g xs t.n _ (hwr2 _) hn1 hn2 (by omega)).mono ?_; intro e w1 hq0; obtain ⟨rfl, hq⟩ := hq0.since ((Fr.refl No w).alloc _); clear hq0)
    go_end0
    exact ⟨rfl, by rw [Hw.out]; exact hq⟩
  · have Hw : Hid (t.words = [sgn t.x]) := Lib.hid (by simp [It.words, h])
    rw [h]
    clear h
    go_enter Try.func8, Try.ntmps8
    go_wp2_with (go_at_call 17; refine (signed_any p g xs t.x _ (hwr2 _) hx1 hx2 (by omega)).mono ?_; intro e w1 hq0; obtain ⟨rfl, hq⟩ := hq0.since ((Fr.refl No w).alloc _); clear hq0)
    go_end0
    exact ⟨rfl, by rw [Hw.out]; exact hq⟩
  · have Hw : Hid (t.words = [(t.n == 1).toNat]) := Lib.hid (by
      by_cases h1 : t.n = 1
      · simp [It.words, h, h1]
      · have h2 : (t.n == 1) = false := beq_eq_false_iff_ne.2 h1
        simp [It.words, h, h1, h2])
    rw [h]
    clear h
    go_enter Try.func8, Try.ntmps8
    go_wp2_with (go_at_call 20; refine (flag_any p g xs (t.n == 1) _ (hwr2 _) (by omega)).mono ?_; intro e w1 hq0; obtain ⟨rfl, hq⟩ := hq0.since ((Fr.refl No w).alloc _); clear hq0)
    go_end0
    exact ⟨rfl, by rw [Hw.out]; exact hq⟩
  · have Hw : Hid (t.words = ((byts t.s).take 64).length :: packed ((byts t.s).take 64)) := Lib.hid (by simp [It.words, h])
    rw [h]
    clear h
    go_enter Try.func8, Try.ntmps8
    go_wp2_with (go_at_call 18; refine (text_any p g xs t.s _ (hwr2 _) (by omega) (by omega)).mono ?_; intro e w1 hq0; obtain ⟨rfl, hq⟩ := hq0.since ((Fr.refl No w).alloc _); clear hq0)
    go_end0
    exact ⟨rfl, by rw [Hw.out]; exact hq⟩
  · have Hw : Hid (t.words = t.L.length :: t.L) := Lib.hid (by simp [It.words, h])
    have hsl2 := fun o => (hsl.fr ((Fr.refl No w).alloc o) (Nat.le_refl _) (fun _ _ _ => id)).more (B' := w.heap.size + 1) (by omega)
    rw [h]
    clear h
    go_enter Try.func8, Try.ntmps8
    go_wp2_with (go_at_call 21; refine (words_any p g xs t.L t.A _ t.c _ (hwr2 _) (by simpa using hsl2 _) rfl hap (by omega)).mono ?_; intro e w1 hq0; obtain ⟨rfl, hq⟩ := hq0.since ((Fr.refl No w).alloc _); clear hq0)
    go_end0
    exact ⟨rfl, by rw [Hw.out]; exact hq⟩

theorem u64s_at (xs : List Nat) (k : Nat) (hk : k < xs.length) : (u64s xs)[k]? = some (.int .u64 xs[k]) := by simp [u64s, hk]
theorem Sl.word {w : World} {B : Nat} {A : Option Addr} {xs : List Nat} (h : Sl w B A (u64s xs)) {k : Nat} (hk : k < xs.length) : ∃ ad, A = some ad ∧ w.cell? (ad.add k) = some (.int .u64 xs[k]) := by
  obtain ⟨ad, e, _, hc⟩ := h (by intro e; simp [u64s] at e; subst e; simp at hk)
  exact ⟨ad, e, hc k _ (u64s_at xs k hk)⟩

set_option maxHeartbeats 1000000 in
theorem refWords_any (xs ys : List Nat) (A1 A2 : Option Addr) (n m c1 c2 : Nat) (w : World) (h1 : Sl w w.heap.size A1 (u64s xs)) (h2 : Sl w w.heap.size A2 (u64s ys)) (hn : xs.length = n) (hm : ys.length = m) (hn1 : n ≤ 1099511627776) (hm1 : m ≤ 1099511627776) :
    Calls Try.prog 10 #[.slice A1 n c1, .slice A2 m c2] w fun e w' => e = .returned (.bool (decide (xs = ys))) ∧ Fr No w w' := by
  have Hn := Lib.hid hn
  have Hm := Lib.hid hm
  clear hn hm
  by_cases hnm : n = m
  · subst hnm
    go_enter Try.func10, Try.ntmps10
    go_wp2
    go_loopw [5] (fun i wr => ∃ k : Nat, k ≤ n ∧ i = .int .i64 k ∧ Hid (xs.take k = ys.take k) ∧ Hid (∃ q, wr = w.drewN q)) (fun i _ => n - (intOf i).toNat)
    case atStart => exact ⟨0, Nat.zero_le _, rfl, Lib.hid (by simp), Lib.hid ⟨0, rfl⟩⟩
    case round =>
      obtain ⟨k, hk, rfl, hpre, hwr⟩ := hrel
      obtain ⟨q, rfl⟩ := hwr.out
      clear hwr
      by_cases hlt : k < n
      · obtain ⟨ad1, rfl, hc1⟩ := h1.word (k := k) (by rw [Hn.out]; exact hlt)
        obtain ⟨ad2, rfl, hc2⟩ := h2.word (k := k) (by rw [Hm.out]; exact hlt)
        have hx := List.take_succ_eq_append_getElem (show k < xs.length by rw [Hn.out]; exact hlt)
        have hy := List.take_succ_eq_append_getElem (show k < ys.length by rw [Hm.out]; exact hlt)
        have hgx := List.getElem?_eq_getElem (show k < xs.length by rw [Hn.out]; exact hlt)
        have hgy := List.getElem?_eq_getElem (show k < ys.length by rw [Hm.out]; exact hlt)
        have hkx : k < xs.length := by rw [Hn.out]; exact hlt
        have hky : k < ys.length := by rw [Hm.out]; exact hlt
        generalize xs[k] = x at *
        generalize ys[k] = y at *
        by_cases hxy : x = y
        · subst hxy
          have Hr : Hid (xs.take (k + 1) = ys.take (k + 1)) := Lib.hid (by rw [hx, hy, hpre.out])
          have hb : ((x : Int) != (x : Int)) = false := by simp
          clear hx hy hgx hgy
          go_wp2
          go_quiet (fail)
          go_wp2
          go_roundw
          case rel => exact ⟨k + 1, by omega, by go_num, Hr, Lib.hid ⟨_, rfl⟩⟩
          case measure => simp [intOf]; omega
        · have Hr : Hid (xs ≠ ys) := Lib.hid (by
            rintro rfl
            rw [hgx] at hgy
            injection hgy with hgy
            exact hxy hgy)
          have hb : ((x : Int) != (y : Int)) = true := by rw [bne_iff_ne]; omega
          clear hx hy hgx hgy hxy
          go_wp2
          go_quiet (fail)
          go_wp2
          go_ret
          exact ⟨by simp [Hr.out], ((Fr.refl _ _).drewN _).drewN _⟩
      · have Hr : Hid (xs = ys) := Lib.hid (by
          have h := hpre.out
          rwa [List.take_of_length_le (by rw [Hn.out]; omega), List.take_of_length_le (by rw [Hm.out]; omega)] at h)
        go_wp2
        go_ret
        exact ⟨by simp [Hr.out], (Fr.refl _ _).drewN _⟩
  · have Hr : Hid (xs ≠ ys) := Lib.hid (by rintro rfl; exact hnm (Hn.out.symm.trans Hm.out))
    have hb : ((n : Int) != (m : Int)) = true := by rw [bne_iff_ne]; omega
    clear hnm
    go_enter Try.func10, Try.ntmps10
    go_wp2
    go_ret
    exact ⟨by simp [Hr.out], Fr.refl _ _⟩

end Go.Proofs.Yteakdcnbjcnpnaa
