/- A program as the document's items; their words. -/
import Derived.Test.YtnlmhcfkipkegaaGreatIt1
import Derived.Test.YtnlmhcfkipkegaaGreatWrd9
import Derived.Test.YtnlmhcfkipkegaaGreatHand
import Derived.Deep.RegionHeld3
namespace Go.Proofs.YtnlmhcfkipkegaaGreat
open Go.RowKit

theorem info_item : (Tryz.prog.info? 68).map (fun i => (i.zero, i.size, i.bytes)) = some (some (.agg #[.int .i64 0, .int .i64 0, .int .i64 0, .int .i64 0, .string ⟨#[]⟩, .slice none 0 0]), 6, 72) := by kernel_rfl
theorem It.cells_len9 (t : It) : t.cells.length = 6 := rfl
theorem its_one (l : List It) : ∀ u ∈ l.flatMap It.cells, u.oneCell' = true := by
  intro u hu
  obtain ⟨t, _, h⟩ := List.mem_flatMap.1 hu
  simp only [It.cells, List.mem_cons, List.not_mem_nil, or_false] at h
  rcases h with rfl | rfl | rfl | rfl | rfl | rfl <;> rfl
theorem its_len (l : List It) : (l.flatMap It.cells).length = l.length * 6 := flat_len _ 6 It.cells_len9 l

theorem slLit (w : World) (t : TypeId) (cs : Array Value) (xs : List Value) (H : Nat) (hH : H = w.heap.size) (hl : cs.toList = xs) : Sl (w.alloc (.cells cs t)) (H + 1) (some ⟨H, 0, none⟩) xs := by
  subst hH hl
  exact Sl.made w t cs
/-- Items behind what is owned, as one step of the walk. -/
theorem append_items {w : World} {ops : Array Oper} {rest : List Oper} {o : Oper} {a : Act} {Q : Exit → Act → World → Prop} (hgd : o.guard = none) (s x : Operand)
    (ho : o.op = .call { callee := .builtin .append, args := #[s, x], argTypes := #[39, 39] })
    (base : Nat) (A : Option Addr) (n c : Nat) (xs : List It) (hs : a.eval s = .slice A n c) (B : Nat) (A2 : Option Addr) (m c2 : Nat) (ys : List It) (hx : a.eval x = .slice A2 m c2) (hm : ys.length = m) (hr : Sl w B A2 (ys.flatMap It.cells))
    (hown : w.ownsRow base 68 6 (.slice A n c) n (xs.flatMap It.cells)) (hlen : n + m ≤ 1000000) (hbase : base ≤ w.heap.size)
    (h : ∀ A' c' w', w'.ownsRow base 68 6 (.slice A' (n + m) c') (n + m) ((xs ++ ys).flatMap It.cells) → Fr (fun k => (Value.slice A n c).ownBlock = some k) w w' →
      ((Value.slice A' (n + m) c').ownBlock = (Value.slice A n c).ownBlock ∨ ∃ k, (Value.slice A' (n + m) c').ownBlock = some k ∧ w.heap.size ≤ k) → wpList Tryz.prog ops Q rest (a.put o.dst (.slice A' (n + m) c')) w') :
    wpList Tryz.prog ops Q (o :: rest) a w := by
  obtain ⟨i, hi, hz, hz1, hz2⟩ := info_parts info_item
  refine wpList_append_src _ hgd s x _ ho base 68 i _ 6 72 Tryz.underlying39 hi hz hz1 hz2 rfl (by omega) (.slice A n c) n (xs.flatMap It.cells) hs hown B A2 m c2 (ys.flatMap It.cells) hx (by rw [its_len, hm]) hr (its_one ys) (by unfold maxLen; omega) (by omega) hbase ?_
  intro v' w' q1 q2 q3
  obtain ⟨A', c', rfl, -, -, -⟩ := own_shape q1
  rw [List.flatMap_append] at h
  refine h A' c' w' q1 ((Fr.refl _ w).grown q2 (fun k hk => .inl hk)) ?_
  rcases q3 with q3 | q3
  · exact .inl q3
  · exact .inr ⟨_, q3, Nat.le_refl _⟩
/-- The same as one step of a region that draws its order. -/
theorem wp_items {w : World} {o : Oper} {a : Act} {K : Act → World → Prop} {Q : Exit → Act → World → Prop} (s x : Operand)
    (ho : o.op = .call { callee := .builtin .append, args := #[s, x], argTypes := #[39, 39] })
    (base : Nat) (A : Option Addr) (n c : Nat) (xs : List It) (hs : a.eval s = .slice A n c) (B : Nat) (A2 : Option Addr) (m c2 : Nat) (ys : List It) (hx : a.eval x = .slice A2 m c2) (hm : ys.length = m) (hr : Sl w B A2 (ys.flatMap It.cells))
    (hown : w.ownsRow base 68 6 (.slice A n c) n (xs.flatMap It.cells)) (hlen : n + m ≤ 1000000) (hbase : base ≤ w.heap.size)
    (h : ∀ A' c' w', w'.ownsRow base 68 6 (.slice A' (n + m) c') (n + m) ((xs ++ ys).flatMap It.cells) → Fr (fun k => (Value.slice A n c).ownBlock = some k) w w' →
      ((Value.slice A' (n + m) c').ownBlock = (Value.slice A n c).ownBlock ∨ ∃ k, (Value.slice A' (n + m) c').ownBlock = some k ∧ w.heap.size ≤ k) → K (a.put o.dst (.slice A' (n + m) c')) w') :
    Oper.wp Tryz.prog o a w K Q := by
  obtain ⟨i, hi, hz, hz1, hz2⟩ := info_parts info_item
  refine wp_append_src w s x _ ho base 68 i _ 6 72 Tryz.underlying39 hi hz hz1 hz2 rfl (by omega) (.slice A n c) n (xs.flatMap It.cells) hs hown B A2 m c2 (ys.flatMap It.cells) hx (by rw [its_len, hm]) hr (its_one ys) (by unfold maxLen; omega) (by omega) hbase ?_
  intro v' w' q1 q2 q3
  obtain ⟨A', c', rfl, -, -, -⟩ := own_shape q1
  rw [List.flatMap_append] at h
  refine h A' c' w' q1 ((Fr.refl _ w).grown q2 (fun k hk => .inl hk)) ?_
  rcases q3 with q3 | q3
  · exact .inl q3
  · exact .inr ⟨_, q3, Nat.le_refl _⟩

/-- A count, and a number with a sign, as items. -/
def itN (n most : Int) : It := ⟨0, n, most, 0, ⟨#[]⟩, [], none, 0⟩
def itS (x : Int) : It := ⟨1, 0, 0, x, ⟨#[]⟩, [], none, 0⟩
def itK (x y : Int) : List It := [itS x, itN y 999]
def itI (i : Ins) : List It := [itN i.op 255, itN i.a 255, itN i.b 255, itN i.c 255] ++ itK i.ka i.kb ++ itK i.la i.lb ++ [itS i.x]
def itP (l : List Ins) : List It := itN l.length 8 :: l.flatMap itI
theorem itI_len (i : Ins) : (itI i).length = 9 := rfl
theorem itI_flat (l : List Ins) : (l.flatMap itI).length = l.length * 9 := by
  induction l with
  | nil => simp
  | cons x r ih => rw [List.flatMap_cons, List.length_append, itI_len, ih, List.length_cons]; omega
theorem itP_len (l : List Ins) : (itP l).length = 1 + l.length * 9 := by
  rw [itP, List.length_cons, itI_flat l]
  omega
theorem itN_words (n m : Int) : (itN n m).words = [n.toNat] := by simp [itN, It.words]
theorem itS_words (x : Int) : (itS x).words = [sgn x] := by simp [itS, It.words]
theorem itI_words (i : Ins) : (itI i).flatMap It.words = wordsI i := by
  simp [itI, itK, List.flatMap_cons, itN_words, itS_words, wordsI]
theorem itP_words (l : List Ins) : (itP l).flatMap It.words = wordsP l := by
  rw [itP, List.flatMap_cons, itN_words, wordsP]
  simp only [Int.toNat_natCast, List.cons_append, List.nil_append, List.cons.injEq, true_and]
  induction l with
  | nil => rfl
  | cons x r ih => rw [List.flatMap_cons, List.flatMap_append, itI_words, ih, List.flatMap_cons]

/-- What is made of items. -/
def Items9 (w : World) (l : List It) (e : Ending) (w' : World) : Prop := ∃ A c, e = .returned (.slice A l.length c) ∧ Sl w' w'.heap.size A (l.flatMap It.cells) ∧ (∀ ad, A = some ad → w.heap.size ≤ ad.block) ∧ Fr No w w'
set_option maxHeartbeats 400000 in
theorem keyItems_any (x y : Int) (w : World) : Calls Tryz.prog 52 #[.agg #[.int .i64 x, .int .i64 y]] w (Items9 w (itK x y)) := by
  go_enter Tryz.func52, Tryz.ntmps52
  go_wp2
  go_ret
  refine ⟨some ⟨w.heap.size + 1, 0, none⟩, 2, rfl, ?_, by intro ad h; injection h with h; subst h; simp, ((Fr.refl _ _).alloc _).alloc _⟩
  have h := Sl.made (w.alloc (.cells #[.int .i64 x, .int .i64 y] 43)) 68 ((itK x y).flatMap It.cells).toArray
  simpa [itK, itS, itN, It.cells] using h

set_option maxHeartbeats 4000000 in
theorem items_any (l : List Ins) (A : Option Addr) (n c : Nat) (w : World) (hsl : Sl w w.heap.size A (l.flatMap Ins.cells)) (hn : l.length = n) (hnm : n ≤ 8) :
    Calls Tryz.prog 29 #[.slice A n c] w (Items9 w (itP l)) := by
  have Hn := Lib.hid hn
  have Hsl := Lib.hid hsl
  clear hn hsl
  obtain ⟨i0, hi0, hz0, hz1, hz2⟩ := info_parts info_item
  go_enter Tryz.func29, Tryz.ntmps29
  go_wp2
  go_loopw [3, 4] (fun out at_ wr => ∃ (k : Nat) (B : Option Addr) (d : Nat), k ≤ n ∧ at_ = .int .i64 k ∧ out = .slice B (1 + k * 9) d ∧ Hid (wr.ownsRow w.heap.size 68 6 (.slice B (1 + k * 9) d) (1 + k * 9) ((itN n 8 :: (l.take k).flatMap itI).flatMap It.cells)) ∧ Fr No w wr) (fun _ i _ => n - (intOf i).toNat)
  case atStart =>
    refine ⟨0, some ⟨w.heap.size, 0, none⟩, 1, Nat.zero_le _, rfl, rfl, Lib.hid ?_, (Fr.refl _ w).alloc _⟩
    have h := World.ownsRow_lit (base := w.heap.size) (e := 68) (size := 6) w ((itN n 8).cells).toArray 1 (Nat.le_refl _) (by decide) rfl
    simpa [itN, It.cells] using h
  case round =>
    obtain ⟨k, B, d, hk, rfl, rfl, hown, hfr⟩ := hrel
    by_cases hlt : k < n
    · have hkl : k < l.length := by rw [Hn.out]; exact hlt
      obtain ⟨ad, rfl, hab, c0, c1, c2, c3, c4, c5, c6, c7, c8⟩ := (Hsl.out.since hfr).ins9 (k := k) hkl
      have Hs : Hid (l.take (k + 1) = l.take k ++ [l[k]]) := Lib.hid (List.take_succ_eq_append_getElem hkl)
      generalize l[k] = i at *
      obtain ⟨o, a, b, cc, ka, kb, la, lb, x⟩ := i
      dsimp only at c0 c1 c2 c3 c4 c5 c6 c7 c8
      have hX := Bk.made wr 45 #[.int .i64 o, .int .i64 a, .int .i64 b, .int .i64 cc, .int .i64 ka, .int .i64 kb, .int .i64 la, .int .i64 lb, .int .i64 x]
      go_wp2_with (at_builtin; (refine append_items rfl _ _ rfl w.heap.size B (1 + k * 9) d (itN n 8 :: (l.take k).flatMap itI) rfl (wr.heap.size + 1 + 1) (some ⟨wr.heap.size + 1, 0, none⟩) 4 4 [itN o 255, itN a 255, itN b 255, itN cc 255] (by rfl) rfl (by exact slLit _ _ _ _ _ (by simp) rfl) (by exact (hown.out.alloc _).alloc _) (by omega) (by have := hfr.size; simp; omega) ?_; intro B1 d1 w1 hown1 hf1 hg1))
      have hX1 := (hX.fr ((Fr.refl No _).alloc (.cells (([itN o 255, itN a 255, itN b 255, itN cc 255] : List It).flatMap It.cells).toArray 68)) (fun e => e)).fr hf1 (fun e => by have := own_lt hown.out e; omega)
      have hne1 := own_apart hown1 hX1 (by decide)
      have hlt1 := hX1.lt
      have x4 : w1.cell? ⟨wr.heap.size, 4, none⟩ = some (.int .i64 ka) := hX1.cell 4
      have x5 : w1.cell? ⟨wr.heap.size, 5, none⟩ = some (.int .i64 kb) := hX1.cell 5
      have x6 : w1.cell? ⟨wr.heap.size, 6, none⟩ = some (.int .i64 la) := hX1.cell 6
      have x7 : w1.cell? ⟨wr.heap.size, 7, none⟩ = some (.int .i64 lb) := hX1.cell 7
      have hbase1 : w.heap.size ≤ w1.heap.size := by have h1 := hf1.size; have h2 := hfr.size; simp at h1; omega
      have hX2 : Bk w1.drew wr.heap.size 45 #[.int .i64 o, .int .i64 a, .int .i64 b, .int .i64 cc, .int .i64 ka, .int .i64 kb, .int .i64 la, .int .i64 lb, .int .i64 x] := hX1.fr ((Fr.refl No w1).drew) (fun e => e)
      have hown2 := own_fr hown1 ((Fr.refl No w1).drew) (fun _ _ e => e)
      have hbase2 : w.heap.size ≤ w1.drew.heap.size := hbase1
      have HS : Hid (∀ W, Bk W wr.heap.size 45 #[.int .i64 o, .int .i64 a, .int .i64 b, .int .i64 cc, .int .i64 ka, .int .i64 kb, .int .i64 la, .int .i64 lb, .int .i64 x] → W.cell? ⟨wr.heap.size, 4, none⟩ = some (.int .i64 ka) ∧ W.cell? ⟨wr.heap.size, 5, none⟩ = some (.int .i64 kb) ∧ W.cell? ⟨wr.heap.size, 6, none⟩ = some (.int .i64 la) ∧ W.cell? ⟨wr.heap.size, 7, none⟩ = some (.int .i64 lb)) := Lib.hid (fun W h => ⟨h.cell 4, h.cell 5, h.cell 6, h.cell 7⟩)
      clear x4 x5 x6 x7
      refine wp_region_held_drew (S := fun w' => w'.cell? ⟨wr.heap.size, 4, none⟩ = some (.int .i64 ka) ∧ w'.cell? ⟨wr.heap.size, 5, none⟩ = some (.int .i64 kb) ∧ w'.cell? ⟨wr.heap.size, 6, none⟩ = some (.int .i64 la) ∧ w'.cell? ⟨wr.heap.size, 7, none⟩ = some (.int .i64 lb)) (by kernel_rfl) (HS.out w1 hX1) (fun hHeld => ?_)
      refine any_take 35 (.slice B1 (1 + k * 9 + 4) d1) (i := 0) rfl rfl (by kernel_rfl) (by kernel_rfl) (by kernel_rfl) (fun _ _ _ h => h) (by rfl) (by intro w hSw; (try dsimp only at hSw); go_simp; try with_reducible rfl) (by assumption) ?_
      simp only [Act.put, List.setIfInBounds_toArray, List.set_cons_zero, List.set_cons_succ]
      refine any_take 36 (.pointer (some ⟨wr.heap.size, 4, none⟩)) (i := 1) rfl rfl (by kernel_rfl) (by kernel_rfl) (by kernel_rfl) (fun _ _ _ h => h) (by rfl) (by intro w hSw; (try dsimp only at hSw); go_simp; try with_reducible rfl) (by assumption) ?_
      simp only [Act.put, List.setIfInBounds_toArray, List.set_cons_zero, List.set_cons_succ]
      refine any_take 37 (.agg #[.int .i64 ka, .int .i64 kb]) (i := 2) rfl rfl (by kernel_rfl) (by kernel_rfl) (by kernel_rfl) (fun _ _ _ h => h) (by rfl) (by intro w hSw; (try dsimp only at hSw); go_simp; try with_reducible rfl) (by assumption) ?_
      simp only [Act.put, List.setIfInBounds_toArray, List.set_cons_zero, List.set_cons_succ]
      refine any_take 40 (.pointer (some ⟨wr.heap.size, 6, none⟩)) (i := 5) rfl rfl (by kernel_rfl) (by kernel_rfl) (by kernel_rfl) (fun _ _ _ h => h) (by rfl) (by intro w hSw; (try dsimp only at hSw); go_simp; try with_reducible rfl) (by assumption) ?_
      simp only [Act.put, List.setIfInBounds_toArray, List.set_cons_zero, List.set_cons_succ]
      refine any_take 41 (.agg #[.int .i64 la, .int .i64 lb]) (i := 6) rfl rfl (by kernel_rfl) (by kernel_rfl) (by kernel_rfl) (fun _ _ _ h => h) (by rfl) (by intro w hSw; (try dsimp only at hSw); go_simp; try with_reducible rfl) (by assumption) ?_
      simp only [Act.put, List.setIfInBounds_toArray, List.set_cons_zero, List.set_cons_succ]
      refine wpAnyH_ready (rs := [3]) (by kernel_rfl) (by simp) ?_
      refine AllReadyH.cons rfl (fun K' hK => ?_) AllReadyH.nil
      go_simp
      go_at_call 52
      refine (keyItems_any _ _ _).mono ?_
      rintro e' wK ⟨AK, cK, rfl, hsK, hnK, hfK⟩
      have hXK := hX2.fr hfK (fun e => e)
      have hownK := own_fr hown2 hfK (fun _ _ e => e)
      have hbK : w.heap.size ≤ wK.heap.size := Nat.le_trans hbase2 hfK.size
      dsimp only
      refine hK.out _ _ (HS.out wK hXK) (fun hHeld => ?_)
      clear hK
      try simp only [Act.put, List.setIfInBounds_toArray, List.set_cons_zero, List.set_cons_succ]
      refine wpAnyH_ready (rs := [4]) (by kernel_rfl) (by simp) ?_
      refine AllReadyH.cons rfl (fun K' hK => ?_) AllReadyH.nil
      refine wp_items _ _ rfl w.heap.size B1 (1 + k * 9 + 4) d1 ((itN n 8 :: (l.take k).flatMap itI) ++ [itN o 255, itN a 255, itN b 255, itN cc 255]) rfl wK.heap.size AK 2 cK (itK ka kb) rfl rfl hsK hownK (by omega) hbK ?_
      intro B2 d2 w2 hown2a hf2a hg2
      have hX2a := hXK.fr hf2a (own_apart hownK hXK (by decide))
      refine hK.out _ _ (HS.out w2 hX2a) (fun hHeld => ?_)
      clear hK
      try simp only [Act.put, List.setIfInBounds_toArray, List.set_cons_zero, List.set_cons_succ]
      have hb2 : w.heap.size ≤ w2.heap.size := Nat.le_trans hbK hf2a.size
      refine wpAnyH_ready (rs := [7]) (by kernel_rfl) (by simp) ?_
      refine AllReadyH.cons rfl (fun K' hK => ?_) AllReadyH.nil
      go_simp
      go_at_call 52
      refine (keyItems_any _ _ _).mono ?_
      rintro e' wL ⟨AL, cL, rfl, hsL, hnL, hfL⟩
      have hXL := hX2a.fr hfL (fun e => e)
      have hbL : w.heap.size ≤ wL.heap.size := Nat.le_trans hb2 hfL.size
      dsimp only
      refine hK.out _ _ (HS.out wL hXL) (fun hHeld => ?_)
      clear hK
      try simp only [Act.put, List.setIfInBounds_toArray, List.set_cons_zero, List.set_cons_succ]
      have hownL := own_fr hown2a hfL (fun _ _ e => e)
      refine wpAnyH_ready (rs := [8]) (by kernel_rfl) (by simp) ?_
      refine AllReadyH.cons rfl (fun K' hK => ?_) AllReadyH.nil
      refine wp_items _ _ rfl w.heap.size B2 (1 + k * 9 + 4 + 2) d2 (((itN n 8 :: (l.take k).flatMap itI) ++ [itN o 255, itN a 255, itN b 255, itN cc 255]) ++ itK ka kb) rfl wL.heap.size AL 2 cL (itK la lb) rfl rfl hsL hownL (by omega) hbL ?_
      intro B3 d3 w3 hown3a hf3a hg3
      have hX3a := hXL.fr hf3a (own_apart hownL hXL (by decide))
      refine hK.out _ _ (HS.out w3 hX3a) (fun hHeld => ?_)
      clear hK
      try simp only [Act.put, List.setIfInBounds_toArray, List.set_cons_zero, List.set_cons_succ]
      refine any_take 3 (.slice B3 (1 + k * 9 + 4 + 2 + 2) d3) (i := 9) rfl rfl (by kernel_rfl) (by kernel_rfl) (by kernel_rfl) (fun _ _ _ h => h) (by rfl) (by intro w hSw; (try dsimp only at hSw); go_simp; try with_reducible rfl) (by assumption) ?_
      simp only [Act.put, List.setIfInBounds_toArray, List.set_cons_zero, List.set_cons_succ]
      refine wpAnyH_done (by kernel_rfl) ?_ _
      clear hHeld
      have k8 : w3.cell? ⟨wr.heap.size, 8, none⟩ = some (.int .i64 x) := hX3a.cell 8
      have hne3 := own_apart hown3a hX3a (by decide)
      have hb3 : w.heap.size ≤ w3.heap.size := Nat.le_trans hbL hf3a.size
      have hz3 : Fr No w w3 := by
        have q1 : Fr No w w1 := (((hfr.alloc _).alloc _).trans' hf1 (fun i hi e => by have := (hown.out.lt _ e).1; omega))
        have q2 : Fr No w w2 := (q1.drew.trans' hfK (fun _ _ e => e)).trans' hf2a (fun i hi e => by have := (hownK.lt _ e).1; omega)
        exact (q2.trans' hfL (fun _ _ e => e)).trans' hf3a (fun i hi e => by have := (hownL.lt _ e).1; omega)
      go_wp2_with (at_builtin; (refine append_items rfl _ _ rfl w.heap.size B3 (1 + k * 9 + 4 + 2 + 2) d3 ((((itN n 8 :: (l.take k).flatMap itI) ++ [itN o 255, itN a 255, itN b 255, itN cc 255]) ++ itK ka kb) ++ itK la lb) rfl (w3.heap.size + 1) (some ⟨w3.heap.size, 0, none⟩) 1 1 [itS x] (by rfl) rfl (by exact slLit _ _ _ _ _ (by simp) rfl) (by exact hown3a.alloc _) (by omega) (by simp; omega) ?_; intro B4 d4 w4 hown4 hf4 hg4))
      go_roundw
      case rel =>
        refine ⟨k + 1, B4, d4, by omega, by go_num, by rw [show 1 + (k + 1) * 9 = 1 + k * 9 + 4 + 2 + 2 + 1 by omega], Lib.hid ?_, (hz3.alloc _).trans' hf4 (fun i hi e => by have := (hown3a.lt _ e).1; omega)⟩
        have e1 : (itN n 8 :: (l.take (k + 1)).flatMap itI) = ((((itN n 8 :: (l.take k).flatMap itI) ++ [itN o 255, itN a 255, itN b 255, itN cc 255]) ++ itK ka kb) ++ itK la lb) ++ [itS x] := by
          rw [Hs.out, List.flatMap_append]
          simp [itI]
        rw [e1, show 1 + (k + 1) * 9 = 1 + k * 9 + 4 + 2 + 2 + 1 by omega]
        exact hown4
      case measure => simp [intOf]; omega
    · obtain rfl : k = n := by omega
      have Hp : Hid (itP l = itN k 8 :: (l.take k).flatMap itI) := Lib.hid (by rw [itP, List.take_of_length_le (by rw [Hn.out]; exact Nat.le_refl _), Hn.out])
      have Hl : Hid ((itP l).length = 1 + k * 9) := Lib.hid (by rw [itP_len, Hn.out])
      go_wp2
      go_ret
      refine ⟨B, d, by rw [Hl.out]; rfl, by rw [Hp.out]; exact Sl.ofOwn hown.out, ?_, hfr⟩
      intro ad e
      have h1 := (hown.out.lt ad.block (by subst e; rfl)).1
      exact h1

set_option maxHeartbeats 2000000 in
theorem words9_any (ts : List It) (A : Option Addr) (n c : Nat) (w : World) (hsl : Sl w w.heap.size A (ts.flatMap It.cells)) (hn : ts.length = n) (hnm : n ≤ 1000) (hok : ∀ t ∈ ts, (t.kind = 0 ∨ t.kind = 1) ∧ I64 t.n ∧ I64 t.most ∧ I64 t.x ∧ t.s = ⟨#[]⟩ ∧ t.L = [] ∧ t.A = none ∧ t.c = 0) :
    Calls Tryz.prog 11 #[.slice A n c] w (NewL w (ts.flatMap It.words)) := by
  have Hn := Lib.hid hn
  have Hsl := Lib.hid hsl
  have Hok := Lib.hid hok
  have Hone : Hid (∀ t ∈ ts, t.words.length = 1) := Lib.hid (fun t ht => by
    rcases (hok t ht).1 with h | h <;> simp [It.words, h])
  clear hn hsl hok
  go_enter Tryz.func11, Tryz.ntmps11
  go_wp2
  go_loopw [3, 4] (fun out at_ wr => ∃ (k : Nat) (B : Option Addr) (d : Nat), k ≤ n ∧ at_ = .int .i64 k ∧ out = .slice B ((ts.take k).flatMap It.words).length d ∧ Hid (wr.ownsRow w.heap.size 60 1 (.slice B ((ts.take k).flatMap It.words).length d) ((ts.take k).flatMap It.words).length (u64s ((ts.take k).flatMap It.words))) ∧ Fr No w wr) (fun _ i _ => n - (intOf i).toNat)
  case atStart => exact ⟨0, none, 0, Nat.zero_le _, rfl, by simp, Lib.hid (by simpa [u64s] using World.ownsRow_nil _ _ _ _), Fr.refl _ _⟩
  case round =>
    obtain ⟨k, B, d, hk, rfl, rfl, hown, hfr⟩ := hrel
    by_cases hlt : k < n
    · have hkl : k < ts.length := by rw [Hn.out]; exact hlt
      have Hs : Hid (ts.take (k + 1) = ts.take k ++ [ts[k]]) := Lib.hid (List.take_succ_eq_append_getElem hkl)
      have hq := Hok.out _ (List.getElem_mem hkl)
      have Hlen : Hid (((ts.take k).flatMap It.words).length ≤ 1000) := Lib.hid (by
        have e : ∀ us : List It, (∀ t ∈ us, t.words.length = 1) → (us.flatMap It.words).length = us.length := by
          intro us hu
          induction us with
          | nil => rfl
          | cons a r ih => rw [List.flatMap_cons, List.length_append, hu a (by simp), ih (fun t ht => hu t (by simp [ht])), List.length_cons]; omega
        rw [e _ (fun t ht => Hone.out t (List.mem_of_mem_take ht)), List.length_take]
        omega)
      obtain ⟨ad, rfl, hab, hrow⟩ := (Hsl.out.since hfr).row 6 It.cells_len9 hkl (by omega)
      have C0 := fun (h0 : ts[k].kind = 0) (hOk : ts[k].Ok wr wr.heap.size) (hb : wr.ownsRow 0 60 1 (.slice B ((ts.take k).flatMap It.words).length d) ((ts.take k).flatMap It.words).length (u64s ((ts.take k).flatMap It.words))) => refWrite_0 ((ts.take k).flatMap It.words) B d ts[k] wr hb h0 hOk (by have := Hlen.out; omega)
      have C1 := fun (h0 : ts[k].kind = 1) (hOk : ts[k].Ok wr wr.heap.size) (hb : wr.ownsRow 0 60 1 (.slice B ((ts.take k).flatMap It.words).length d) ((ts.take k).flatMap It.words).length (u64s ((ts.take k).flatMap It.words))) => refWrite_1 ((ts.take k).flatMap It.words) B d ts[k] wr hb h0 hOk (by have := Hlen.out; omega)
      generalize ts[k] = t at *
      obtain ⟨kind, n0, most, x, s, L, A0, c0⟩ := t
      dsimp only at hq
      obtain ⟨q1, q2, q3, q4, rfl, rfl, rfl, rfl⟩ := hq
      have hOk : It.Ok wr wr.heap.size ⟨kind, n0, most, x, ⟨#[]⟩, [], none, 0⟩ := ⟨by dsimp only; omega, q2, q3, q4, (show (0 : Nat) ≤ 200 by decide), Nat.zero_le _, by simp, ⟨Nat.le_refl _, Nat.zero_le _⟩, by simp, Sl.nil _ _ _⟩
      have hCC : Calls Tryz.prog 28 #[.slice B ((ts.take k).flatMap It.words).length d, .agg #[.int .i64 kind, .int .i64 n0, .int .i64 most, .int .i64 x, .string ⟨#[]⟩, .slice none 0 0]] wr (Grew wr (Value.slice B ((ts.take k).flatMap It.words).length d).ownBlock ((ts.take k).flatMap It.words ++ It.words ⟨kind, n0, most, x, ⟨#[]⟩, [], none, 0⟩)) := by
        have hb : wr.ownsRow 0 60 1 (.slice B ((ts.take k).flatMap It.words).length d) ((ts.take k).flatMap It.words).length (u64s ((ts.take k).flatMap It.words)) := by
          obtain ⟨z1, z2⟩ := hown.out
          refine ⟨z1, ?_⟩
          rcases z2 with z2 | ⟨g, cap, cur, hv, hbg, rr⟩
          · exact .inl z2
          · exact .inr ⟨g, cap, cur, hv, Nat.zero_le _, rr⟩
        rcases q1 with q1 | q1
        · exact C0 q1 hOk hb
        · exact C1 q1 hOk hb
      have HC := Lib.hid hCC
      have r0 := hrow 0 _ rfl
      have r1 := hrow 1 _ rfl
      have r2 := hrow 2 _ rfl
      have r3 := hrow 3 _ rfl
      have r4 := hrow 4 _ rfl
      have r5 := hrow 5 _ rfl
      have r0 : wr.cell? (ad.add (k * 6)) = some (.int .i64 kind) := r0
      have r1 : wr.cell? ⟨(ad.add (k * 6)).block, (ad.add (k * 6)).off + 1, none⟩ = some (.int .i64 n0) := r1
      have r2 : wr.cell? ⟨(ad.add (k * 6)).block, (ad.add (k * 6)).off + 2, none⟩ = some (.int .i64 most) := r2
      have r3 : wr.cell? ⟨(ad.add (k * 6)).block, (ad.add (k * 6)).off + 3, none⟩ = some (.int .i64 x) := r3
      have r4 : wr.cell? ⟨(ad.add (k * 6)).block, (ad.add (k * 6)).off + 4, none⟩ = some (.string ⟨#[]⟩) := r4
      have r5 : wr.cell? ⟨(ad.add (k * 6)).block, (ad.add (k * 6)).off + 5, none⟩ = some (.slice none 0 0) := r5
      have Hfl : Hid ((ts.take (k + 1)).flatMap It.words = (ts.take k).flatMap It.words ++ It.words ⟨kind, n0, most, x, ⟨#[]⟩, [], none, 0⟩) := Lib.hid (by rw [Hs.out, List.flatMap_append]; simp)
      clear hrow C0 C1 hCC q1
      generalize (ts.take k).flatMap It.words = ws at *
      go_wp2_with fail
      refine (HC.out).mono ?_
      rintro e w2 ⟨B2, d2, rfl, hown2, hf2, hg2⟩
      go_wp2
      go_roundw
      case rel =>
        refine ⟨k + 1, B2, d2, by omega, by go_num, by rw [Hfl.out, List.length_append], Lib.hid ?_, hfr.trans' hf2 (fun i hi e => by have := (hown.out.lt _ e).1; omega)⟩
        rw [Hfl.out]
        obtain ⟨z1, z2⟩ := hown2
        refine ⟨z1, ?_⟩
        rcases z2 with z2 | ⟨g, cap, cur, hv, hbg, rr⟩
        · exact .inl z2
        · refine .inr ⟨g, cap, cur, hv, ?_, rr⟩
          rw [hv] at hg2
          rcases hg2 with hg2 | ⟨i, hg2, hi⟩
          · exact (hown.out.lt g (by rw [← hg2]; rfl)).1
          · have : g = i := by simpa [Value.ownBlock] using hg2
            subst this
            exact Nat.le_trans hfr.size hi
      case measure => simp [intOf]; omega
    · obtain rfl : k = n := by omega
      have Hall : Hid (ts.take k = ts) := Lib.hid (List.take_of_length_le (by rw [Hn.out]; exact Nat.le_refl _))
      rw [Hall.out] at hown ⊢
      go_wp2
      go_ret
      exact ⟨B, d, rfl, hown.out, hfr⟩
end Go.Proofs.YtnlmhcfkipkegaaGreat
