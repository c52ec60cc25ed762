/- Sets that lie inside one another, as the document has it. -/
import Derived.Test.YthenadijiepmnaaGreatRef4
import Derived.Test.YthenadijiepmnaaGreatCls11
import Derived.Test.YthenadijiepmnaaGreatHand
namespace Go.Proofs.YthenadijiepmnaaGreat
open Go.RowKit

/-- Has the one set all keys of the other? -/
def insTo (s t : Nat → Bool) : Nat → Bool
  | 0 => true
  | j + 1 => insTo s t j && (!s j || t j)
def insideS (s t : Nat → Bool) : Bool := insTo s t 1000
theorem insTo_iff (s t : Nat → Bool) (j : Nat) : insTo s t j = true ↔ ∀ k, k < j → s k = true → t k = true := by
  induction j with
  | zero => simp [insTo]
  | succ j ih =>
    rw [insTo, Bool.and_eq_true, ih]
    constructor
    · rintro ⟨h1, h2⟩ k hk hs
      rcases Nat.lt_succ_iff_lt_or_eq.1 hk with h | h
      · exact h1 k h hs
      · subst h
        simpa [hs] using h2
    · intro h
      refine ⟨fun k hk => h k (by omega), ?_⟩
      have := h j (by omega)
      cases hs : s j
      · rfl
      · simp [this hs]
theorem insideS_no {s t : Nat → Bool} {k : Nat} (hk : k < 1000) (hs : s k = true) (ht : t k = false) : insideS s t = false := by
  rw [Bool.eq_false_iff]
  intro e
  have := (insTo_iff s t 1000).1 e k hk hs
  rw [ht] at this
  cases this
set_option maxRecDepth 100000 in
set_option maxHeartbeats 2000000 in
theorem refInside10_any (g1 g2 : Nat) (s t : Nat → Bool) (w : World) (h1 : Bk w g1 87 (flags 1000 s)) (h2 : Bk w g2 87 (flags 1000 t)) :
    Calls Tryz.prog 23 #[.pointer (some ⟨g1, 0, none⟩), .pointer (some ⟨g2, 0, none⟩)] w fun e w' => e = .returned (.bool (insideS s t)) ∧ w = w' := by
  go_enter Tryz.func23, Tryz.ntmps23
  go_wp2
  go_loop [5] (fun kv => ∃ j : Nat, j ≤ 1000 ∧ kv = .int .i64 j ∧ Hid (insTo s t j = true)) (fun k => 1000 - (intOf k).toNat)
  case atStart => exact ⟨0, by omega, rfl, Lib.hid rfl⟩
  case round =>
    obtain ⟨j, hj, rfl, hno⟩ := hrel
    by_cases hlt : j < 1000
    · have a1 := h1.cell j
      have a2 := h2.cell j
      rw [flags_at _ _ _ hlt] at a1 a2
      cases hs : s j with
      | false =>
        rw [hs] at a1
        have Hn : Hid (insTo s t (j + 1) = true) := Lib.hid (by rw [insTo, hno.out, hs]; rfl)
        clear hs
        go_wp2
        go_round
        case rel => exact ⟨j + 1, by omega, by go_num, Hn⟩
        case measure => simp [intOf]; omega
      | true =>
        cases ht : t j with
        | true =>
          rw [hs] at a1
          rw [ht] at a2
          have Hn : Hid (insTo s t (j + 1) = true) := Lib.hid (by rw [insTo, hno.out, hs, ht]; rfl)
          clear hs ht
          go_wp2
          go_round
          case rel => exact ⟨j + 1, by omega, by go_num, Hn⟩
          case measure => simp [intOf]; omega
        | false =>
          rw [hs] at a1
          rw [ht] at a2
          have Hn : Hid ((insideS s t) = false) := Lib.hid (insideS_no hlt hs ht)
          clear hs ht
          go_wp2
          go_ret
          exact ⟨by rw [Hn.out]; rfl, rfl⟩
    · have Hn : Hid (insideS s t = true) := Lib.hid (by unfold insideS; rw [show 1000 = j by omega]; exact hno.out)
      go_wp2
      go_ret
      exact ⟨by rw [Hn.out]; rfl, rfl⟩

end Go.Proofs.YthenadijiepmnaaGreat
/- The set of what a footprint reads, or writes, as the document has it. -/
namespace Go.Proofs.YthenadijiepmnaaGreat
open Go.RowKit

theorem slLitS (w : World) (t : TypeId) (cs : Array Value) (xs : List Value) (H : Nat) (hH : H = w.heap.size) (hl : cs.toList = xs) : Sl (w.alloc (.cells cs t)) (H + 1) (some ⟨H, 0, none⟩) xs := by
  subst hH hl
  exact Sl.made w t cs
theorem spans_one (l : List (Int × Int)) : ∀ u ∈ sps l, u.oneCell' = true := by
  intro u hu
  obtain ⟨t, _, h⟩ := List.mem_flatMap.1 hu
  simp only [spC, List.mem_cons, List.not_mem_nil, or_false] at h
  rcases h with rfl | rfl <;> rfl
theorem wp_spans {w : World} {o : Oper} {a : Act} {K : Act → World → Prop} {Q : Exit → Act → World → Prop} (s x : Operand)
    (ho : o.op = .call { callee := .builtin .append, args := #[s, x], argTypes := #[36, 36] })
    (base : Nat) (A : Option Addr) (n c : Nat) (xs : List (Int × Int)) (hs : a.eval s = .slice A n c) (B : Nat) (A2 : Option Addr) (m c2 : Nat) (ys : List (Int × Int)) (hx : a.eval x = .slice A2 m c2) (hm : ys.length = m) (hr : Sl w B A2 (sps ys))
    (hown : w.ownsRow base 72 2 (.slice A n c) n (sps xs)) (hlen : n + m ≤ 1000000) (hbase : base ≤ w.heap.size)
    (h : ∀ A' c' w', w'.ownsRow base 72 2 (.slice A' (n + m) c') (n + m) (sps (xs ++ ys)) → Fr (fun k => (Value.slice A n c).ownBlock = some k) w w' →
      ((Value.slice A' (n + m) c').ownBlock = (Value.slice A n c).ownBlock ∨ ∃ k, (Value.slice A' (n + m) c').ownBlock = some k ∧ w.heap.size ≤ k) → K (a.put o.dst (.slice A' (n + m) c')) w') :
    Oper.wp Tryz.prog o a w K Q := by
  obtain ⟨i, hi, hz, hz1, hz2⟩ := info_parts info_span
  refine wp_append_src w s x _ ho base 72 i _ 2 16 Tryz.underlying36 hi hz hz1 hz2 rfl (by omega) (.slice A n c) n (sps xs) hs hown B A2 m c2 (sps ys) hx (by rw [show (sps ys).length = ys.length * 2 from flat_len _ 2 spC_len ys, hm]) hr (spans_one ys) (by unfold maxLen; omega) (by omega) hbase ?_
  intro v' w' q1 q2 q3
  obtain ⟨A', c', rfl, -, -, -⟩ := own_shape q1
  rw [show sps xs ++ sps ys = sps (xs ++ ys) from (List.flatMap_append).symm] at q1
  refine h A' c' w' q1 ((Fr.refl _ w).grown q2 (fun k hk => .inl hk)) ?_
  rcases q3 with q3 | q3
  · exact .inl q3
  · exact .inr ⟨_, q3, Nat.le_refl _⟩
/-- What is chosen of a footprint: all of it, or what writes. -/
def chosen (fl : Bool) (gs : List Int) (l : List Fsp) : List (Int × Int) := (l.filter fun f => f.wr || !fl).map fun f => fspOf f gs
theorem chosen_snoc (fl : Bool) (gs : List Int) (l : List Fsp) (f : Fsp) : chosen fl gs (l ++ [f]) = if (f.wr || !fl) = true then chosen fl gs l ++ [fspOf f gs] else chosen fl gs l := by
  unfold chosen
  rw [List.filter_append, List.map_append]
  cases h : (f.wr || !fl) <;> simp [h]

set_option maxRecDepth 100000 in
set_option maxHeartbeats 4000000 in
theorem refSet10_any (fl : Bool) (l : List Fsp) (gs : List Int) (A A2 : Option Addr) (m c n c2 : Nat) (w : World) (hsl : Sl w w.heap.size A (l.flatMap Fsp.cells)) (hm : l.length = m) (hs2 : Sl w w.heap.size A2 (ints gs)) (hn : gs.length = n) (hr : footRight l gs = true) :
    Calls Tryz.prog 24 #[.slice A m c, .slice A2 n c2, .bool fl] w fun e w' => ∃ g, e = .returned (.pointer (some ⟨g, 0, none⟩)) ∧ Bk w' g 87 (flags 1000 (keysOf (chosen fl gs l))) ∧ w.heap.size ≤ g ∧ Fr No w w' := by
  have Hm := Lib.hid hm
  have Hsl := Lib.hid hsl
  have Hs2 := Lib.hid hs2
  have Hn := Lib.hid hn
  have hrr := hr
  unfold footRight footOk at hrr
  simp only [Bool.and_eq_true, decide_eq_true_eq, List.all_eq_true] at hrr
  obtain ⟨hga, hg3, hl4, hall⟩ := hrr
  have Hall := Lib.hid hall
  have Hga := Lib.hid hga
  have hm4 : m ≤ 4 := by omega
  clear hsl hm hs2 hn hr hga hall hg3 hl4
  go_enter Tryz.func24, Tryz.ntmps24
  go_wp2
  go_loopw [7, 8] (fun out i wr => ∃ (k : Nat) (B : Option Addr) (L d : Nat), k ≤ m ∧ L ≤ k ∧ i = .int .i64 k ∧ out = .slice B L d ∧ Hid (wr.ownsRow w.heap.size 72 2 (.slice B L d) L (sps (chosen fl gs (l.take k)))) ∧ Fr No w wr) (fun _ i _ => m - (intOf i).toNat)
  case atStart => exact ⟨0, none, 0, 0, Nat.zero_le _, Nat.le_refl _, rfl, rfl, Lib.hid (World.ownsRow_nil _ _ _ _), Fr.refl _ _⟩
  case round =>
    obtain ⟨k, B, L, d, hk, hL, rfl, rfl, hown0, hfr⟩ := hrel
    by_cases hlt : k < m
    · have hkl : k < l.length := by rw [Hm.out]; exact hlt
      obtain ⟨ad, rfl, hab, x0, x1, x2, x3, x4⟩ := (Hsl.out.since hfr).fsp (k := k) hkl
      obtain ⟨ad2, e2, hab0, -⟩ := Hsl.out.fsp (k := k) hkl
      injection e2 with e2
      subst e2
      have hab2 : (ad.add (k * 5)).block < wr.heap.size := by rw [block_add]; exact hab
      have hab3 : ¬ w.heap.size ≤ (ad.add (k * 5)).block := by rw [block_add]; omega
      have Hs : Hid (l.take (k + 1) = l.take k ++ [l[k]]) := Lib.hid (List.take_succ_eq_append_getElem hkl)
      have hok := Hall.out _ (List.getElem_mem hkl)
      generalize l[k] = x at *
      obtain ⟨la, lb, ha, hb, wt⟩ := x
      have hok2 := hok
      unfold fspOk at hok2
      rw [Bool.and_eq_true] at hok2
      dsimp only at x0 x1 x2 x3 x4 hok2
      have CK1' := fun (W : World) (h : Fr No w W) => refKey_any la lb gs A2 n c2 W (Hs2.out.since h) Hn.out (by have h5 := (keyOk_iff _ _ _).1 hok2.1; have h6 := Hn.out; omega) (by rw [← Hn.out]; exact hok2.1) Hga.out
      have CK2' := fun (W : World) (h : Fr No w W) => refKey_any ha hb gs A2 n c2 W (Hs2.out.since h) Hn.out (by have h5 := (keyOk_iff _ _ _).1 hok2.2; have h6 := Hn.out; omega) (by rw [← Hn.out]; exact hok2.2) Hga.out
      obtain ⟨lo, hlo⟩ : ∃ z, Hid (z = keyOf la lb gs) := ⟨_, Lib.hid rfl⟩
      obtain ⟨hi, hhi⟩ : ∃ z, Hid (z = keyOf ha hb gs) := ⟨_, Lib.hid rfl⟩
      rw [← hlo.out] at CK1'
      rw [← hhi.out] at CK2'
      have CK1 := Lib.hid CK1'
      have CK2 := Lib.hid CK2'
      have Hsp : Hid (fspOf ⟨la, lb, ha, hb, wt⟩ gs = (lo, hi)) := Lib.hid (by rw [hlo.out, hhi.out]; rfl)
      have Hch : Hid (chosen fl gs (l.take (k + 1)) = if (wt || !fl) = true then chosen fl gs (l.take k) ++ [(lo, hi)] else chosen fl gs (l.take k)) := Lib.hid (by rw [Hs.out, chosen_snoc, Hsp.out])
      clear CK1' CK2' hok hok2
      have hown := hown0.out
      cases hw : (wt || !fl)
      · have hwt : wt = false := by cases wt <;> simp at hw ⊢
        have hfl : fl = true := by cases fl <;> simp at hw ⊢
        subst hwt hfl
        have Hc2 : Hid (chosen true gs (l.take (k + 1)) = chosen true gs (l.take k)) := Lib.hid (by rw [Hch.out]; rfl)
        clear hown hw
        go_wp2
        go_roundw
        case rel => exact ⟨k + 1, B, L, d, by omega, by omega, by go_num, rfl, Lib.hid (by rw [Hc2.out]; exact hown0.out), hfr⟩
        case measure => simp [intOf]; omega
      · have Hc2 : Hid (chosen fl gs (l.take (k + 1)) = chosen fl gs (l.take k) ++ [(lo, hi)]) := Lib.hid (by rw [Hch.out, hw]; rfl)
        have hcase : wt = true ∨ (wt = false ∧ fl = false) := by cases wt <;> cases fl <;> simp at hw ⊢
        clear hw Hch
        rcases hcase with rfl | ⟨rfl, rfl⟩
        all_goals
          go_wp2_with fail
          have HS : Hid (∀ w', Fr (fun i => w.heap.size ≤ i) wr w' → w'.cell? (ad.add (k * 5)) = some (.int .i64 la) ∧ w'.cell? ⟨(ad.add (k * 5)).block, (ad.add (k * 5)).off + 1, none⟩ = some (.int .i64 lb) ∧ w'.cell? ⟨(ad.add (k * 5)).block, (ad.add (k * 5)).off + 2, none⟩ = some (.int .i64 ha) ∧ w'.cell? ⟨(ad.add (k * 5)).block, (ad.add (k * 5)).off + 3, none⟩ = some (.int .i64 hb)) := Lib.hid (fun w' h => ⟨(h.cell hab2 hab3).trans x0, (h.cell (p := ⟨(ad.add (k * 5)).block, (ad.add (k * 5)).off + 1, none⟩) hab2 hab3).trans x1, (h.cell (p := ⟨(ad.add (k * 5)).block, (ad.add (k * 5)).off + 2, none⟩) hab2 hab3).trans x2, (h.cell (p := ⟨(ad.add (k * 5)).block, (ad.add (k * 5)).off + 3, none⟩) hab2 hab3).trans x3⟩)
          refine wp_region_held_drew (S := fun w' => w'.cell? (ad.add (k * 5)) = some (.int .i64 la) ∧ w'.cell? ⟨(ad.add (k * 5)).block, (ad.add (k * 5)).off + 1, none⟩ = some (.int .i64 lb) ∧ w'.cell? ⟨(ad.add (k * 5)).block, (ad.add (k * 5)).off + 2, none⟩ = some (.int .i64 ha) ∧ w'.cell? ⟨(ad.add (k * 5)).block, (ad.add (k * 5)).off + 3, none⟩ = some (.int .i64 hb)) (by kernel_rfl) (HS.out wr (Fr.refl _ _)) (fun hHeld => ?_)
          refine any_take 24 (.slice B L d) (i := 0) rfl rfl (by kernel_rfl) (by kernel_rfl) (by kernel_rfl) (fun _ _ _ h => h) (by rfl) (by intro w hSw; (try dsimp only at hSw); go_simp; try with_reducible rfl) (by assumption) ?_
          simp only [Act.put, List.setIfInBounds_toArray, List.set_cons_zero, List.set_cons_succ]
          refine any_take 25 (.slice (some ad) m c) (i := 1) rfl rfl (by kernel_rfl) (by kernel_rfl) (by kernel_rfl) (fun _ _ _ h => h) (by rfl) (by intro w hSw; (try dsimp only at hSw); go_simp; try with_reducible rfl) (by assumption) ?_
          simp only [Act.put, List.setIfInBounds_toArray, List.set_cons_zero, List.set_cons_succ]
          refine any_take 26 (.int .i64 k) (i := 2) rfl rfl (by kernel_rfl) (by kernel_rfl) (by kernel_rfl) (fun _ _ _ h => h) (by rfl) (by intro w hSw; (try dsimp only at hSw); go_simp; try with_reducible rfl) (by assumption) ?_
          simp only [Act.put, List.setIfInBounds_toArray, List.set_cons_zero, List.set_cons_succ]
          refine any_take 27 (.pointer (some (ad.add (k * 5)))) (i := 3) rfl rfl (by kernel_rfl) (by kernel_rfl) (by kernel_rfl) (fun _ _ _ h => h) (by rfl) (by intro w hSw; (try dsimp only at hSw); go_simp; try with_reducible rfl) (by assumption) ?_
          simp only [Act.put, List.setIfInBounds_toArray, List.set_cons_zero, List.set_cons_succ]
          refine any_take 28 (.pointer (some (ad.add (k * 5)))) (i := 4) rfl rfl (by kernel_rfl) (by kernel_rfl) (by kernel_rfl) (fun _ _ _ h => h) (by rfl) (by intro w hSw; (try dsimp only at hSw); go_simp; try with_reducible rfl) (by assumption) ?_
          simp only [Act.put, List.setIfInBounds_toArray, List.set_cons_zero, List.set_cons_succ]
          refine any_take 29 (.agg #[.int .i64 la, .int .i64 lb]) (i := 5) rfl rfl (by kernel_rfl) (by kernel_rfl) (by kernel_rfl) (fun _ _ _ h => h) (by rfl) (by intro w hSw; (try dsimp only at hSw); go_simp; try with_reducible rfl) (by assumption) ?_
          simp only [Act.put, List.setIfInBounds_toArray, List.set_cons_zero, List.set_cons_succ]
          refine any_take 30 (.slice A2 n c2) (i := 6) rfl rfl (by kernel_rfl) (by kernel_rfl) (by kernel_rfl) (fun _ _ _ h => h) (by rfl) (by intro w hSw; (try dsimp only at hSw); go_simp; try with_reducible rfl) (by assumption) ?_
          simp only [Act.put, List.setIfInBounds_toArray, List.set_cons_zero, List.set_cons_succ]
          refine any_take 32 (.slice (some ad) m c) (i := 8) rfl rfl (by kernel_rfl) (by kernel_rfl) (by kernel_rfl) (fun _ _ _ h => h) (by rfl) (by intro w hSw; (try dsimp only at hSw); go_simp; try with_reducible rfl) (by assumption) ?_
          simp only [Act.put, List.setIfInBounds_toArray, List.set_cons_zero, List.set_cons_succ]
          refine any_take 33 (.int .i64 k) (i := 9) rfl rfl (by kernel_rfl) (by kernel_rfl) (by kernel_rfl) (fun _ _ _ h => h) (by rfl) (by intro w hSw; (try dsimp only at hSw); go_simp; try with_reducible rfl) (by assumption) ?_
          simp only [Act.put, List.setIfInBounds_toArray, List.set_cons_zero, List.set_cons_succ]
          refine any_take 34 (.pointer (some (ad.add (k * 5)))) (i := 10) rfl rfl (by kernel_rfl) (by kernel_rfl) (by kernel_rfl) (fun _ _ _ h => h) (by rfl) (by intro w hSw; (try dsimp only at hSw); go_simp; try with_reducible rfl) (by assumption) ?_
          simp only [Act.put, List.setIfInBounds_toArray, List.set_cons_zero, List.set_cons_succ]
          refine any_take 35 (.pointer (some ⟨(ad.add (k * 5)).block, (ad.add (k * 5)).off + 2, none⟩)) (i := 11) rfl rfl (by kernel_rfl) (by kernel_rfl) (by kernel_rfl) (fun _ _ _ h => h) (by rfl) (by intro w hSw; (try dsimp only at hSw); go_simp; try with_reducible rfl) (by assumption) ?_
          simp only [Act.put, List.setIfInBounds_toArray, List.set_cons_zero, List.set_cons_succ]
          refine any_take 36 (.agg #[.int .i64 ha, .int .i64 hb]) (i := 12) rfl rfl (by kernel_rfl) (by kernel_rfl) (by kernel_rfl) (fun _ _ _ h => h) (by rfl) (by intro w hSw; (try dsimp only at hSw); go_simp; try with_reducible rfl) (by assumption) ?_
          simp only [Act.put, List.setIfInBounds_toArray, List.set_cons_zero, List.set_cons_succ]
          refine any_take 37 (.slice A2 n c2) (i := 13) rfl rfl (by kernel_rfl) (by kernel_rfl) (by kernel_rfl) (fun _ _ _ h => h) (by rfl) (by intro w hSw; (try dsimp only at hSw); go_simp; try with_reducible rfl) (by assumption) ?_
          simp only [Act.put, List.setIfInBounds_toArray, List.set_cons_zero, List.set_cons_succ]
          refine wpAnyH_ready (rs := [7]) (by kernel_rfl) (by simp) ?_
          refine AllReadyH.cons rfl (fun K' hK => ?_) AllReadyH.nil
          go_simp
          go_at_call 34
          refine (CK1.out _ (hfr.drew)).mono ?_
          rintro e' w1 ⟨rfl, f1⟩
          have F1 : Fr No w w1 := hfr.drew.trans' f1 (fun _ _ e => e)
          have G1 : Fr (fun i => w.heap.size ≤ i) wr w1 := (((Fr.refl No wr).drew).trans' f1 (fun _ _ e => e)).weak (fun _ _ e => e.elim)
          have O1 := own_fr (own_fr hown ((Fr.refl No wr).drew) (fun _ _ e => e)) f1 (fun _ _ e => e)
          dsimp only
          refine hK.out _ _ (HS.out w1 G1) (fun hHeld => ?_)
          clear hK
          try simp only [Act.put, List.setIfInBounds_toArray, List.set_cons_zero, List.set_cons_succ]
          refine wpAnyH_ready (rs := [14]) (by kernel_rfl) (by simp) ?_
          refine AllReadyH.cons rfl (fun K' hK => ?_) AllReadyH.nil
          go_simp
          go_at_call 34
          refine (CK2.out _ F1).mono ?_
          rintro e' w2 ⟨rfl, f2⟩
          have F2 : Fr No w w2 := F1.trans' f2 (fun _ _ e => e)
          have G2 : Fr (fun i => w.heap.size ≤ i) wr w2 := G1.trans' f2 (fun _ _ e => e.elim)
          have O2 := own_fr O1 f2 (fun _ _ e => e)
          dsimp only
          refine hK.out _ _ (HS.out w2 G2) (fun hHeld => ?_)
          clear hK
          try simp only [Act.put, List.setIfInBounds_toArray, List.set_cons_zero, List.set_cons_succ]
          refine any_take 39 (.agg #[.int .i64 lo, .int .i64 hi]) (i := 15) rfl rfl (by kernel_rfl) (by kernel_rfl) (by kernel_rfl) (fun _ _ _ h => h) (by rfl) (by intro w hSw; (try dsimp only at hSw); go_simp; try with_reducible rfl) (by assumption) ?_
          simp only [Act.put, List.setIfInBounds_toArray, List.set_cons_zero, List.set_cons_succ]
          refine wpAnyH_ready (rs := [16]) (by kernel_rfl) (by simp) ?_
          refine AllReadyH.cons rfl (fun K' hK => ?_) AllReadyH.nil
          go_simp
          have F3 : Fr No w (w2.alloc (.cells #[.int .i64 lo, .int .i64 hi] 72)) := F2.alloc _
          have G3 : Fr (fun i => w.heap.size ≤ i) wr (w2.alloc (.cells #[.int .i64 lo, .int .i64 hi] 72)) := G2.alloc _
          refine hK.out _ _ (HS.out _ G3) (fun hHeld => ?_)
          clear hK
          try simp only [Act.put, List.setIfInBounds_toArray, List.set_cons_zero, List.set_cons_succ]
          refine wpAnyH_ready (rs := [17]) (by kernel_rfl) (by simp) ?_
          refine AllReadyH.cons rfl (fun K' hK => ?_) AllReadyH.nil
          refine wp_spans _ _ rfl w.heap.size B L d _ rfl (w2.heap.size + 1) (some ⟨w2.heap.size, 0, none⟩) 1 1 [(lo, hi)] rfl rfl (slLitS _ _ _ _ _ rfl rfl) (O2.alloc _) (by omega) (by have := F3.size; exact this) ?_
          intro B3 d3 w3 hown3 hf3 hg3
          have F4 : Fr No w w3 := F3.trans' hf3 (fun i hi e => by have := (hown.lt _ e).1; omega)
          have G4 : Fr (fun i => w.heap.size ≤ i) wr w3 := G3.trans' hf3 (fun i hi e => (hown.lt _ e).1)
          refine hK.out _ _ (HS.out _ G4) (fun hHeld => ?_)
          clear hK
          refine any_take 7 (.slice B3 (L + 1) d3) (i := 18) rfl rfl (by kernel_rfl) (by kernel_rfl) (by kernel_rfl) (fun _ _ _ h => h) (by rfl) (by intro w hSw; (try dsimp only at hSw); go_simp; try with_reducible rfl) (by assumption) ?_
          simp only [Act.put, List.setIfInBounds_toArray]
          refine wpAnyH_done (by kernel_rfl) ?_ _
          clear hHeld
          go_wp2
          go_roundw
          case rel =>
            refine ⟨k + 1, B3, L + 1, d3, by omega, by omega, by go_num, rfl, Lib.hid ?_, F4⟩
            rw [Hc2.out]
            exact hown3
          case measure => simp [intOf]; omega
    · obtain rfl : k = m := by omega
      have Hall2 : Hid (l.take k = l) := Lib.hid (List.take_of_length_le (by rw [Hm.out]; exact Nat.le_refl _))
      have hown := hown0.out
      rw [Hall2.out] at hown
      have hlen : (chosen fl gs l).length = L := by have h1 := hown.1; rw [show (sps (chosen fl gs l)).length = (chosen fl gs l).length * 2 from flat_len _ 2 spC_len _] at h1; omega
      have HO := Lib.hid (refOf4_any (chosen fl gs l) L B d wr (Sl.ofOwn hown) hlen (by omega))
      clear hown hlen hown0
      go_wp2_with fail
      refine (HO.out).mono ?_
      rintro e w1 ⟨g, rfl, hb, hgB, hf1⟩
      have HB := Lib.hid hb
      clear hb
      go_wp2
      go_ret
      exact ⟨g, rfl, HB.out, by have := hfr.size; omega, hfr.then0 hf1 (fun _ h => h.elim)⟩
end Go.Proofs.YthenadijiepmnaaGreat
