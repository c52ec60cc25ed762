/- The law 'FootMore', walked. -/
import Derived.Test.YthincpklokgjhaaCov10
import Derived.Test.YthincpklokgjhaaRgt10
import Derived.Test.YthincpklokgjhaaHand
namespace Go.Proofs.Ythincpklokgjhaa
open Go.RowKit

theorem fsps_one (l : List Fsp) : ∀ u ∈ l.flatMap Fsp.cells, u.oneCell' = true := by
  intro u hu
  obtain ⟨t, _, h⟩ := List.mem_flatMap.1 hu
  exact fsp_one t u (by simpa using h)
theorem wp_fsps {w : World} {o : Oper} {a : Act} {K : Act → World → Prop} {Q : Exit → Act → World → Prop} (s x : Operand)
    (ho : o.op = .call { callee := .builtin .append, args := #[s, x], argTypes := #[22, 22] })
    (base : Nat) (A : Option Addr) (n c : Nat) (xs : List Fsp) (hs : a.eval s = .slice A n c) (B : Nat) (A2 : Option Addr) (m c2 : Nat) (ys : List Fsp) (hx : a.eval x = .slice A2 m c2) (hm : ys.length = m) (hr : Sl w B A2 (ys.flatMap Fsp.cells))
    (hown : w.ownsRow base 60 5 (.slice A n c) n (xs.flatMap Fsp.cells)) (hlen : n + m ≤ 1000000) (hbase : base ≤ w.heap.size)
    (h : ∀ A' c' w', w'.ownsRow base 60 5 (.slice A' (n + m) c') (n + m) ((xs ++ ys).flatMap Fsp.cells) → Fr (fun k => (Value.slice A n c).ownBlock = some k) w w' →
      ((Value.slice A' (n + m) c').ownBlock = (Value.slice A n c).ownBlock ∨ ∃ k, (Value.slice A' (n + m) c').ownBlock = some k ∧ w.heap.size ≤ k) → K (a.put o.dst (.slice A' (n + m) c')) w') :
    Oper.wp Try.prog o a w K Q := by
  obtain ⟨i, hi, hz, hz1, hz2⟩ := info_parts info_fsp
  refine wp_append_src w s x _ ho base 60 i _ 5 40 Try.underlying22 hi hz hz1 hz2 rfl (by omega) (.slice A n c) n (xs.flatMap Fsp.cells) hs hown B A2 m c2 (ys.flatMap Fsp.cells) hx (by rw [show (ys.flatMap Fsp.cells).length = ys.length * 5 from flat_len _ 5 Fsp.cells_len ys, hm]) hr (fsps_one ys) (by unfold maxLen; omega) (by omega) hbase ?_
  intro v' w' q1 q2 q3
  obtain ⟨A', c', rfl, -, -, -⟩ := own_shape q1
  rw [show xs.flatMap Fsp.cells ++ ys.flatMap Fsp.cells = (xs ++ ys).flatMap Fsp.cells from (List.flatMap_append).symm] at q1
  refine h A' c' w' q1 ((Fr.refl _ w).grown q2 (fun k hk => .inl hk)) ?_
  rcases q3 with q3 | q3
  · exact .inl q3
  · exact .inr ⟨_, q3, Nat.le_refl _⟩

set_option maxHeartbeats 4000000 in
theorem footMore_any (l : List Fsp) (f : Fsp) (gs : List Int) (rd wr : List (Int × Int)) (A A2 B1 B2 : Option Addr) (m c k c2 n1 q1 n2 q2 : Nat) (w : World) (hsl : Sl w w.heap.size A (l.flatMap Fsp.cells)) (hm : l.length = m) (hs2 : Sl w w.heap.size A2 (ints gs)) (hk : gs.length = k)
    (hr1 : Sl w w.heap.size B1 (sps rd)) (hn1 : rd.length = n1) (hr2 : Sl w w.heap.size B2 (sps wr)) (hn2 : wr.length = n2) :
    Calls Try.prog 7 #[.slice A m c, f.agg, .slice A2 k c2, .slice B1 n1 q1, .slice B2 n2 q2] w (Has w true) := by
  obtain ⟨la, lb, ha, hb, wt⟩ := f
  have Hm := Lib.hid hm
  have Hk := Lib.hid hk
  have Hsl := Lib.hid hsl
  have Hs2 := Lib.hid hs2
  have Hr1 := Lib.hid hr1
  have Hr2 := Lib.hid hr2
  have Hn1 := Lib.hid hn1
  have Hn2 := Lib.hid hn2
  clear hm hk hsl hs2 hr1 hr2 hn1 hn2
  simp only [Fsp.agg]
  have hf0 : Fr No w (w.alloc (.cells #[.int .i64 la, .int .i64 lb, .int .i64 ha, .int .i64 hb, .bool wt] 60)) := (Fr.refl _ _).alloc _
  go_enter Try.func7, Try.ntmps7
  go_wp2_with fail
  refine (alive10 _).mono ?_
  rintro e w1 ⟨rfl, hf1⟩
  have hz1 := hf0.then0 hf1 (fun _ h => h.elim)
  by_cases h20 : 20 < m
  · have d0 : decide (20 < (m : Int)) = true := by simp; omega
    go_wp2
    go_ret
    exact ⟨rfl, hz1⟩
  have d0 : decide (20 < (m : Int)) = false := by simp; omega
  by_cases h10 : 10 < k
  · have d1 : decide (10 < (k : Int)) = true := by simp; omega
    go_wp2
    go_ret
    exact ⟨rfl, hz1⟩
  have d1 : decide (10 < (k : Int)) = false := by simp; omega
  by_cases h30 : 30 < n1
  · have d2 : decide (30 < (n1 : Int)) = true := by simp; omega
    go_wp2
    go_ret
    exact ⟨rfl, hz1⟩
  have e2 : decide (30 < (n1 : Int)) = false := by simp; omega
  by_cases h31 : 30 < n2
  · have d3 : decide (30 < (n2 : Int)) = true := by simp; omega
    go_wp2
    go_ret
    exact ⟨rfl, hz1⟩
  have e3 : decide (30 < (n2 : Int)) = false := by simp; omega
  have hb1 : Bk w1 w.heap.size 60 #[.int .i64 la, .int .i64 lb, .int .i64 ha, .int .i64 hb, .bool wt] := (Bk.made w _ _).fr hf1 (fun e => e)
  have hl1 := hb1.lt
  have x0 := hb1.cell 0
  have x1 := hb1.cell 1
  have x2 := hb1.cell 2
  have x3 := hb1.cell 3
  have x4 := hb1.cell 4
  simp at x0 x1 x2 x3 x4
  have Hsl1 : Hid (Sl w1 w1.heap.size A (l.flatMap Fsp.cells)) := Lib.hid (Hsl.out.since hz1)
  have HS : Hid (∀ w', Fr No w1 w' → w'.cell? ⟨w.heap.size, 0, none⟩ = some (.int .i64 la) ∧ w'.cell? ⟨w.heap.size, 1, none⟩ = some (.int .i64 lb) ∧ w'.cell? ⟨w.heap.size, 2, none⟩ = some (.int .i64 ha) ∧ w'.cell? ⟨w.heap.size, 3, none⟩ = some (.int .i64 hb) ∧ w'.cell? ⟨w.heap.size, 4, none⟩ = some (.bool wt)) := Lib.hid (fun w' h => ⟨(h.cell (p := ⟨w.heap.size, 0, none⟩) hl1 (fun e => e)).trans x0, (h.cell (p := ⟨w.heap.size, 1, none⟩) hl1 (fun e => e)).trans x1, (h.cell (p := ⟨w.heap.size, 2, none⟩) hl1 (fun e => e)).trans x2, (h.cell (p := ⟨w.heap.size, 3, none⟩) hl1 (fun e => e)).trans x3, (h.cell (p := ⟨w.heap.size, 4, none⟩) hl1 (fun e => e)).trans x4⟩)
  have HF1 := Lib.hid hz1
  have hm0 : Hid (m ≤ 1099511627776) := Lib.hid (by omega)
  have hm1 : Hid (m + 1 ≤ 1099511627776) := Lib.hid (by omega)
  have hk0 : Hid (k ≤ 1099511627776) := Lib.hid (by omega)
  have hn10 : Hid (n1 ≤ 1048576) := Lib.hid (by omega)
  have hn20 : Hid (n2 ≤ 1048576) := Lib.hid (by omega)
  clear hb1 x0 x1 x2 x3 x4 hf0 hf1 hz1 h10 h30 h31
  go_wp2_with fail
  refine wp_region_held_drew (S := fun w' => w'.cell? ⟨w.heap.size, 0, none⟩ = some (.int .i64 la) ∧ w'.cell? ⟨w.heap.size, 1, none⟩ = some (.int .i64 lb) ∧ w'.cell? ⟨w.heap.size, 2, none⟩ = some (.int .i64 ha) ∧ w'.cell? ⟨w.heap.size, 3, none⟩ = some (.int .i64 hb) ∧ w'.cell? ⟨w.heap.size, 4, none⟩ = some (.bool wt)) (by kernel_rfl) (HS.out w1 (Fr.refl _ _)) (fun hHeld => ?_)
  have fD : Fr No w1 w1.drew := (Fr.refl No w1).drew
  refine any_take 33 (.slice A m c) (i := 1) rfl rfl (by kernel_rfl) (by kernel_rfl) (by kernel_rfl) (fun _ _ _ h => h) (by rfl) (by intro w hSw; (try dsimp only at hSw); go_simp; try with_reducible rfl) (by assumption) ?_
  simp only [Act.put, List.setIfInBounds_toArray, List.set_cons_zero, List.set_cons_succ]
  refine any_take 35 (.agg #[.int .i64 la, .int .i64 lb, .int .i64 ha, .int .i64 hb, .bool wt]) (i := 3) rfl rfl (by kernel_rfl) (by kernel_rfl) (by kernel_rfl) (fun _ _ _ h => h) (by rfl) (by intro w hSw; (try dsimp only at hSw); go_simp; try with_reducible rfl) (by assumption) ?_
  simp only [Act.put, List.setIfInBounds_toArray, List.set_cons_zero, List.set_cons_succ]
  refine wpAnyH_ready (rs := [0, 4]) (by kernel_rfl) (by simp) ?_
  refine AllReadyH.cons rfl (fun K' hK => ?_) (AllReadyH.cons rfl (fun K' hK => ?_) AllReadyH.nil)
  · go_simp
    have FE1 : Fr No w1 (w1.drew.alloc (.cells #[] 60)) := fD.alloc _
    have OE1 : (w1.drew.alloc (.cells #[] 60)).ownsRow w1.heap.size 60 5 (.slice (some ⟨w1.heap.size, 0, none⟩) 0 0) 0 [] := by
      have h : (w1.drew.alloc (.cells #[] 60)).ownsRow w1.heap.size 60 5 (.slice (some ⟨w1.drew.heap.size, 0, none⟩) 0 0) 0 [] := own_base (World.ownsRow_lit w1.drew #[] 0 (Nat.le_refl _) (Nat.zero_le _) rfl) fD.size
      rw [show w1.drew.heap.size = w1.heap.size by simp] at h
      exact h
    refine hK.out _ _ (HS.out _ FE1) (fun hHeld => ?_)
    clear hK
    try simp only [Act.put, List.setIfInBounds_toArray, List.set_cons_zero, List.set_cons_succ]
    refine wpAnyH_ready (rs := [2, 4]) (by kernel_rfl) (by simp) ?_
    refine AllReadyH.cons rfl (fun K' hK => ?_) (AllReadyH.cons rfl (fun K' hK => ?_) AllReadyH.nil)
    · refine wp_fsps _ _ rfl w1.heap.size (some ⟨w1.heap.size, 0, none⟩) 0 0 [] rfl w1.heap.size A m c l rfl Hm.out (Hsl1.out.fr FE1 (Nat.le_refl _) (fun _ _ _ e => e)) OE1 (by omega) FE1.size ?_
      intro X1 x1 v1 OX1 FX1 GX1
      rw [Nat.zero_add] at OX1 GX1 ⊢
      rw [List.nil_append] at OX1
      have FY1 : Fr No w1 v1 := FE1.trans' FX1 (fun i hi e => by have := ((OE1).lt _ e).1; omega)
      refine hK.out _ _ (HS.out _ FY1) (fun hHeld => ?_)
      clear hK
      try simp only [Act.put, List.setIfInBounds_toArray, List.set_cons_zero, List.set_cons_succ]
      refine wpAnyH_ready (rs := [4]) (by kernel_rfl) (by simp) ?_
      refine AllReadyH.cons rfl (fun K' hK => ?_) AllReadyH.nil
      have OW1 : (v1.alloc (.cells #[.int .i64 la, .int .i64 lb, .int .i64 ha, .int .i64 hb, .bool wt] 60)).ownsRow w1.heap.size 60 5 (.slice X1 m x1) m (l.flatMap Fsp.cells) := OX1.alloc _
      go_simp
      have FO1 : Fr No w1 (v1.alloc (.cells #[.int .i64 la, .int .i64 lb, .int .i64 ha, .int .i64 hb, .bool wt] 60)) := FY1.alloc _
      have SO1 : Sl (v1.alloc (.cells #[.int .i64 la, .int .i64 lb, .int .i64 ha, .int .i64 hb, .bool wt] 60)) (v1.heap.size + 1) (some ⟨v1.heap.size, 0, none⟩) ([(⟨la, lb, ha, hb, wt⟩ : Fsp)].flatMap Fsp.cells) := slLitS _ _ _ _ _ (by simp) rfl
      refine hK.out _ _ (HS.out _ FO1) (fun hHeld => ?_)
      clear hK
      try simp only [Act.put, List.setIfInBounds_toArray, List.set_cons_zero, List.set_cons_succ]
      refine wpAnyH_ready (rs := [5]) (by kernel_rfl) (by simp) ?_
      refine AllReadyH.cons rfl (fun K' hK => ?_) AllReadyH.nil
      refine wp_fsps _ _ rfl w1.heap.size X1 m x1 l rfl _ (some ⟨v1.heap.size, 0, none⟩) 1 1 [⟨la, lb, ha, hb, wt⟩] rfl rfl SO1 OW1 (by omega) FO1.size ?_
      intro Z zc wz OZ FX2 GX2
      have FZ : Fr No w1 wz := FO1.trans' FX2 (fun i hi e => by have := ((OW1).lt _ e).1; omega)
      refine hK.out _ _ (HS.out _ FZ) (fun hHeld => ?_)
      clear hK
      try simp only [Act.put, List.setIfInBounds_toArray, List.set_cons_zero, List.set_cons_succ]
      refine any_take 11 (.slice Z (m + 1) zc) (i := 6) rfl rfl (by kernel_rfl) (by kernel_rfl) (by kernel_rfl) (fun _ _ _ h => h) (by rfl) (by intro w hSw; (try dsimp only at hSw); go_simp; try with_reducible rfl) (by assumption) ?_
      simp only [Act.put, List.setIfInBounds_toArray, List.set_cons_zero, List.set_cons_succ]
      refine wpAnyH_done (by kernel_rfl) ?_ _
      clear hHeld HS
      have HF5 := Lib.hid (HF1.out.then0 FZ (fun _ h => h.elim))
      have CR := Lib.hid (refRight_any (l ++ [⟨la, lb, ha, hb, wt⟩]) gs Z A2 (m + 1) zc k c2 wz (Sl.ofOwn OZ) (by rw [List.length_append, Hm.out]; rfl) (Hs2.out.since HF5.out) Hk.out hk0.out)
      have HC1 := Lib.hid (fun (W : World) (h : Fr No wz W) => covers_any l gs rd wr A A2 B1 B2 m c k c2 n1 q1 n2 q2 W (Hsl.out.since (HF5.out.then0 h (fun _ h => h.elim))) Hm.out hm0.out (Hs2.out.since (HF5.out.then0 h (fun _ h => h.elim))) Hk.out hk0.out ⟨Hr1.out.since (HF5.out.then0 h (fun _ h => h.elim)), Hn1.out, hn10.out⟩ ⟨Hr2.out.since (HF5.out.then0 h (fun _ h => h.elim)), Hn2.out, hn20.out⟩)
      have HC2 := Lib.hid (fun (W : World) (h : Fr No wz W) => covers_any (l ++ [⟨la, lb, ha, hb, wt⟩]) gs rd wr Z A2 B1 B2 (m + 1) zc k c2 n1 q1 n2 q2 W ((Sl.ofOwn OZ).since h) (by rw [List.length_append, Hm.out]; rfl) hm1.out (Hs2.out.since (HF5.out.then0 h (fun _ h => h.elim))) Hk.out hk0.out ⟨Hr1.out.since (HF5.out.then0 h (fun _ h => h.elim)), Hn1.out, hn10.out⟩ ⟨Hr2.out.since (HF5.out.then0 h (fun _ h => h.elim)), Hn2.out, hn20.out⟩)
      have Hmore := Lib.hid (fun h1 h2 => covers_more (l := l) (f := ⟨la, lb, ha, hb, wt⟩) (gs := gs) (rd := rd) (wt := wr) h1 h2)
      clear OZ FZ
      generalize footRight (l ++ [⟨la, lb, ha, hb, wt⟩]) gs = r at *
      generalize coversB (l ++ [⟨la, lb, ha, hb, wt⟩]) gs rd wr = b2 at *
      generalize coversB l gs rd wr = b1 at *
      cases r
      · go_wp2_with fail
        refine (CR.out).mono ?_
        rintro e w6 ⟨rfl, hf6⟩
        go_wp2
        go_ret
        exact ⟨rfl, HF5.out.then0 hf6 (fun _ h => h.elim)⟩
      · go_wp2_with fail
        refine (CR.out).mono ?_
        rintro e w6 ⟨rfl, hf6⟩
        have HF6 := Lib.hid hf6
        clear hf6
        cases b1
        · clear HC2
          go_wp2_with fail
          refine (HC1.out _ HF6.out).mono ?_
          rintro e w7 ⟨rfl, hf7⟩
          go_wp2
          go_ret
          exact ⟨rfl, (HF5.out.then0 HF6.out (fun _ h => h.elim)).then0 hf7 (fun _ h => h.elim)⟩
        · have Hb2 : Hid (b2 = true) := Lib.hid (Hmore.out (by simp) (by simp))
          go_wp2_with fail
          refine (HC1.out _ HF6.out).mono ?_
          rintro e w7 ⟨rfl, hf7⟩
          have HF7 := Lib.hid (HF6.out.trans' hf7 (fun _ _ h => h))
          clear hf7 HC1
          go_wp2_with fail
          refine (HC2.out _ HF7.out).mono ?_
          rintro e w8 ⟨rfl, hf8⟩
          go_wp2
          go_ret
          exact ⟨by simp [Hb2.out], (HF5.out.then0 HF7.out (fun _ h => h.elim)).then0 hf8 (fun _ h => h.elim)⟩
    · go_simp
      have FO2 : Fr No w1 ((w1.drew.alloc (.cells #[] 60)).alloc (.cells #[.int .i64 la, .int .i64 lb, .int .i64 ha, .int .i64 hb, .bool wt] 60)) := FE1.alloc _
      have SO2 : Sl ((w1.drew.alloc (.cells #[] 60)).alloc (.cells #[.int .i64 la, .int .i64 lb, .int .i64 ha, .int .i64 hb, .bool wt] 60)) ((w1.heap.size + 1) + 1) (some ⟨(w1.heap.size + 1), 0, none⟩) ([(⟨la, lb, ha, hb, wt⟩ : Fsp)].flatMap Fsp.cells) := slLitS _ _ _ _ _ (by simp) rfl
      refine hK.out _ _ (HS.out _ FO2) (fun hHeld => ?_)
      clear hK
      try simp only [Act.put, List.setIfInBounds_toArray, List.set_cons_zero, List.set_cons_succ]
      refine wpAnyH_ready (rs := [2]) (by kernel_rfl) (by simp) ?_
      refine AllReadyH.cons rfl (fun K' hK => ?_) AllReadyH.nil
      have OW2 : ((w1.drew.alloc (.cells #[] 60)).alloc (.cells #[.int .i64 la, .int .i64 lb, .int .i64 ha, .int .i64 hb, .bool wt] 60)).ownsRow w1.heap.size 60 5 (.slice (some ⟨w1.heap.size, 0, none⟩) 0 0) 0 [] := OE1.alloc _
      refine wp_fsps _ _ rfl w1.heap.size (some ⟨w1.heap.size, 0, none⟩) 0 0 [] rfl w1.heap.size A m c l rfl Hm.out (Hsl1.out.fr FO2 (Nat.le_refl _) (fun _ _ _ e => e)) OW2 (by omega) FO2.size ?_
      intro X3 x3 v3 OX3 FX3 GX3
      rw [Nat.zero_add] at OX3 GX3 ⊢
      rw [List.nil_append] at OX3
      have FY3 : Fr No w1 v3 := FO2.trans' FX3 (fun i hi e => by have := ((OW2).lt _ e).1; omega)
      refine hK.out _ _ (HS.out _ FY3) (fun hHeld => ?_)
      clear hK
      try simp only [Act.put, List.setIfInBounds_toArray, List.set_cons_zero, List.set_cons_succ]
      refine wpAnyH_ready (rs := [5]) (by kernel_rfl) (by simp) ?_
      refine AllReadyH.cons rfl (fun K' hK => ?_) AllReadyH.nil
      refine wp_fsps _ _ rfl w1.heap.size X3 m x3 l rfl _ (some ⟨(w1.heap.size + 1), 0, none⟩) 1 1 [⟨la, lb, ha, hb, wt⟩] rfl rfl (SO2.fr FX3 (by simp) (fun ad e _ h => by injection e with e; subst e; simp [Value.ownBlock] at h)) OX3 (by omega) FY3.size ?_
      intro Z zc wz OZ FX4 GX4
      have FZ : Fr No w1 wz := FY3.trans' FX4 (fun i hi e => by have := ((OX3).lt _ e).1; omega)
      refine hK.out _ _ (HS.out _ FZ) (fun hHeld => ?_)
      clear hK
      try simp only [Act.put, List.setIfInBounds_toArray, List.set_cons_zero, List.set_cons_succ]
      refine any_take 11 (.slice Z (m + 1) zc) (i := 6) rfl rfl (by kernel_rfl) (by kernel_rfl) (by kernel_rfl) (fun _ _ _ h => h) (by rfl) (by intro w hSw; (try dsimp only at hSw); go_simp; try with_reducible rfl) (by assumption) ?_
      simp only [Act.put, List.setIfInBounds_toArray, List.set_cons_zero, List.set_cons_succ]
      refine wpAnyH_done (by kernel_rfl) ?_ _
      clear hHeld HS
      have HF5 := Lib.hid (HF1.out.then0 FZ (fun _ h => h.elim))
      have CR := Lib.hid (refRight_any (l ++ [⟨la, lb, ha, hb, wt⟩]) gs Z A2 (m + 1) zc k c2 wz (Sl.ofOwn OZ) (by rw [List.length_append, Hm.out]; rfl) (Hs2.out.since HF5.out) Hk.out hk0.out)
      have HC1 := Lib.hid (fun (W : World) (h : Fr No wz W) => covers_any l gs rd wr A A2 B1 B2 m c k c2 n1 q1 n2 q2 W (Hsl.out.since (HF5.out.then0 h (fun _ h => h.elim))) Hm.out hm0.out (Hs2.out.since (HF5.out.then0 h (fun _ h => h.elim))) Hk.out hk0.out ⟨Hr1.out.since (HF5.out.then0 h (fun _ h => h.elim)), Hn1.out, hn10.out⟩ ⟨Hr2.out.since (HF5.out.then0 h (fun _ h => h.elim)), Hn2.out, hn20.out⟩)
      have HC2 := Lib.hid (fun (W : World) (h : Fr No wz W) => covers_any (l ++ [⟨la, lb, ha, hb, wt⟩]) gs rd wr Z A2 B1 B2 (m + 1) zc k c2 n1 q1 n2 q2 W ((Sl.ofOwn OZ).since h) (by rw [List.length_append, Hm.out]; rfl) hm1.out (Hs2.out.since (HF5.out.then0 h (fun _ h => h.elim))) Hk.out hk0.out ⟨Hr1.out.since (HF5.out.then0 h (fun _ h => h.elim)), Hn1.out, hn10.out⟩ ⟨Hr2.out.since (HF5.out.then0 h (fun _ h => h.elim)), Hn2.out, hn20.out⟩)
      have Hmore := Lib.hid (fun h1 h2 => covers_more (l := l) (f := ⟨la, lb, ha, hb, wt⟩) (gs := gs) (rd := rd) (wt := wr) h1 h2)
      clear OZ FZ
      generalize footRight (l ++ [⟨la, lb, ha, hb, wt⟩]) gs = r at *
      generalize coversB (l ++ [⟨la, lb, ha, hb, wt⟩]) gs rd wr = b2 at *
      generalize coversB l gs rd wr = b1 at *
      cases r
      · go_wp2_with fail
        refine (CR.out).mono ?_
        rintro e w6 ⟨rfl, hf6⟩
        go_wp2
        go_ret
        exact ⟨rfl, HF5.out.then0 hf6 (fun _ h => h.elim)⟩
      · go_wp2_with fail
        refine (CR.out).mono ?_
        rintro e w6 ⟨rfl, hf6⟩
        have HF6 := Lib.hid hf6
        clear hf6
        cases b1
        · clear HC2
          go_wp2_with fail
          refine (HC1.out _ HF6.out).mono ?_
          rintro e w7 ⟨rfl, hf7⟩
          go_wp2
          go_ret
          exact ⟨rfl, (HF5.out.then0 HF6.out (fun _ h => h.elim)).then0 hf7 (fun _ h => h.elim)⟩
        · have Hb2 : Hid (b2 = true) := Lib.hid (Hmore.out (by simp) (by simp))
          go_wp2_with fail
          refine (HC1.out _ HF6.out).mono ?_
          rintro e w7 ⟨rfl, hf7⟩
          have HF7 := Lib.hid (HF6.out.trans' hf7 (fun _ _ h => h))
          clear hf7 HC1
          go_wp2_with fail
          refine (HC2.out _ HF7.out).mono ?_
          rintro e w8 ⟨rfl, hf8⟩
          go_wp2
          go_ret
          exact ⟨by simp [Hb2.out], (HF5.out.then0 HF7.out (fun _ h => h.elim)).then0 hf8 (fun _ h => h.elim)⟩
  · go_simp
    have FO3 : Fr No w1 (w1.drew.alloc (.cells #[.int .i64 la, .int .i64 lb, .int .i64 ha, .int .i64 hb, .bool wt] 60)) := fD.alloc _
    have SO3 : Sl (w1.drew.alloc (.cells #[.int .i64 la, .int .i64 lb, .int .i64 ha, .int .i64 hb, .bool wt] 60)) (w1.heap.size + 1) (some ⟨w1.heap.size, 0, none⟩) ([(⟨la, lb, ha, hb, wt⟩ : Fsp)].flatMap Fsp.cells) := slLitS _ _ _ _ _ (by simp) rfl
    refine hK.out _ _ (HS.out _ FO3) (fun hHeld => ?_)
    clear hK
    try simp only [Act.put, List.setIfInBounds_toArray, List.set_cons_zero, List.set_cons_succ]
    refine wpAnyH_ready (rs := [0]) (by kernel_rfl) (by simp) ?_
    refine AllReadyH.cons rfl (fun K' hK => ?_) AllReadyH.nil
    go_simp
    have FE2 : Fr No w1 ((w1.drew.alloc (.cells #[.int .i64 la, .int .i64 lb, .int .i64 ha, .int .i64 hb, .bool wt] 60)).alloc (.cells #[] 60)) := FO3.alloc _
    have OE2 : ((w1.drew.alloc (.cells #[.int .i64 la, .int .i64 lb, .int .i64 ha, .int .i64 hb, .bool wt] 60)).alloc (.cells #[] 60)).ownsRow w1.heap.size 60 5 (.slice (some ⟨(w1.heap.size + 1), 0, none⟩) 0 0) 0 [] := by
      have h : ((w1.drew.alloc (.cells #[.int .i64 la, .int .i64 lb, .int .i64 ha, .int .i64 hb, .bool wt] 60)).alloc (.cells #[] 60)).ownsRow w1.heap.size 60 5 (.slice (some ⟨(w1.drew.alloc (.cells #[.int .i64 la, .int .i64 lb, .int .i64 ha, .int .i64 hb, .bool wt] 60)).heap.size, 0, none⟩) 0 0) 0 [] := own_base (World.ownsRow_lit (w1.drew.alloc (.cells #[.int .i64 la, .int .i64 lb, .int .i64 ha, .int .i64 hb, .bool wt] 60)) #[] 0 (Nat.le_refl _) (Nat.zero_le _) rfl) FO3.size
      rw [show (w1.drew.alloc (.cells #[.int .i64 la, .int .i64 lb, .int .i64 ha, .int .i64 hb, .bool wt] 60)).heap.size = (w1.heap.size + 1) by simp] at h
      exact h
    refine hK.out _ _ (HS.out _ FE2) (fun hHeld => ?_)
    clear hK
    try simp only [Act.put, List.setIfInBounds_toArray, List.set_cons_zero, List.set_cons_succ]
    refine wpAnyH_ready (rs := [2]) (by kernel_rfl) (by simp) ?_
    refine AllReadyH.cons rfl (fun K' hK => ?_) AllReadyH.nil
    refine wp_fsps _ _ rfl w1.heap.size (some ⟨(w1.heap.size + 1), 0, none⟩) 0 0 [] rfl w1.heap.size A m c l rfl Hm.out (Hsl1.out.fr FE2 (Nat.le_refl _) (fun _ _ _ e => e)) OE2 (by omega) FE2.size ?_
    intro X5 x5 v5 OX5 FX5 GX5
    rw [Nat.zero_add] at OX5 GX5 ⊢
    rw [List.nil_append] at OX5
    have FY5 : Fr No w1 v5 := FE2.trans' FX5 (fun i hi e => by have := ((OE2).lt _ e).1; omega)
    refine hK.out _ _ (HS.out _ FY5) (fun hHeld => ?_)
    clear hK
    try simp only [Act.put, List.setIfInBounds_toArray, List.set_cons_zero, List.set_cons_succ]
    refine wpAnyH_ready (rs := [5]) (by kernel_rfl) (by simp) ?_
    refine AllReadyH.cons rfl (fun K' hK => ?_) AllReadyH.nil
    refine wp_fsps _ _ rfl w1.heap.size X5 m x5 l rfl _ (some ⟨w1.heap.size, 0, none⟩) 1 1 [⟨la, lb, ha, hb, wt⟩] rfl rfl ((SO3.fr ((Fr.refl No _).alloc _) (by simp) (fun _ _ _ e => e)).fr FX5 (by simp) (fun ad e _ h => by injection e with e; subst e; simp [Value.ownBlock] at h)) OX5 (by omega) FY5.size ?_
    intro Z zc wz OZ FX6 GX6
    have FZ : Fr No w1 wz := FY5.trans' FX6 (fun i hi e => by have := ((OX5).lt _ e).1; omega)
    refine hK.out _ _ (HS.out _ FZ) (fun hHeld => ?_)
    clear hK
    try simp only [Act.put, List.setIfInBounds_toArray, List.set_cons_zero, List.set_cons_succ]
    refine any_take 11 (.slice Z (m + 1) zc) (i := 6) rfl rfl (by kernel_rfl) (by kernel_rfl) (by kernel_rfl) (fun _ _ _ h => h) (by rfl) (by intro w hSw; (try dsimp only at hSw); go_simp; try with_reducible rfl) (by assumption) ?_
    simp only [Act.put, List.setIfInBounds_toArray, List.set_cons_zero, List.set_cons_succ]
    refine wpAnyH_done (by kernel_rfl) ?_ _
    clear hHeld HS
    have HF5 := Lib.hid (HF1.out.then0 FZ (fun _ h => h.elim))
    have CR := Lib.hid (refRight_any (l ++ [⟨la, lb, ha, hb, wt⟩]) gs Z A2 (m + 1) zc k c2 wz (Sl.ofOwn OZ) (by rw [List.length_append, Hm.out]; rfl) (Hs2.out.since HF5.out) Hk.out hk0.out)
    have HC1 := Lib.hid (fun (W : World) (h : Fr No wz W) => covers_any l gs rd wr A A2 B1 B2 m c k c2 n1 q1 n2 q2 W (Hsl.out.since (HF5.out.then0 h (fun _ h => h.elim))) Hm.out hm0.out (Hs2.out.since (HF5.out.then0 h (fun _ h => h.elim))) Hk.out hk0.out ⟨Hr1.out.since (HF5.out.then0 h (fun _ h => h.elim)), Hn1.out, hn10.out⟩ ⟨Hr2.out.since (HF5.out.then0 h (fun _ h => h.elim)), Hn2.out, hn20.out⟩)
    have HC2 := Lib.hid (fun (W : World) (h : Fr No wz W) => covers_any (l ++ [⟨la, lb, ha, hb, wt⟩]) gs rd wr Z A2 B1 B2 (m + 1) zc k c2 n1 q1 n2 q2 W ((Sl.ofOwn OZ).since h) (by rw [List.length_append, Hm.out]; rfl) hm1.out (Hs2.out.since (HF5.out.then0 h (fun _ h => h.elim))) Hk.out hk0.out ⟨Hr1.out.since (HF5.out.then0 h (fun _ h => h.elim)), Hn1.out, hn10.out⟩ ⟨Hr2.out.since (HF5.out.then0 h (fun _ h => h.elim)), Hn2.out, hn20.out⟩)
    have Hmore := Lib.hid (fun h1 h2 => covers_more (l := l) (f := ⟨la, lb, ha, hb, wt⟩) (gs := gs) (rd := rd) (wt := wr) h1 h2)
    clear OZ FZ
    generalize footRight (l ++ [⟨la, lb, ha, hb, wt⟩]) gs = r at *
    generalize coversB (l ++ [⟨la, lb, ha, hb, wt⟩]) gs rd wr = b2 at *
    generalize coversB l gs rd wr = b1 at *
    cases r
    · go_wp2_with fail
      refine (CR.out).mono ?_
      rintro e w6 ⟨rfl, hf6⟩
      go_wp2
      go_ret
      exact ⟨rfl, HF5.out.then0 hf6 (fun _ h => h.elim)⟩
    · go_wp2_with fail
      refine (CR.out).mono ?_
      rintro e w6 ⟨rfl, hf6⟩
      have HF6 := Lib.hid hf6
      clear hf6
      cases b1
      · clear HC2
        go_wp2_with fail
        refine (HC1.out _ HF6.out).mono ?_
        rintro e w7 ⟨rfl, hf7⟩
        go_wp2
        go_ret
        exact ⟨rfl, (HF5.out.then0 HF6.out (fun _ h => h.elim)).then0 hf7 (fun _ h => h.elim)⟩
      · have Hb2 : Hid (b2 = true) := Lib.hid (Hmore.out (by simp) (by simp))
        go_wp2_with fail
        refine (HC1.out _ HF6.out).mono ?_
        rintro e w7 ⟨rfl, hf7⟩
        have HF7 := Lib.hid (HF6.out.trans' hf7 (fun _ _ h => h))
        clear hf7 HC1
        go_wp2_with fail
        refine (HC2.out _ HF7.out).mono ?_
        rintro e w8 ⟨rfl, hf8⟩
        go_wp2
        go_ret
        exact ⟨by simp [Hb2.out], (HF5.out.then0 HF7.out (fun _ h => h.elim)).then0 hf8 (fun _ h => h.elim)⟩
end Go.Proofs.Ythincpklokgjhaa
