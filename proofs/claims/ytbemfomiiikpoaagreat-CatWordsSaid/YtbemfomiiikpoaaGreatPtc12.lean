/- Package cat: Put. -/
import Derived.Test.YtbemfomiiikpoaaGreatEac12
import Derived.Test.YtbemfomiiikpoaaGreatFit12
namespace Go.Proofs.YtbemfomiiikpoaaGreat
open Go.RowKit Go.Shelf

attribute [local go_sem] Oper.semAt_some

section
variable {F : Fence} {n : Nat} {P : Program} {ops : Array Oper} {Q : Exit → Act → World → Prop}
theorem oneIn_val12 {o : Oper} {a : Act} {w w' : World} {K' : Act → World → Prop} {E : Prop} {v : Value} (d : Tmp) (hro : F.round = none) (hd : o.dst = some d) (hw : Region.wanted o (yielded ops a.tmps) = true) (hy : (execOp a.eval o).run P w = .ok (.value v) w') (ha : o.about P w a.eval = none) (h : K' (a.put (some d) v) w') :
    if Region.wanted o (yielded ops a.tmps) = true then Oper.wpIn F n P o a w K' Q else E := by
  rw [if_pos hw]
  refine ⟨fun f hf => (by rw [ha] at hf; cases hf), ?_⟩
  rw [hro, Oper.semAt_none, hy]
  show K' (a.put o.dst v) w'
  rw [hd]
  exact h
end
/-- The word of two classes' breakpoints. -/
def brW (b : Nat → Int) (n i : Nat) : Nat := (b (i / n * 4 + i % n)).toNat
theorem brW_words (x : PCt) : wordsB x (x.cs.length * x.cs.length) = (List.range (x.cs.length * x.cs.length)).map (brW x.b x.cs.length) := rfl
/-- What stands in the loop over each two classes. -/
def PtI (p : Nat) (ys : List Nat) (b : Nat → Int) (n : Nat) (w : World) (H : Nat) (Z : Array Value) (pre : List (PX n)) (W : World) : Prop :=
  WA p (ys ++ (pre.map (·.1)).map (brW b n)) W ∧ Bk W H 33 #[.pointer (some ⟨p, 0, none⟩)] ∧ Bk W (H + 1) 26 Z ∧ KW p w W
theorem PtI.own (p : Nat) (ys : List Nat) (b : Nat → Int) (n : Nat) (w : World) (H : Nat) (Z : Array Value) (B : Nat) (h1 : p ≤ w.heap.size) (h2 : w.heap.size ≤ B) : OwnFrom B (PtI p ys b n w H Z) := fun pre X Y row ⟨a1, a2, a3, a4⟩ hg hr =>
  ⟨WA.own B p (fun pre : List (PX n) => ys ++ (pre.map (·.1)).map (brW b n)) pre X Y row a1 hg hr, bk_ownP B _ _ _ () X Y row a2 hg hr, bk_ownP B _ _ _ () X Y row a3 hg hr, KW.own (β := Unit) B p w h1 h2 () X Y row a4 hg hr⟩
/-- A class below a writer, whose numbers fit. -/
structure LowC (w : World) (p : Nat) (c : Cls) : Prop where
  s : Sl w p c.sA (c.steps.flatMap Stp.cells)
  u : Sl w p c.uA (c.comps.flatMap Stp.cells)
  ss : ∀ s ∈ c.steps, s.Ok w p ∧ FitS s.p
  us : ∀ s ∈ c.comps, s.Ok w p ∧ FitS s.p
  a : I64 c.args
  n : c.steps.length ≤ 4
  m : c.comps.length ≤ 4
  nm : c.name.size ≤ 64
theorem LowC.below {w W : World} {p : Nat} {c : Cls} (h : LowC w p c) (hb : Below p w W) : LowC W p c :=
  ⟨h.s.below hb, h.u.below hb, fun s hs => ⟨⟨(h.ss s hs).1.code.below hb, (h.ss s hs).1.foot.below hb⟩, (h.ss s hs).2⟩, fun s hs => ⟨⟨(h.us s hs).1.code.below hb, (h.us s hs).1.foot.below hb⟩, (h.us s hs).2⟩, h.a, h.n, h.m, h.nm⟩

set_option maxRecDepth 100000 in
set_option maxHeartbeats 8000000 in
theorem put12_any (p : Nat) (xs : List Nat) (x : Ctl) (w : World) (hw : WA p xs w) (hs : Sl w p x.cA (x.cls.flatMap Cls.cells)) (hc : ∀ c ∈ x.cls, LowC w p c) (hn4 : x.cls.length ≤ 4) (hb : ∀ j, j < 16 → I64 (x.b j)) (hfl : ∀ c ∈ x.cls, (wordsC c.p).length ≤ 1000) (hlen : xs.length + 200000 ≤ 1099511627776) :
    Calls Tryz.prog 7 #[.pointer (some ⟨p, 0, none⟩), x.agg] w fun e w' => e = .returned (.tuple #[]) ∧ WA p (xs ++ wordsQ x.p) w' ∧ KW p w w' := by
  have Hwq : Hid (wordsQ x.p = x.cls.length :: (x.cls.flatMap (fun c => wordsC c.p) ++ (List.range (x.cls.length * x.cls.length)).map (brW x.b x.cls.length))) := Lib.hid (by
    have e1 : x.p.cs.length = x.cls.length := by simp [Ctl.p]
    unfold wordsQ
    rw [brW_words, e1]
    simp [Ctl.p, List.flatMap_map])
  refine (callsIn_wide (n := 3)).1 ?_
  have h3 : 1 ≤ 3 := by omega
  unfold Ctl.agg
  obtain ⟨Z, hZ⟩ : ∃ Z, Z = x.arr := ⟨_, rfl⟩
  rw [← hZ]
  replace hZ : Z = brA (.slice x.cA x.cls.length x.cc) x.b := hZ
  obtain ⟨cA, cls, cc, b⟩ := x
  simp only at *
  have Hlp := Lib.hid hw.lt
  obtain ⟨n, hn⟩ : ∃ n, n = cls.length := ⟨_, rfl⟩
  rw [← hn] at Hwq hZ hn4
  have Hn := Lib.hid hn
  have HS := Lib.hid hs
  have HCl := Lib.hid hc
  have HFl := Lib.hid hfl
  have HBI := Lib.hid hb
  obtain ⟨W0, hW0⟩ : ∃ W0, W0 = (w.alloc (.cells #[.pointer (some ⟨p, 0, none⟩)] 33)).alloc (.cells Z 26) := ⟨_, rfl⟩
  have f0 : Fr No w W0 := by rw [hW0]; exact ((Fr.refl No w).alloc _).alloc _
  have bW : Bk W0 w.heap.size 33 #[.pointer (some ⟨p, 0, none⟩)] := by rw [hW0]; exact (Bk.made w _ _).fr ((Fr.refl No _).alloc _) (fun e => e)
  have bC : Bk W0 (w.heap.size + 1) 26 Z := by
    have h := Bk.made (w.alloc (.cells #[.pointer (some ⟨p, 0, none⟩)] 33)) 26 Z
    rw [World.size_alloc] at h
    rw [hW0]
    exact h
  have K0 := Lib.hid (KW.quiet (p := p) (Nat.le_of_lt hw.lt) f0)
  have C1 := Lib.hid ((hw.quiet f0).step (fun g h hg => count_any p g xs (n : Int) _ h (by omega) (by omega) (by omega)))
  have HBK := Lib.hid (fun V (h : KW p W0 V) => And.intro (h.2.1 _ _ _ (by decide) (by decide) bW) (h.2.1 _ _ _ (by decide) (by decide) bC))
  have x0 := bW.cell 0
  have y0 : W0.cell? ⟨w.heap.size + 1, 0, none⟩ = some (.slice cA n cc) := by rw [bC.cell, hZ]; rfl
  have HY0 := Lib.hid (fun V (h : Bk V (w.heap.size + 1) 26 Z) => show V.cell? ⟨w.heap.size + 1, 0, none⟩ = some (.slice cA n cc) by rw [h.cell, hZ]; rfl)
  have HYb := Lib.hid (fun V (h : Bk V (w.heap.size + 1) 26 Z) (c d : Nat) (hc : c < 4) (hd : d < 4) => show V.cell? ⟨w.heap.size + 1, 1 + c * 4 + d, none⟩ = some (.int .i64 (b (c * 4 + d))) from bk_br2 (by rw [hZ] at h; exact h) hc hd)
  simp at x0
  have hwe := hW0.symm
  have HZ := Lib.hid hZ
  have HZW := Lib.hid (fun V (h : Bk V (w.heap.size + 1) 26 Z) => ld_cat hZ h)
  clear hs hc hfl hb hw f0 bW bC hn hZ hW0
  refine callsIn_of_wp_marks Tryz.func7 rfl trivial ?_ rfl
  simp only [Tryz.ntmps7, List.size_toArray, List.length_cons, List.length_nil, Nat.reduceAdd, Nat.reduceSub, Array.replicate_succ, Array.replicate_zero, List.push_toArray, List.append_toArray, List.nil_append, List.cons_append]
  gi_wp2_with fail
  refine ⟨trivial, ?_⟩
  gi_at_call 23
  refine (callsIn_wide.2 (C1.out)).mono ?_
  rintro e w1 ⟨rfl, a1, q1⟩
  have K1 := Lib.hid q1
  have A1 := Lib.hid a1
  have x1 := (HBK.out _ q1).1.cell 0
  have y1 := HY0.out _ (HBK.out _ q1).2
  simp at x1
  clear a1 q1 C1 x0 y0 hwe
  gi_wp2_with fail
  gi_loopw [18] (fun i wr => ∃ k : Nat, k ≤ n ∧ i = .int .i64 (k : Int) ∧ Hid (WA p (xs ++ [((n : Nat) : Int).toNat] ++ (cls.take k).flatMap (fun c => wordsC c.p)) wr) ∧ Hid (KW p W0 wr)) (fun i _ => n - (intOf i).toNat)
  case atStart => exact ⟨0, Nat.zero_le _, rfl, Lib.hid (by simpa using A1.out), K1⟩
  case round =>
    clear x1 y1
    obtain ⟨k, hk, rfl, hA, hK⟩ := hrel
    by_cases hlt : k < n
    · have hkl : k < cls.length := by rw [← Hn.out]; exact hlt
      have hbw : Below p w wr := K0.out.1.trans hK.out.1
      obtain ⟨ad, rfl, hab, c0, c1, c2, c3, c4⟩ := (HS.out.below hbw).cls (k := k) hkl
      have hlc := (HCl.out _ (List.getElem_mem hkl)).below hbw
      have hz := HBK.out _ hK.out
      have x2 := hz.1.cell 0
      have lx := hz.1.lt
      simp at x2
      have Htk : Hid ((cls.take (k + 1)).flatMap (fun c => wordsC c.p) = (cls.take k).flatMap (fun c => wordsC c.p) ++ wordsC cls[k].p) := Lib.hid (by
        rw [List.take_succ_eq_append_getElem hkl, List.flatMap_append]
        simp)
      have hln : (xs ++ [((n : Nat) : Int).toNat] ++ (cls.take k).flatMap (fun c => wordsC c.p)).length + 100000 ≤ 1099511627776 := by
        have h1 := flat_le12 (fun c : Cls => wordsC c.p) 1000 (cls.take k) (fun c hc => HFl.out c (List.mem_of_mem_take hc))
        have h2 : (cls.take k).length ≤ 4 := by rw [List.length_take]; omega
        have h3 : (cls.take k).length * 1000 ≤ 4 * 1000 := Nat.mul_le_mul_right _ h2
        simp only [List.length_append, List.length_singleton]
        omega
      have f5 : Fr No wr (wr.alloc (.cells #[.string cls[k].name, .int .i64 cls[k].args, .slice cls[k].sA cls[k].steps.length cls[k].sc, .slice cls[k].uA cls[k].comps.length cls[k].uc, .bool cls[k].res] 59)) := (Fr.refl _ _).alloc _
      have hpr : p ≤ wr.heap.size := Nat.le_of_lt hA.out.lt
      have HP := Lib.hid (put11_any p _ cls[k] _ (hA.out.quiet f5) ((hlc.below (f5.toBelow hpr (fun _ e => e.elim))).s) ((hlc.below (f5.toBelow hpr (fun _ e => e.elim))).u) ((hlc.below (f5.toBelow hpr (fun _ e => e.elim))).ss) ((hlc.below (f5.toBelow hpr (fun _ e => e.elim))).us) hlc.a hlc.n hlc.m hlc.nm hln)
      have HK5 := Lib.hid (hK.out.trans (KW.quiet hpr f5))
      unfold Cls.agg at HP
      generalize wordsC cls[k].p = wk at *
      generalize cls[k].steps.length = L at *
      generalize cls[k].comps.length = M at *
      generalize cls[k].name = nm at *
      generalize cls[k].args = ar at *
      generalize cls[k].sA = sA at *
      generalize cls[k].sc = sc at *
      generalize cls[k].uA = uA at *
      generalize cls[k].uc = uc at *
      generalize cls[k].res = re at *
      clear hlc hz hA hK f5 hln hbw
      gi_wp2_with fail
      refine ⟨trivial, ?_⟩
      gi_at_call 24
      refine (callsIn_wide.2 (HP.out)).mono ?_
      rintro e w2 ⟨rfl, a2, q2⟩
      have A2 : Hid (WA p (xs ++ [((n : Nat) : Int).toNat] ++ (cls.take (k + 1)).flatMap (fun c => wordsC c.p)) w2) := Lib.hid (by rw [Htk.out, ← List.append_assoc]; exact a2)
      have K2 := Lib.hid (HK5.out.trans q2)
      clear a2 q2 HP HK5 x2
      gi_wp2
      go_roundw
      case rel => exact ⟨k + 1, by omega, by go_num, A2, K2⟩
      case measure => simp [intOf]; omega
    · obtain rfl : k = n := by omega
      have HA3 : Hid (WA p (xs ++ [((k : Nat) : Int).toNat] ++ cls.flatMap (fun c => wordsC c.p)) wr) := Lib.hid (by
        have h1 := hA.out
        rwa [List.take_of_length_le (by rw [← Hn.out]; exact Nat.le_refl _)] at h1)
      have hz := HBK.out _ hK.out
      have hld := Lib.hid (HZW.out _ hz.2)
      have x2 := hz.1.cell 0
      simp at x2
      have HKr := hK
      clear hA hz
      gi_wp2_with (first
        | ((with_reducible refine wplIn_ld ?_ ?_ hld.out ?_); (· rfl); (· rfl); simp only [Act.put, List.setIfInBounds_toArray, List.set_cons_zero, List.set_cons_succ])
        | (refine ⟨trivial, ?_⟩; gi_at_call 25; refine (pairs_in12 Fence.wide _ trivial rfl Z cA k cc b HZ.out hn4 _).mono ?_; rintro e w' ⟨rfl, rfl⟩)
        | (refine ⟨trivial, ?_⟩))
      clear x2 hld
      obtain ⟨W1, hW1⟩ : ∃ W1, W1 = (wr.alloc (.cells Z 26)).alloc (.cells #[.int .i64 (k : Int)] 3) := ⟨_, rfl⟩
      have hsz : W1.heap.size = wr.heap.size + 2 := by rw [hW1]; simp
      have hf1 : Fr No wr W1 := by rw [hW1]; exact ((Fr.refl _ _).alloc _).alloc _
      have bN : Bk W1 (wr.heap.size + 1) 3 #[.int .i64 (k : Int)] := by
        have h := Bk.made (wr.alloc (.cells Z 26)) 3 #[.int .i64 (k : Int)]
        rw [World.size_alloc] at h
        rw [hW1]
        exact h
      rw [← hW1]
      have hpr : p ≤ wr.heap.size := Nat.le_of_lt HA3.out.lt
      have hKW1 : KW p W0 W1 := HKr.out.trans (KW.quiet hpr hf1)
      have hKWw : KW p w W1 := K0.out.trans hKW1
      have hz1 := HBK.out _ hKW1
      obtain ⟨ys, hys⟩ : ∃ ys, Hid (ys = xs ++ [((k : Nat) : Int).toNat] ++ cls.flatMap (fun c => wordsC c.p)) := ⟨_, Lib.hid rfl⟩
      rw [← hys.out] at HA3
      have Hyl : Hid (ys.length + 100 ≤ 1099511627776) := Lib.hid (by
        rw [hys.out]
        have h1 := flat_le12 (fun c : Cls => wordsC c.p) 1000 cls (fun c hc => HFl.out c hc)
        have h3 : cls.length * 1000 ≤ 4 * 1000 := Nat.mul_le_mul_right _ (by rw [← Hn.out]; exact hn4)
        simp only [List.length_append, List.length_singleton]
        omega)
      have hA1 := HA3.out.quiet hf1
      have hw1 : w.heap.size ≤ W1.heap.size := hKWw.2.2.size
      have Hpw := Lib.hid (Nat.le_of_lt Hlp.out)
      have hbn : wr.heap.size + 1 < W1.heap.size := by omega
      clear hW1 hf1 hKW1 hK HA3
      obtain ⟨bx, hbx⟩ : ∃ bx, bx = wr.heap.size + 1 := ⟨_, rfl⟩
      rw [← hbx] at bN hbn ⊢
      clear hbx
      have hsq : SeqStopsK Fence.wide 2 Tryz.prog 50 #[.pointer (some ⟨bx, 0, none⟩)] (encX (n := k)) (KpX bx k) (fun zs => zs.map (·.1) = List.range (k * k)) (fun pre => pre.map (·.1) <+: List.range (k * k)) (k * k) W1 := fun lp J Jx W hW hJ _ hY h0 =>
        pairsX_in 2 lp bx k W (by omega) hn4 ((hW.block _ bN.lt).trans bN) J Jx hJ hY h0
      refine wpIn_rangeFunc_ownH rfl h3 (gf := 50) (lb := #[.pointer (some ⟨bx, 0, none⟩)]) rfl trivial (enters_of Tryz.func50 (by kernel_rfl) rfl)
        hsq KpX.trans (fun W l o o' _ h hc _ => KpX.putObj W l o o' h hc) (Below.refl _ _) (fun _ => rfl)
        (PtI p ys b k w w.heap.size Z)
        (fun _ _ _ => False)
        (PtI.own p ys b k w w.heap.size Z _ Hpw.out hw1)
        (fun cd pre X Y row hs hg hr => hs.elim)
        ⟨by simpa using hA1, hz1.1, hz1.2, hKWw⟩
        (fun x a' W => a' = { tmps := #[.pointer (some ⟨p, 0, none⟩), .agg Z, .pointer (some ⟨w.heap.size, 0, none⟩), .pointer (some ⟨w.heap.size + 1, 0, none⟩), undef, u5, .int .i64 ((x.1 / k : Nat) : Int), .int .i64 ((x.1 % k : Nat) : Int), .pointer (some ⟨p, 0, none⟩), .bool false, .pointer (some ⟨p, 0, none⟩), .pointer (some ⟨w.heap.size + 1, 0, none⟩), .slice cA k cc, .int .i64 (k : Int), .tuple #[], .pointer (some ⟨w.heap.size + 1, 0, none⟩), .slice cA k cc, .int .i64 (k : Int), .int .i64 (k : Int), .bool false, u20, u21, u22, u23, u24, u25, .agg Z, .func (.func 50) #[] #[.pointer (some ⟨bx, 0, none⟩)], .int .i64 ((x.1 / k : Nat) : Int), .int .i64 ((x.1 % k : Nat) : Int), undef, undef, undef, undef, undef, undef, undef, undef], defers := [] })
        (fun x a' _ X Y row hs hg hr => hs)
        ?assign ?body ?done ?stop
      case assign =>
        rintro lp pre x W K hI hK
        unfold encX
        dsimp only
        gi_wp2
        exact hK _ _ (KeepsFrom.refl _ _) (KpX.refl W) hI rfl
      case body =>
        rintro lp pre ⟨i, hi⟩ a' W hl hr hI rfl hlt
        have fD : Fr No W W.drew := (Fr.refl No W).drew
        obtain ⟨hA, hW, hC, hK⟩ := hI
        have hn0 : 0 < k := by
          rcases Nat.eq_zero_or_pos k with e | e
          · subst e
            omega
          · exact e
        have hc4 : i / k < 4 := by
          have := Nat.div_lt_of_lt_mul hi
          omega
        have hd4 : i % k < 4 := by
          have := Nat.mod_lt i hn0
          omega
        have hpl : ((pre.map (·.1)).map (brW b k)).length ≤ 16 := by
          have h1 : k * k ≤ 4 * 4 := Nat.mul_le_mul hn4 hn4
          simp only [List.length_map]
          omega
        have hbI := HBI.out (i / k * 4 + i % k) (by omega)
        have Hst := Lib.hid ((hA.quiet fD).step (fun g h hg => count_any p g _ (b (i / k * 4 + i % k)) _ h hbI.1 hbI.2 (by rw [List.length_append]; have := Hyl.out; omega)))
        have Hs2 : Hid (ys ++ ((pre ++ [⟨i, hi⟩] : List (PX k)).map (·.1)).map (brW b k) = (ys ++ (pre.map (·.1)).map (brW b k)) ++ [(b (i / k * 4 + i % k)).toNat]) := Lib.hid (by
          rw [List.map_append, List.map_append, List.append_assoc]
          rfl)
        have hpW : p ≤ W.heap.size := Nat.le_of_lt hA.lt
        have HK := Lib.hid (hK.trans (KW.quiet hpW fD))
        have HKD := Lib.hid (KW.quiet hpW fD)
        have HWC := Lib.hid (And.intro (hW.fr fD (fun e => e)) (hC.fr fD (fun e => e)))
        have x1 : W.drew.cell? ⟨w.heap.size, 0, none⟩ = some (.pointer (some ⟨p, 0, none⟩)) := (hW.fr fD (fun e => e)).cell 0
        have x2 := HYb.out W.drew (hC.fr fD (fun e => e)) (i / k) (i % k) hc4 hd4
        obtain ⟨c, hce⟩ : ∃ c, c = i / k := ⟨_, rfl⟩
        obtain ⟨d, hde⟩ : ∃ d, d = i % k := ⟨_, rfl⟩
        rw [← hce, ← hde] at Hst Hs2 x2
        rw [← hce] at hc4
        rw [← hde] at hd4
        rw [← hce, ← hde]
        have ic4 : ((c : Nat) : Int) < 4 := by omega
        have id4 : ((d : Nat) : Int) < 4 := by omega
        obtain ⟨u, hu⟩ : ∃ u, Hid (u = b (c * 4 + d)) := ⟨_, Lib.hid rfl⟩
        rw [← hu.out] at Hst Hs2 x2
        clear hA hW hC hK hlt hl hr hce hde fD hpl hbI hn0
        gi_wp2_with fail
        refine region_round12 (by kernel_rfl) (noDefer_of (by kernel_rfl)) rfl ?_
        refine take12 31 (.int .i64 (c : Int)) (i := 1) rfl rfl rfl (by kernel_rfl) (by kernel_rfl) (by kernel_rfl) (fun _ _ _ h => h) (by rfl) (by intro w; go_simp; try with_reducible rfl) (fun _ => rfl) ?_
        simp only [Act.put, List.setIfInBounds_toArray, List.set_cons_zero, List.set_cons_succ]
        refine take12 32 (.int .i64 (d : Int)) (i := 2) rfl rfl rfl (by kernel_rfl) (by kernel_rfl) (by kernel_rfl) (fun _ _ _ h => h) (by rfl) (by intro w; go_simp; try with_reducible rfl) (fun _ => rfl) ?_
        simp only [Act.put, List.setIfInBounds_toArray, List.set_cons_zero, List.set_cons_succ]
        refine take12 33 (.pointer (some ⟨w.heap.size + 1, 1, none⟩)) (i := 3) rfl rfl rfl (by kernel_rfl) (by kernel_rfl) (by kernel_rfl) (fun _ _ _ h => h) (by rfl) (by intro w; go_simp; try with_reducible rfl) (fun _ => rfl) ?_
        simp only [Act.put, List.setIfInBounds_toArray, List.set_cons_zero, List.set_cons_succ]
        refine take12 34 (.pointer (some ⟨w.heap.size + 1, 1 + c * 4, none⟩)) (i := 4) rfl rfl rfl (by kernel_rfl) (by kernel_rfl) (by kernel_rfl) (fun _ _ _ h => h) (by rfl) (by intro w; go_simp; try with_reducible rfl) (fun _ => rfl) ?_
        simp only [Act.put, List.setIfInBounds_toArray, List.set_cons_zero, List.set_cons_succ]
        refine take12 35 (.pointer (some ⟨w.heap.size + 1, 1 + c * 4 + d, none⟩)) (i := 5) rfl rfl rfl (by kernel_rfl) (by kernel_rfl) (by kernel_rfl) (fun _ _ _ h => h) (by rfl) (by intro w; go_simp; try with_reducible rfl) (fun _ => rfl) ?_
        simp only [Act.put, List.setIfInBounds_toArray, List.set_cons_zero, List.set_cons_succ]
        refine wpAnyIn_ready (rs := [0, 6]) (by kernel_rfl) (by simp) ?_
        refine AllReadyIn.cons rfl (fun K' hK' => ?_) (AllReadyIn.cons rfl (fun K' hK' => ?_) AllReadyIn.nil)
        · refine oneIn_val12 (w' := W.drew) 30 (v := .pointer (some ⟨p, 0, none⟩)) rfl rfl (by rfl) (by go_simp) rfl ?_
          simp only [Act.put, List.setIfInBounds_toArray, List.set_cons_zero, List.set_cons_succ]
          refine hK' _ _ ?_
          clear hK'
          refine val12 36 (.int .i64 u) (i := 6) rfl (by kernel_rfl) rfl rfl (by rfl) (by go_simp) rfl ?_
          simp only [Act.put, List.setIfInBounds_toArray, List.set_cons_zero, List.set_cons_succ]
          refine call12 37 (i := 7) (f := 23) (args := #[.pointer (some ⟨p, 0, none⟩), .int .i64 u]) rfl (by kernel_rfl) rfl rfl (by rfl) (by go_simp) (R := fun v W' => v = .tuple #[] ∧ WA p (ys ++ (pre.map (·.1)).map (brW b k) ++ [u.toNat]) W' ∧ KW p W.drew W') (Hst.out.mono (fun e W' h => ⟨_, h.1, rfl, h.2⟩)) ?_
          rintro v W2 ⟨rfl, hA2, hK2⟩
          simp only [Act.put, List.setIfInBounds_toArray, List.set_cons_zero, List.set_cons_succ]
          refine wpAnyIn_done (by kernel_rfl) ?_ _
          have HA2 := Lib.hid hA2
          have HK2 := Lib.hid hK2
          clear hA2 hK2
          gi_wp2
          refine ⟨(HKD.out.trans HK2.out).2.2.from _, fun hb => (HKD.out.trans HK2.out).2.1 _ _ _ (by decide) (by decide) hb, ?_⟩
          refine ⟨?_, HK2.out.2.1 _ _ _ (by decide) (by decide) HWC.out.1, HK2.out.2.1 _ _ _ (by decide) (by decide) HWC.out.2, HK.out.trans HK2.out⟩
          rw [Hs2.out]
          exact HA2.out
        · refine oneIn_val12 (w' := W.drew) 36 (v := .int .i64 u) rfl rfl (by rfl) (by go_simp) rfl ?_
          simp only [Act.put, List.setIfInBounds_toArray, List.set_cons_zero, List.set_cons_succ]
          refine hK' _ _ ?_
          clear hK'
          refine val12 30 (.pointer (some ⟨p, 0, none⟩)) (i := 0) rfl (by kernel_rfl) rfl rfl (by rfl) (by go_simp) rfl ?_
          simp only [Act.put, List.setIfInBounds_toArray, List.set_cons_zero, List.set_cons_succ]
          refine call12 37 (i := 7) (f := 23) (args := #[.pointer (some ⟨p, 0, none⟩), .int .i64 u]) rfl (by kernel_rfl) rfl rfl (by rfl) (by go_simp) (R := fun v W' => v = .tuple #[] ∧ WA p (ys ++ (pre.map (·.1)).map (brW b k) ++ [u.toNat]) W' ∧ KW p W.drew W') (Hst.out.mono (fun e W' h => ⟨_, h.1, rfl, h.2⟩)) ?_
          rintro v W2 ⟨rfl, hA2, hK2⟩
          simp only [Act.put, List.setIfInBounds_toArray, List.set_cons_zero, List.set_cons_succ]
          refine wpAnyIn_done (by kernel_rfl) ?_ _
          have HA2 := Lib.hid hA2
          have HK2 := Lib.hid hK2
          clear hA2 hK2
          gi_wp2
          refine ⟨(HKD.out.trans HK2.out).2.2.from _, fun hb => (HKD.out.trans HK2.out).2.1 _ _ _ (by decide) (by decide) hb, ?_⟩
          refine ⟨?_, HK2.out.2.1 _ _ _ (by decide) (by decide) HWC.out.1, HK2.out.2.1 _ _ _ (by decide) (by decide) HWC.out.2, HK.out.trans HK2.out⟩
          rw [Hs2.out]
          exact HA2.out
      case done =>
        rintro D zs W hD hzs ⟨hA, hW, hC, hK⟩ hKD
        have hA9 : Hid (WA p (xs ++ wordsQ (Ctl.p ⟨cA, cls, cc, b⟩)) W) := Lib.hid (by
          have e1 : xs ++ wordsQ (Ctl.p ⟨cA, cls, cc, b⟩) = ys ++ (zs.map (·.1)).map (brW b k) := by
            rw [Hwq.out, hys.out, hzs]
            simp
          rw [e1]
          exact hA)
        have HKw := Lib.hid hK
        have HD := Lib.hid hKD
        clear hA hW hC hK hKD hzs
        gi_wp2
        refine ⟨by simp, .inl ⟨_, _, rfl, run_takeDeferred HD.out, ?_⟩⟩
        exact ⟨_, results_none rfl _ _ _, rfl, hA9.out.putD HD.out rfl, HKw.out.putD (by omega) Hpw.out HD.out rfl⟩
      case stop =>
        rintro D cd pre W _ _ h _
        exact h.elim
end Go.Proofs.YtbemfomiiikpoaaGreat
