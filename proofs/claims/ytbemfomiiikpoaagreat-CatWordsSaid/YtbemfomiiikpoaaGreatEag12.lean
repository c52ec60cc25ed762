/- Package cat: each, at the function that reads. -/
import Derived.Test.YtbemfomiiikpoaaGreatEac12
namespace Go.Proofs.YtbemfomiiikpoaaGreat
open Go.RowKit Go.Shelf

attribute [local go_sem] Oper.semAt_some

set_option maxRecDepth 100000 in
set_option maxHeartbeats 4000000 in
theorem each_get {σ : Type} (Z : Array Value) (cA : Option Addr) (n cc : Nat) (b : Nat → Int) (hZ : Z = brA (.slice cA n cc) b) (hn : n ≤ 4) (q0 q1 : Addr) (w : World)
    (R : σ → World → Prop) (T : Nat → Prop) (val : σ → Nat → Int) (nxt : σ → Nat → σ) (s0 : σ) (hT : ∀ i, T i → i < w.heap.size) (hR0 : R s0 w) (hR : ∀ s W W', R s W → Fr (fun i => w.heap.size ≤ i) W W' → R s W')
    (hcl : ∀ s i W, i < n * n → Fr T w W → R s W → Calls Tryz.prog 52 #[.int .i64 ((i / n : Nat) : Int), .int .i64 ((i % n : Nat) : Int), .pointer (some q0), .pointer (some q1)] W (fun e W' => e = .returned (.int .i64 (val s i)) ∧ R (nxt s i) W' ∧ Fr T W W')) :
    Calls Tryz.prog 35 #[.agg Z, .func (.func 52) #[] #[.pointer (some q0), .pointer (some q1)]] w fun e w' => e = .returned (.agg (br16 (stE val nxt n s0 (List.range (n * n))).2)) ∧ R (stE val nxt n s0 (List.range (n * n))).1 w' ∧ Fr T w w' := by
  obtain ⟨s, hs⟩ : ∃ s, Hid (s = stE val nxt n s0 (List.range (n * n))) := ⟨_, Lib.hid rfl⟩
  rw [← hs.out]
  have Hp := Lib.hid (fun m W => pairs_in12 Fence.wide m trivial rfl Z cA n cc b hZ hn W)
  obtain ⟨W0, hW0⟩ : ∃ W0, W0 = (((w.alloc (.cells Z 26)).alloc (.cells #[.func (.func 52) #[] #[.pointer (some q0), .pointer (some q1)]] 86)).alloc (.cells (br16 fun _ => 0) 24)).alloc (.cells (br16 fun _ => 0) 24) := ⟨_, rfl⟩
  have bZ : Bk W0 w.heap.size 26 Z := by rw [hW0]; exact (((Bk.made w _ _).fr ((Fr.refl No _).alloc _) (fun e => e)).fr ((Fr.refl No _).alloc _) (fun e => e)).fr ((Fr.refl No _).alloc _) (fun e => e)
  have Hsz0 : Hid (W0.heap.size = w.heap.size + 4) := Lib.hid (by rw [hW0]; simp)
  have HE0 : Hid (E12 R T w (.func (.func 52) #[] #[.pointer (some q0), .pointer (some q1)]) (s0, fun _ => 0) W0) := Lib.hid (by
    have hf0 : Fr No w W0 := by rw [hW0]; exact ((((Fr.refl _ _).alloc _).alloc _).alloc _).alloc _
    refine ⟨?_, ?_, ?_, hR _ _ _ hR0 (hf0.weak (fun _ _ e => e.elim)), hf0.weak (fun _ _ e => e.elim)⟩
    · have h := Bk.made (w.alloc (.cells Z 26)) 86 #[.func (.func 52) #[] #[.pointer (some q0), .pointer (some q1)]]
      rw [World.size_alloc] at h
      rw [hW0]
      exact (h.fr ((Fr.refl No _).alloc _) (fun e => e)).fr ((Fr.refl No _).alloc _) (fun e => e)
    · have h := Bk.made ((w.alloc (.cells Z 26)).alloc (.cells #[.func (.func 52) #[] #[.pointer (some q0), .pointer (some q1)]] 86)) 24 (br16 fun _ => 0)
      rw [World.size_alloc, World.size_alloc] at h
      rw [hW0]
      exact h.fr ((Fr.refl No _).alloc _) (fun e => e)
    · have h := Bk.made (((w.alloc (.cells Z 26)).alloc (.cells #[.func (.func 52) #[] #[.pointer (some q0), .pointer (some q1)]] 86)).alloc (.cells (br16 fun _ => 0) 24)) 24 (br16 fun _ => 0)
      rw [World.size_alloc, World.size_alloc, World.size_alloc] at h
      rw [hW0]
      exact h)
  have hld := Lib.hid (ld_cat hZ bZ)
  unfold br16 at hW0
  have hwe := hW0.symm
  have HT := Lib.hid hT
  have HR := Lib.hid hR
  have Hcl := Lib.hid hcl
  clear hZ hW0 bZ hT hR hcl hR0
  refine (callsIn_wide (n := 3)).1 ?_
  have h1 : 1 ≤ 3 := by omega
  refine callsIn_of_wp_marks Tryz.func35 rfl trivial ?_ rfl
  simp only [Tryz.ntmps35, List.size_toArray, List.length_cons, List.length_nil, Nat.reduceAdd, Nat.reduceSub, Array.replicate_succ, Array.replicate_zero, List.push_toArray, List.append_toArray, List.nil_append, List.cons_append]
  gi_wp2_with (first
    | ((with_reducible refine wplIn_ld ?_ ?_ hld.out ?_); (· rfl); (· rfl); simp only [Act.put, List.setIfInBounds_toArray, List.set_cons_zero, List.set_cons_succ])
    | (refine ⟨trivial, ?_⟩; gi_at_call 25; refine (Hp.out _ _).mono ?_; rintro e w' ⟨rfl, rfl⟩)
    | (refine ⟨trivial, ?_⟩))
  clear hwe hld
  have hsz0 := Hsz0.out
  obtain ⟨W1, hW1⟩ : ∃ W1, W1 = (W0.alloc (.cells Z 26)).alloc (.cells #[.int .i64 (n : Int)] 3) := ⟨_, rfl⟩
  have hsz : W1.heap.size = w.heap.size + 6 := by rw [hW1]; simp [hsz0]
  have hf1 : Fr No W0 W1 := by rw [hW1]; exact ((Fr.refl _ _).alloc _).alloc _
  have bN : Bk W1 (W0.heap.size + 1) 3 #[.int .i64 (n : Int)] := by
    have h := Bk.made (W0.alloc (.cells Z 26)) 3 #[.int .i64 (n : Int)]
    rw [World.size_alloc] at h
    rw [hW1]
    exact h
  rw [← hW1]
  have h01 : E12 R T w (.func (.func 52) #[] #[.pointer (some q0), .pointer (some q1)]) (s0, fun _ => 0) W1 := ⟨HE0.out.fn.fr hf1 (fun e => e), HE0.out.res.fr hf1 (fun e => e), HE0.out.br.fr hf1 (fun e => e), HR.out _ _ _ HE0.out.r (hf1.weak (fun _ _ e => e.elim)), HE0.out.fr.trans' hf1 (fun _ _ e => e.elim)⟩
  have hB0 : w.heap.size ≤ W1.heap.size := by omega
  obtain ⟨bx, hbx⟩ : ∃ bx, bx = W0.heap.size + 1 := ⟨_, rfl⟩
  rw [← hbx] at bN ⊢
  have hbx5 : bx = w.heap.size + 5 := by omega
  have hbx6 : bx < W1.heap.size := by omega
  have HBX := Lib.hid hbx5
  clear hW1 hbx hbx5 HE0 hf1 hsz0
  have hsq : SeqStopsK Fence.wide 2 Tryz.prog 50 #[.pointer (some ⟨bx, 0, none⟩)] (encX (n := n)) (KpX bx n) (fun ys => ys.map (·.1) = List.range (n * n)) (fun pre => pre.map (·.1) <+: List.range (n * n)) (n * n) W1 := fun lp J Jx W hW hJ _ hY h0 =>
    pairsX_in 2 lp bx n W (by omega) hn ((hW.block _ bN.lt).trans bN) J Jx hJ hY h0
  refine wpIn_rangeFunc_ownH rfl h1 (gf := 50) (lb := #[.pointer (some ⟨bx, 0, none⟩)]) rfl trivial (enters_of Tryz.func50 (by kernel_rfl) rfl)
    hsq KpX.trans (fun W l o o' _ h hc _ => KpX.putObj W l o o' h hc) (Below.refl _ _) (fun _ => rfl)
    (fun pre W => E12 R T w (.func (.func 52) #[] #[.pointer (some q0), .pointer (some q1)]) (stE val nxt n s0 (pre.map (·.1))) W)
    (fun _ _ _ => False)
    (E12.own hB0 HR.out)
    (fun cd pre X Y row hs hg hr => hs.elim)
    h01
    (fun x a' W => a' = { tmps := #[.agg Z, .func (.func 52) #[] #[.pointer (some q0), .pointer (some q1)], .pointer (some ⟨w.heap.size, 0, none⟩), .pointer (some ⟨w.heap.size + 1, 0, none⟩), .pointer (some ⟨w.heap.size + 1 + 1, 0, none⟩), .pointer (some ⟨w.heap.size + 1 + 1 + 1, 0, none⟩), .int .i64 ((x.1 / n : Nat) : Int), .int .i64 ((x.1 % n : Nat) : Int), .agg Z, .func (.func 50) #[] #[.pointer (some ⟨bx, 0, none⟩)], .int .i64 ((x.1 / n : Nat) : Int), .int .i64 ((x.1 % n : Nat) : Int), undef, undef, undef, undef, undef, undef, undef, undef, undef], defers := [] })
    (fun x a' _ X Y row hs hg hr => hs)
    ?assign ?body ?done ?stop
  case assign =>
    rintro lp pre x W K hI hK
    unfold encX
    dsimp only
    gi_wp2
    exact hK _ _ (KeepsFrom.refl _ _) (KpX.refl W) hI rfl
  case body =>
    rintro lp pre ⟨i, hi⟩ a' W hl hr hI rfl hlt
    clear hs
    obtain ⟨s, hs⟩ : ∃ s, Hid (s = stE val nxt n s0 (pre.map (·.1))) := ⟨_, Lib.hid rfl⟩
    rw [← hs.out] at hI
    have fD : Fr No W W.drew := (Fr.refl No W).drew
    have hID : E12 R T w (.func (.func 52) #[] #[.pointer (some q0), .pointer (some q1)]) s W.drew := ⟨hI.fn.fr fD (fun e => e), hI.res.fr fD (fun e => e), hI.br.fr fD (fun e => e), HR.out _ _ _ hI.r (fD.weak (fun _ _ e => e.elim)), hI.fr.trans' fD (fun _ _ e => e.elim)⟩
    have HID := Lib.hid hID
    have Hs2 : Hid (stE val nxt n s0 ((pre ++ [⟨i, hi⟩] : List (PX n)).map (·.1)) = (nxt s.1 i, updB s.2 (i / n * 4 + i % n) (val s.1 i))) := Lib.hid (by
      rw [List.map_append, hs.out]
      exact stE_snoc val nxt n s0 (pre.map (·.1)) i)
    have Hc := Lib.hid (Hcl.out s.1 i W.drew hi hID.fr hID.r)
    have hn0 : 0 < n := by
      rcases Nat.eq_zero_or_pos n with e | e
      · subst e
        omega
      · exact e
    have hc4 : i / n < 4 := by
      have := Nat.div_lt_of_lt_mul hi
      omega
    have hd4 : i % n < 4 := by
      have := Nat.mod_lt i hn0
      omega
    have HF : Hid (∀ V u, Fr T W.drew V → KeepsFrom W1.heap.size W (V.setCell ⟨w.heap.size + 1 + 1 + 1, i / n * 4 + i % n, none⟩ u) ∧ KpX bx n W (V.setCell ⟨w.heap.size + 1 + 1 + 1, i / n * 4 + i % n, none⟩ u)) := Lib.hid (fun V u h => by
      have h3 : Fr (fun i => T i ∨ i = w.heap.size + 1 + 1 + 1) W (V.setCell ⟨w.heap.size + 1 + 1 + 1, i / n * 4 + i % n, none⟩ u) := ((fD.weak (fun _ _ e => e.elim)).trans' h (fun _ _ e => .inl e)).setCell (p := ⟨w.heap.size + 1 + 1 + 1, i / n * 4 + i % n, none⟩) (.inl (.inr rfl)) u
      refine ⟨⟨h3.size, fun k o hk ho _ => (h3.block k (Array.getElem?_eq_some_iff.1 ho).1 (fun e => ?_)).trans ho⟩, KpX.fr h3 (fun e => ?_)⟩
      · rcases e with e | e
        · have := HT.out _ e
          omega
        · omega
      · have := HBX.out
        rcases e with e | e
        · have := HT.out _ e
          omega
        · omega)
    have HI2 : Hid (∀ V, Fr T W.drew V → R (nxt s.1 i) V → E12 R T w (.func (.func 52) #[] #[.pointer (some q0), .pointer (some q1)]) (nxt s.1 i, s.2) V) := Lib.hid (fun V h hr => HID.out.step HT.out hr h)
    have x1 : W.drew.cell? ⟨w.heap.size + 1, 0, none⟩ = some (.func (.func 52) #[] #[.pointer (some q0), .pointer (some q1)]) := hID.fn.cell 0
    obtain ⟨c, hce⟩ : ∃ c, c = i / n := ⟨_, rfl⟩
    obtain ⟨d, hde⟩ : ∃ d, d = i % n := ⟨_, rfl⟩
    rw [← hce, ← hde] at Hc Hs2 HF
    rw [← hce] at hc4
    rw [← hde] at hd4
    rw [← hce, ← hde]
    have ic4 : ((c : Nat) : Int) < 4 := by omega
    have id4 : ((d : Nat) : Int) < 4 := by omega
    clear hI hID hlt hl hr hce hde fD
    obtain ⟨u, hu⟩ : ∃ u, Hid (u = val s.1 i) := ⟨_, Lib.hid rfl⟩
    rw [← hu.out] at Hc Hs2
    gi_wp2_with fail
    refine region_round12 (by kernel_rfl) (noDefer_of (by kernel_rfl)) rfl ?_
    refine take12 12 (.int .i64 (c : Int)) (i := 0) rfl rfl rfl (by kernel_rfl) (by kernel_rfl) (by kernel_rfl) (fun _ _ _ h => h) (by rfl) (by intro w; go_simp; try with_reducible rfl) (fun _ => rfl) ?_
    simp only [Act.put, List.setIfInBounds_toArray, List.set_cons_zero, List.set_cons_succ]
    refine take12 13 (.int .i64 (d : Int)) (i := 1) rfl rfl rfl (by kernel_rfl) (by kernel_rfl) (by kernel_rfl) (fun _ _ _ h => h) (by rfl) (by intro w; go_simp; try with_reducible rfl) (fun _ => rfl) ?_
    simp only [Act.put, List.setIfInBounds_toArray, List.set_cons_zero, List.set_cons_succ]
    refine take12 15 (.int .i64 (c : Int)) (i := 3) rfl rfl rfl (by kernel_rfl) (by kernel_rfl) (by kernel_rfl) (fun _ _ _ h => h) (by rfl) (by intro w; go_simp; try with_reducible rfl) (fun _ => rfl) ?_
    simp only [Act.put, List.setIfInBounds_toArray, List.set_cons_zero, List.set_cons_succ]
    refine take12 16 (.int .i64 (d : Int)) (i := 4) rfl rfl rfl (by kernel_rfl) (by kernel_rfl) (by kernel_rfl) (fun _ _ _ h => h) (by rfl) (by intro w; go_simp; try with_reducible rfl) (fun _ => rfl) ?_
    simp only [Act.put, List.setIfInBounds_toArray, List.set_cons_zero, List.set_cons_succ]
    refine take12 18 (.pointer (some ⟨w.heap.size + 1 + 1 + 1, c * 4, none⟩)) (i := 6) rfl rfl rfl (by kernel_rfl) (by kernel_rfl) (by kernel_rfl) (fun _ _ _ h => h) (by rfl) (by intro w; go_simp; try with_reducible rfl) (fun _ => rfl) ?_
    simp only [Act.put, List.setIfInBounds_toArray, List.set_cons_zero, List.set_cons_succ]
    refine val12 14 (.func (.func 52) #[] #[.pointer (some q0), .pointer (some q1)]) (i := 2) rfl (by kernel_rfl) rfl rfl (by rfl) (by go_simp) rfl ?_
    simp only [Act.put, List.setIfInBounds_toArray, List.set_cons_zero, List.set_cons_succ]
    refine call12 17 (i := 5) (f := 52) (args := #[.int .i64 (c : Int), .int .i64 (d : Int), .pointer (some q0), .pointer (some q1)]) rfl (by kernel_rfl) rfl rfl (by rfl) (by go_simp) (R := fun v W' => v = .int .i64 u ∧ R (nxt s.1 i) W' ∧ Fr T W.drew W') (Hc.out.mono (fun e W' h => ⟨_, h.1, rfl, h.2⟩)) ?_
    rintro v W2 ⟨rfl, hr2, hf2⟩
    simp only [Act.put, List.setIfInBounds_toArray, List.set_cons_zero, List.set_cons_succ]
    have h2 := HI2.out W2 hf2 hr2
    have H2 := Lib.hid h2
    have H3 := Lib.hid (HF.out W2 (.int .i64 u) hf2)
    have y1 : W2.cell? ⟨w.heap.size + 1 + 1 + 1, c * 4 + d, none⟩ = some (.int .i64 (s.2 (c * 4 + d))) := by rw [h2.br.cell]; exact br16_at _ (by omega)
    have y2 := h2.br.frozen (c * 4 + d)
    have y3 := h2.br.lt
    clear h2 hr2 hf2
    refine val12 19 (.pointer (some ⟨w.heap.size + 1 + 1 + 1, c * 4 + d, none⟩)) (i := 7) rfl (by kernel_rfl) rfl rfl (by rfl) (by go_simp) rfl ?_
    simp only [Act.put, List.setIfInBounds_toArray, List.set_cons_zero, List.set_cons_succ]
    refine skip12 (i := 8) (w' := W2.setCell ⟨w.heap.size + 1 + 1 + 1, c * 4 + d, none⟩ (.int .i64 u)) rfl (by kernel_rfl) rfl rfl (by rfl) (by go_simp) rfl ?_
    refine wpAnyIn_done (by kernel_rfl) ?_ _
    gi_wp2
    refine ⟨H3.out.1, H3.out.2, ?_⟩
    show E12 R T w _ (stE val nxt n s0 ((pre ++ [⟨i, hi⟩] : List (PX n)).map (·.1))) _
    rw [Hs2.out]
    exact H2.out.put HR.out (by omega) u
  case done =>
    rintro D ys W hD hys hI hK
    rw [hys] at hI
    rw [← hs.out] at hI
    have hld := Lib.hid (ld_br hI.br)
    have hst := Lib.hid (st_br (b' := s.2) hI.res)
    have hne : D ≠ w.heap.size + 1 + 1 := by omega
    obtain ⟨W2, hW2⟩ : ∃ W2, Hid (W2 = W.setRow (w.heap.size + 1 + 1) (br16 s.2)) := ⟨_, Lib.hid rfl⟩
    have b2 : Bk W2 (w.heap.size + 1 + 1) 24 (br16 s.2) := by rw [hW2.out]; exact bk_row12 hI.res _
    have hK2 : W2.heap[D]? = some (.deferred (some [])) := by rw [hW2.out, setRow_other W (w.heap.size + 1 + 1) D _ hne]; exact hK
    have hF2 : Fr (fun i => w.heap.size ≤ i) W W2 := by rw [hW2.out]; exact fr_row12 (Fr.refl _ W) (.inl (by omega)) _
    have hF3 : Fr (fun i => w.heap.size ≤ i) W2 (W2.putObj D (.deferred none)) := (Fr.refl _ W2).grown (grownBy_putObj' W2 D _) (fun k e => by cases e; exact .inl (by omega))
    have HR2 := Lib.hid (HR.out _ _ _ (HR.out _ _ _ hI.r hF2) hF3)
    have HF2 := Lib.hid ((hI.fr.trans' hF2 (fun i hi e => by have e : w.heap.size ≤ i := e; omega)).trans' hF3 (fun i hi e => by have e : w.heap.size ≤ i := e; omega))
    have b3 : Bk (W2.putObj D (.deferred none)) (w.heap.size + 1 + 1) 24 (br16 s.2) := (World.putObj_heap_other (fun e => hne e.symm)).trans b2
    have HL := Lib.hid (ld_br b3)
    have HK2 := Lib.hid hK2
    rw [← hW2.out] at hst
    clear hI hK b2 b3 hK2 hF2 hF3 hys
    gi_wp2_with (first
      | ((with_reducible refine wplIn_ld ?_ ?_ hld.out ?_); (· rfl); (· rfl); simp only [Act.put, List.setIfInBounds_toArray, List.set_cons_zero, List.set_cons_succ])
      | ((with_reducible refine wplIn_st ?_ ?_ ?_ hst.out ?_); (· rfl); (· rfl); (· rfl); simp only [Act.put]))
    refine ⟨by simp, .inl ⟨_, _, rfl, run_takeDeferred HK2.out, ?_⟩⟩
    exact ⟨.agg (br16 s.2), cell_result Tryz.results35 HL.out rfl, rfl, HR2.out, HF2.out⟩
  case stop =>
    rintro D cd pre W hD hpre hI hK
    exact hI.elim
end Go.Proofs.YtbemfomiiikpoaaGreat
