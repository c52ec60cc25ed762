/- Package frames: all frames of words as a stream. -/
import Derived.Test.YtdmllfjeofiddaaEch6
import Derived.Test.YtdmllfjeofiddaaLsf6
namespace Go.Proofs.Ytdmllfjeofiddaa
open Go.RowKit Go.Shelf

attribute [local go_sem] Oper.semAt_some

set_option maxHeartbeats 1000000 in
theorem each_in (F : Fence) (n : Nat) (hF : F.fn 54) (hro : F.round = none) (ep : Int) (A : Option Addr) (m c : Nat) (w : World) :
    CallsIn F n Try.prog 54 #[.int .i64 ep, .slice A m c] w fun e w' => e = .returned (.func (.func 62) #[] #[.pointer (some ⟨w.heap.size, 0, none⟩), .pointer (some ⟨w.heap.size + 1, 0, none⟩)]) ∧
      w' = (w.alloc (.cells #[.int .i64 ep] 3)).alloc (.cells #[.slice A m c] 36) := by
  refine callsIn_of_wp Try.func54 rfl hF ?_ hro
  simp only [Try.ntmps54, List.size_toArray, List.length_cons, List.length_nil, Nat.reduceAdd, Nat.reduceSub, Array.replicate_succ, Array.replicate_zero, List.push_toArray, List.append_toArray, List.nil_append, List.cons_append]
  gi_wp2
  go_ret
  exact ⟨rfl, rfl⟩

theorem bk_own6 {β : Type} (B g : Nat) (t : TypeId) (cs : Array Value) : OwnFrom B (fun (_ : β) W => Bk W g t cs) := fun _ X Y row hs hg hr =>
  hs.grown hg (fun e => by
    obtain ⟨-, o, ho, hc⟩ := hr g e
    rw [show X.heap[g]? = _ from hs] at ho
    cases ho
    cases hc)
theorem row_own6 {β : Type} (B n₀ : Nat) (e : TypeId) (size : Nat) (v : Value) (n : Nat) (xs : List Value) : OwnFrom B (fun (_ : β) W => W.ownsRow n₀ e size v n xs) := fun _ X Y row hs hg hr => by
  refine hs.kept hg ?_
  rcases hs.2 with ⟨rfl, _⟩ | ⟨g, cap, cur, rfl, _, hgb, _⟩
  · exact .inl rfl
  · refine .inr fun e' => ?_
    obtain ⟨-, o, ho, hc⟩ := hr g (by simpa [Value.ownBlock] using e'.symm)
    rw [show X.heap[g]? = _ from hgb] at ho
    cases ho
    cases hc
theorem HasF.own (B B0 : Nat) : OwnFrom B (HasF B0) := fun _ X Y row hs hg hr => hs.kp (fun g cs h => bk_own6 (β := Unit) B g _ cs () X Y row h hg hr)
theorem AllG.own (B B0 : Nat) (ep : Int) (l : List Nat) : OwnFrom B (AllG B0 ep l) := fun _ X Y row hs hg hr => ⟨hs.1, fun x hx => HasF.own B B0 x X Y row (hs.2 x hx) hg hr⟩

theorem Bk.made1' (w : World) (o : Obj) (t : TypeId) (cs : Array Value) : Bk ((w.alloc o).alloc (.cells cs t)) (w.heap.size + 1) t cs := by
  have := Bk.made (w.alloc o) t cs
  rwa [World.size_alloc] at this
theorem fun_other {W : World} {B B' : Nat} {t : TypeId} {v : Value} (h : Boxed W B t v) (hne : B ≠ B') (u : Value) : Boxed (W.setCell ⟨B', 0, none⟩ u) B t v := Boxed.other h hne u
/-- What has come into the list of All. -/
def AlI (w : World) (Bl T : Nat) (pre : List (FrV × Nat)) (W : World) : Prop :=
  (∃ v, Boxed W Bl 60 v ∧ W.ownsRow w.heap.size 38 2 v pre.length (pre.flatMap (fun x => x.1.cells))) ∧ Bk W T 3 #[.int .i64 (lastE pre : Nat)] ∧ Below w.heap.size w W
theorem AlI.own (w : World) (Bl T : Nat) (B : Nat) (hB : w.heap.size ≤ B) : OwnFrom B (AlI w Bl T) := by
  intro pre X Y row ⟨⟨v, h1, h2⟩, h3, h4⟩ hg hr
  exact ⟨⟨v, bk_own6 B Bl _ #[v] () X Y row h1 hg hr, row_own6 B w.heap.size _ 2 v _ _ () X Y row h2 hg hr⟩, bk_own6 B T _ _ () X Y row h3 hg hr, ownFrom_below (β := Unit) (Nat.le_refl _) hB () X Y row h4 hg hr⟩

set_option maxRecDepth 100000 in
set_option maxHeartbeats 4000000 in
theorem allN_any (ep : Int) (he : -9223372036854775808 ≤ ep ∧ ep < 9223372036854775808) (l : List Nat) (h64 : ∀ u ∈ l, u < 18446744073709551616) (m : Nat) (A : Option Addr) (c : Nat) (w : World) (h : Sl w w.heap.size A (u64s l)) (hm : l.length = m) (hmc : m ≤ c) (hc : c ≤ maxLen) (hlen : m ≤ 1073741824) :
    Calls Try.prog 37 #[.int .i64 ep, .slice A m c] w (AllN ep l w) := by
  refine (callsIn_wide (n := 3)).1 ?_
  have h1 : 1 ≤ 3 := by omega
  obtain ⟨i0, hi, hz0, hz1, hz2⟩ := info_parts info_frame
  refine callsIn_of_wp_marks Try.func37 rfl trivial ?_ rfl
  simp only [Try.ntmps37, List.size_toArray, List.length_cons, List.length_nil, Nat.reduceAdd, Nat.reduceSub, Array.replicate_succ, Array.replicate_zero, List.push_toArray, List.append_toArray, List.nil_append, List.cons_append]
  gi_wp2_with (first
    | (refine ⟨trivial, ?_⟩; gi_at_call 54; refine (each_in Fence.wide _ trivial rfl _ _ _ _ _).mono ?_; rintro e w' ⟨rfl, rfl⟩))
  obtain ⟨W0, hW0⟩ : ∃ W0, W0 = ((((w.alloc (.cells #[.slice none 0 0] 60)).alloc (.cells #[.int .i64 0] 3)).alloc (.cells #[.int .i64 ep] 3)).alloc (.cells #[.slice A m c] 36)) := ⟨_, rfl⟩
  have hsz : W0.heap.size = w.heap.size + 4 := by rw [hW0]; simp
  have hF0 : Fr No w W0 := by rw [hW0]; exact ((((Fr.refl No w).alloc _).alloc _).alloc _).alloc _
  have bL : Boxed W0 w.heap.size 60 (.slice none 0 0) := by rw [hW0]; exact (((Boxed.new w _ _).alloc _).alloc _).alloc _
  have bT : Bk W0 (w.heap.size + 1) 3 #[.int .i64 (0 : Nat)] := by
    rw [hW0]
    exact ((Bk.made1' w (.cells #[.slice none 0 0] 60) 3 #[.int .i64 (0 : Nat)]).fr ((Fr.refl No _).alloc _) (fun e => e)).fr ((Fr.refl No _).alloc _) (fun e => e)
  have b1 : Bk W0 (w.heap.size + 1 + 1) 3 #[.int .i64 ep] := by
    rw [hW0]
    have := (Bk.made1' (w.alloc (.cells #[.slice none 0 0] 60)) (.cells #[.int .i64 0] 3) 3 #[.int .i64 ep]).fr ((Fr.refl No _).alloc (.cells #[.slice A m c] 36)) (fun e => e)
    rwa [World.size_alloc] at this
  have b2 : Bk W0 (w.heap.size + 1 + 1 + 1) 36 #[.slice A m c] := by
    rw [hW0]
    have := Bk.made1' ((w.alloc (.cells #[.slice none 0 0] 60)).alloc (.cells #[.int .i64 0] 3)) (.cells #[.int .i64 ep] 3) 36 #[.slice A m c]
    rwa [World.size_alloc, World.size_alloc] at this
  have hB0 : w.heap.size ≤ W0.heap.size := by omega
  rw [← hW0]
  clear hW0
  have hseq : GivesW Fence.wide 2 Try.prog 62 #[.pointer (some ⟨w.heap.size + 1 + 1, 0, none⟩), .pointer (some ⟨w.heap.size + 1 + 1 + 1, 0, none⟩)] encF (HasF w.heap.size) (KpF w.heap.size (w.heap.size + 1)) (AllG w.heap.size ep l) 1073741824 W0 := by
    intro lp J W hb hJa hY hJ0
    exact each1_in 2 lp _ _ (w.heap.size + 1) ep he l h64 m A c w W h (hF0.below0.trans (hb.mono hB0)) hm hmc hc hlen J (by omega) hJa (by omega) hY ((hb.block _ b1.lt).trans b1) ((hb.block _ b2.lt).trans b2) hJ0
  refine range_gives rfl h1 (gf := 62) (lb := #[.pointer (some ⟨w.heap.size + 1 + 1, 0, none⟩), .pointer (some ⟨w.heap.size + 1 + 1 + 1, 0, none⟩)]) rfl trivial (enters_of Try.func62 (by kernel_rfl) rfl)
    hseq KpF.trans (KpF.putObj hB0) (fun _ => rfl) (AlI w w.heap.size (w.heap.size + 1)) (AlI.own _ _ _ _ hB0) (AllG.own _ _ _ _) (HasF.own _ _) ⟨⟨_, bL, World.ownsRow_nil _ _ _ _⟩, bT, hF0.below0⟩
    (fun x a' W => ∃ Bx, w.heap.size + 1 < Bx ∧ Bk W Bx 38 #[.int .i64 x.1.kind, .slice x.1.A x.1.ws.length x.1.c] ∧ a' = { tmps := #[.int .i64 ep, .slice A m c, undef, undef, .slice none 0 0, .int .i64 0,
          .pointer (some ⟨w.heap.size, 0, none⟩), .pointer (some ⟨w.heap.size + 1, 0, none⟩), .pointer (some ⟨Bx, 0, none⟩), .int .i64 (x.2 : Int), .int .i64 ep, .slice A m c,
          .func (.func 62) #[] #[.pointer (some ⟨w.heap.size + 1 + 1, 0, none⟩), .pointer (some ⟨w.heap.size + 1 + 1 + 1, 0, none⟩)], .agg #[.int .i64 x.1.kind, .slice x.1.A x.1.ws.length x.1.c], .int .i64 (x.2 : Int), undef, undef, undef, undef, undef, undef, undef], defers := [] })
    (fun x a' _ X Y row hs hg hr => by
      obtain ⟨Bx, a1, a2, a3⟩ := hs
      exact ⟨Bx, a1, bk_own6 _ Bx _ _ () X Y row a2 hg hr, a3⟩)
    ?assign ?body ?done
  case assign =>
    rintro lp pre ⟨⟨xk, xA, xw, xc⟩, q⟩ W K ⟨⟨v, hv, hrow⟩, hT, hB⟩ hX hK
    have hlt := hT.lt
    have hx0 : Bk (W.alloc (.cells #[.int .i64 xk, .slice xA xw.length xc] 38)) W.heap.size 38 #[.int .i64 xk, .slice xA xw.length xc] := Bk.made W _ _
    have hXa := hX.kp (W' := W.alloc (.cells #[.int .i64 xk, .slice xA xw.length xc] 38)) (fun _ _ hb => hb.fr ((Fr.refl No _).alloc _) (fun e => e))
    have hTa := hT.fr ((Fr.refl No W).alloc (.cells #[.int .i64 xk, .slice xA xw.length xc] 38)) (fun e => e)
    unfold encF FrV.agg
    dsimp only
    gi_wp2
    exact hK _ _ ((KeepsOthers.alloc _ _).from _) ((KpF.refl _ _ W).alloc hB.size _) ⟨⟨v, hv.alloc _, hrow.alloc _⟩, hTa, hB.alloc hB.size _⟩ hXa ⟨W.heap.size, by omega, hx0, rfl⟩
  case body =>
    rintro lp pre ⟨⟨xk, xA, xw, xc⟩, q⟩ a' W ⟨⟨v, hv, hrow⟩, hT, hB⟩ - ⟨Bx, hBx, hbx, rfl⟩ hlt
    have hc := hv.cell
    have y0 : W.cell? ⟨Bx, 0, none⟩ = some (.int .i64 xk) := hbx.cell 0
    have y1 : W.cell? ⟨Bx, 1, none⟩ = some (.slice xA xw.length xc) := hbx.cell 1
    have hTz := fun W' (hW : Fr No W W') => hT.fr hW (fun e => e)
    have HT := Lib.hid hT
    have HB := Lib.hid hB
    have hBs := hB.size
    gi_wp2_with (gi_at_builtin; refine wpListIn_append_own _ rfl _ _ 60 rfl w.heap.size 38 i0 (.agg #[.int .i64 0, .slice none 0 0]) 2 32 Try.underlying60 hi hz0 hz1 hz2 rfl (by decide) _ _ _ rfl (hrow.alloc _) ⟨W.heap.size, 0, none⟩ 1 1 [.int .i64 xk, .slice xA xw.length xc] rfl rfl (World.news_of_block (Bk.made W 38 #[.int .i64 xk, .slice xA xw.length xc])) (by intro u hu; simp at hu; rcases hu with rfl | rfl <;> rfl) (by unfold maxLen; omega) (by omega) (by simp; omega) ?_; intro v' w2 hown' hgrow _; obtain ⟨g', cap', rfl⟩ := ownsRow_succ hown'; obtain ⟨hv1, hv2, hr2, hk2, hb2⟩ := hv.appended (by decide) hrow hBs (Nat.le_refl _) hown' hgrow; have hc1 := hv1.cell; have hf1 := hv1.frozen; have hT2 : Bk w2 (w.heap.size + 1) 3 #[.int .i64 (lastE pre : Nat)] := Bk.grown (hTz _ ((Fr.refl _ _).alloc _)) hgrow (own_apart hrow HT.out (by decide)); have ht1 : w2.cell? ⟨w.heap.size + 1, 0, none⟩ = some (.int .i64 (lastE pre : Nat)) := hT2.cell 0; have htf := hT2.frozen 0)
    have fA : Fr (fun k => v.ownBlock = some k ∨ k = w.heap.size ∨ k = w.heap.size + 1) (W.alloc (.cells #[.int .i64 xk, .slice xA xw.length xc] 38)) w2 := (Fr.refl _ _).grown hgrow (fun k hk => .inl (.inl hk))
    have fS : Fr (fun k => k = w.heap.size + 1) (w2.setCell ⟨w.heap.size, 0, none⟩ (.slice (some ⟨g', 0, none⟩) (pre.length + 1) cap')) ((w2.setCell ⟨w.heap.size, 0, none⟩ (.slice (some ⟨g', 0, none⟩) (pre.length + 1) cap')).setCell ⟨w.heap.size + 1, 0, none⟩ (.int .i64 q)) :=
      (Fr.refl (fun k => k = w.heap.size + 1) _).setCell (p := ⟨w.heap.size + 1, 0, none⟩) (.inl rfl) _
    have fW : Fr (fun k => v.ownBlock = some k ∨ k = w.heap.size ∨ k = w.heap.size + 1) W ((w2.setCell ⟨w.heap.size, 0, none⟩ (.slice (some ⟨g', 0, none⟩) (pre.length + 1) cap')).setCell ⟨w.heap.size + 1, 0, none⟩ (.int .i64 q)) :=
      (((((Fr.refl (fun k => v.ownBlock = some k ∨ k = w.heap.size ∨ k = w.heap.size + 1) W).alloc _).trans' fA (fun _ _ e => e)).setCell (p := ⟨w.heap.size, 0, none⟩) (.inl (.inr (.inl rfl))) _).setCell (p := ⟨w.heap.size + 1, 0, none⟩) (.inl (.inr (.inr rfl))) _)
    have hT3 : Bk (w2.setCell ⟨w.heap.size, 0, none⟩ (.slice (some ⟨g', 0, none⟩) (pre.length + 1) cap')) (w.heap.size + 1) 3 #[.int .i64 (lastE pre : Nat)] :=
      hT2.fr ((Fr.refl (fun k => k = w.heap.size) w2).setCell (p := ⟨w.heap.size, 0, none⟩) (.inl rfl) _) (by omega)
    have hT4 := hT3.put 0 (.int .i64 q)
    have e1 : (pre ++ [((⟨xk, xA, xw, xc⟩ : FrV), q)]).length = pre.length + 1 := by simp
    have hb3 : Below w.heap.size W ((w2.setCell ⟨w.heap.size, 0, none⟩ (.slice (some ⟨g', 0, none⟩) (pre.length + 1) cap')).setCell ⟨w.heap.size + 1, 0, none⟩ (.int .i64 q)) := hb2.setCell (p := ⟨w.heap.size + 1, 0, none⟩) (Nat.le_succ _) _
    refine ⟨(hk2.trans (KeepsOthers.setCell _ _ _)).from _, ⟨hb3, fun g t cs ht hbk => ?_⟩, ⟨_, fun_other hv2 (by omega) _, ?_⟩, ?_, HB.out.trans hb3⟩
    · refine hbk.fr fW ?_
      rintro (e | rfl | rfl)
      · exact own_apart hrow hbk (by rcases ht with rfl | rfl | ⟨rfl, -⟩ <;> decide) e
      · exact Bk.apart hbk hv (by rcases ht with rfl | rfl | ⟨rfl, -⟩ <;> decide) rfl
      · rcases ht with rfl | rfl | ⟨rfl, hne⟩
        · exact Bk.apart hbk HT.out (by decide) rfl
        · exact Bk.apart hbk HT.out (by decide) rfl
        · exact hne rfl
    · rw [e1, List.flatMap_append]
      refine own_fr ?_ fS (fun k hk e => own_apart hr2 hT3 (by decide) (e ▸ hk))
      simpa [FrV.cells] using hr2
    · rw [lastE_snoc]
      simpa using hT4
  case done =>
    rintro D xs W hD ⟨hT, hX⟩ ⟨⟨v, hv, hrow⟩, ht, hB⟩ hK
    have hc := hv.cell
    have hc2 : W.cell? ⟨w.heap.size + 1, 0, none⟩ = some (.int .i64 (lastE xs : Nat)) := ht.cell 0
    obtain ⟨A', c', rfl, -, -, -⟩ := own_shape hrow
    have HTo := Lib.hid hT
    have HX := Lib.hid hX
    have Hrow := Lib.hid hrow
    have HB := Lib.hid hB
    clear hB hT hX hrow
    have HF := Lib.hid (fun o' => HB.out.drew.trans (belowK_b (w := w) (Nat.le_refl _) W.drew D _ o' (by omega) hK rfl rfl))
    have Hown := Lib.hid (fun o' => ownsRow_putObj (W := W.drew) Hrow.out o' hK rfl)
    have Hkp := Lib.hid (fun o' => KpF.putObj (T := 0) (w := w) (Nat.le_refl _) W.drew D _ o' (by omega) hK rfl rfl)
    gi_wp2
    first | gi_region_with (fail) | skip
    all_goals
      gi_wp2
      refine ⟨by simp, .inl ⟨_, _, rfl, run_takeDeferred (w := W.drew) hK, ?_⟩⟩
      refine ⟨_, results_tmp2 rfl _ _ _, xs.map (·.1), A', c', lastE xs, ?_, ?_, ⟨?_, ?_, ?_, ?_⟩, ?_⟩
      · rw [List.length_map]
        rfl
      · rw [List.map_map]
        exact HTo.out
      · have := Hown.out (.deferred none)
        rw [List.length_map, List.flatMap_map]
        exact this
      · intro y hy
        obtain ⟨z, hz, rfl⟩ := List.mem_map.1 hy
        exact ((HX.out z hz).kp (W' := W.drew.putObj D (.deferred none)) (fun g cs hb => (Hkp.out _).2 g _ cs (.inl rfl) hb)).1
      · intro y hy ad e hn
        obtain ⟨z, hz, rfl⟩ := List.mem_map.1 hy
        obtain ⟨cs, hcs⟩ := (HX.out z hz).2.1 ad e hn
        rw [List.length_map]
        exact own_apart Hrow.out hcs (by decide)
      · exact Fr.ofBelow (HF.out _) _
      · intro y hy ad e hn
        obtain ⟨z, hz, rfl⟩ := List.mem_map.1 hy
        exact (HX.out z hz).2.2.2 ad e hn
theorem all_any (ep : Int) (he : -9223372036854775808 ≤ ep ∧ ep < 9223372036854775808) (l : List Nat) (h64 : ∀ u ∈ l, u < 18446744073709551616) (m : Nat) (A : Option Addr) (c : Nat) (w : World) (h : Sl w w.heap.size A (u64s l)) (hm : l.length = m) (hmc : m ≤ c) (hc : c ≤ maxLen) (hlen : m ≤ 1073741824) :
    Calls Try.prog 37 #[.int .i64 ep, .slice A m c] w (AllF ep l w) :=
  (allN_any ep he l h64 m A c w h hm hmc hc hlen).mono (by rintro e w' ⟨xs, A', c', k, h1, h2, h3, -⟩; exact ⟨xs, A', c', k, h1, h2, h3⟩)
end Go.Proofs.Ytdmllfjeofiddaa
