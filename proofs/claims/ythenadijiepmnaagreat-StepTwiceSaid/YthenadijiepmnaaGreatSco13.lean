/- Package pages: the pairs of some keys lie in a row that is new. -/
import Derived.Test.YthenadijiepmnaaGreatPgs5
namespace Go.Proofs.YthenadijiepmnaaGreat
open Go.RowKit Go.Shelf

attribute [local go_sem] Oper.semAt_some

section
variable {w : World} {S : Nat → Prop} {q o c : Nat} {hs : List Pgh} {P : List Pg}
set_option maxRecDepth 100000 in
set_option maxHeartbeats 4000000 in
theorem scan_low (p : Option Addr) (lo hi' : Int) (L : List (Nat × Int)) (A : Option Addr) (n c : Nat) (hL : L.length ≤ 1000) (hr : Rise L)
    (hal : ∀ W, Fr No w W → Calls Tryz.prog 38 #[.pointer p] W fun e w' => e = .returned (.slice A n c) ∧ w' = W) (hst : Stops w lo L A n c) :
    Calls Tryz.prog 16 #[.pointer p, .int .i64 lo, .int .i64 hi'] w fun e w' => ∃ B cb, e = .returned (.slice B (L.filter fun x => decide ((x.1 : Int) ≤ hi')).length cb) ∧ Sl w' w'.heap.size B (prs (L.filter fun x => decide ((x.1 : Int) ≤ hi'))) ∧ Fr No w w' ∧ ∀ ad, B = some ad → w.heap.size ≤ ad.block := by
  refine (callsIn_wide (n := 3)).1 ?_
  have h1 : 1 ≤ 3 := by omega
  obtain ⟨i0, hi, hz0, hz1, hz2⟩ := info_parts info_pair
  have f0 := ((Fr.refl No w).alloc (.cells #[.int .i64 hi'] 3)).alloc (.cells #[.slice none 0 0] 28)
  have q := hal _ f0
  refine callsIn_of_wp_marks Tryz.func16 rfl trivial ?_ rfl
  simp only [Tryz.ntmps16, List.size_toArray, List.length_cons, List.length_nil, Nat.reduceAdd, Nat.reduceSub, Array.replicate_succ, Array.replicate_zero, List.push_toArray, List.append_toArray, List.nil_append, List.cons_append]
  gi_wp2_with (first
    | (refine ⟨trivial, ?_⟩; gi_at_call 38; refine (callsIn_wide.2 q).mono ?_; rintro e w1 ⟨rfl, rfl⟩)
    | (refine ⟨trivial, ?_⟩; gi_at_call 39; refine (from_in Fence.wide _ trivial rfl _ _ _ _ _).mono ?_; rintro e w' ⟨rfl, rfl⟩))
  obtain ⟨W0, hW0⟩ : ∃ W0, W0 = ((((w.alloc (.cells #[.int .i64 hi'] 3)).alloc (.cells #[.slice none 0 0] 28)).alloc (.cells #[.slice A n c] 68)).alloc (.cells #[.int .i64 lo] 3)) := ⟨_, rfl⟩
  have hsz : W0.heap.size = w.heap.size + 4 := by rw [hW0]; simp
  have hF0 : Fr No w W0 := by rw [hW0]; exact (f0.alloc _).alloc _
  have bH : Boxed W0 w.heap.size 3 (.int .i64 hi') := by rw [hW0]; exact (((Boxed.new w _ _).alloc _).alloc _).alloc _
  have bL : Boxed W0 (w.heap.size + 1) 28 (.slice none 0 0) := by rw [hW0]; exact (Boxed.alloc (Boxed.alloc (Bk.made1 w _ _ _) _) _)
  have b1 : Bk W0 (w.heap.size + 1 + 1) 68 #[.slice A n c] := by
    rw [hW0]
    have := (Bk.made1 (w.alloc (.cells #[.int .i64 hi'] 3)) (.cells #[.slice none 0 0] 28) 68 #[.slice A n c]).alloc (.cells #[.int .i64 lo] 3)
    rwa [World.size_alloc] at this
  have b2 : Bk W0 (w.heap.size + 1 + 1 + 1) 3 #[.int .i64 lo] := by
    rw [hW0]
    have := Bk.made1 ((w.alloc (.cells #[.int .i64 hi'] 3)).alloc (.cells #[.slice none 0 0] 28)) (.cells #[.slice A n c] 68) 3 #[.int .i64 lo]
    rwa [World.size_alloc, World.size_alloc] at this
  have hB0 : w.heap.size ≤ W0.heap.size := by omega
  rw [← hW0]
  clear hW0 q f0
  refine wpIn_rangeFunc_ownH rfl h1 (gf := 57) (lb := #[.pointer (some ⟨w.heap.size + 1 + 1, 0, none⟩), .pointer (some ⟨w.heap.size + 1 + 1 + 1, 0, none⟩)]) rfl trivial (enters_of Tryz.func57 (by kernel_rfl) rfl)
    (hst W0 (w.heap.size + 1 + 1) (w.heap.size + 1 + 1 + 1) hF0 b1 b2) KpN.trans (KpN.putObj hB0) (Below.refl _ _) (fun _ => rfl)
    (fun pre W => (∀ y ∈ pre, (y.1 : Int) ≤ hi') ∧ ScI w (w.heap.size + 1) w.heap.size hi' pre W)
    (fun cd pre W => cd = .exit 0 ∧ ∃ pre0 x, pre = pre0 ++ [x] ∧ hi' < (x.1 : Int) ∧ (∀ y ∈ pre0, (y.1 : Int) ≤ hi') ∧ ScI w (w.heap.size + 1) w.heap.size hi' pre0 W)
    (OwnFrom.and (ownFrom_pure _ _) (ScI.own _ _ _ _ _ hB0))
    (fun cd pre X Y row hs hg hr => by
      obtain ⟨e, pre0, x, a1, a2, a3, a4⟩ := hs
      exact ⟨e, pre0, x, a1, a2, a3, ScI.own _ _ _ _ _ hB0 pre0 X Y row a4 hg hr⟩)
    ⟨(fun y hy => by cases hy), ⟨_, bL, World.ownsRow_nil _ _ _ _⟩, bH, hF0.below0⟩
    (fun x a' W => ∃ Bx, w.heap.size + 1 < Bx ∧ Bk W Bx 54 #[.int .i64 (x.1 : Int), .int .i64 x.2] ∧ a' = { tmps := #[.pointer p, .int .i64 lo, .int .i64 hi', undef, undef,
          .pointer (some ⟨w.heap.size, 0, none⟩), .slice none 0 0, .pointer (some ⟨w.heap.size + 1, 0, none⟩), .pointer (some ⟨Bx, 0, none⟩), .pointer p, .slice A n c, .int .i64 lo,
          .func (.func 57) #[] #[.pointer (some ⟨w.heap.size + 1 + 1, 0, none⟩), .pointer (some ⟨w.heap.size + 1 + 1 + 1, 0, none⟩)], .agg #[.int .i64 (x.1 : Int), .int .i64 x.2], undef, undef, undef, undef, undef, undef, undef, undef, undef], defers := [] })
    (fun x a' _ X Y row hs hg hr => by
      obtain ⟨Bx, a1, a2, a3⟩ := hs
      exact ⟨Bx, a1, bk_own _ Bx _ _ () X Y row a2 hg hr, a3⟩)
    ?assign ?body ?done ?stop
  case assign =>
    rintro l pre x W K ⟨hle, ⟨v, hv, hrow⟩, hb, hB⟩ hK
    have hx0 : Bk (W.alloc (.cells #[.int .i64 (x.1 : Int), .int .i64 x.2] 54)) W.heap.size 54 #[.int .i64 (x.1 : Int), .int .i64 x.2] := Bk.made W _ _
    have hlt := hv.lt
    unfold encP
    gi_wp2
    exact hK _ _ ((KeepsOthers.alloc _ _).from _) ((KpN.refl _ W).alloc hB.size _) ⟨hle, ⟨v, hv.alloc _, hrow.alloc _⟩, hb.alloc _, hB.alloc hB.size _⟩ ⟨W.heap.size, by omega, hx0, rfl⟩
  case body =>
    rintro l pre ⟨xk, xv⟩ a' W hl ⟨r, hr⟩ ⟨hle, ⟨v, hv, hrow⟩, hb, hB⟩ ⟨Bx, hBx, hbx, rfl⟩ hlt
    have hc := hv.cell
    have hch := hb.cell
    have y0 : W.cell? ⟨Bx, 0, none⟩ = some (.int .i64 (xk : Int)) := hbx.cell 0
    have y1 : W.cell? ⟨Bx, 1, none⟩ = some (.int .i64 xv) := hbx.cell 1
    have hpl : pre.length ≤ 1000 := by omega
    by_cases hgt : hi' < (xk : Int)
    · have hX : Hid (∃ pre0 x, pre ++ [(xk, xv)] = pre0 ++ [x] ∧ hi' < (x.1 : Int) ∧ (∀ y ∈ pre0, (y.1 : Int) ≤ hi') ∧ ScI w (w.heap.size + 1) w.heap.size hi' pre0 W) := Lib.hid ⟨pre, (xk, xv), rfl, hgt, hle, ⟨v, hv, hrow⟩, hb, hB⟩
      clear hle hv hrow hb hB hbx
      gi_wp2
      exact ⟨(KeepsOthers.refl _).from _, rfl, hX.out⟩
    · have HL2 : Hid (∀ y ∈ pre ++ [(xk, xv)], (y.1 : Int) ≤ hi') := Lib.hid (fun y hy => by
        rcases List.mem_append.1 hy with hy | hy
        · exact hle y hy
        · rw [List.mem_singleton.1 hy]
          show (xk : Int) ≤ hi'
          omega)
      gi_wp2_with (gi_at_builtin; refine wpListIn_append_own _ rfl _ _ 28 rfl w.heap.size 54 i0 (.agg #[.int .i64 0, .int .i64 0]) 2 16 Tryz.underlying28 hi hz0 hz1 hz2 rfl (by decide) _ _ _ rfl (hrow.alloc _) ⟨W.heap.size, 0, none⟩ 1 1 [.int .i64 (xk : Int), .int .i64 xv] rfl rfl (World.news_of_block (Bk.made W 54 #[.int .i64 (xk : Int), .int .i64 xv])) (by intro u hu; simp at hu; rcases hu with rfl | rfl <;> rfl) (by unfold maxLen; omega) (by omega) (by have := hB.size; simp; omega) ?_; intro v' w2 hown' hgrow _; obtain ⟨g', cap', rfl⟩ := ownsRow_succ hown'; obtain ⟨hv1, hv2, hr2, hk2, hb2⟩ := hv.appended (by decide) hrow hB.size (by omega) hown' hgrow; have hc1 := hv1.cell; have hf1 := hv1.frozen)
      have hneB : ∀ k, v.ownBlock = some k → ∀ g t cs, (t = 68 ∨ t = 3) → Bk W g t cs → g ≠ k := fun k hk g t cs ht hbk e => own_apart hrow hbk (by rcases ht with rfl | rfl <;> decide) (e ▸ hk)
      have hKp : KpN w.heap.size W (w2.setCell ⟨w.heap.size + 1, 0, none⟩ (.slice (some ⟨g', 0, none⟩) (pre.length + 1) cap')) := ⟨hb2, fun g t cs ht hbk => by
        have hne : g ≠ w.heap.size + 1 := Bk.apart hbk hv (by rcases ht with rfl | rfl <;> decide)
        refine Bk.setCell_other (Bk.grown (hbk.alloc (.cells #[.int .i64 (xk : Int), .int .i64 xv] 54)) hgrow ?_) hne _
        exact own_apart hrow hbk (by rcases ht with rfl | rfl <;> decide)⟩
      refine ⟨hk2.from _, hKp, by first | exact HL2.out | simpa using HL2.out, ⟨_, hv2, ?_⟩, ?_, hB.trans hb2⟩
      · have e : (pre ++ [(xk, xv)]).length = pre.length + 1 := by simp
        rw [prs_app, e]
        exact hr2
      · exact hKp.2 _ _ _ (.inr rfl) hb
  case done =>
    rintro D zs W hD rfl ⟨hle, ⟨v, hv, hrow⟩, hb, hB⟩ hK
    have hc := hv.cell
    obtain ⟨A', c', rfl, -, -, -⟩ := own_shape hrow
    have Hsd := Lib.hid (scan_done hle)
    have HF := Lib.hid (fun o' => hB.trans (belowK_b (w := w) (Nat.le_refl _) W D _ o' (by omega) hK rfl rfl))
    have HLw : Hid (∀ ad : Addr, A' = some ad → w.heap.size ≤ ad.block) := Lib.hid (fun ad e => (hrow.lt ad.block (by rw [e]; rfl)).1)
    have Hsl := Lib.hid (fun o' => Sl.ofOwn (ownsRow_putObj hrow o' hK rfl))
    clear hle hB hv hb
    gi_wp2
    refine ⟨by simp, .inl ⟨_, _, rfl, run_takeDeferred hK, ?_⟩⟩
    exact ⟨_, results_tmp rfl _ _ _, A', c', by rw [Hsd.out]; rfl, by rw [Hsd.out]; exact Hsl.out _, Fr.ofBelow (HF.out _) _, HLw.out⟩
  case stop =>
    rintro D cd pre W hD hpre ⟨rfl, pre0, x, rfl, hx, hle, ⟨v, hv, hrow⟩, hb, hB⟩ hK
    have hc := hv.cell
    obtain ⟨A', c', rfl, -, -, -⟩ := own_shape hrow
    have Hsd := Lib.hid (scan_stop hr hpre hle hx)
    have HF := Lib.hid (fun o' => hB.trans (belowK_b (w := w) (Nat.le_refl _) W D _ o' (by omega) hK rfl rfl))
    have HLw : Hid (∀ ad : Addr, A' = some ad → w.heap.size ≤ ad.block) := Lib.hid (fun ad e => (hrow.lt ad.block (by rw [e]; rfl)).1)
    have Hsl := Lib.hid (fun o' => Sl.ofOwn (ownsRow_putObj hrow o' hK rfl))
    clear hle hB hv hb hpre hx
    gi_wp2
    refine ⟨by simp, .inl ⟨_, _, rfl, run_takeDeferred hK, ?_⟩⟩
    exact ⟨_, results_tmp rfl _ _ _, A', c', by rw [Hsd.out]; rfl, by rw [Hsd.out]; exact Hsl.out _, Fr.ofBelow (HF.out _) _, HLw.out⟩
end
section
variable {w w' : World} {S : Nat → Prop} {s : Nat} {P : List Pg}
theorem pScan_low (lo hi' : Int) (hi : InvP P) (h : PS w S s P) :
    Calls Tryz.prog 16 #[.pointer (some ⟨s, 0, none⟩), .int .i64 lo, .int .i64 hi'] w fun e w' => ∃ A c, e = .returned (.slice A (scanP P.flatten lo hi').length c) ∧ Sl w' w'.heap.size A (prs (scanP P.flatten lo hi')) ∧ Fr No w w' ∧ ∀ ad, A = some ad → w.heap.size ≤ ad.block := by
  obtain ⟨A, c, h1, h2⟩ := stops_of hi h lo
  have hl := hi.len.1
  have := scan_low (w := w) (some ⟨s, 0, none⟩) lo hi' (fromP P.flatten lo) A P.length c (by have := from_len P.flatten lo; omega) (rise_from hi.rise lo) (fun W hW => all_val A _ c (h1 W hW)) h2
  rw [scan_from]
  exact this
theorem scan_allL (hi : InvP P) (h : PS w S s P) : Calls Tryz.prog 16 #[.pointer (some ⟨s, 0, none⟩), .int .i64 0, .int .i64 999] w fun e w' => ∃ A c, e = .returned (.slice A P.flatten.length c) ∧ Sl w' w'.heap.size A (prs P.flatten) ∧ Fr No w w' ∧ ∀ ad, A = some ad → w.heap.size ≤ ad.block := by
  have q := pScan_low 0 999 hi h
  rw [scanP_all hi.key] at q
  exact q
end
end Go.Proofs.YthenadijiepmnaaGreat
