/- Package step: what is read and written is taken down; a change; a key's value. -/
import Derived.Test.YthenadijiepmnaaGreatDng13
import Derived.Test.YthenadijiepmnaaGreatRgt5
namespace Go.Proofs.YthenadijiepmnaaGreat
open Go.RowKit

set_option maxHeartbeats 1000000 in
theorem kUnion_own (l m : List Span) (A B : Option Addr) (n c n2 c2 : Nat) (w : World) (h : In4 w A n l) (h2 : In4 w B n2 m) : Calls Tryz.prog 61 #[.slice A n c, .slice B n2 c2] w (NewO w (plainOf fun k => keysOf l k || keysOf m k)) := by
  have hg := (Fr.refl No w).alloc (.cells #[.slice A n c, .slice B n2 c2] 36)
  have q := kFolded_any [(A, n, c, l), (B, n2, c2, m)] (some ⟨w.heap.size, 0, none⟩) 2 2 _ ((Sl.made w 36 #[.slice A n c, .slice B n2 c2]).more (by simp)) rfl ⟨fun q hq => by
    simp only [List.mem_cons, List.not_mem_nil, or_false] at hq
    rcases hq with rfl | rfl
    · exact ⟨h.sl.since hg, h.len⟩
    · exact ⟨h2.sl.since hg, h2.len⟩, by have := h.le; have := h.len; have := h2.le; have := h2.len; simp [spansOf]; omega⟩ (by omega)
  have e : spansOf [(A, n, c, l), (B, n2, c2, m)] = l ++ m := by simp [spansOf]
  rw [e, show keysOf (l ++ m) = fun k => keysOf l k || keysOf m k from funext (keysOf_app l m)] at q
  have Hg := Lib.hid hg
  clear h h2 hg e
  generalize (plainOf fun k => keysOf l k || keysOf m k) = zs at q ⊢
  go_enter Tryz.func61, Tryz.ntmps61
  go_wp2_with fail
  refine q.mono ?_
  rintro e w2 ⟨A2, c2, rfl, hown, hf⟩
  have HO := Lib.hid (own_base hown Hg.out.size)
  have HF := Lib.hid (Hg.out.trans' hf (fun _ _ e => e))
  clear hown hf q
  go_wp2
  go_ret
  exact ⟨A2, c2, rfl, HO.out, HF.out⟩
set_option maxHeartbeats 1000000 in
theorem kOne_own (k : Int) (w : World) : Calls Tryz.prog 115 #[.int .i64 k] w (NewO w (oneL k)) := by
  have hg := ((Fr.refl No w).alloc (.cells #[.int .i64 k, .int .i64 k] 72)).alloc (.cells #[.slice (some ⟨w.heap.size, 0, none⟩) 1 1] 36)
  have s1 := ((Sl.made w 72 #[.int .i64 k, .int .i64 k]).fr ((Fr.refl No _).alloc (.cells #[.slice (some ⟨w.heap.size, 0, none⟩) 1 1] 36)) (by simp) (fun _ _ _ e => e)).more (B' := w.heap.size + 1 + 1) (by simp)
  have s2 := sl_one (w.alloc (.cells #[.int .i64 k, .int .i64 k] 72)) (some ⟨w.heap.size, 0, none⟩) 1 1
  simp only [World.size_alloc] at s2
  have q := kFolded_any [(some ⟨w.heap.size, 0, none⟩, 1, 1, [(k, k)])] (some ⟨w.heap.size + 1, 0, none⟩) 1 1 _ (s2.more (by simp)) rfl ⟨fun q hq => by
    rw [List.mem_singleton.1 hq]
    exact ⟨s1.more (by simp), rfl⟩, by simp [spansOf]⟩ (by omega)
  have e : plainOf (keysOf (spansOf [((some ⟨w.heap.size, 0, none⟩ : Option Addr), 1, 1, [(k, k)])])) = oneL k := by
    have e1 : spansOf [((some ⟨w.heap.size, 0, none⟩ : Option Addr), 1, 1, [(k, k)])] = [(k, k)] := by simp [spansOf]
    rw [e1]
    unfold oneL
    by_cases hc : 0 ≤ k ∧ k ≤ 999
    · rw [if_pos hc]
      exact IsPl.eq ⟨fun p hp => by rw [List.mem_singleton.1 hp]; exact ⟨hc.1, Int.le_refl _, hc.2⟩, List.pairwise_singleton _ _⟩
    · rw [if_neg hc]
      refine (IsPl.nil.of fun j hj => ?_).symm
      rw [keysOf_cons]
      have : spHas (k, k) j = false := by
        rw [Bool.eq_false_iff]
        intro h
        rw [spHas_iff] at h
        simp only at h
        omega
      rw [this]
      rfl
  rw [e] at q
  have Hg := Lib.hid hg
  clear s1 s2 hg e
  generalize oneL k = zs at q ⊢
  go_enter Tryz.func115, Tryz.ntmps115
  go_wp2_with fail
  refine q.mono ?_
  rintro e w2 ⟨A2, c2, rfl, hown, hf⟩
  have HO := Lib.hid (own_base hown Hg.out.size)
  have HF := Lib.hid (Hg.out.trans' hf (fun _ _ e => e))
  clear hown hf q
  go_wp2
  go_ret
  exact ⟨A2, c2, rfl, HO.out, HF.out⟩

/-- Spans that lie as a row of their own. -/
structure Own4 (w : World) (A : Option Addr) (n c : Nat) (l : List Span) : Prop where
  row : w.ownsRow 0 72 2 (.slice A n c) n (sps l)
  len : l.length = n
  le : n ≤ 1048576
section
variable {x : Dx} {w w' : World} {r : Nat → Int} {rd wt : Nat → Bool} {f : Nat → Option Value}
theorem Own4.in4 {A : Option Addr} {n c : Nat} {l : List Span} (h : Own4 w A n c l) : In4 w A n l := ⟨Sl.ofOwn h.row, h.len, h.le⟩
theorem Own4.nil (w : World) : Own4 w none 0 0 [] := ⟨World.ownsRow_nil _ _ _ _, rfl, by omega⟩
theorem Own4.fr0 {A : Option Addr} {n c : Nat} {l : List Span} (h : Own4 w A n c l) (hf : Fr No w w') : Own4 w' A n c l := ⟨own_fr h.row hf (fun _ _ e => e), h.len, h.le⟩
theorem Own4.frd {A : Option Addr} {n c : Nat} {l : List Span} (h : Own4 w A n c l) (hl : DL x r rd wt f w) (hf : Fr (fun k => k = x.d) w w') : Own4 w' A n c l := by
  obtain ⟨rA, rc, wA, wc, h1, -, -⟩ := hl.lies
  exact ⟨own_fr h.row hf (fun k hk e => own_apart h.row h1 (by decide) (by rw [hk, e])), h.len, h.le⟩
theorem plain_le (s : Nat → Bool) : (plainOf s).length ≤ 1048576 := Nat.le_trans (plainTo_len s 1000) (by omega)
/-- Where the lists of what was read and written lie. -/
theorem DL.rows (h : DL x r rd wt f w) : ∃ rA rc wA wc, w.cell? ⟨x.d, 9, none⟩ = some (.slice rA (plainOf rd).length rc) ∧ w.cell? ⟨x.d, 10, none⟩ = some (.slice wA (plainOf wt).length wc) ∧ Own4 w rA (plainOf rd).length rc (plainOf rd) ∧ Own4 w wA (plainOf wt).length wc (plainOf wt) := by
  obtain ⟨rA, rc, wA, wc, h1, h2, h3⟩ := h.lies
  exact ⟨rA, rc, wA, wc, h1.cell 9, h1.cell 10, ⟨own_base h2 (Nat.zero_le _), rfl, plain_le _⟩, ⟨own_base h3 (Nat.zero_le _), rfl, plain_le _⟩⟩
theorem DL.reads (h : DL x r rd wt f w) {rd' : Nat → Bool} {A : Option Addr} {c : Nat} (ho : w.ownsRow x.m 72 2 (.slice A (plainOf rd').length c) (plainOf rd').length (sps (plainOf rd'))) : DL x r rd' wt f (w.setCell ⟨x.d, 9, none⟩ (.slice A (plainOf rd').length c)) := by
  obtain ⟨rA, rc, wA, wc, h1, h2, h3⟩ := h.lies
  have hf : Fr (fun k => k = x.d) w (w.setCell ⟨x.d, 9, none⟩ (.slice A (plainOf rd').length c)) := (Fr.refl (fun k => k = x.d) w).setCell (p := ⟨x.d, 9, none⟩) (.inl rfl) _
  exact ⟨⟨A, c, wA, wc, h1.put 9 _, own_fr ho hf (fun k hk e => own_apart ho h1 (by decide) (by rw [hk, e])), own_fr h3 hf (fun k hk e => own_apart h3 h1 (by decide) (by rw [hk, e]))⟩, h.mp.fr hf h.md, h.reg⟩
theorem DL.writes (h : DL x r rd wt f w) {wt' : Nat → Bool} {A : Option Addr} {c : Nat} (ho : w.ownsRow x.m 72 2 (.slice A (plainOf wt').length c) (plainOf wt').length (sps (plainOf wt'))) : DL x r rd wt' f (w.setCell ⟨x.d, 10, none⟩ (.slice A (plainOf wt').length c)) := by
  obtain ⟨rA, rc, wA, wc, h1, h2, h3⟩ := h.lies
  have hf : Fr (fun k => k = x.d) w (w.setCell ⟨x.d, 10, none⟩ (.slice A (plainOf wt').length c)) := (Fr.refl (fun k => k = x.d) w).setCell (p := ⟨x.d, 10, none⟩) (.inl rfl) _
  exact ⟨⟨rA, rc, A, c, h1.put 10 _, own_fr h2 hf (fun k hk e => own_apart h2 h1 (by decide) (by rw [hk, e])), own_fr ho hf (fun k hk e => own_apart ho h1 (by decide) (by rw [hk, e]))⟩, h.mp.fr hf h.md, h.reg⟩
/-- Taken down; or the footprint is asked, and doesn't cover it. -/
def Tch (x : Dx) (t : Bool) (r : Nat → Int) (rd wt : Nat → Bool) (f : Nat → Option Value) (w : World) (e : Ending) (w' : World) : Prop :=
  if t = true then e = .panicked (pan13 9) ∧ Fr (DM x) w w' else e = .returned (.tuple #[]) ∧ DL x r rd wt f w' ∧ Fr (fun k => k = x.d) w w'
set_option maxRecDepth 100000 in
set_option maxHeartbeats 4000000 in
theorem dTouch_any (hs : Dst x w) (hl : DL x r rd wt f w) {A1 A2 : Option Addr} {n1 n2 c1 c2 : Nat} {l1 l2 : List Span} (h1 : Own4 w A1 n1 c1 l1) (h2 : Own4 w A2 n2 c2 l2) {rd' wt' : Nat → Bool}
    (e1 : (plainOf fun k => keysOf (plainOf rd) k || keysOf l1 k) = plainOf rd') (e2 : (plainOf fun k => keysOf (plainOf wt) k || keysOf l2 k) = plainOf wt') {t : Bool} (ht : (x.ask && !coversB x.foot x.gs l1 l2) = t) :
    Calls Tryz.prog 114 #[.pointer (some ⟨x.d, 0, none⟩), .slice A1 n1 c1, .slice A2 n2 c2] w (Tch x t r rd' wt' f w) := by
  have hd := hl.lt
  have Hml := Lib.hid hl.mp.lt
  obtain ⟨-, k1, k2, -, k4, -⟩ := hl.cell
  obtain ⟨rA, rc, wA, wc, k9, k10, o1, o2⟩ := hl.rows
  have Hcell := Lib.hid (fun (W : World) (hW : Fr No w W) (i : Nat) => hW.cell (p := ⟨x.d, i, none⟩) hd (fun e => e))
  have Hfz := Lib.hid (fun (W : World) (hW : Fr No w W) (i : Nat) => (hl.fr0 hW).frozen i)
  have Hdl := Lib.hid (fun (W : World) (hW : Fr No w W) => hl.fr0 hW)
  have HC := Lib.hid (fun W (h : Fr No w W) => covers_any x.foot x.gs l1 l2 x.fA x.gA A1 A2 x.foot.length x.fc x.gs.length x.gc n1 c1 n2 c2 W ((hs.fr0 h).foot.more (Nat.le_of_lt (hs.fr0 h).lt)) rfl (by have := hs.fl; omega) ((hs.fr0 h).args.more (Nat.le_of_lt (hs.fr0 h).lt)) rfl (by have := hs.gl; omega) (h1.fr0 h).in4 (h2.fr0 h).in4)
  have HU1 := Lib.hid (fun W (h : Fr No w W) => kUnion_own (plainOf rd) l1 rA A1 (plainOf rd).length rc n1 c1 W (o1.fr0 h).in4 (h1.fr0 h).in4)
  have HU2 := Lib.hid (fun W (h : Fr (fun k => k = x.d) w W) => kUnion_own (plainOf wt) l2 wA A2 (plainOf wt).length wc n2 c2 W (o2.frd hl h).in4 (h2.frd hl h).in4)
  rw [e1] at HU1
  rw [e2] at HU2
  have HR := Lib.hid (fun (W : World) (hW : DL x r rd wt f W) (A : Option Addr) (c : Nat) => hW.reads (rd' := rd') (A := A) (c := c))
  have HW := Lib.hid (fun (W : World) (hW : DL x r rd' wt f W) (A : Option Addr) (c : Nat) => hW.writes (wt' := wt') (A := A) (c := c))
  unfold Tch
  clear hs hl h1 h2 e1 e2 o1 o2
  generalize coversB x.foot x.gs l1 l2 = cv at *
  obtain ⟨d, hde⟩ : ∃ d, d = x.d := ⟨_, rfl⟩
  rw [← hde] at Hcell Hfz HU2 HR HW k1 k2 k4 k9 k10 hd ⊢
  have HX : Hid (∀ k, k = d → DM x k) := Lib.hid (fun k e => .inl (by rw [e, hde]))
  generalize x.foot.length = nf at *
  generalize x.gs.length = ng at *
  generalize x.fA = fA at *
  generalize x.gA = gA at *
  generalize x.fc = fc at *
  generalize x.gc = gc at *
  obtain ⟨ask, hask⟩ : ∃ ask, ask = x.ask := ⟨_, rfl⟩
  rw [← hask] at ht k4
  have Hde := Lib.hid hde
  clear hask hde
  cases ask
  · subst ht
    simp only [Bool.false_and, Bool.false_eq_true, if_false]
    go_enter Tryz.func114, Tryz.ntmps114
    go_wp2_with fail
    refine wp_region_held_drew (S := fun w' => w'.cell? ⟨d, 1, none⟩ = some (.slice fA nf fc) ∧ w'.cell? ⟨d, 2, none⟩ = some (.slice gA ng gc) ∧ w'.cell? ⟨d, 4, none⟩ = some (.bool false)) (by kernel_rfl) (⟨k1, k2, k4⟩) (fun hHeld => ?_)
    refine any_take 6 (.pointer (some ⟨d, 0, none⟩)) (i := 0) rfl rfl (by kernel_rfl) (by kernel_rfl) (by kernel_rfl) (fun _ _ _ h => h) (by rfl) (by intro w hSw; (try dsimp only at hSw); go_simp; try with_reducible rfl) (by assumption) ?_
    simp only [Act.put, List.setIfInBounds_toArray, List.set_cons_zero, List.set_cons_succ]
    refine any_take 7 (.pointer (some ⟨d, 0, none⟩)) (i := 1) rfl rfl (by kernel_rfl) (by kernel_rfl) (by kernel_rfl) (fun _ _ _ h => h) (by rfl) (by intro w hSw; (try dsimp only at hSw); go_simp; try with_reducible rfl) (by assumption) ?_
    simp only [Act.put, List.setIfInBounds_toArray, List.set_cons_zero, List.set_cons_succ]
    refine any_take 8 (.pointer (some ⟨d, 4, none⟩)) (i := 2) rfl rfl (by kernel_rfl) (by kernel_rfl) (by kernel_rfl) (fun _ _ _ h => h) (by rfl) (by intro w hSw; (try dsimp only at hSw); go_simp; try with_reducible rfl) (by assumption) ?_
    simp only [Act.put, List.setIfInBounds_toArray, List.set_cons_zero, List.set_cons_succ]
    refine any_take 9 (.bool false) (i := 3) rfl rfl (by kernel_rfl) (by kernel_rfl) (by kernel_rfl) (fun _ _ _ h => h) (by rfl) (by intro w hSw; (try dsimp only at hSw); go_simp; try with_reducible rfl) (by assumption) ?_
    simp only [Act.put, List.setIfInBounds_toArray, List.set_cons_zero, List.set_cons_succ]
    refine any_take 10 (.bool true) (i := 4) rfl rfl (by kernel_rfl) (by kernel_rfl) (by kernel_rfl) (fun _ _ _ h => h) (by rfl) (by intro w hSw; (try dsimp only at hSw); go_simp; try with_reducible rfl) (by assumption) ?_
    simp only [Act.put, List.setIfInBounds_toArray, List.set_cons_zero, List.set_cons_succ]
    refine any_take 11 (.bool true) (i := 5) rfl rfl (by kernel_rfl) (by kernel_rfl) (by kernel_rfl) (fun _ _ _ h => h) (by rfl) (by intro w hSw; (try dsimp only at hSw); go_simp; try with_reducible rfl) (by assumption) ?_
    simp only [Act.put, List.setIfInBounds_toArray, List.set_cons_zero, List.set_cons_succ]
    refine any_skip 12 (i := 6) rfl rfl (by kernel_rfl) (by kernel_rfl) (by kernel_rfl) (fun _ _ _ h => h) (by rfl) (by assumption) ?_
    simp only [Act.put, List.setIfInBounds_toArray, List.set_cons_zero, List.set_cons_succ]
    refine any_skip 13 (i := 7) rfl rfl (by kernel_rfl) (by kernel_rfl) (by kernel_rfl) (fun _ _ _ h => h) (by rfl) (by assumption) ?_
    simp only [Act.put, List.setIfInBounds_toArray, List.set_cons_zero, List.set_cons_succ]
    refine any_skip 14 (i := 8) rfl rfl (by kernel_rfl) (by kernel_rfl) (by kernel_rfl) (fun _ _ _ h => h) (by rfl) (by assumption) ?_
    simp only [Act.put, List.setIfInBounds_toArray, List.set_cons_zero, List.set_cons_succ]
    refine any_skip 15 (i := 9) rfl rfl (by kernel_rfl) (by kernel_rfl) (by kernel_rfl) (fun _ _ _ h => h) (by rfl) (by assumption) ?_
    simp only [Act.put, List.setIfInBounds_toArray, List.set_cons_zero, List.set_cons_succ]
    refine any_skip 16 (i := 10) rfl rfl (by kernel_rfl) (by kernel_rfl) (by kernel_rfl) (fun _ _ _ h => h) (by rfl) (by assumption) ?_
    simp only [Act.put, List.setIfInBounds_toArray, List.set_cons_zero, List.set_cons_succ]
    refine any_skip 17 (i := 11) rfl rfl (by kernel_rfl) (by kernel_rfl) (by kernel_rfl) (fun _ _ _ h => h) (by rfl) (by assumption) ?_
    simp only [Act.put, List.setIfInBounds_toArray, List.set_cons_zero, List.set_cons_succ]
    refine any_skip 18 (i := 12) rfl rfl (by kernel_rfl) (by kernel_rfl) (by kernel_rfl) (fun _ _ _ h => h) (by rfl) (by assumption) ?_
    simp only [Act.put, List.setIfInBounds_toArray, List.set_cons_zero, List.set_cons_succ]
    refine any_skip 19 (i := 13) rfl rfl (by kernel_rfl) (by kernel_rfl) (by kernel_rfl) (fun _ _ _ h => h) (by rfl) (by assumption) ?_
    simp only [Act.put, List.setIfInBounds_toArray, List.set_cons_zero, List.set_cons_succ]
    refine any_skip 20 (i := 14) rfl rfl (by kernel_rfl) (by kernel_rfl) (by kernel_rfl) (fun _ _ _ h => h) (by rfl) (by assumption) ?_
    simp only [Act.put, List.setIfInBounds_toArray, List.set_cons_zero, List.set_cons_succ]
    refine any_skip 21 (i := 15) rfl rfl (by kernel_rfl) (by kernel_rfl) (by kernel_rfl) (fun _ _ _ h => h) (by rfl) (by assumption) ?_
    simp only [Act.put, List.setIfInBounds_toArray, List.set_cons_zero, List.set_cons_succ]
    refine any_skip 22 (i := 16) rfl rfl (by kernel_rfl) (by kernel_rfl) (by kernel_rfl) (fun _ _ _ h => h) (by rfl) (by assumption) ?_
    simp only [Act.put, List.setIfInBounds_toArray, List.set_cons_zero, List.set_cons_succ]
    refine any_skip 23 (i := 17) rfl rfl (by kernel_rfl) (by kernel_rfl) (by kernel_rfl) (fun _ _ _ h => h) (by rfl) (by assumption) ?_
    simp only [Act.put, List.setIfInBounds_toArray, List.set_cons_zero, List.set_cons_succ]
    refine any_take 24 (.bool true) (i := 18) rfl rfl (by kernel_rfl) (by kernel_rfl) (by kernel_rfl) (fun _ _ _ h => h) (by rfl) (by intro w hSw; (try dsimp only at hSw); go_simp; try with_reducible rfl) (by assumption) ?_
    simp only [Act.put, List.setIfInBounds_toArray, List.set_cons_zero, List.set_cons_succ]
    refine wpAnyH_ready (rs := [19]) (by kernel_rfl) (by simp) ?_
    refine AllReadyH.cons rfl (fun K' hK => ?_) AllReadyH.nil
    go_simp
    go_at_call 119
    refine (must_any _ _ _).mono ?_
    rintro e' w1 ⟨rfl, rfl⟩
    try dsimp only
    refine hK.out _ _ (by assumption) (fun hHeld => ?_)
    clear hK
    try simp only [Act.put, List.setIfInBounds_toArray, List.set_cons_zero, List.set_cons_succ]
    refine wpAnyH_done (by kernel_rfl) ?_ _
    clear hHeld
    have g9 := (Hcell.out _ ((Fr.refl No w).drew) 9).trans k9
    have g10 := (Hcell.out _ ((Fr.refl No w).drew) 10).trans k10
    have gf : (w.drew).frozen? ⟨d, 9, none⟩ = false := Hfz.out _ ((Fr.refl No w).drew) 9
    have Hd0 := Lib.hid (Hdl.out _ ((Fr.refl No w).drew))
    have HFa := Lib.hid (((Fr.refl No w).drew))
    clear k1 k2 k4 k9 k10 Hcell HC
    go_wp2_with fail
    refine (HU1.out _ HFa.out).mono ?_
    rintro e w5 ⟨A3, c3, rfl, ho3, f1⟩
    have HF1 := Lib.hid (HFa.out.trans' f1 (fun _ _ e => e))
    have m9 := (f1.cell (p := ⟨d, 9, none⟩) (Nat.lt_of_lt_of_le hd (HFa.out).size) (fun e => e)).trans g9
    have m10 := (f1.cell (p := ⟨d, 10, none⟩) (Nat.lt_of_lt_of_le hd (HFa.out).size) (fun e => e)).trans g10
    have Hd1 := Lib.hid (HR.out _ (Hd0.out.fr0 f1) _ _ (own_base ho3 (by have h1 := Hml.out; have h2 := (HFa.out).size; omega)))
    have mf9 := Hfz.out _ HF1.out 9
    have mf10 := Hfz.out _ HF1.out 10
    have HF2 : Hid (Fr (fun k => k = d) w (w5.setCell ⟨d, 9, none⟩ (.slice A3 (plainOf rd').length c3))) := Lib.hid ((show Fr (fun k => k = d) w w5 from HF1.out.weak (fun _ _ e => e.elim)).setCell (p := ⟨d, 9, none⟩) (.inl rfl) _)
    clear g9 g10 gf Hd0 HFa f1 ho3 HU1 HR Hdl
    generalize (plainOf rd').length = N1 at *
    go_wp2_with fail
    refine (HU2.out _ HF2.out).mono ?_
    rintro e w2 ⟨A4, c4, rfl, ho4, f2⟩
    have Hd2 := Lib.hid (HW.out _ (Hd1.out.fr0 f2) _ _ (own_base ho4 (by have h1 := Hml.out; have h2 := (HF2.out).size; omega)))
    have HF3 : Hid (Fr (fun k => k = d) w (w2.setCell ⟨d, 10, none⟩ (.slice A4 (plainOf wt').length c4))) := Lib.hid ((show Fr (fun k => k = d) w w2 from HF2.out.trans' f2 (fun _ _ e => e.elim)).setCell (p := ⟨d, 10, none⟩) (.inl rfl) _)
    have mg10 := Hd1.out.fr0 f2
    have mf := mg10.frozen 10
    obtain ⟨_, _, _, _, -, n10, -, -⟩ := mg10.rows
    rw [← Hde.out] at mf n10
    clear mg10 m9 HU2 HW Hd1 HF2 mf9 mf10 m10 ho4 f2
    generalize (plainOf wt').length = N2 at *
    go_wp2
    go_end0
    exact ⟨rfl, Hd2.out, HF3.out⟩
  · cases cv
    · subst ht
      simp only [Bool.not_false, Bool.and_self, if_true]
      go_enter Tryz.func114, Tryz.ntmps114
      go_wp2_with fail
      refine wp_region_held_drew (S := fun w' => w'.cell? ⟨d, 1, none⟩ = some (.slice fA nf fc) ∧ w'.cell? ⟨d, 2, none⟩ = some (.slice gA ng gc) ∧ w'.cell? ⟨d, 4, none⟩ = some (.bool true)) (by kernel_rfl) (⟨k1, k2, k4⟩) (fun hHeld => ?_)
      refine any_take 6 (.pointer (some ⟨d, 0, none⟩)) (i := 0) rfl rfl (by kernel_rfl) (by kernel_rfl) (by kernel_rfl) (fun _ _ _ h => h) (by rfl) (by intro w hSw; (try dsimp only at hSw); go_simp; try with_reducible rfl) (by assumption) ?_
      simp only [Act.put, List.setIfInBounds_toArray, List.set_cons_zero, List.set_cons_succ]
      refine any_take 7 (.pointer (some ⟨d, 0, none⟩)) (i := 1) rfl rfl (by kernel_rfl) (by kernel_rfl) (by kernel_rfl) (fun _ _ _ h => h) (by rfl) (by intro w hSw; (try dsimp only at hSw); go_simp; try with_reducible rfl) (by assumption) ?_
      simp only [Act.put, List.setIfInBounds_toArray, List.set_cons_zero, List.set_cons_succ]
      refine any_take 8 (.pointer (some ⟨d, 4, none⟩)) (i := 2) rfl rfl (by kernel_rfl) (by kernel_rfl) (by kernel_rfl) (fun _ _ _ h => h) (by rfl) (by intro w hSw; (try dsimp only at hSw); go_simp; try with_reducible rfl) (by assumption) ?_
      simp only [Act.put, List.setIfInBounds_toArray, List.set_cons_zero, List.set_cons_succ]
      refine any_take 9 (.bool true) (i := 3) rfl rfl (by kernel_rfl) (by kernel_rfl) (by kernel_rfl) (fun _ _ _ h => h) (by rfl) (by intro w hSw; (try dsimp only at hSw); go_simp; try with_reducible rfl) (by assumption) ?_
      simp only [Act.put, List.setIfInBounds_toArray, List.set_cons_zero, List.set_cons_succ]
      refine any_take 10 (.bool false) (i := 4) rfl rfl (by kernel_rfl) (by kernel_rfl) (by kernel_rfl) (fun _ _ _ h => h) (by rfl) (by intro w hSw; (try dsimp only at hSw); go_simp; try with_reducible rfl) (by assumption) ?_
      simp only [Act.put, List.setIfInBounds_toArray, List.set_cons_zero, List.set_cons_succ]
      refine any_take 11 (.bool false) (i := 5) rfl rfl (by kernel_rfl) (by kernel_rfl) (by kernel_rfl) (fun _ _ _ h => h) (by rfl) (by intro w hSw; (try dsimp only at hSw); go_simp; try with_reducible rfl) (by assumption) ?_
      simp only [Act.put, List.setIfInBounds_toArray, List.set_cons_zero, List.set_cons_succ]
      refine any_take 12 (.pointer (some ⟨d, 0, none⟩)) (i := 6) rfl rfl (by kernel_rfl) (by kernel_rfl) (by kernel_rfl) (fun _ _ _ h => h) (by rfl) (by intro w hSw; (try dsimp only at hSw); go_simp; try with_reducible rfl) (by assumption) ?_
      simp only [Act.put, List.setIfInBounds_toArray, List.set_cons_zero, List.set_cons_succ]
      refine any_take 13 (.pointer (some ⟨d, 0, none⟩)) (i := 7) rfl rfl (by kernel_rfl) (by kernel_rfl) (by kernel_rfl) (fun _ _ _ h => h) (by rfl) (by intro w hSw; (try dsimp only at hSw); go_simp; try with_reducible rfl) (by assumption) ?_
      simp only [Act.put, List.setIfInBounds_toArray, List.set_cons_zero, List.set_cons_succ]
      refine any_take 14 (.pointer (some ⟨d, 0, none⟩)) (i := 8) rfl rfl (by kernel_rfl) (by kernel_rfl) (by kernel_rfl) (fun _ _ _ h => h) (by rfl) (by intro w hSw; (try dsimp only at hSw); go_simp; try with_reducible rfl) (by assumption) ?_
      simp only [Act.put, List.setIfInBounds_toArray, List.set_cons_zero, List.set_cons_succ]
      refine any_take 15 (.pointer (some ⟨d, 1, none⟩)) (i := 9) rfl rfl (by kernel_rfl) (by kernel_rfl) (by kernel_rfl) (fun _ _ _ h => h) (by rfl) (by intro w hSw; (try dsimp only at hSw); go_simp; try with_reducible rfl) (by assumption) ?_
      simp only [Act.put, List.setIfInBounds_toArray, List.set_cons_zero, List.set_cons_succ]
      refine any_take 16 (.slice fA nf fc) (i := 10) rfl rfl (by kernel_rfl) (by kernel_rfl) (by kernel_rfl) (fun _ _ _ h => h) (by rfl) (by intro w hSw; (try dsimp only at hSw); go_simp; try with_reducible rfl) (by assumption) ?_
      simp only [Act.put, List.setIfInBounds_toArray, List.set_cons_zero, List.set_cons_succ]
      refine any_take 17 (.pointer (some ⟨d, 0, none⟩)) (i := 11) rfl rfl (by kernel_rfl) (by kernel_rfl) (by kernel_rfl) (fun _ _ _ h => h) (by rfl) (by intro w hSw; (try dsimp only at hSw); go_simp; try with_reducible rfl) (by assumption) ?_
      simp only [Act.put, List.setIfInBounds_toArray, List.set_cons_zero, List.set_cons_succ]
      refine any_take 18 (.pointer (some ⟨d, 0, none⟩)) (i := 12) rfl rfl (by kernel_rfl) (by kernel_rfl) (by kernel_rfl) (fun _ _ _ h => h) (by rfl) (by intro w hSw; (try dsimp only at hSw); go_simp; try with_reducible rfl) (by assumption) ?_
      simp only [Act.put, List.setIfInBounds_toArray, List.set_cons_zero, List.set_cons_succ]
      refine any_take 19 (.pointer (some ⟨d, 2, none⟩)) (i := 13) rfl rfl (by kernel_rfl) (by kernel_rfl) (by kernel_rfl) (fun _ _ _ h => h) (by rfl) (by intro w hSw; (try dsimp only at hSw); go_simp; try with_reducible rfl) (by assumption) ?_
      simp only [Act.put, List.setIfInBounds_toArray, List.set_cons_zero, List.set_cons_succ]
      refine any_take 20 (.slice gA ng gc) (i := 14) rfl rfl (by kernel_rfl) (by kernel_rfl) (by kernel_rfl) (fun _ _ _ h => h) (by rfl) (by intro w hSw; (try dsimp only at hSw); go_simp; try with_reducible rfl) (by assumption) ?_
      simp only [Act.put, List.setIfInBounds_toArray, List.set_cons_zero, List.set_cons_succ]
      refine any_take 21 (.slice A1 n1 c1) (i := 15) rfl rfl (by kernel_rfl) (by kernel_rfl) (by kernel_rfl) (fun _ _ _ h => h) (by rfl) (by intro w hSw; (try dsimp only at hSw); go_simp; try with_reducible rfl) (by assumption) ?_
      simp only [Act.put, List.setIfInBounds_toArray, List.set_cons_zero, List.set_cons_succ]
      refine any_take 22 (.slice A2 n2 c2) (i := 16) rfl rfl (by kernel_rfl) (by kernel_rfl) (by kernel_rfl) (fun _ _ _ h => h) (by rfl) (by intro w hSw; (try dsimp only at hSw); go_simp; try with_reducible rfl) (by assumption) ?_
      simp only [Act.put, List.setIfInBounds_toArray, List.set_cons_zero, List.set_cons_succ]
      refine wpAnyH_ready (rs := [17]) (by kernel_rfl) (by simp) ?_
      refine AllReadyH.cons rfl (fun K' hK => ?_) AllReadyH.nil
      go_simp
      go_at_call 134
      refine (HC.out _ ((Fr.refl No w).drew)).mono ?_
      rintro e' w3 ⟨rfl, f3⟩
      have F3 : Fr No w w3 := ((Fr.refl No w).drew).then0 f3 (fun _ h => h.elim)
      dsimp only
      refine hK.out _ _ ⟨(Hcell.out _ F3 1).trans k1, (Hcell.out _ F3 2).trans k2, (Hcell.out _ F3 4).trans k4⟩ (fun hHeld => ?_)
      clear hK
      try simp only [Act.put, List.setIfInBounds_toArray, List.set_cons_zero, List.set_cons_succ]
      refine any_take 24 (.bool false) (i := 18) rfl rfl (by kernel_rfl) (by kernel_rfl) (by kernel_rfl) (fun _ _ _ h => h) (by rfl) (by intro w hSw; (try dsimp only at hSw); go_simp; try with_reducible rfl) (by assumption) ?_
      simp only [Act.put, List.setIfInBounds_toArray, List.set_cons_zero, List.set_cons_succ]
      refine wpAnyH_ready (rs := [19]) (by kernel_rfl) (by simp) ?_
      refine AllReadyH.cons rfl (fun K' hK => ?_) AllReadyH.nil
      go_simp
      go_at_call 119
      refine (must_any _ _ _).mono ?_
      rintro e' w1 ⟨rfl, rfl⟩
      exact ⟨rfl, rfl, F3.weak (fun _ _ e => e.elim)⟩
    · subst ht
      simp only [Bool.not_true, Bool.and_false, Bool.false_eq_true, if_false]
      go_enter Tryz.func114, Tryz.ntmps114
      go_wp2_with fail
      refine wp_region_held_drew (S := fun w' => w'.cell? ⟨d, 1, none⟩ = some (.slice fA nf fc) ∧ w'.cell? ⟨d, 2, none⟩ = some (.slice gA ng gc) ∧ w'.cell? ⟨d, 4, none⟩ = some (.bool true)) (by kernel_rfl) (⟨k1, k2, k4⟩) (fun hHeld => ?_)
      refine any_take 6 (.pointer (some ⟨d, 0, none⟩)) (i := 0) rfl rfl (by kernel_rfl) (by kernel_rfl) (by kernel_rfl) (fun _ _ _ h => h) (by rfl) (by intro w hSw; (try dsimp only at hSw); go_simp; try with_reducible rfl) (by assumption) ?_
      simp only [Act.put, List.setIfInBounds_toArray, List.set_cons_zero, List.set_cons_succ]
      refine any_take 7 (.pointer (some ⟨d, 0, none⟩)) (i := 1) rfl rfl (by kernel_rfl) (by kernel_rfl) (by kernel_rfl) (fun _ _ _ h => h) (by rfl) (by intro w hSw; (try dsimp only at hSw); go_simp; try with_reducible rfl) (by assumption) ?_
      simp only [Act.put, List.setIfInBounds_toArray, List.set_cons_zero, List.set_cons_succ]
      refine any_take 8 (.pointer (some ⟨d, 4, none⟩)) (i := 2) rfl rfl (by kernel_rfl) (by kernel_rfl) (by kernel_rfl) (fun _ _ _ h => h) (by rfl) (by intro w hSw; (try dsimp only at hSw); go_simp; try with_reducible rfl) (by assumption) ?_
      simp only [Act.put, List.setIfInBounds_toArray, List.set_cons_zero, List.set_cons_succ]
      refine any_take 9 (.bool true) (i := 3) rfl rfl (by kernel_rfl) (by kernel_rfl) (by kernel_rfl) (fun _ _ _ h => h) (by rfl) (by intro w hSw; (try dsimp only at hSw); go_simp; try with_reducible rfl) (by assumption) ?_
      simp only [Act.put, List.setIfInBounds_toArray, List.set_cons_zero, List.set_cons_succ]
      refine any_take 10 (.bool false) (i := 4) rfl rfl (by kernel_rfl) (by kernel_rfl) (by kernel_rfl) (fun _ _ _ h => h) (by rfl) (by intro w hSw; (try dsimp only at hSw); go_simp; try with_reducible rfl) (by assumption) ?_
      simp only [Act.put, List.setIfInBounds_toArray, List.set_cons_zero, List.set_cons_succ]
      refine any_take 11 (.bool false) (i := 5) rfl rfl (by kernel_rfl) (by kernel_rfl) (by kernel_rfl) (fun _ _ _ h => h) (by rfl) (by intro w hSw; (try dsimp only at hSw); go_simp; try with_reducible rfl) (by assumption) ?_
      simp only [Act.put, List.setIfInBounds_toArray, List.set_cons_zero, List.set_cons_succ]
      refine any_take 12 (.pointer (some ⟨d, 0, none⟩)) (i := 6) rfl rfl (by kernel_rfl) (by kernel_rfl) (by kernel_rfl) (fun _ _ _ h => h) (by rfl) (by intro w hSw; (try dsimp only at hSw); go_simp; try with_reducible rfl) (by assumption) ?_
      simp only [Act.put, List.setIfInBounds_toArray, List.set_cons_zero, List.set_cons_succ]
      refine any_take 13 (.pointer (some ⟨d, 0, none⟩)) (i := 7) rfl rfl (by kernel_rfl) (by kernel_rfl) (by kernel_rfl) (fun _ _ _ h => h) (by rfl) (by intro w hSw; (try dsimp only at hSw); go_simp; try with_reducible rfl) (by assumption) ?_
      simp only [Act.put, List.setIfInBounds_toArray, List.set_cons_zero, List.set_cons_succ]
      refine any_take 14 (.pointer (some ⟨d, 0, none⟩)) (i := 8) rfl rfl (by kernel_rfl) (by kernel_rfl) (by kernel_rfl) (fun _ _ _ h => h) (by rfl) (by intro w hSw; (try dsimp only at hSw); go_simp; try with_reducible rfl) (by assumption) ?_
      simp only [Act.put, List.setIfInBounds_toArray, List.set_cons_zero, List.set_cons_succ]
      refine any_take 15 (.pointer (some ⟨d, 1, none⟩)) (i := 9) rfl rfl (by kernel_rfl) (by kernel_rfl) (by kernel_rfl) (fun _ _ _ h => h) (by rfl) (by intro w hSw; (try dsimp only at hSw); go_simp; try with_reducible rfl) (by assumption) ?_
      simp only [Act.put, List.setIfInBounds_toArray, List.set_cons_zero, List.set_cons_succ]
      refine any_take 16 (.slice fA nf fc) (i := 10) rfl rfl (by kernel_rfl) (by kernel_rfl) (by kernel_rfl) (fun _ _ _ h => h) (by rfl) (by intro w hSw; (try dsimp only at hSw); go_simp; try with_reducible rfl) (by assumption) ?_
      simp only [Act.put, List.setIfInBounds_toArray, List.set_cons_zero, List.set_cons_succ]
      refine any_take 17 (.pointer (some ⟨d, 0, none⟩)) (i := 11) rfl rfl (by kernel_rfl) (by kernel_rfl) (by kernel_rfl) (fun _ _ _ h => h) (by rfl) (by intro w hSw; (try dsimp only at hSw); go_simp; try with_reducible rfl) (by assumption) ?_
      simp only [Act.put, List.setIfInBounds_toArray, List.set_cons_zero, List.set_cons_succ]
      refine any_take 18 (.pointer (some ⟨d, 0, none⟩)) (i := 12) rfl rfl (by kernel_rfl) (by kernel_rfl) (by kernel_rfl) (fun _ _ _ h => h) (by rfl) (by intro w hSw; (try dsimp only at hSw); go_simp; try with_reducible rfl) (by assumption) ?_
      simp only [Act.put, List.setIfInBounds_toArray, List.set_cons_zero, List.set_cons_succ]
      refine any_take 19 (.pointer (some ⟨d, 2, none⟩)) (i := 13) rfl rfl (by kernel_rfl) (by kernel_rfl) (by kernel_rfl) (fun _ _ _ h => h) (by rfl) (by intro w hSw; (try dsimp only at hSw); go_simp; try with_reducible rfl) (by assumption) ?_
      simp only [Act.put, List.setIfInBounds_toArray, List.set_cons_zero, List.set_cons_succ]
      refine any_take 20 (.slice gA ng gc) (i := 14) rfl rfl (by kernel_rfl) (by kernel_rfl) (by kernel_rfl) (fun _ _ _ h => h) (by rfl) (by intro w hSw; (try dsimp only at hSw); go_simp; try with_reducible rfl) (by assumption) ?_
      simp only [Act.put, List.setIfInBounds_toArray, List.set_cons_zero, List.set_cons_succ]
      refine any_take 21 (.slice A1 n1 c1) (i := 15) rfl rfl (by kernel_rfl) (by kernel_rfl) (by kernel_rfl) (fun _ _ _ h => h) (by rfl) (by intro w hSw; (try dsimp only at hSw); go_simp; try with_reducible rfl) (by assumption) ?_
      simp only [Act.put, List.setIfInBounds_toArray, List.set_cons_zero, List.set_cons_succ]
      refine any_take 22 (.slice A2 n2 c2) (i := 16) rfl rfl (by kernel_rfl) (by kernel_rfl) (by kernel_rfl) (fun _ _ _ h => h) (by rfl) (by intro w hSw; (try dsimp only at hSw); go_simp; try with_reducible rfl) (by assumption) ?_
      simp only [Act.put, List.setIfInBounds_toArray, List.set_cons_zero, List.set_cons_succ]
      refine wpAnyH_ready (rs := [17]) (by kernel_rfl) (by simp) ?_
      refine AllReadyH.cons rfl (fun K' hK => ?_) AllReadyH.nil
      go_simp
      go_at_call 134
      refine (HC.out _ ((Fr.refl No w).drew)).mono ?_
      rintro e' w3 ⟨rfl, f3⟩
      have F3 : Fr No w w3 := ((Fr.refl No w).drew).then0 f3 (fun _ h => h.elim)
      dsimp only
      refine hK.out _ _ ⟨(Hcell.out _ F3 1).trans k1, (Hcell.out _ F3 2).trans k2, (Hcell.out _ F3 4).trans k4⟩ (fun hHeld => ?_)
      clear hK
      try simp only [Act.put, List.setIfInBounds_toArray, List.set_cons_zero, List.set_cons_succ]
      refine any_take 24 (.bool true) (i := 18) rfl rfl (by kernel_rfl) (by kernel_rfl) (by kernel_rfl) (fun _ _ _ h => h) (by rfl) (by intro w hSw; (try dsimp only at hSw); go_simp; try with_reducible rfl) (by assumption) ?_
      simp only [Act.put, List.setIfInBounds_toArray, List.set_cons_zero, List.set_cons_succ]
      refine wpAnyH_ready (rs := [19]) (by kernel_rfl) (by simp) ?_
      refine AllReadyH.cons rfl (fun K' hK => ?_) AllReadyH.nil
      go_simp
      go_at_call 119
      refine (must_any _ _ _).mono ?_
      rintro e' w1 ⟨rfl, rfl⟩
      try dsimp only
      refine hK.out _ _ (by assumption) (fun hHeld => ?_)
      clear hK
      try simp only [Act.put, List.setIfInBounds_toArray, List.set_cons_zero, List.set_cons_succ]
      refine wpAnyH_done (by kernel_rfl) ?_ _
      clear hHeld
      have g9 := (Hcell.out _ F3 9).trans k9
      have g10 := (Hcell.out _ F3 10).trans k10
      have gf : (w1).frozen? ⟨d, 9, none⟩ = false := Hfz.out _ F3 9
      have Hd0 := Lib.hid (Hdl.out _ F3)
      have HFa := Lib.hid (F3)
      clear k1 k2 k4 k9 k10 Hcell HC
      go_wp2_with fail
      refine (HU1.out _ HFa.out).mono ?_
      rintro e w5 ⟨A3, c3, rfl, ho3, f1⟩
      have HF1 := Lib.hid (HFa.out.trans' f1 (fun _ _ e => e))
      have m9 := (f1.cell (p := ⟨d, 9, none⟩) (Nat.lt_of_lt_of_le hd (HFa.out).size) (fun e => e)).trans g9
      have m10 := (f1.cell (p := ⟨d, 10, none⟩) (Nat.lt_of_lt_of_le hd (HFa.out).size) (fun e => e)).trans g10
      have Hd1 := Lib.hid (HR.out _ (Hd0.out.fr0 f1) _ _ (own_base ho3 (by have h1 := Hml.out; have h2 := (HFa.out).size; omega)))
      have mf9 := Hfz.out _ HF1.out 9
      have mf10 := Hfz.out _ HF1.out 10
      have HF2 : Hid (Fr (fun k => k = d) w (w5.setCell ⟨d, 9, none⟩ (.slice A3 (plainOf rd').length c3))) := Lib.hid ((show Fr (fun k => k = d) w w5 from HF1.out.weak (fun _ _ e => e.elim)).setCell (p := ⟨d, 9, none⟩) (.inl rfl) _)
      clear g9 g10 gf Hd0 HFa f1 ho3 HU1 HR Hdl
      generalize (plainOf rd').length = N1 at *
      go_wp2_with fail
      refine (HU2.out _ HF2.out).mono ?_
      rintro e w2 ⟨A4, c4, rfl, ho4, f2⟩
      have Hd2 := Lib.hid (HW.out _ (Hd1.out.fr0 f2) _ _ (own_base ho4 (by have h1 := Hml.out; have h2 := (HF2.out).size; omega)))
      have HF3 : Hid (Fr (fun k => k = d) w (w2.setCell ⟨d, 10, none⟩ (.slice A4 (plainOf wt').length c4))) := Lib.hid ((show Fr (fun k => k = d) w w2 from HF2.out.trans' f2 (fun _ _ e => e.elim)).setCell (p := ⟨d, 10, none⟩) (.inl rfl) _)
      have mg10 := Hd1.out.fr0 f2
      have mf := mg10.frozen 10
      obtain ⟨_, _, _, _, -, n10, -, -⟩ := mg10.rows
      rw [← Hde.out] at mf n10
      clear mg10 m9 HU2 HW Hd1 HF2 mf9 mf10 m10 ho4 f2
      generalize (plainOf wt').length = N2 at *
      go_wp2
      go_end0
      exact ⟨rfl, Hd2.out, HF3.out⟩
end
end Go.Proofs.YthenadijiepmnaaGreat
/- Package step: a change; a key's value behind the changes so far. -/
namespace Go.Proofs.YthenadijiepmnaaGreat
open Go.RowKit

section
variable {x : Dx} {w w' : World} {r : Nat → Int} {rd wt : Nat → Bool} {f : Nat → Option Value}
theorem Fr.dm {x : Dx} {a b : World} (h : Fr (fun k => k = x.d) a b) : Fr (DM x) a b := h.weak fun _ _ e => .inl e
theorem Fr.mm {x : Dx} {a b : World} (h : Fr (fun k => k = x.m) a b) : Fr (DM x) a b := h.weak fun _ _ e => .inr e
theorem Fr.nm {x : Dx} {a b : World} (h : Fr No a b) : Fr (DM x) a b := h.weak fun _ _ e => e.elim
set_option maxRecDepth 100000 in
set_option maxHeartbeats 4000000 in
theorem dChange_any (hs : Dst x w) (hl : DL x r rd wt f w) {k : Nat} (hk : k < 1000) (gone : Bool) (v : Int) {t : Bool} (ht : (x.ask && !keysOf (chosen true x.gs x.foot) k) = t) :
    Calls Tryz.prog 117 #[.pointer (some ⟨x.d, 0, none⟩), .agg #[.int .i64 (k : Int), .bool gone, .int .i64 v]] w fun e w' =>
      if t = true then e = .panicked (pan13 9) ∧ Fr (DM x) w w' else e = .returned (.tuple #[]) ∧ DL x r rd (upd wt k true) (upd f k (some (.agg #[.int .i64 (k : Int), .bool gone, .int .i64 v]))) w' ∧ Fr (DM x) w w' := by
  have hd := hl.lt
  have f0 : Fr No w (w.alloc (.cells #[.int .i64 (k : Int), .bool gone, .int .i64 v] 57)) := (Fr.refl _ _).alloc _
  have b0 := Bk.made w 57 #[.int .i64 (k : Int), .bool gone, .int .i64 v]
  have HOne := Lib.hid (fun W => kOne_own (k : Int) W)
  have HT := Lib.hid (fun W (hW : Fr No w W) (A : Option Addr) (c : Nat) (ho : W.ownsRow 0 72 2 (.slice A (oneL (k : Int)).length c) (oneL (k : Int)).length (sps (oneL (k : Int)))) =>
    dTouch_any (hs.fr0 hW) (hl.fr0 hW) (Own4.nil W) (A2 := A) (c2 := c) ⟨ho, rfl, by unfold oneL; split <;> simp⟩ (rd' := rd) (wt' := upd wt k true) (plain_none rd) (plain_one wt hk) (t := t) (by rw [cov_write hs.right hk]; exact ht))
  have HM := Lib.hid (fun (W : World) (h : DL x r rd (upd wt k true) f W) => h.mp.store int_k13 map_t13 hk (by omega) (.agg #[.int .i64 (k : Int), .bool gone, .int .i64 v]))
  have HMd := Lib.hid (fun (W W' : World) (h : DL x r rd (upd wt k true) f W) (hf : Fr (fun k => k = x.m) W W') (hg : MI Tryz.prog 3 W' x.m 1000 (upd f k (some (.agg #[.int .i64 (k : Int), .bool gone, .int .i64 v])))) => h.map hf hg)
  have Hne : Hid (x.d ≠ w.heap.size) := Lib.hid (Nat.ne_of_lt hd)
  have HF0 := Lib.hid f0
  have HB0 := Lib.hid b0
  clear hs hl hk ht f0 b0 hd
  unfold Tch at HT
  go_enter Tryz.func117, Tryz.ntmps117
  go_wp2_with fail
  refine (HOne.out _).mono ?_
  rintro e w1 ⟨A1, c1, rfl, ho, f1⟩
  have F1 := Lib.hid (HF0.out.trans' f1 (fun _ _ e => e))
  have B1 := Lib.hid (HB0.out.fr f1 (fun e => e))
  have D1 := Lib.hid (HT.out _ F1.out A1 c1 (own_base ho (Nat.zero_le _)))
  clear f1 ho HT HB0 HOne HF0
  cases t
  · simp only [Bool.false_eq_true, if_false] at D1 ⊢
    go_wp2_with fail
    refine (D1.out).mono ?_
    rintro e w2 ⟨rfl, h2, f2⟩
    have F2 := Lib.hid (F1.out.nm.trans' f2.dm (fun _ _ e => e))
    have B2 := B1.out.fr f2 (fun e => Hne.out e.symm)
    have b0 := B2.cell 0
    have b1 := B2.cell 1
    have b2 := B2.cell 2
    simp at b0 b1 b2
    obtain ⟨-, -, -, -, -, c11⟩ := h2.cell
    have h3 := h2.fr0 ((Fr.refl No w2).drew)
    obtain ⟨w3, hup, hmi, hfm, hsz⟩ := HM.out _ h3
    have HD := Lib.hid (HMd.out _ _ h3 hfm hmi)
    have HF := Lib.hid (F2.out.trans' (((Fr.refl No w2).drew).nm.trans' hfm.mm (fun _ _ e => e)) (fun _ _ e => e))
    clear h2 h3 f2 F2 B2 B1 F1 HM HMd hmi hfm D1 hsz
    generalize x.d = d at *
    generalize x.m = m at *
    go_wp2_with fail
    go_region
    all_goals
      go_wp2
      go_end0
      exact ⟨rfl, HD.out, HF.out⟩
  · simp only [if_true] at D1 ⊢
    go_wp2_with fail
    refine (D1.out).mono ?_
    rintro e w2 ⟨rfl, f2⟩
    exact ⟨rfl, rfl, F1.out.nm.trans' f2 (fun _ _ e => e)⟩
set_option maxRecDepth 100000 in
set_option maxHeartbeats 4000000 in
theorem dValue_any (hs : Dst x w) (hl : DL x r rd wt f w) {k : Nat} (hk : k < 1000) {m : Mp} (hf : ∀ j, j < 1000 → f j = if wt j = true then some (chgAt m j).agg else none) (hm : ∀ j, wt j = false → m j = valP x.P.flatten j) :
    Calls Tryz.prog 116 #[.pointer (some ⟨x.d, 0, none⟩), .int .i64 (k : Int)] w fun e w' => e = .returned (.int .i64 (valM m k)) ∧ Fr No w w' := by
  have HL := Lib.hid (fun W (h : Fr No w W) => (hl.fr0 h).mp.look int_k13 map_t13 hk (by omega) (Tryz.zeroValue57 W))
  have HG := Lib.hid (fun W (h : Fr No w W) => pGet_any k hk (hs.fr0 h).inv (hs.fr0 h).ps)
  have hlk := HL.out w (Fr.refl _ _)
  rw [hf k hk] at hlk
  obtain ⟨-, -, -, c3, -, c11⟩ := hl.cell
  have hdl := hl.lt
  have Hcell := Lib.hid (fun (W : World) (hW : Fr No w W) => (hW.cell (p := ⟨x.d, 3, none⟩) hdl (fun e => e)).trans c3)
  cases hw : wt k
  · have e1 := hm k hw
    have e2 : valM m k = (getA x.P k).1 := by
      unfold valM getA
      rw [e1]
      cases valP x.P.flatten k <;> rfl
    rw [hw] at hlk
    simp only [Bool.false_eq_true, if_false, Option.getD_none, Option.isSome_none] at hlk
    rw [e2]
    generalize (getA x.P k).1 = q at *
    generalize (getA x.P k).2 = q2 at *
    have c3' := fun o => Hcell.out (w.alloc o) ((Fr.refl No w).alloc o)
    clear hs hl hf hm hw e1 e2 HL c3 Hcell
    generalize x.d = d at *
    generalize x.m = mm at *
    generalize x.s = s at *
    go_enter Tryz.func116, Tryz.ntmps116
    go_wp2_with fail
    refine (HG.out _ ((Fr.refl No w).alloc _)).mono ?_
    rintro e w1 ⟨rfl, f1⟩
    go_wp2
    go_ret
    exact ⟨rfl, ((Fr.refl No w).alloc _).trans' f1 (fun _ _ e => e)⟩
  · rw [hw] at hlk
    simp only [if_true, Option.getD_some, Option.isSome_some] at hlk
    unfold chgAt Chg.agg at hlk
    generalize valM m k = q at *
    generalize (!isM m k) = q2 at *
    clear hs hl hf hm hw HL c3 Hcell HG
    generalize x.d = d at *
    generalize x.m = mm at *
    simp only at hlk
    go_enter Tryz.func116, Tryz.ntmps116
    go_wp2
    go_ret
    exact ⟨rfl, (Fr.refl No w).alloc _⟩
end
end Go.Proofs.YthenadijiepmnaaGreat
/- Package step: how many keys there are from one to another, behind the changes so far. -/
namespace Go.Proofs.YthenadijiepmnaaGreat
open Go.RowKit

theorem valP_scan (l : List (Nat × Int)) (lo hi : Int) (k : Nat) : valP (scanP l lo hi) k = if lo ≤ (k : Int) ∧ (k : Int) ≤ hi then valP l k else none := by
  induction l with
  | nil => simp [scanP, valP]
  | cons x l ih =>
    have e : scanP (x :: l) lo hi = (if (decide (lo ≤ x.1) && decide ((x.1 : Int) ≤ hi)) = true then [x] else []) ++ scanP l lo hi := by
      unfold scanP
      rw [List.filter_cons]
      split <;> rfl
    rw [e, valP_app, ih, show x :: l = [x] ++ l from rfl, valP_app]
    by_cases hx : x.1 = k
    · obtain ⟨a, b⟩ := x
      have hx : a = k := hx
      subst hx
      by_cases hc : lo ≤ (a : Int) ∧ (a : Int) ≤ hi
      · rw [if_pos (show (decide (lo ≤ (a : Int)) && decide ((a : Int) ≤ hi)) = true by simpa using hc), if_pos hc, if_pos hc]
      · rw [if_neg (show ¬ (decide (lo ≤ (a : Int)) && decide ((a : Int) ≤ hi)) = true by simpa using hc), if_neg hc, if_neg hc]
        simp [valP]
    · have h1 : valP [x] k = none := valP_none (fun y hy => by rw [List.mem_singleton.1 hy]; exact hx)
      have h2 : valP (if (decide (lo ≤ x.1) && decide ((x.1 : Int) ≤ hi)) = true then [x] else []) k = none := by
        split
        · exact h1
        · rfl
      rw [h1, h2, Option.none_or, Option.none_or]
/-- How many of n keys there are: those of the store that aren't turned, and those that are turned and there. -/
theorem cnt_two {P : List Pg} (hi : InvP P) {wt : Nat → Bool} {m : Mp} (hm : ∀ j, wt j = false → m j = valP P.flatten j) {lo h n : Nat} (hh : h < 1000) (hn : n = h + 1 - lo) :
    (scanP P.flatten lo h).countP (fun p => !wt p.1) + cnt (fun k => (wt k && (decide (lo ≤ k ∧ k ≤ h) && isM m k))) 1000 = cntM m lo n := by
  rcases Nat.lt_or_ge h lo with hlt | hge
  · have e0 : n = 0 := by omega
    have e1 : scanP P.flatten lo h = [] := List.filter_eq_nil_iff.2 (fun x _ => by simp; omega)
    have e2 : cnt (fun k => (wt k && (decide (lo ≤ k ∧ k ≤ h) && isM m k))) 1000 = 0 := by
      refine (cnt_congr (t := fun _ => false) 1000 fun k _ => ?_).trans (cnt_none _)
      rw [decide_eq_false (by omega), Bool.false_and, Bool.and_false]
    rw [e0, e1, e2]
    rfl
  · have hr : Rise (scanP P.flatten lo h) := List.Pairwise.filter _ hi.rise
    have hk : ∀ x ∈ scanP P.flatten lo h, x.1 < 1000 := fun x hx => hi.key x ((List.mem_filter.1 hx).1)
    rw [cntM_thousand m (show lo + n ≤ 1000 by omega), countP_rise hr hk (fun k => !wt k)]
    refine (cnt_add 1000 fun k _ => ?_).symm
    have eb : between lo n k = decide (lo ≤ k ∧ k ≤ h) := decide_eq_decide.2 ⟨fun e => by omega, fun e => by omega⟩
    rw [eb, valP_scan]
    cases hw : wt k
    · have e := hm k hw
      unfold isM
      rw [e]
      by_cases hc : lo ≤ k ∧ k ≤ h
      · rw [if_pos (by omega), decide_eq_true hc]
        cases valP P.flatten k <;> simp
      · rw [if_neg (by omega), decide_eq_false hc]
        simp
    · by_cases hc : lo ≤ k ∧ k ≤ h
      · rw [decide_eq_true hc]
        simp
      · rw [decide_eq_false hc]
        simp
section
variable {x : Dx} {w w' : World} {r : Nat → Int} {rd wt : Nat → Bool} {f : Nat → Option Value}
set_option maxRecDepth 100000 in
set_option maxHeartbeats 4000000 in
theorem dCount_any (hs : Dst x w) (hl : DL x r rd wt f w) {lo hi n : Nat} (_hlo : lo < 1000) (hhi : hi < 1000) (hn : n = hi + 1 - lo) {m : Mp} (hf : ∀ j, j < 1000 → f j = if wt j = true then some (chgAt m j).agg else none) (hm : ∀ j, wt j = false → m j = valP x.P.flatten j) :
    Calls Tryz.prog 118 #[.pointer (some ⟨x.d, 0, none⟩), .int .i64 (lo : Int), .int .i64 (hi : Int)] w fun e w' => e = .returned (.int .i64 (cntM m lo n : Nat)) ∧ Fr No w w' := by
  have HL := Lib.hid (fun W (h : Fr No w W) (k : Nat) (hk : k < 1000) => (hl.fr0 h).mp.look int_k13 map_t13 hk (by omega) (Tryz.zeroValue57 W))
  have HR := Lib.hid (fun W (h : Fr No w W) => (hl.fr0 h).mp.range int_k13 map_t13)
  have hS := pScan_any (lo : Int) (hi : Int) hs.inv hs.ps
  obtain ⟨-, -, -, c3, -, c11⟩ := hl.cell
  have hdl := hl.lt
  have Hc11 := Lib.hid (fun (W : World) (hW : Fr No w W) => (hW.cell (p := ⟨x.d, 11, none⟩) hdl (fun e => e)).trans c11)
  have Hkey := Lib.hid (fun y (hy : y ∈ scanP x.P.flatten (lo : Int) (hi : Int)) => hs.inv.key y ((List.mem_filter.1 hy).1))
  have Htwo := Lib.hid (cnt_two hs.inv hm hhi hn (lo := lo))
  have hle : (scanP x.P.flatten (lo : Int) (hi : Int)).length ≤ 1000 := Nat.le_trans (List.length_filter_le _ _) hs.inv.len.1
  have hcM : cntM m lo n ≤ 1000 := Nat.le_trans (cntM_le _ _ _) (by omega)
  have Hf := Lib.hid hf
  generalize scanP x.P.flatten (lo : Int) (hi : Int) = L at *
  generalize cntM m lo n = M at *
  obtain ⟨N, hN⟩ : ∃ N, L.length = N := ⟨_, rfl⟩
  rw [hN] at hS hle
  have HN := Lib.hid hN
  clear hs hl hf hm hn hN hdl
  generalize x.d = d at *
  generalize x.m = mm at *
  generalize x.s = s at *
  go_enter Tryz.func118, Tryz.ntmps118
  go_wp2_with fail
  refine hS.mono ?_
  rintro e w1 ⟨A, c, rfl, hsl, f1⟩
  have F1 := Lib.hid f1
  have Hsl := Lib.hid hsl
  clear hS f1 hsl c3 c11
  go_wp2
  go_loopw [7, 22] (fun nv iv wr => ∃ j a : Nat, j ≤ N ∧ a ≤ j ∧ iv = .int .i64 j ∧ nv = .int .i64 a ∧ Hid (a = (L.take j).countP (fun p => !wt p.1)) ∧ Hid (Fr No w1 wr)) (fun _ i _ => N - (intOf i).toNat)
  case atStart => exact ⟨0, 0, Nat.zero_le _, Nat.le_refl _, rfl, rfl, Lib.hid (by simp), Lib.hid (Fr.refl _ _)⟩
  case round =>
    obtain ⟨j, a, hj, haj, rfl, rfl, Ha, hfr⟩ := hrel
    by_cases hlt : j < N
    · have hjl : j < L.length := by rw [HN.out]; exact hlt
      obtain ⟨ad, rfl, hb, q0, q1⟩ := (Hsl.out.since hfr.out).pair hjl
      have hkl := Hkey.out _ (List.getElem_mem hjl)
      have Hst : Hid ((L.take (j + 1)).countP (fun p => !wt p.1) = (L.take j).countP (fun p => !wt p.1) + if (!wt L[j].1) = true then 1 else 0) := Lib.hid (by rw [List.take_succ_eq_append_getElem hjl, List.countP_append, List.countP_singleton])
      generalize L[j] = p at *
      obtain ⟨pk, pv⟩ := p
      simp only at q0 q1 hkl Hst
      have fb : Fr No w ((wr.alloc (.cells #[.int .i64 (pk : Int), .int .i64 pv] 54)).drew) := ((F1.out.trans' hfr.out (fun _ _ e => e)).alloc _).drew
      have fb2 : ∀ o, Fr No w (((wr.alloc (.cells #[.int .i64 (pk : Int), .int .i64 pv] 54)).alloc o).drew) := fun o => (((F1.out.trans' hfr.out (fun _ _ e => e)).alloc _).alloc o).drew
      have g11 := Hc11.out _ fb
      have g11' := fun o => Hc11.out _ (fb2 o)
      have glk := HL.out _ fb pk hkl
      have glk' := fun o => HL.out _ (fb2 o) pk hkl
      rw [Hf.out pk hkl] at glk glk'
      have Hal : Hid (∀ o o', Fr No w1 (((wr.alloc o).drew).alloc o') ∧ Fr No w1 (((wr.alloc o).alloc o').drew)) := Lib.hid (fun o o' => ⟨((hfr.out.alloc o).drew).alloc o', ((hfr.out.alloc o).alloc o').drew⟩)
      clear fb fb2 hb
      cases hw : wt pk
      · rw [hw] at glk glk' Hst
        simp only [Bool.false_eq_true, if_false, Option.getD_none, Option.isSome_none, Bool.not_false, if_true] at glk glk' Hst
        have Ha1 : Hid (a + 1 = (L.take (j + 1)).countP (fun p => !wt p.1)) := Lib.hid (by rw [Hst.out, ← Ha.out])
        clear hw Hst Ha
        go_wp2
        go_region
        all_goals
          go_wp2
          go_roundw
          case rel => exact ⟨j + 1, a + 1, by omega, by omega, by go_num, by go_num, Ha1, Lib.hid (by first | exact (Hal.out _ _).1 | exact (Hal.out _ _).2)⟩
          case measure => simp [intOf]; omega
      · rw [hw] at glk glk' Hst
        simp only [if_true, Option.getD_some, Option.isSome_some, Bool.not_true, Bool.false_eq_true, if_false, Nat.add_zero] at glk glk' Hst
        unfold chgAt Chg.agg at glk glk'
        simp only at glk glk'
        have Ha1 : Hid (a = (L.take (j + 1)).countP (fun p => !wt p.1)) := Lib.hid (by rw [Hst.out, ← Ha.out])
        generalize valM m pk = v1 at *
        generalize (!isM m pk) = v2 at *
        clear hw Hst Ha
        go_wp2
        go_region
        all_goals
          go_wp2
          go_roundw
          case rel => exact ⟨j + 1, a, by omega, by omega, by go_num, rfl, Ha1, Lib.hid (by first | exact (Hal.out _ _).1 | exact (Hal.out _ _).2)⟩
          case measure => simp [intOf]; omega
    · obtain rfl : j = N := by omega
      have F2 := F1.out.trans' hfr.out (fun _ _ e => e)
      have Ha2 : Hid (a = L.countP (fun p => !wt p.1)) := Lib.hid (by rw [Ha.out, List.take_of_length_le (by rw [HN.out]; exact Nat.le_refl _)])
      obtain ⟨w2, cnt0, hrun, hMR, hf2, hsz⟩ := HR.out _ F2
      have g11 := Hc11.out _ F2
      have HMR := Lib.hid hMR
      have F3 := Lib.hid (F2.trans' hf2 (fun _ _ e => e))
      have hrl : wr.heap.size < w2.heap.size := by omega
      have HwR := Lib.hid (F2.size)
      obtain ⟨rb, hrb⟩ : ∃ rb, wr.heap.size = rb := ⟨_, rfl⟩
      rw [hrb] at hrun hMR HMR HwR
      have Hw2 := Lib.hid (show w.heap.size ≤ rb from HwR.out)
      clear Ha hfr F2 hf2 hsz hMR F1 Hsl HR HL HN Hkey hrl HwR
      go_wp2
      clear hrun
      go_loopw [7] (fun nv wq => ∃ (left : Nat → Bool) (cn b : Nat), nv = .int .i64 b ∧ Hid (MR Tryz.prog 3 wq mm rb 1000 f left cn) ∧ Hid (b = a + cnt (fun k => (wt k && (decide (lo ≤ k ∧ k ≤ hi) && isM m k)) && !left k) 1000) ∧ Hid (Fr No w wq)) (fun _ wq => wq.rangeLeft mm rb)
      case atStart => exact ⟨_, _, a, rfl, HMR, Lib.hid (by
        have h0 : cnt (fun k => (wt k && (decide (lo ≤ k ∧ k ≤ hi) && isM m k)) && !(decide (k < 1000) && (f k).isSome)) 1000 = 0 := (cnt_congr (t := fun _ => false) 1000 (fun k hk => by
          rw [Hf.out k hk, decide_eq_true hk]
          cases wt k <;> simp)).trans (cnt_none _)
        rw [h0]
        rfl), F3⟩
      case round =>
        clear HMR F3
        obtain ⟨left, cn, b, rfl, hMR, Hb, hfq⟩ := hrel
        have hmeas := hMR.out.left_eq
        rcases hMR.out.next int_k13 0 with ⟨h0, hno, hnx⟩ | ⟨i, v, w3, cn', hi', hli, hv, hnx, hMR', hlt', hf3, hsz3, hen⟩
        · have e0 : b = M := by
            rw [Hb.out, Ha2.out, ← Htwo.out]
            congr 1
            exact cnt_congr 1000 (fun k _ => by rw [hno k]; simp)
          subst e0
          clear hMR Hb hno hmeas
          go_wp2
          go_ret
          exact ⟨rfl, hfq.out⟩
        · have hv2 := Hf.out i hi'
          rw [hv] at hv2
          have hwi : wt i = true := by
            cases hw : wt i
            · rw [hw] at hv2; cases hv2
            · rfl
          rw [hwi, if_pos rfl] at hv2
          injection hv2 with hv2
          subst hv2
          have hst := cnt_left (g := fun k => (wt k && (decide (lo ≤ k ∧ k ≤ hi) && isM m k))) hi' hli
          rw [← Nat.add_left_cancel_iff (n := a), ← Nat.add_assoc, ← Hb.out] at hst
          simp only [hwi, Bool.true_and] at hst
          have hble : b ≤ 2000 := by
            have := cnt_bound (fun k => (wt k && (decide (lo ≤ k ∧ k ≤ hi) && isM m k)) && !left k) 1000
            rw [Hb.out]; omega
          have hF3 := Lib.hid (hfq.out.trans' hf3 (fun k hk e => by have e : k = rb := e; have := Hw2.out; omega))
          have HM := Lib.hid hMR'
          have Hal : Hid (∀ o, Fr No w (w3.alloc o) ∧ MR Tryz.prog 3 (w3.alloc o) mm rb 1000 f (upd left i false) cn' ∧ (w3.alloc o).rangeLeft mm rb < wr.rangeLeft mm rb) := Lib.hid (fun o => ⟨hF3.out.alloc o, HM.out.fr ((Fr.refl No w3).alloc o) (fun e => e) (fun e => e), by rw [hmeas]; exact Nat.lt_of_le_of_lt (Nat.le_of_eq (HM.out.fr ((Fr.refl No w3).alloc o) (fun e => e) (fun e => e)).left_eq) hlt'⟩)
          unfold chgAt Chg.agg at hnx hen
          simp only at hnx hen
          have Hst := Lib.hid hst
          clear hMR hMR' Hb hf3 hsz3 hv hwi hst hmeas hli
          generalize valM m i = v1 at *
          obtain ⟨is, his⟩ : ∃ is, isM m i = is := ⟨_, rfl⟩
          rw [his] at hnx hen Hst
          by_cases p1 : lo ≤ i
          · by_cases p2 : i ≤ hi
            · rw [decide_eq_true (show lo ≤ i ∧ i ≤ hi from ⟨p1, p2⟩), Bool.true_and] at Hst
              cases is
              · have Hb2 : Hid (b = a + cnt (fun k => (wt k && (decide (lo ≤ k ∧ k ≤ hi) && isM m k)) && !(upd left i false k)) 1000) := Lib.hid (by rw [Hst.out]; rfl)
                go_wp2
                go_roundw
                case rel => exact ⟨upd left i false, cn', b, rfl, Lib.hid (Hal.out _).2.1, Hb2, Lib.hid (Hal.out _).1⟩
                case measure => exact (Hal.out _).2.2
              · have Hb2 : Hid (b + 1 = a + cnt (fun k => (wt k && (decide (lo ≤ k ∧ k ≤ hi) && isM m k)) && !(upd left i false k)) 1000) := Lib.hid (by rw [Hst.out]; rfl)
                go_wp2
                go_roundw
                case rel => exact ⟨upd left i false, cn', b + 1, by go_num, Lib.hid (Hal.out _).2.1, Hb2, Lib.hid (Hal.out _).1⟩
                case measure => exact (Hal.out _).2.2
            · rw [decide_eq_false (show ¬ (lo ≤ i ∧ i ≤ hi) from fun h => p2 h.2), Bool.false_and] at Hst
              have Hb2 : Hid (b = a + cnt (fun k => (wt k && (decide (lo ≤ k ∧ k ≤ hi) && isM m k)) && !(upd left i false k)) 1000) := Lib.hid (by rw [Hst.out]; rfl)
              go_wp2
              go_roundw
              case rel => exact ⟨upd left i false, cn', b, rfl, Lib.hid (Hal.out _).2.1, Hb2, Lib.hid (Hal.out _).1⟩
              case measure => exact (Hal.out _).2.2
          · rw [decide_eq_false (show ¬ (lo ≤ i ∧ i ≤ hi) from fun h => p1 h.1), Bool.false_and] at Hst
            have Hb2 : Hid (b = a + cnt (fun k => (wt k && (decide (lo ≤ k ∧ k ≤ hi) && isM m k)) && !(upd left i false k)) 1000) := Lib.hid (by rw [Hst.out]; rfl)
            go_wp2
            go_roundw
            case rel => exact ⟨upd left i false, cn', b, rfl, Lib.hid (Hal.out _).2.1, Hb2, Lib.hid (Hal.out _).1⟩
            case measure => exact (Hal.out _).2.2
end
end Go.Proofs.YthenadijiepmnaaGreat
