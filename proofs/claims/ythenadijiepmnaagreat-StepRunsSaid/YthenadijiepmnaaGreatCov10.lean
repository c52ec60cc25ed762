/- What a footprint covers, purely. -/
import Derived.Test.YthenadijiepmnaaGreatRse10
import Derived.Test.YthenadijiepmnaaGreatMay4
import Derived.Test.YthenadijiepmnaaGreatKeys4
import Derived.Test.YthenadijiepmnaaGreatHk10
namespace Go.Proofs.YthenadijiepmnaaGreat
open Go.RowKit

theorem insideS_iff (s t : Nat → Bool) : insideS s t = true ↔ ∀ k, k < 1000 → s k = true → t k = true := insTo_iff s t 1000
theorem chosen_mem {fl : Bool} {gs : List Int} {l : List Fsp} {p : Int × Int} : p ∈ chosen fl gs l ↔ ∃ f ∈ l, (f.wr || !fl) = true ∧ fspOf f gs = p := by
  unfold chosen
  rw [List.mem_map]
  constructor
  · rintro ⟨f, h1, h2⟩
    obtain ⟨h3, h4⟩ := List.mem_filter.1 h1
    exact ⟨f, h3, h4, h2⟩
  · rintro ⟨f, h1, h2, h3⟩
    exact ⟨f, List.mem_filter.2 ⟨h1, h2⟩, h3⟩
theorem keysOf_iff (l : List (Int × Int)) (k : Nat) : keysOf l k = true ↔ ∃ p ∈ l, spHas p k = true := by
  unfold keysOf
  rw [List.any_eq_true]
/-- What is written is read. -/
theorem writes_read (gs : List Int) (l : List Fsp) : insideS (keysOf (chosen true gs l)) (keysOf (chosen false gs l)) = true := by
  rw [insideS_iff]
  intro k _ h
  rw [keysOf_iff] at *
  obtain ⟨p, h1, h2⟩ := h
  obtain ⟨f, h3, _, h5⟩ := chosen_mem.1 h1
  exact ⟨p, chosen_mem.2 ⟨f, h3, by simp, h5⟩, h2⟩
/-- Does a footprint cover? -/
def coversB (l : List Fsp) (gs : List Int) (rd wt : List (Int × Int)) : Bool := footRight l gs && (insideS (keysOf rd) (keysOf (chosen false gs l)) && insideS (keysOf wt) (keysOf (chosen true gs l)))
theorem covers_self {l : List Fsp} {gs : List Int} (h : footRight l gs = true) : coversB l gs (plainOf (keysOf (chosen false gs l))) (plainOf (keysOf (chosen true gs l))) = true := by
  unfold coversB
  rw [h, Bool.true_and, Bool.and_eq_true, insideS_iff, insideS_iff]
  exact ⟨fun k _ h1 => by rwa [keysOf_plainOf] at h1, fun k _ h1 => by rwa [keysOf_plainOf] at h1⟩
theorem covers_more {l : List Fsp} {f : Fsp} {gs : List Int} {rd wt : List (Int × Int)} (h : footRight (l ++ [f]) gs = true) (hc : coversB l gs rd wt = true) : coversB (l ++ [f]) gs rd wt = true := by
  unfold coversB at *
  simp only [Bool.and_eq_true] at hc
  rw [h, Bool.true_and, Bool.and_eq_true, insideS_iff, insideS_iff]
  have hsub : ∀ fl k, keysOf (chosen fl gs l) k = true → keysOf (chosen fl gs (l ++ [f])) k = true := by
    intro fl k hk
    rw [keysOf_iff] at *
    obtain ⟨p, h1, h2⟩ := hk
    obtain ⟨g, h3, h4, h5⟩ := chosen_mem.1 h1
    exact ⟨p, chosen_mem.2 ⟨g, List.mem_append.2 (.inl h3), h4, h5⟩, h2⟩
  exact ⟨fun k hk h1 => hsub _ k ((insideS_iff _ _).1 hc.2.1 k hk h1), fun k hk h1 => hsub _ k ((insideS_iff _ _).1 hc.2.2 k hk h1)⟩
/-- A set that is asked of as its plain list is the same. -/
theorem inside_plain (a : List (Int × Int)) (s : Nat → Bool) : insideS (keysOf a) (keysOf (plainOf s)) = insideS (keysOf a) s := by
  rw [Bool.eq_iff_iff, insideS_iff, insideS_iff]
  constructor
  · intro h k hk h1
    rw [← keysOf_plain s k hk]
    exact h k hk h1
  · intro h k hk h1
    rw [keysOf_plain s k hk]
    exact h k hk h1
/-- As stage 4 has it (its insB is the left side). -/
theorem not_meets_inside (s t : Nat → Bool) : (!meets s (fun k => !t k)) = insideS s t := by
  rw [Bool.eq_iff_iff, insideS_iff, Bool.not_eq_true', Bool.eq_false_iff]
  constructor
  · intro h k hk hs
    cases ht : t k
    · exact absurd ((meets_true s fun k => !t k).2 ⟨k, hk, hs, by simp [ht]⟩) h
    · rfl
  · intro h e
    obtain ⟨k, hk, hs, ht⟩ := (meets_true s fun k => !t k).1 e
    rw [h k hk hs] at ht
    cases ht
end Go.Proofs.YthenadijiepmnaaGreat
/- What a footprint reads, and what it writes, as package foot has it. -/
namespace Go.Proofs.YthenadijiepmnaaGreat
open Go.RowKit

set_option maxHeartbeats 2000000 in
theorem chosenfalse_any (l : List Fsp) (gs : List Int) (A A2 : Option Addr) (m c n c2 : Nat) (w : World) (hsl : Sl w w.heap.size A (l.flatMap Fsp.cells)) (hm : l.length = m) (hs2 : Sl w w.heap.size A2 (ints gs)) (hn : gs.length = n) (hr : footRight l gs = true) :
    Calls Tryz.prog 66 #[.slice A m c, .slice A2 n c2, .func (.func 67) #[] #[]] w (NewS w (plainOf (keysOf (chosen false gs l)))) := by
  have Hm := Lib.hid hm
  have Hsl := Lib.hid hsl
  have Hs2 := Lib.hid hs2
  have Hn := Lib.hid hn
  have hrr := hr
  unfold footRight footOk at hrr
  simp only [Bool.and_eq_true, decide_eq_true_eq, List.all_eq_true] at hrr
  obtain ⟨hga, hg3, hl4, hall⟩ := hrr
  have Hall := Lib.hid hall
  have Hga := Lib.hid hga
  have hm4 : m ≤ 4 := by omega
  have hn3 : n ≤ 3 := by omega
  clear hsl hm hs2 hn hr hga hall hg3 hl4
  go_enter Tryz.func66, Tryz.ntmps66
  go_wp2
  go_loopw [7, 12] (fun out i wr => ∃ (k : Nat) (B : Option Addr) (L d : Nat), k ≤ m ∧ L ≤ k ∧ i = .int .i64 k ∧ out = .slice B L d ∧ Hid (wr.ownsRow w.heap.size 72 2 (.slice B L d) L (sps (chosen false gs (l.take k)))) ∧ Fr No w wr) (fun _ i _ => m - (intOf i).toNat)
  case atStart => exact ⟨0, none, 0, 0, Nat.zero_le _, Nat.le_refl _, rfl, rfl, Lib.hid (World.ownsRow_nil _ _ _ _), Fr.refl _ _⟩
  case round =>
    obtain ⟨k, B, L, d, hk, hL, rfl, rfl, hown0, hfr⟩ := hrel
    by_cases hlt : k < m
    · have hkl : k < l.length := by rw [Hm.out]; exact hlt
      obtain ⟨ad, rfl, hab, x0, x1, x2, x3, x4⟩ := (Hsl.out.since hfr).fsp (k := k) hkl
      have Hs : Hid (l.take (k + 1) = l.take k ++ [l[k]]) := Lib.hid (List.take_succ_eq_append_getElem hkl)
      have hok := Hall.out _ (List.getElem_mem hkl)
      generalize l[k] = x at *
      obtain ⟨la, lb, ha, hb, wt⟩ := x
      dsimp only at x0 x1 x2 x3 x4
      have C1 := fun W => ch1_any ⟨la, lb, ha, hb, wt⟩ W
      have C2 := fun (W : World) (h : Fr No w W) => span10_any ⟨la, lb, ha, hb, wt⟩ gs A2 n c2 W (Hs2.out.since h) Hn.out (by omega) Hga.out hok
      obtain ⟨lo, hlo⟩ : ∃ z, Hid (z = (fspOf ⟨la, lb, ha, hb, wt⟩ gs).1) := ⟨_, Lib.hid rfl⟩
      obtain ⟨hi, hhi⟩ : ∃ z, Hid (z = (fspOf ⟨la, lb, ha, hb, wt⟩ gs).2) := ⟨_, Lib.hid rfl⟩
      rw [← hlo.out, ← hhi.out] at C2
      have Hsp : Hid (fspOf ⟨la, lb, ha, hb, wt⟩ gs = (lo, hi)) := Lib.hid (by rw [hlo.out, hhi.out])
      have Hch : Hid (chosen false gs (l.take (k + 1)) = if (wt || !false) = true then chosen false gs (l.take k) ++ [(lo, hi)] else chosen false gs (l.take k)) := Lib.hid (by rw [Hs.out, chosen_snoc, Hsp.out])
      simp only [Fsp.agg] at C1 C2
      have HC1 := Lib.hid C1
      have HC2 := Lib.hid C2
      have hfa : Fr No wr (wr.alloc (.cells #[.int .i64 la, .int .i64 lb, .int .i64 ha, .int .i64 hb, .bool wt] 99)) := (Fr.refl _ _).alloc _
      clear C1 C2 hok
      have hw : (wt || !false) = true := by simp
      rw [hw] at Hch
      clear hw
      have Hc2 : Hid (chosen false gs (l.take (k + 1)) = chosen false gs (l.take k) ++ [(lo, hi)]) := Lib.hid (by rw [Hch.out]; rfl)
      clear Hch
      go_wp2_with fail
      refine (HC1.out _).mono ?_
      rintro e w1 ⟨rfl, hf1⟩
      have hb1 : Bk w1 wr.heap.size 99 #[.int .i64 la, .int .i64 lb, .int .i64 ha, .int .i64 hb, .bool wt] := (Bk.made wr _ _).fr hf1 (fun e => e)
      have hl1 := hb1.lt
      have g0 := hb1.cell 0
      have g1 := hb1.cell 1
      have g2 := hb1.cell 2
      have g3 := hb1.cell 3
      have g4 := hb1.cell 4
      simp at g0 g1 g2 g3 g4
      have hfb := hfa.then0 hf1 (fun _ h => h.elim)
      have HF1 := Lib.hid (hfr.then0 hfb (fun _ h => h.elim))
      have HO1 := Lib.hid (own_fr hown0.out hfb (fun _ _ e => e))
      clear hb1 hf1 hfb x0 x1 x2 x3 x4
      go_wp2_with fail
      refine (HC2.out _ HF1.out).mono ?_
      rintro e w2 ⟨rfl, hf2⟩
      have hown2 := own_fr HO1.out hf2 (fun _ _ e => e)
      have hF2 := HF1.out.then0 hf2 (fun _ h => h.elim)
      clear hf2 g0 g1 g2 g3 g4
      go_wp2_with (at_builtin; (refine wpList_append_elem rfl _ _ _ rfl w.heap.size 72 (.agg #[.int .i64 0, .int .i64 0]) 2 16 Tryz.underlying36 info_span rfl (by omega) (.slice B L d) L (sps (chosen false gs (l.take k))) #[.int .i64 lo, .int .i64 hi] rfl (by intro u hu; simp at hu; rcases hu with rfl | rfl <;> rfl) rfl w2.heap.size rfl rfl hown2 (by unfold maxLen; omega) (by omega) hF2.size ?_; intro B3 d3 w3 hown3 hf3 hg3))
      have F4 : Fr No w w3 := hF2.then0 hf3 (fun i e => (hown2.lt _ e).1)
      go_roundw
      case rel =>
        refine ⟨k + 1, B3, L + 1, d3, by omega, by omega, by go_num, rfl, Lib.hid ?_, F4⟩
        rw [Hc2.out, show sps (chosen false gs (l.take k) ++ [(lo, hi)]) = sps (chosen false gs (l.take k)) ++ spC (lo, hi) by simp [sps]]
        exact hown3
      case measure => simp [intOf]; omega
    · obtain rfl : k = m := by omega
      have Hall2 : Hid (l.take k = l) := Lib.hid (List.take_of_length_le (by rw [Hm.out]; exact Nat.le_refl _))
      have hown := hown0.out
      rw [Hall2.out] at hown
      have hlen : (chosen false gs l).length = L := by have h1 := hown.1; rw [show (sps (chosen false gs l)).length = (chosen false gs l).length * 2 from flat_len _ 2 spC_len _] at h1; omega
      have HP := Lib.hid (kPlain_any (chosen false gs l) B L d wr ⟨Sl.ofOwn hown, hlen, by omega⟩)
      generalize plainOf (keysOf (chosen false gs l)) = zs at *
      clear hown hlen hown0
      go_wp2_with fail
      refine (HP.out).mono ?_
      rintro e w1 ⟨A1, c1, rfl, hs, hf1⟩
      have HS := Lib.hid hs
      have HF := Lib.hid (hfr.then0 hf1 (fun _ h => h.elim))
      clear hs hf1 HP
      go_wp2
      go_ret
      exact ⟨A1, c1, rfl, HS.out, HF.out⟩
set_option maxHeartbeats 2000000 in
theorem chosentrue_any (l : List Fsp) (gs : List Int) (A A2 : Option Addr) (m c n c2 : Nat) (w : World) (hsl : Sl w w.heap.size A (l.flatMap Fsp.cells)) (hm : l.length = m) (hs2 : Sl w w.heap.size A2 (ints gs)) (hn : gs.length = n) (hr : footRight l gs = true) :
    Calls Tryz.prog 66 #[.slice A m c, .slice A2 n c2, .func (.func 68) #[] #[]] w (NewS w (plainOf (keysOf (chosen true gs l)))) := by
  have Hm := Lib.hid hm
  have Hsl := Lib.hid hsl
  have Hs2 := Lib.hid hs2
  have Hn := Lib.hid hn
  have hrr := hr
  unfold footRight footOk at hrr
  simp only [Bool.and_eq_true, decide_eq_true_eq, List.all_eq_true] at hrr
  obtain ⟨hga, hg3, hl4, hall⟩ := hrr
  have Hall := Lib.hid hall
  have Hga := Lib.hid hga
  have hm4 : m ≤ 4 := by omega
  have hn3 : n ≤ 3 := by omega
  clear hsl hm hs2 hn hr hga hall hg3 hl4
  go_enter Tryz.func66, Tryz.ntmps66
  go_wp2
  go_loopw [7, 12] (fun out i wr => ∃ (k : Nat) (B : Option Addr) (L d : Nat), k ≤ m ∧ L ≤ k ∧ i = .int .i64 k ∧ out = .slice B L d ∧ Hid (wr.ownsRow w.heap.size 72 2 (.slice B L d) L (sps (chosen true gs (l.take k)))) ∧ Fr No w wr) (fun _ i _ => m - (intOf i).toNat)
  case atStart => exact ⟨0, none, 0, 0, Nat.zero_le _, Nat.le_refl _, rfl, rfl, Lib.hid (World.ownsRow_nil _ _ _ _), Fr.refl _ _⟩
  case round =>
    obtain ⟨k, B, L, d, hk, hL, rfl, rfl, hown0, hfr⟩ := hrel
    by_cases hlt : k < m
    · have hkl : k < l.length := by rw [Hm.out]; exact hlt
      obtain ⟨ad, rfl, hab, x0, x1, x2, x3, x4⟩ := (Hsl.out.since hfr).fsp (k := k) hkl
      have Hs : Hid (l.take (k + 1) = l.take k ++ [l[k]]) := Lib.hid (List.take_succ_eq_append_getElem hkl)
      have hok := Hall.out _ (List.getElem_mem hkl)
      generalize l[k] = x at *
      obtain ⟨la, lb, ha, hb, wt⟩ := x
      dsimp only at x0 x1 x2 x3 x4
      have C1 := fun W => ch2_any ⟨la, lb, ha, hb, wt⟩ W
      have C2 := fun (W : World) (h : Fr No w W) => span10_any ⟨la, lb, ha, hb, wt⟩ gs A2 n c2 W (Hs2.out.since h) Hn.out (by omega) Hga.out hok
      obtain ⟨lo, hlo⟩ : ∃ z, Hid (z = (fspOf ⟨la, lb, ha, hb, wt⟩ gs).1) := ⟨_, Lib.hid rfl⟩
      obtain ⟨hi, hhi⟩ : ∃ z, Hid (z = (fspOf ⟨la, lb, ha, hb, wt⟩ gs).2) := ⟨_, Lib.hid rfl⟩
      rw [← hlo.out, ← hhi.out] at C2
      have Hsp : Hid (fspOf ⟨la, lb, ha, hb, wt⟩ gs = (lo, hi)) := Lib.hid (by rw [hlo.out, hhi.out])
      have Hch : Hid (chosen true gs (l.take (k + 1)) = if (wt || !true) = true then chosen true gs (l.take k) ++ [(lo, hi)] else chosen true gs (l.take k)) := Lib.hid (by rw [Hs.out, chosen_snoc, Hsp.out])
      simp only [Fsp.agg] at C1 C2
      have HC1 := Lib.hid C1
      have HC2 := Lib.hid C2
      have hfa : Fr No wr (wr.alloc (.cells #[.int .i64 la, .int .i64 lb, .int .i64 ha, .int .i64 hb, .bool wt] 99)) := (Fr.refl _ _).alloc _
      clear C1 C2 hok
      cases wt
      · have Hc2 : Hid (chosen true gs (l.take (k + 1)) = chosen true gs (l.take k)) := Lib.hid (by rw [Hch.out]; rfl)
        clear Hch
        go_wp2_with fail
        refine (HC1.out _).mono ?_
        rintro e w1 ⟨rfl, hf1⟩
        have hfb := hfa.then0 hf1 (fun _ h => h.elim)
        have HF1 := Lib.hid (hfr.then0 hfb (fun _ h => h.elim))
        have HO1 := Lib.hid (own_fr hown0.out hfb (fun _ _ e => e))
        clear hf1 hfb x0 x1 x2 x3 x4
        go_wp2
        go_roundw
        case rel => exact ⟨k + 1, B, L, d, by omega, by omega, by go_num, rfl, Lib.hid (by rw [Hc2.out]; exact HO1.out), HF1.out⟩
        case measure => simp [intOf]; omega
      · have Hc2 : Hid (chosen true gs (l.take (k + 1)) = chosen true gs (l.take k) ++ [(lo, hi)]) := Lib.hid (by rw [Hch.out]; rfl)
        clear Hch
        go_wp2_with fail
        refine (HC1.out _).mono ?_
        rintro e w1 ⟨rfl, hf1⟩
        have hb1 : Bk w1 wr.heap.size 99 #[.int .i64 la, .int .i64 lb, .int .i64 ha, .int .i64 hb, .bool true] := (Bk.made wr _ _).fr hf1 (fun e => e)
        have hl1 := hb1.lt
        have g0 := hb1.cell 0
        have g1 := hb1.cell 1
        have g2 := hb1.cell 2
        have g3 := hb1.cell 3
        have g4 := hb1.cell 4
        simp at g0 g1 g2 g3 g4
        have hfb := hfa.then0 hf1 (fun _ h => h.elim)
        have HF1 := Lib.hid (hfr.then0 hfb (fun _ h => h.elim))
        have HO1 := Lib.hid (own_fr hown0.out hfb (fun _ _ e => e))
        clear hb1 hf1 hfb x0 x1 x2 x3 x4
        go_wp2_with fail
        refine (HC2.out _ HF1.out).mono ?_
        rintro e w2 ⟨rfl, hf2⟩
        have hown2 := own_fr HO1.out hf2 (fun _ _ e => e)
        have hF2 := HF1.out.then0 hf2 (fun _ h => h.elim)
        clear hf2 g0 g1 g2 g3 g4
        go_wp2_with (at_builtin; (refine wpList_append_elem rfl _ _ _ rfl w.heap.size 72 (.agg #[.int .i64 0, .int .i64 0]) 2 16 Tryz.underlying36 info_span rfl (by omega) (.slice B L d) L (sps (chosen true gs (l.take k))) #[.int .i64 lo, .int .i64 hi] rfl (by intro u hu; simp at hu; rcases hu with rfl | rfl <;> rfl) rfl w2.heap.size rfl rfl hown2 (by unfold maxLen; omega) (by omega) hF2.size ?_; intro B3 d3 w3 hown3 hf3 hg3))
        have F4 : Fr No w w3 := hF2.then0 hf3 (fun i e => (hown2.lt _ e).1)
        go_roundw
        case rel =>
          refine ⟨k + 1, B3, L + 1, d3, by omega, by omega, by go_num, rfl, Lib.hid ?_, F4⟩
          rw [Hc2.out, show sps (chosen true gs (l.take k) ++ [(lo, hi)]) = sps (chosen true gs (l.take k)) ++ spC (lo, hi) by simp [sps]]
          exact hown3
        case measure => simp [intOf]; omega
    · obtain rfl : k = m := by omega
      have Hall2 : Hid (l.take k = l) := Lib.hid (List.take_of_length_le (by rw [Hm.out]; exact Nat.le_refl _))
      have hown := hown0.out
      rw [Hall2.out] at hown
      have hlen : (chosen true gs l).length = L := by have h1 := hown.1; rw [show (sps (chosen true gs l)).length = (chosen true gs l).length * 2 from flat_len _ 2 spC_len _] at h1; omega
      have HP := Lib.hid (kPlain_any (chosen true gs l) B L d wr ⟨Sl.ofOwn hown, hlen, by omega⟩)
      generalize plainOf (keysOf (chosen true gs l)) = zs at *
      clear hown hlen hown0
      go_wp2_with fail
      refine (HP.out).mono ?_
      rintro e w1 ⟨A1, c1, rfl, hs, hf1⟩
      have HS := Lib.hid hs
      have HF := Lib.hid (hfr.then0 hf1 (fun _ h => h.elim))
      clear hs hf1 HP
      go_wp2
      go_ret
      exact ⟨A1, c1, rfl, HS.out, HF.out⟩
end Go.Proofs.YthenadijiepmnaaGreat
/- What a footprint's keys are, and what it covers, as package foot has it. -/
namespace Go.Proofs.YthenadijiepmnaaGreat
open Go.RowKit

/-- What Spans tells of a footprint. -/
def SpansTo (w : World) (l : List Fsp) (gs : List Int) (e : Ending) (w' : World) : Prop :=
  Fr No w w' ∧ ((footRight l gs = false ∧ e = .returned (.tuple #[.slice none 0 0, .slice none 0 0, .bool false])) ∨
    (footRight l gs = true ∧ ∃ A c B d, e = .returned (.tuple #[.slice A (plainOf (keysOf (chosen false gs l))).length c, .slice B (plainOf (keysOf (chosen true gs l))).length d, .bool true]) ∧ Sl w' w'.heap.size A (sps (plainOf (keysOf (chosen false gs l)))) ∧ Sl w' w'.heap.size B (sps (plainOf (keysOf (chosen true gs l))))))

set_option maxHeartbeats 1000000 in
theorem spans_any (l : List Fsp) (gs : List Int) (A A2 : Option Addr) (m c n c2 : Nat) (w : World) (hsl : Sl w w.heap.size A (l.flatMap Fsp.cells)) (hm : l.length = m) (hmm : m ≤ 1099511627776) (hs2 : Sl w w.heap.size A2 (ints gs)) (hn : gs.length = n) (hnm : n ≤ 1099511627776) :
    Calls Tryz.prog 46 #[.slice A m c, .slice A2 n c2] w (SpansTo w l gs) := by
  have C0 := mayFor_any l gs A A2 m c n c2 w hsl hm hmm hs2 hn hnm
  have Hsl := Lib.hid hsl
  have Hs2 := Lib.hid hs2
  have Hm := Lib.hid hm
  have Hn := Lib.hid hn
  unfold SpansTo
  cases hr : footRight l gs
  · rw [hr] at C0
    have HC0 := Lib.hid C0
    clear hsl hm hs2 hn C0 hr
    go_enter Tryz.func46, Tryz.ntmps46
    go_wp2_with fail
    refine (HC0.out).mono ?_
    rintro e w1 ⟨rfl, hf1⟩
    go_wp2
    exact bodyPost_ret (v := .tuple #[.slice none 0 0, .slice none 0 0, .bool false]) (by simp [results, Tryz.results46, go_sem]) rfl ⟨hf1, .inl ⟨trivial, rfl⟩⟩
  · rw [hr] at C0
    have HC0 := Lib.hid C0
    have HC1 := Lib.hid (fun (W : World) (h : Fr No w W) => chosenfalse_any l gs A A2 m c n c2 W (Hsl.out.since h) Hm.out (Hs2.out.since h) Hn.out hr)
    have HC2 := Lib.hid (fun (W : World) (h : Fr No w W) => chosentrue_any l gs A A2 m c n c2 W (Hsl.out.since h) Hm.out (Hs2.out.since h) Hn.out hr)
    generalize plainOf (keysOf (chosen false gs l)) = z1 at *
    generalize plainOf (keysOf (chosen true gs l)) = z2 at *
    clear hsl hm hs2 hn C0 hr
    go_enter Tryz.func46, Tryz.ntmps46
    go_wp2_with fail
    refine (HC0.out).mono ?_
    rintro e w1 ⟨rfl, hf1⟩
    have HF1 := Lib.hid hf1
    clear hf1
    go_wp2_with fail
    refine (HC1.out _ HF1.out).mono ?_
    rintro e w2 ⟨A1, c1, rfl, hs1, hf2⟩
    have HF2 := Lib.hid (HF1.out.trans' hf2 (fun _ _ h => h))
    have HS1 := Lib.hid hs1
    clear hf2 hs1 HF1
    go_wp2_with fail
    refine (HC2.out _ HF2.out).mono ?_
    rintro e w3 ⟨A3, c3, rfl, hs3, hf3⟩
    have HF3 := Lib.hid (HF2.out.trans' hf3 (fun _ _ h => h))
    have HS3 := Lib.hid (And.intro (HS1.out.since hf3) hs3)
    clear hf3 hs3 HF2
    go_wp2
    exact bodyPost_ret (v := .tuple #[.slice A1 z1.length c1, .slice A3 z2.length c3, .bool true]) (by simp [results, Tryz.results46, go_sem]) rfl ⟨HF3.out, .inr ⟨trivial, A1, c1, A3, c3, rfl, HS3.out.1, HS3.out.2⟩⟩

theorem ins_plain (a : List (Int × Int)) (s : Nat → Bool) : insB (keysOf a) (keysOf (plainOf s)) = insideS (keysOf a) s := by
  unfold insB
  rw [not_meets_inside, inside_plain]
set_option maxHeartbeats 1000000 in
theorem covers_any (l : List Fsp) (gs : List Int) (rd wt : List (Int × Int)) (A A2 B1 B2 : Option Addr) (m c n c2 n1 d1 n2 d2 : Nat) (w : World) (hsl : Sl w w.heap.size A (l.flatMap Fsp.cells)) (hm : l.length = m) (hmm : m ≤ 1099511627776) (hs2 : Sl w w.heap.size A2 (ints gs)) (hn : gs.length = n) (hnm : n ≤ 1099511627776) (h1 : In4 w B1 n1 rd) (h2 : In4 w B2 n2 wt) :
    Calls Tryz.prog 134 #[.slice A m c, .slice A2 n c2, .slice B1 n1 d1, .slice B2 n2 d2] w (Has w (coversB l gs rd wt)) := by
  have C0 := spans_any l gs A A2 m c n c2 w hsl hm hmm hs2 hn hnm
  unfold SpansTo at C0
  have H1 := Lib.hid h1
  have H2 := Lib.hid h2
  unfold coversB
  cases hr : footRight l gs
  · rw [hr] at C0
    have HC0 := Lib.hid C0
    clear hsl hm hs2 hn C0 hr h1 h2
    go_enter Tryz.func134, Tryz.ntmps134
    go_wp2_with fail
    refine (HC0.out).mono ?_
    rintro e w1 ⟨hf1, ⟨-, rfl⟩ | ⟨h, -⟩⟩
    · go_wp2
      go_ret
      exact ⟨rfl, hf1⟩
    · cases h
  · rw [hr] at C0
    have hl1 := plainTo_len (keysOf (chosen false gs l)) 1000
    have hl2 := plainTo_len (keysOf (chosen true gs l)) 1000
    have Ha : Hid (insB (keysOf rd) (keysOf (plainOf (keysOf (chosen false gs l)))) = insideS (keysOf rd) (keysOf (chosen false gs l))) := Lib.hid (ins_plain _ _)
    have Hb : Hid (insB (keysOf wt) (keysOf (plainOf (keysOf (chosen true gs l)))) = insideS (keysOf wt) (keysOf (chosen true gs l))) := Lib.hid (ins_plain _ _)
    change (plainOf (keysOf (chosen false gs l))).length ≤ 1000 at hl1
    change (plainOf (keysOf (chosen true gs l))).length ≤ 1000 at hl2
    generalize insideS (keysOf rd) (keysOf (chosen false gs l)) = b1 at *
    generalize insideS (keysOf wt) (keysOf (chosen true gs l)) = b2 at *
    generalize plainOf (keysOf (chosen false gs l)) = z1 at *
    generalize plainOf (keysOf (chosen true gs l)) = z2 at *
    have K1 := Lib.hid (fun (W : World) (hW : Fr No w W) (A1 : Option Addr) (c1 : Nat) (hA : Sl W W.heap.size A1 (sps z1)) => kInside_any rd z1 B1 A1 n1 d1 z1.length c1 W ⟨H1.out.sl.since hW, H1.out.len, H1.out.le⟩ ⟨hA, rfl, by omega⟩)
    have K2 := Lib.hid (fun (W : World) (hW : Fr No w W) (A1 : Option Addr) (c1 : Nat) (hA : Sl W W.heap.size A1 (sps z2)) => kInside_any wt z2 B2 A1 n2 d2 z2.length c1 W ⟨H2.out.sl.since hW, H2.out.len, H2.out.le⟩ ⟨hA, rfl, by omega⟩)
    rw [Ha.out] at K1
    rw [Hb.out] at K2
    have HC0 := Lib.hid C0
    clear hsl hm hs2 hn C0 hr h1 h2 hl1 hl2 Ha Hb
    generalize z1.length = y1 at *
    generalize z2.length = y2 at *
    go_enter Tryz.func134, Tryz.ntmps134
    go_wp2_with fail
    refine (HC0.out).mono ?_
    rintro e w1 ⟨hf1, ⟨h, -⟩ | ⟨-, A1, c1, A3, c3, rfl, hs1, hs3⟩⟩
    · cases h
    · have HF1 := Lib.hid hf1
      have HS1 := Lib.hid hs1
      have HS3 := Lib.hid hs3
      clear hf1 hs1 hs3
      cases b1
      · go_wp2_with fail
        refine (K1.out _ HF1.out _ _ HS1.out).mono ?_
        rintro e w2 ⟨rfl, hf2⟩
        go_wp2
        go_ret
        exact ⟨by simp, HF1.out.then0 hf2 (fun _ h => h.elim)⟩
      · go_wp2_with fail
        refine (K1.out _ HF1.out _ _ HS1.out).mono ?_
        rintro e w2 ⟨rfl, hf2⟩
        have HF2 := Lib.hid (HF1.out.trans' hf2 (fun _ _ h => h))
        have HS4 := Lib.hid (HS3.out.since hf2)
        clear hf2
        go_wp2_with fail
        refine (K2.out _ HF2.out _ _ HS4.out).mono ?_
        rintro e w3 ⟨rfl, hf3⟩
        go_wp2
        go_ret
        exact ⟨by simp, HF2.out.then0 hf3 (fun _ h => h.elim)⟩
end Go.Proofs.YthenadijiepmnaaGreat
/- The chapter's example of a footprint. -/
namespace Go.Proofs.YthenadijiepmnaaGreat
open Go.RowKit

end Go.Proofs.YthenadijiepmnaaGreat
