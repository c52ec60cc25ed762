/- What package keys does. -/
import Derived.Test.YthnpgepniiicaaaFol4
import Derived.Test.YthnpgepniiicaaaCom4
import Derived.Test.YthnpgepniiicaaaGap4
import Derived.Test.YthnpgepniiicaaaAll4
import Derived.Test.YthnpgepniiicaaaHas4
namespace Go.Proofs.Ythnpgepniiicaaa
open Go.RowKit Go.Shelf Go.Lib

theorem NewO.pl {w w' : World} {s : Nat → Bool} {e : Ending} (h : NewO w (plainOf s) e w') : ∃ A c, e = .returned (.slice A (plainOf s).length c) ∧ w'.ownsRow w.heap.size 30 2 (.slice A (plainOf s).length c) (plainOf s).length (sps (plainOf s)) ∧ Fr No w w' := h
theorem sl_one (w : World) (A : Option Addr) (n c : Nat) : Sl (w.alloc (.cells #[.slice A n c] 22)) (w.alloc (.cells #[.slice A n c] 22)).heap.size (some ⟨w.heap.size, 0, none⟩) [.slice A n c] := (Sl.made w 22 #[.slice A n c]).more (by simp)

set_option maxHeartbeats 1000000 in
theorem kPlain_own (l : List Span) (A : Option Addr) (n c : Nat) (w : World) (h : In4 w A n l) : Calls Try.prog 14 #[.slice A n c] w (NewO w (plainOf (keysOf l))) := by
  have hg := (Fr.refl No w).alloc (.cells #[.slice A n c] 22)
  have q := kFolded_any [(A, n, c, l)] (some ⟨w.heap.size, 0, none⟩) 1 1 _ (sl_one w A n c) rfl ⟨fun q hq => by
    rw [List.mem_singleton.1 hq]
    exact ⟨h.sl.since hg, h.len⟩, by have := h.le; have := h.len; simp [spansOf]; omega⟩ (by omega)
  have e : spansOf [(A, n, c, l)] = l := by simp [spansOf]
  rw [e] at q
  have Hg := Lib.hid hg
  clear h hg e
  generalize plainOf (keysOf l) = zs at q ⊢
  go_enter Try.func14, Try.ntmps14
  go_wp2_with fail
  refine q.mono ?_
  rintro e w2 ⟨A2, c2, rfl, hown, hf⟩
  have HO := Lib.hid (own_base hown Hg.out.size)
  have HF := Lib.hid (Hg.out.trans' hf (fun _ _ e => e))
  clear hown hf q
  go_wp2
  go_ret
  exact ⟨A2, c2, rfl, HO.out, HF.out⟩
theorem kPlain_any (l : List Span) (A : Option Addr) (n c : Nat) (w : World) (h : In4 w A n l) : Calls Try.prog 14 #[.slice A n c] w (NewS w (plainOf (keysOf l))) :=
  (kPlain_own l A n c w h).mono fun _ _ h => h.s

set_option maxHeartbeats 1000000 in
theorem kUnion_any (l m : List Span) (A B : Option Addr) (n c n2 c2 : Nat) (w : World) (h : In4 w A n l) (h2 : In4 w B n2 m) : Calls Try.prog 16 #[.slice A n c, .slice B n2 c2] w (NewS w (plainOf fun k => keysOf l k || keysOf m k)) := by
  have hg := (Fr.refl No w).alloc (.cells #[.slice A n c, .slice B n2 c2] 22)
  have q := kFolded_any [(A, n, c, l), (B, n2, c2, m)] (some ⟨w.heap.size, 0, none⟩) 2 2 _ ((Sl.made w 22 #[.slice A n c, .slice B n2 c2]).more (by simp)) rfl ⟨fun q hq => by
    simp only [List.mem_cons, List.not_mem_nil, or_false] at hq
    rcases hq with rfl | rfl
    · exact ⟨h.sl.since hg, h.len⟩
    · exact ⟨h2.sl.since hg, h2.len⟩, by have := h.le; have := h.len; have := h2.le; have := h2.len; simp [spansOf]; omega⟩ (by omega)
  have e : spansOf [(A, n, c, l), (B, n2, c2, m)] = l ++ m := by simp [spansOf]
  rw [e, show keysOf (l ++ m) = fun k => keysOf l k || keysOf m k from funext (keysOf_app l m)] at q
  have Hg := Lib.hid hg
  clear h h2 hg e
  generalize (plainOf fun k => keysOf l k || keysOf m k) = zs at q ⊢
  go_enter Try.func16, Try.ntmps16
  go_wp2_with fail
  refine q.mono ?_
  rintro e w2 ⟨A2, c2, rfl, hown, hf⟩
  have HO := Lib.hid (Sl.ofOwn hown)
  have HF := Lib.hid (Hg.out.trans' hf (fun _ _ e => e))
  clear hown hf q
  go_wp2
  go_ret
  exact ⟨A2, c2, rfl, HO.out, HF.out⟩

set_option maxHeartbeats 1000000 in
theorem kOne_any (k : Int) (w : World) : Calls Try.prog 10 #[.int .i64 k] w (NewS w (oneL k)) := by
  have hg := ((Fr.refl No w).alloc (.cells #[.int .i64 k, .int .i64 k] 30)).alloc (.cells #[.slice (some ⟨w.heap.size, 0, none⟩) 1 1] 22)
  have s1 := ((Sl.made w 30 #[.int .i64 k, .int .i64 k]).fr ((Fr.refl No _).alloc (.cells #[.slice (some ⟨w.heap.size, 0, none⟩) 1 1] 22)) (by simp) (fun _ _ _ e => e)).more (B' := w.heap.size + 1 + 1) (by simp)
  have s2 := sl_one (w.alloc (.cells #[.int .i64 k, .int .i64 k] 30)) (some ⟨w.heap.size, 0, none⟩) 1 1
  simp only [World.size_alloc] at s2
  have q := kFolded_any [(some ⟨w.heap.size, 0, none⟩, 1, 1, [(k, k)])] (some ⟨w.heap.size + 1, 0, none⟩) 1 1 _ (s2.more (by simp)) rfl ⟨fun q hq => by
    rw [List.mem_singleton.1 hq]
    exact ⟨s1.more (by simp), rfl⟩, by simp [spansOf]⟩ (by omega)
  have e : plainOf (keysOf (spansOf [((some ⟨w.heap.size, 0, none⟩ : Option Addr), 1, 1, [(k, k)])])) = oneL k := by
    have e1 : spansOf [((some ⟨w.heap.size, 0, none⟩ : Option Addr), 1, 1, [(k, k)])] = [(k, k)] := by simp [spansOf]
    rw [e1]
    unfold oneL
    by_cases hc : 0 ≤ k ∧ k ≤ 999
    · rw [if_pos hc]
      exact IsPl.eq ⟨fun p hp => by rw [List.mem_singleton.1 hp]; exact ⟨hc.1, Int.le_refl _, hc.2⟩, List.pairwise_singleton _ _⟩
    · rw [if_neg hc]
      refine (IsPl.nil.of fun j hj => ?_).symm
      rw [keysOf_cons]
      have : spHas (k, k) j = false := by
        rw [Bool.eq_false_iff]
        intro h
        rw [spHas_iff] at h
        simp only at h
        omega
      rw [this]
      rfl
  rw [e] at q
  have Hg := Lib.hid hg
  clear s1 s2 hg e
  generalize oneL k = zs at q ⊢
  go_enter Try.func10, Try.ntmps10
  go_wp2_with fail
  refine q.mono ?_
  rintro e w2 ⟨A2, c2, rfl, hown, hf⟩
  have HO := Lib.hid (Sl.ofOwn hown)
  have HF := Lib.hid (Hg.out.trans' hf (fun _ _ e => e))
  clear hown hf q
  go_wp2
  go_ret
  exact ⟨A2, c2, rfl, HO.out, HF.out⟩

theorem cap_of {w W : World} {B n c : Nat} {A : Option Addr} {zs : List Span} (h : w.ownsRow B 30 2 (.slice A n c) n (sps zs)) (hn : zs.length = n) (hf : Fr No w W) : Cap4 W W.heap.size A n c zs :=
  ⟨(Sl.ofOwn h).since hf, hn, own_cap h⟩

set_option maxHeartbeats 1000000 in
theorem kBoth_any (l m : List Span) (A B : Option Addr) (n c n2 c2 : Nat) (w : World) (h : In4 w A n l) (h2 : In4 w B n2 m) : Calls Try.prog 17 #[.slice A n c, .slice B n2 c2] w (NewS w (plainOf fun k => keysOf l k && keysOf m k)) := by
  have q1 := kPlain_own l A n c w h
  have q2 := fun W (hf : Fr No w W) => kPlain_own m B n2 c2 W ⟨h2.sl.since hf, h2.len, h2.le⟩
  have hl1 := plainTo_len (keysOf l) 1000
  have hl2 := plainTo_len (keysOf m) 1000
  have e : (plainOf fun k => keysOf l k && keysOf m k) = plainOf fun k => keysOf (plainOf (keysOf l)) k && keysOf (plainOf (keysOf m)) k :=
    plainOf_congr fun k _ => by rw [keysOf_plainOf, keysOf_plainOf]
  have p1 := plainOf_pl (keysOf l)
  have p2 := plainOf_pl (keysOf m)
  rw [e]
  clear h h2 e
  change (plainOf (keysOf l)).length ≤ 1000 at hl1
  change (plainOf (keysOf m)).length ≤ 1000 at hl2
  generalize plainOf (keysOf l) = xs at *
  generalize plainOf (keysOf m) = ys at *
  have q3 := fun A B c c2 W h1 h2 => kCommon_any xs ys A B xs.length c ys.length c2 W h1 h2 p1 p2 (by omega) (by omega)
  generalize (plainOf fun k => keysOf xs k && keysOf ys k) = zs at q3 ⊢
  clear p1 p2
  go_enter Try.func17, Try.ntmps17
  go_wp2_with fail
  refine q1.mono ?_
  rintro e w1 ⟨A1, c1, rfl, hown1, hf1⟩
  go_wp2_with fail
  refine (q2 w1 hf1).mono ?_
  rintro e w2 ⟨A2, c2, rfl, hown2, hf2⟩
  have k1 := cap_of hown1 rfl hf2
  have k2 := cap_of hown2 rfl (Fr.refl No w2)
  have HF := Lib.hid (hf1.trans' hf2 (fun _ _ e => e))
  clear hown1 hown2 hf1 hf2 q1 q2
  go_wp2_with fail
  refine (q3 A1 A2 c1 c2 w2 k1 k2).mono ?_
  rintro e w3 ⟨A3, c3, rfl, hs, hf3⟩
  have HS := Lib.hid hs
  have HG := Lib.hid (HF.out.trans' hf3 (fun _ _ e => e))
  clear hs hf3 k1 k2 q3
  go_wp2
  go_ret
  exact ⟨A3, c3, rfl, HS.out, HG.out⟩

set_option maxHeartbeats 1000000 in
theorem kLess_any (l m : List Span) (A B : Option Addr) (n c n2 c2 : Nat) (w : World) (h : In4 w A n l) (h2 : In4 w B n2 m) : Calls Try.prog 18 #[.slice A n c, .slice B n2 c2] w (NewS w (plainOf fun k => keysOf l k && !keysOf m k)) := by
  have q1 := kPlain_own l A n c w h
  have q2 := fun W (hf : Fr No w W) => kPlain_own m B n2 c2 W ⟨h2.sl.since hf, h2.len, h2.le⟩
  have hl1 := plainTo_len (keysOf l) 1000
  have hl2 := plainTo_len (keysOf m) 1000
  have hl3 := plainTo_len (fun k => !keysOf (plainOf (keysOf m)) k) 1000
  have e : (plainOf fun k => keysOf l k && !keysOf m k) = plainOf fun k => keysOf (plainOf (keysOf l)) k && keysOf (plainOf fun k => !keysOf (plainOf (keysOf m)) k) k :=
    plainOf_congr fun k hk => by rw [keysOf_plainOf, keysOf_plain _ k hk, keysOf_plainOf]
  have p1 := plainOf_pl (keysOf l)
  have p2 := plainOf_pl (keysOf m)
  have p3 := plainOf_pl (fun k => !keysOf (plainOf (keysOf m)) k)
  rw [e]
  clear h h2 e
  change (plainOf (keysOf l)).length ≤ 1000 at hl1
  change (plainOf (keysOf m)).length ≤ 1000 at hl2
  change (plainOf fun k => !keysOf (plainOf (keysOf m)) k).length ≤ 1000 at hl3
  generalize plainOf (keysOf l) = xs at *
  generalize plainOf (keysOf m) = ys at *
  have q4 := fun A c W h1 => kGaps_any ys A ys.length c W h1 rfl p2 (by omega)
  generalize (plainOf fun k => !keysOf ys k) = gs at *
  have q3 := fun A B c c2 W h1 h2 => kCommon_any xs gs A B xs.length c gs.length c2 W h1 h2 p1 p3 (by omega) (by omega)
  generalize (plainOf fun k => keysOf xs k && keysOf gs k) = zs at q3 ⊢
  clear p1 p2 p3
  go_enter Try.func18, Try.ntmps18
  go_wp2_with fail
  refine q1.mono ?_
  rintro e w1 ⟨A1, c1, rfl, hown1, hf1⟩
  go_wp2_with fail
  refine (q2 w1 hf1).mono ?_
  rintro e w2 ⟨A2, c2, rfl, hown2, hf2⟩
  have s2 := Sl.ofOwn hown2
  go_wp2_with fail
  refine (q4 A2 c2 w2 s2).mono ?_
  rintro e w4 ⟨A4, c4, rfl, hown4, hf4⟩
  have k1 := cap_of hown1 rfl (hf2.trans' hf4 (fun _ _ e => e))
  have k2 := cap_of hown4 rfl (Fr.refl No w4)
  have HF := Lib.hid ((hf1.trans' hf2 (fun _ _ e => e)).trans' hf4 (fun _ _ e => e))
  clear hown1 hown2 hown4 hf1 hf2 hf4 q1 q2 q4 s2
  go_wp2_with fail
  refine (q3 A1 A4 c1 c4 w4 k1 k2).mono ?_
  rintro e w3 ⟨A3, c3, rfl, hs, hf3⟩
  have HS := Lib.hid hs
  have HG := Lib.hid (HF.out.trans' hf3 (fun _ _ e => e))
  clear hs hf3 k1 k2 q3
  go_wp2
  go_ret
  exact ⟨A3, c3, rfl, HS.out, HG.out⟩

theorem meets_plain (s t : Nat → Bool) : meets s t = decide (0 < (plainOf fun k => s k && t k).length) := by
  rw [Bool.eq_iff_iff, meets_true, decide_eq_true_eq, plainOf_empty]
  simp
set_option maxHeartbeats 1000000 in
theorem kMeet_any (l m : List Span) (A B : Option Addr) (n c n2 c2 : Nat) (w : World) (h : In4 w A n l) (h2 : In4 w B n2 m) : Calls Try.prog 19 #[.slice A n c, .slice B n2 c2] w fun e w' => e = .returned (.bool (meets (keysOf l) (keysOf m))) ∧ Fr No w w' := by
  have q := kBoth_any l m A B n c n2 c2 w h h2
  rw [meets_plain]
  clear h h2
  generalize (plainOf fun k => keysOf l k && keysOf m k) = zs at q ⊢
  go_enter Try.func19, Try.ntmps19
  go_wp2_with fail
  refine q.mono ?_
  rintro e w1 ⟨A1, c1, rfl, hs, hf1⟩
  clear hs q
  go_wp2
  go_ret
  exact ⟨by simp, hf1⟩
set_option maxHeartbeats 1000000 in
theorem kInside_any (l m : List Span) (A B : Option Addr) (n c n2 c2 : Nat) (w : World) (h : In4 w A n l) (h2 : In4 w B n2 m) : Calls Try.prog 21 #[.slice A n c, .slice B n2 c2] w fun e w' => e = .returned (.bool (insB (keysOf l) (keysOf m))) ∧ Fr No w w' := by
  have q := kLess_any l m A B n c n2 c2 w h h2
  unfold insB
  rw [meets_plain]
  clear h h2
  generalize (plainOf fun k => keysOf l k && !keysOf m k) = zs at q ⊢
  generalize hz : zs.length = z
  have q' : Calls Try.prog 18 #[.slice A n c, .slice B n2 c2] w fun e w' => ∃ A c, e = .returned (.slice A z c) ∧ Fr No w w' := q.mono (by
    rintro e w' ⟨A, c, rfl, _, hf⟩
    rw [hz]
    exact ⟨A, c, rfl, hf⟩)
  clear q hz
  by_cases h0 : z = 0
  · subst h0
    go_enter Try.func21, Try.ntmps21
    go_wp2_with fail
    refine q'.mono ?_
    rintro e w1 ⟨A1, c1, rfl, hf1⟩
    clear q'
    go_wp2
    go_ret
    exact ⟨by simp, hf1⟩
  · have hz1 : (!decide (0 < z)) = false := by simp; omega
    have hz2 : ((z : Int) == 0) = false := by simp; omega
    rw [hz1]
    go_enter Try.func21, Try.ntmps21
    go_wp2_with fail
    refine q'.mono ?_
    rintro e w1 ⟨A1, c1, rfl, hf1⟩
    clear q'
    go_wp2
    go_ret
    exact ⟨rfl, hf1⟩

set_option maxRecDepth 100000 in
set_option maxHeartbeats 2000000 in
theorem kSize_any (l : List Span) (A : Option Addr) (n c : Nat) (w : World) (h : In4 w A n l) : Calls Try.prog 11 #[.slice A n c] w fun e w' => e = .returned (.int .i64 (cnt (keysOf l) 1000)) ∧ Fr No w w' := by
  have q := kPlain_own l A n c w h
  have p1 := plainOf_pl (keysOf l)
  rw [← size_plain l]
  have hl1 := plainTo_len (keysOf l) 1000
  have hs1 : (flatK (plainOf (keysOf l))).length ≤ 1000 := by rw [all_plain, allL_len]; exact cnt_bound _ _
  clear h
  change (plainOf (keysOf l)).length ≤ 1000 at hl1
  generalize plainOf (keysOf l) = xs at *
  have Hs : Hid (∀ j, sizeK (xs.take j) ≤ 1000 ∧ 0 ≤ sizeK (xs.take j)) := Lib.hid (fun j => by
    have e : flatK xs = flatK (xs.take j) ++ flatK (xs.drop j) := by rw [← flatK_app, List.take_append_drop]
    rw [e, List.length_append] at hs1
    unfold sizeK
    omega)
  go_enter Try.func11, Try.ntmps11
  go_wp2_with fail
  refine q.mono ?_
  rintro e w1 ⟨A1, c1, rfl, hown, hf1⟩
  have hsl := Sl.ofOwn hown
  obtain ⟨z, hz⟩ : ∃ z, Hid (z = xs.length) := ⟨_, Lib.hid rfl⟩
  rw [← hz.out] at hl1 ⊢
  clear hown q
  go_wp2
  go_loopw [3, 9] (fun nv iv wr => ∃ j : Nat, j ≤ z ∧ iv = .int .i64 j ∧ nv = .int .i64 (sizeK (xs.take j)) ∧ Fr No w1 wr) (fun _ i _ => z - (intOf i).toNat)
  case atStart => exact ⟨0, by omega, rfl, rfl, Fr.refl _ _⟩
  case round =>
    obtain ⟨j, hj, rfl, rfl, hfr⟩ := hrel
    by_cases hlt : j < z
    · have hjx : j < xs.length := by rw [← hz.out]; exact hlt
      obtain ⟨ad, rfl, hadB, e0, e1⟩ := hsl.span hjx
      have k0 := (hfr.cell (p := ad.add (j * 2)) (by rw [block_add]; exact hadB) (fun e => e)).trans e0
      have k1 := (hfr.cell (p := ⟨(ad.add (j * 2)).block, (ad.add (j * 2)).off + 1, none⟩) (by rw [block_add]; exact hadB) (fun e => e)).trans e1
      obtain ⟨o1, o2, o3⟩ := p1.ok _ (List.getElem_mem hjx)
      have hnx : sizeK (xs.take (j + 1)) = sizeK (xs.take j) + (xs[j].2 - xs[j].1 + 1) := by
        rw [List.take_succ_eq_append_getElem hjx, sizeK_snoc _ _ ⟨o1, o2, o3⟩]
      obtain ⟨b1, b2⟩ := Hs.out j
      clear e0 e1
      generalize xs[j] = p at *
      obtain ⟨lo, hi⟩ := p
      simp only at o1 o2 o3 hnx
      have hw1 : wrap64 (hi - lo) = hi - lo := by unfold wrap64; omega
      have hw2 : wrap64 (hi - lo + 1) = hi - lo + 1 := by unfold wrap64; omega
      have hw3 : wrap64 (sizeK (xs.take j) + (hi - lo + 1)) = sizeK (xs.take j) + (hi - lo + 1) := by unfold wrap64; omega
      have g1 := hfr.alloc (.cells #[.int .i64 lo, .int .i64 hi] 30)
      have Hnx := Lib.hid hnx
      clear hnx
      go_wp2
      go_roundw
      case rel => exact ⟨j + 1, by omega, by go_num, by rw [Hnx.out], g1⟩
      case measure => simp [intOf]; omega
    · have hall : xs.take j = xs := List.take_of_length_le (by rw [← hz.out]; omega)
      rw [hall]
      clear hall
      go_wp2
      go_ret
      exact ⟨rfl, hf1.trans' hfr (fun _ _ e => e)⟩

theorem kAll_any (l : List Span) (A : Option Addr) (n c : Nat) (w : World) (h : In4 w A n l) : Calls Try.prog 9 #[.slice A n c] w fun e w' =>
    ∃ B c2, e = .returned (.slice B (allL (keysOf l)).length c2) ∧ Sl w' w'.heap.size B (i64s (allL (keysOf l))) ∧ Fr No w w' := by
  have q := kAll_wide (plainOf (keysOf l)) (.slice A n c) w (fun W hf => kPlain_own l A n c W ⟨h.sl.since hf, h.len, h.le⟩) (plainOf_pl _) (by rw [all_plain, allL_len]; exact cnt_bound _ _) (plainTo_len _ 1000)
  rw [all_plain] at q
  exact q
end Go.Proofs.Ythnpgepniiicaaa
