/- What package keys does. -/
import Derived.Test.YthincpklokgjhaaFol4
import Derived.Test.YthincpklokgjhaaCom4
import Derived.Test.YthincpklokgjhaaGap4
import Derived.Test.YthincpklokgjhaaHas4
namespace Go.Proofs.Ythincpklokgjhaa
open Go.RowKit Go.Shelf Go.Lib

theorem NewO.pl {w w' : World} {s : Nat → Bool} {e : Ending} (h : NewO w (plainOf s) e w') : ∃ A c, e = .returned (.slice A (plainOf s).length c) ∧ w'.ownsRow w.heap.size 63 2 (.slice A (plainOf s).length c) (plainOf s).length (sps (plainOf s)) ∧ Fr No w w' := h
theorem sl_one (w : World) (A : Option Addr) (n c : Nat) : Sl (w.alloc (.cells #[.slice A n c] 25)) (w.alloc (.cells #[.slice A n c] 25)).heap.size (some ⟨w.heap.size, 0, none⟩) [.slice A n c] := (Sl.made w 25 #[.slice A n c]).more (by simp)

set_option maxHeartbeats 1000000 in
theorem kPlain_own (l : List Span) (A : Option Addr) (n c : Nat) (w : World) (h : In4 w A n l) : Calls Try.prog 51 #[.slice A n c] w (NewO w (plainOf (keysOf l))) := by
  have hg := (Fr.refl No w).alloc (.cells #[.slice A n c] 25)
  have q := kFolded_any [(A, n, c, l)] (some ⟨w.heap.size, 0, none⟩) 1 1 _ (sl_one w A n c) rfl ⟨fun q hq => by
    rw [List.mem_singleton.1 hq]
    exact ⟨h.sl.since hg, h.len⟩, by have := h.le; have := h.len; simp [spansOf]; omega⟩ (by omega)
  have e : spansOf [(A, n, c, l)] = l := by simp [spansOf]
  rw [e] at q
  have Hg := Lib.hid hg
  clear h hg e
  generalize plainOf (keysOf l) = zs at q ⊢
  go_enter Try.func51, Try.ntmps51
  go_wp2_with fail
  refine q.mono ?_
  rintro e w2 ⟨A2, c2, rfl, hown, hf⟩
  have HO := Lib.hid (own_base hown Hg.out.size)
  have HF := Lib.hid (Hg.out.trans' hf (fun _ _ e => e))
  clear hown hf q
  go_wp2
  go_ret
  exact ⟨A2, c2, rfl, HO.out, HF.out⟩
theorem kPlain_any (l : List Span) (A : Option Addr) (n c : Nat) (w : World) (h : In4 w A n l) : Calls Try.prog 51 #[.slice A n c] w (NewS w (plainOf (keysOf l))) :=
  (kPlain_own l A n c w h).mono fun _ _ h => h.s

theorem cap_of {w W : World} {B n c : Nat} {A : Option Addr} {zs : List Span} (h : w.ownsRow B 63 2 (.slice A n c) n (sps zs)) (hn : zs.length = n) (hf : Fr No w W) : Cap4 W W.heap.size A n c zs :=
  ⟨(Sl.ofOwn h).since hf, hn, own_cap h⟩

set_option maxHeartbeats 1000000 in
theorem kLess_any (l m : List Span) (A B : Option Addr) (n c n2 c2 : Nat) (w : World) (h : In4 w A n l) (h2 : In4 w B n2 m) : Calls Try.prog 52 #[.slice A n c, .slice B n2 c2] w (NewS w (plainOf fun k => keysOf l k && !keysOf m k)) := by
  have q1 := kPlain_own l A n c w h
  have q2 := fun W (hf : Fr No w W) => kPlain_own m B n2 c2 W ⟨h2.sl.since hf, h2.len, h2.le⟩
  have hl1 := plainTo_len (keysOf l) 1000
  have hl2 := plainTo_len (keysOf m) 1000
  have hl3 := plainTo_len (fun k => !keysOf (plainOf (keysOf m)) k) 1000
  have e : (plainOf fun k => keysOf l k && !keysOf m k) = plainOf fun k => keysOf (plainOf (keysOf l)) k && keysOf (plainOf fun k => !keysOf (plainOf (keysOf m)) k) k :=
    plainOf_congr fun k hk => by rw [keysOf_plainOf, keysOf_plain _ k hk, keysOf_plainOf]
  have p1 := plainOf_pl (keysOf l)
  have p2 := plainOf_pl (keysOf m)
  have p3 := plainOf_pl (fun k => !keysOf (plainOf (keysOf m)) k)
  rw [e]
  clear h h2 e
  change (plainOf (keysOf l)).length ≤ 1000 at hl1
  change (plainOf (keysOf m)).length ≤ 1000 at hl2
  change (plainOf fun k => !keysOf (plainOf (keysOf m)) k).length ≤ 1000 at hl3
  generalize plainOf (keysOf l) = xs at *
  generalize plainOf (keysOf m) = ys at *
  have q4 := fun A c W h1 => kGaps_any ys A ys.length c W h1 rfl p2 (by omega)
  generalize (plainOf fun k => !keysOf ys k) = gs at *
  have q3 := fun A B c c2 W h1 h2 => kCommon_any xs gs A B xs.length c gs.length c2 W h1 h2 p1 p3 (by omega) (by omega)
  generalize (plainOf fun k => keysOf xs k && keysOf gs k) = zs at q3 ⊢
  clear p1 p2 p3
  go_enter Try.func52, Try.ntmps52
  go_wp2_with fail
  refine q1.mono ?_
  rintro e w1 ⟨A1, c1, rfl, hown1, hf1⟩
  go_wp2_with fail
  refine (q2 w1 hf1).mono ?_
  rintro e w2 ⟨A2, c2, rfl, hown2, hf2⟩
  have s2 := Sl.ofOwn hown2
  go_wp2_with fail
  refine (q4 A2 c2 w2 s2).mono ?_
  rintro e w4 ⟨A4, c4, rfl, hown4, hf4⟩
  have k1 := cap_of hown1 rfl (hf2.trans' hf4 (fun _ _ e => e))
  have k2 := cap_of hown4 rfl (Fr.refl No w4)
  have HF := Lib.hid ((hf1.trans' hf2 (fun _ _ e => e)).trans' hf4 (fun _ _ e => e))
  clear hown1 hown2 hown4 hf1 hf2 hf4 q1 q2 q4 s2
  go_wp2_with fail
  refine (q3 A1 A4 c1 c4 w4 k1 k2).mono ?_
  rintro e w3 ⟨A3, c3, rfl, hs, hf3⟩
  have HS := Lib.hid hs
  have HG := Lib.hid (HF.out.trans' hf3 (fun _ _ e => e))
  clear hs hf3 k1 k2 q3
  go_wp2
  go_ret
  exact ⟨A3, c3, rfl, HS.out, HG.out⟩

theorem meets_plain (s t : Nat → Bool) : meets s t = decide (0 < (plainOf fun k => s k && t k).length) := by
  rw [Bool.eq_iff_iff, meets_true, decide_eq_true_eq, plainOf_empty]
  simp
set_option maxHeartbeats 1000000 in
theorem kInside_any (l m : List Span) (A B : Option Addr) (n c n2 c2 : Nat) (w : World) (h : In4 w A n l) (h2 : In4 w B n2 m) : Calls Try.prog 37 #[.slice A n c, .slice B n2 c2] w fun e w' => e = .returned (.bool (insB (keysOf l) (keysOf m))) ∧ Fr No w w' := by
  have q := kLess_any l m A B n c n2 c2 w h h2
  unfold insB
  rw [meets_plain]
  clear h h2
  generalize (plainOf fun k => keysOf l k && !keysOf m k) = zs at q ⊢
  generalize hz : zs.length = z
  have q' : Calls Try.prog 52 #[.slice A n c, .slice B n2 c2] w fun e w' => ∃ A c, e = .returned (.slice A z c) ∧ Fr No w w' := q.mono (by
    rintro e w' ⟨A, c, rfl, _, hf⟩
    rw [hz]
    exact ⟨A, c, rfl, hf⟩)
  clear q hz
  by_cases h0 : z = 0
  · subst h0
    go_enter Try.func37, Try.ntmps37
    go_wp2_with fail
    refine q'.mono ?_
    rintro e w1 ⟨A1, c1, rfl, hf1⟩
    clear q'
    go_wp2
    go_ret
    exact ⟨by simp, hf1⟩
  · have hz1 : (!decide (0 < z)) = false := by simp; omega
    have hz2 : ((z : Int) == 0) = false := by simp; omega
    rw [hz1]
    go_enter Try.func37, Try.ntmps37
    go_wp2_with fail
    refine q'.mono ?_
    rintro e w1 ⟨A1, c1, rfl, hf1⟩
    clear q'
    go_wp2
    go_ret
    exact ⟨rfl, hf1⟩

end Go.Proofs.Ythincpklokgjhaa
