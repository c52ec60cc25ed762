/- Package keys: the keys of a set, one by one. -/
import Derived.RangeFuncBox
import Derived.RangeFuncLeaves
import Derived.Shelf.Abstract
import Derived.WalkKit
import Derived.OwnWalkIn
import Derived.TacticsInMore
import Derived.LoopNIn
import Derived.LoopIn
import Derived.Maps.AppendAt
import Derived.Test.YtmeimhpllemjfaaGreatMay4
import Derived.Test.YtmeimhpllemjfaaGreatFol4
import Derived.Test.YtmeimhpllemjfaaGreatCom4
namespace Go.Proofs.YtmeimhpllemjfaaGreat
open Go.RowKit Go.Shelf

attribute [local go_sem] Oper.semAt_some

end Go.Proofs.YtmeimhpllemjfaaGreat
/- Package keys: whether a key is in a set. -/
namespace Go.Proofs.YtmeimhpllemjfaaGreat
open Go.RowKit

end Go.Proofs.YtmeimhpllemjfaaGreat
/- What package keys does. -/
namespace Go.Proofs.YtmeimhpllemjfaaGreat
open Go.RowKit Go.Shelf Go.Lib

theorem sl_one (w : World) (A : Option Addr) (n c : Nat) : Sl (w.alloc (.cells #[.slice A n c] 35)) (w.alloc (.cells #[.slice A n c] 35)).heap.size (some ⟨w.heap.size, 0, none⟩) [.slice A n c] := (Sl.made w 35 #[.slice A n c]).more (by simp)

set_option maxHeartbeats 1000000 in
theorem kPlain_own (l : List Span) (A : Option Addr) (n c : Nat) (w : World) (h : In4 w A n l) : Calls Tryz.prog 153 #[.slice A n c] w (NewO w (plainOf (keysOf l))) := by
 have hg := (Fr.refl No w).alloc (.cells #[.slice A n c] 35)
 have q := kFolded_any [(A, n, c, l)] (some ⟨w.heap.size, 0, none⟩) 1 1 _ (sl_one w A n c) rfl ⟨fun q hq => by
  rw [List.mem_singleton.1 hq]
  exact ⟨h.sl.since hg, h.len⟩, by have := h.le; have := h.len; simp [spansOf]; omega⟩ (by omega)
 have e : spansOf [(A, n, c, l)] = l := by simp [spansOf]
 rw [e] at q
 have Hg := Lib.hid hg
 clear h hg e
 generalize plainOf (keysOf l) = zs at q ⊢
 go_enter Tryz.func153, Tryz.ntmps153
 go_wp2_with fail
 refine q.mono ?_
 rintro e w2 ⟨A2, c2, rfl, hown, hf⟩
 have HO := Lib.hid (own_base hown Hg.out.size)
 have HF := Lib.hid (Hg.out.trans' hf (fun _ _ e => e))
 clear hown hf q
 go_wp2
 go_ret
 exact ⟨A2, c2, rfl, HO.out, HF.out⟩
set_option maxHeartbeats 1000000 in
theorem kUnion_any (l m : List Span) (A B : Option Addr) (n c n2 c2 : Nat) (w : World) (h : In4 w A n l) (h2 : In4 w B n2 m) : Calls Tryz.prog 125 #[.slice A n c, .slice B n2 c2] w (NewS w (plainOf fun k => keysOf l k || keysOf m k)) := by
 have hg := (Fr.refl No w).alloc (.cells #[.slice A n c, .slice B n2 c2] 35)
 have q := kFolded_any [(A, n, c, l), (B, n2, c2, m)] (some ⟨w.heap.size, 0, none⟩) 2 2 _ ((Sl.made w 35 #[.slice A n c, .slice B n2 c2]).more (by simp)) rfl ⟨fun q hq => by
  simp only [List.mem_cons, List.not_mem_nil, or_false] at hq
  rcases hq with rfl | rfl
  ·exact ⟨h.sl.since hg, h.len⟩
  ·exact ⟨h2.sl.since hg, h2.len⟩, by have := h.le; have := h.len; have := h2.le; have := h2.len; simp [spansOf]; omega⟩ (by omega)
 have e : spansOf [(A, n, c, l), (B, n2, c2, m)] = l ++ m := by simp [spansOf]
 rw [e, show keysOf (l ++ m) = fun k => keysOf l k || keysOf m k from funext (keysOf_app l m)] at q
 have Hg := Lib.hid hg
 clear h h2 hg e
 generalize (plainOf fun k => keysOf l k || keysOf m k) = zs at q ⊢
 go_enter Tryz.func125, Tryz.ntmps125
 go_wp2_with fail
 refine q.mono ?_
 rintro e w2 ⟨A2, c2, rfl, hown, hf⟩
 have HO := Lib.hid (Sl.ofOwn hown)
 have HF := Lib.hid (Hg.out.trans' hf (fun _ _ e => e))
 clear hown hf q
 go_wp2
 go_ret
 exact ⟨A2, c2, rfl, HO.out, HF.out⟩

theorem cap_of {w W : World} {B n c : Nat} {A : Option Addr} {zs : List Span} (h : w.ownsRow B 51 2 (.slice A n c) n (sps zs)) (hn : zs.length = n) (hf : Fr No w W) : Cap4 W W.heap.size A n c zs :=
 ⟨(Sl.ofOwn h).since hf, hn, own_cap h⟩

set_option maxHeartbeats 1000000 in
theorem kBoth_any (l m : List Span) (A B : Option Addr) (n c n2 c2 : Nat) (w : World) (h : In4 w A n l) (h2 : In4 w B n2 m) : Calls Tryz.prog 124 #[.slice A n c, .slice B n2 c2] w (NewS w (plainOf fun k => keysOf l k && keysOf m k)) := by
 have q1 := kPlain_own l A n c w h
 have q2 := fun W (hf : Fr No w W) => kPlain_own m B n2 c2 W ⟨h2.sl.since hf, h2.len, h2.le⟩
 have hl1 := plainTo_len (keysOf l) 1000
 have hl2 := plainTo_len (keysOf m) 1000
 have e : (plainOf fun k => keysOf l k && keysOf m k) = plainOf fun k => keysOf (plainOf (keysOf l)) k && keysOf (plainOf (keysOf m)) k :=
  plainOf_congr fun k _ => by rw [keysOf_plainOf, keysOf_plainOf]
 have p1 := plainOf_pl (keysOf l)
 have p2 := plainOf_pl (keysOf m)
 rw [e]
 clear h h2 e
 change (plainOf (keysOf l)).length ≤ 1000 at hl1
 change (plainOf (keysOf m)).length ≤ 1000 at hl2
 generalize plainOf (keysOf l) = xs at *
 generalize plainOf (keysOf m) = ys at *
 have q3 := fun A B c c2 W h1 h2 => kCommon_any xs ys A B xs.length c ys.length c2 W h1 h2 p1 p2 (by omega) (by omega)
 generalize (plainOf fun k => keysOf xs k && keysOf ys k) = zs at q3 ⊢
 clear p1 p2
 go_enter Tryz.func124, Tryz.ntmps124
 go_wp2_with fail
 refine q1.mono ?_
 rintro e w1 ⟨A1, c1, rfl, hown1, hf1⟩
 go_wp2_with fail
 refine (q2 w1 hf1).mono ?_
 rintro e w2 ⟨A2, c2, rfl, hown2, hf2⟩
 have k1 := cap_of hown1 rfl hf2
 have k2 := cap_of hown2 rfl (Fr.refl No w2)
 have HF := Lib.hid (hf1.trans' hf2 (fun _ _ e => e))
 clear hown1 hown2 hf1 hf2 q1 q2
 go_wp2_with fail
 refine (q3 A1 A2 c1 c2 w2 k1 k2).mono ?_
 rintro e w3 ⟨A3, c3, rfl, hs, hf3⟩
 have HS := Lib.hid hs
 have HG := Lib.hid (HF.out.trans' hf3 (fun _ _ e => e))
 clear hs hf3 k1 k2 q3
 go_wp2
 go_ret
 exact ⟨A3, c3, rfl, HS.out, HG.out⟩

theorem meets_plain (s t : Nat → Bool) : meets s t = decide (0 < (plainOf fun k => s k && t k).length) := by
 rw [Bool.eq_iff_iff, meets_true, decide_eq_true_eq, plainOf_empty]
 simp
set_option maxHeartbeats 1000000 in
theorem kMeet_any (l m : List Span) (A B : Option Addr) (n c n2 c2 : Nat) (w : World) (h : In4 w A n l) (h2 : In4 w B n2 m) : Calls Tryz.prog 105 #[.slice A n c, .slice B n2 c2] w fun e w' => e = .returned (.bool (meets (keysOf l) (keysOf m))) ∧ Fr No w w' := by
 have q := kBoth_any l m A B n c n2 c2 w h h2
 rw [meets_plain]
 clear h h2
 generalize (plainOf fun k => keysOf l k && keysOf m k) = zs at q ⊢
 go_enter Tryz.func105, Tryz.ntmps105
 go_wp2_with fail
 refine q.mono ?_
 rintro e w1 ⟨A1, c1, rfl, hs, hf1⟩
 clear hs q
 go_wp2
 go_ret
 exact ⟨by simp, hf1⟩
end Go.Proofs.YtmeimhpllemjfaaGreat
