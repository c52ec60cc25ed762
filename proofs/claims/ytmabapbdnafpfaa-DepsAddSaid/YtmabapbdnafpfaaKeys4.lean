/- Package keys: the keys of a set, one by one. -/
import Derived.RangeFuncBox
import Derived.RangeFuncLeaves
import Derived.Shelf.Abstract
import Derived.WalkKit
import Derived.OwnWalkIn
import Derived.TacticsInMore
import Derived.LoopNIn
import Derived.LoopIn
import Derived.Maps.AppendAt
import Derived.Test.YtmabapbdnafpfaaMay4
import Derived.Test.YtmabapbdnafpfaaFol4
import Derived.Test.YtmabapbdnafpfaaCom4
namespace Go.Proofs.Ytmabapbdnafpfaa
open Go.RowKit Go.Shelf

attribute [local go_sem] Oper.semAt_some

/-- What the loop's body keeps: rows of spans, and boxes of lists of spans. -/
def KpS (W W' : World) : Prop := ∀ g t cs, (t = 41 ∨ t = 25) → Bk W g t cs → Bk W' g t cs
theorem KpS.refl (W : World) : KpS W W := fun _ _ _ _ h => h
theorem KpS.trans {A B C : World} (h : KpS A B) (k : KpS B C) : KpS A C := fun g t cs ht hb => k g t cs ht (h g t cs ht hb)
theorem KpS.putObj {w : World} (W : World) (l : Nat) (o o' : Obj) (_ : w.heap.size ≤ l) (h : W.heap[l]? = some o) (hc : o.isCells = false) (_ : o.isWalk = false) : KpS W (W.putObj l o') := fun g t cs _ hb => by
  refine (World.putObj_heap_other (fun e => ?_)).trans hb
  subst e
  have := (show W.heap[g]? = _ from hb).symm.trans h
  injection this with this
  rw [← this] at hc
  cases hc
theorem KpS.alloc {A B : World} (h : KpS A B) (o : Obj) : KpS A (B.alloc o) := fun g t cs ht hb => (h g t cs ht hb).alloc o
theorem KpS.own {W W' : World} (h : KpS W W') {B n c k : Nat} {A : Option Addr} {xs : List Value} (ho : W.ownsRow B 41 k (.slice A n c) n xs) : W'.ownsRow B 41 k (.slice A n c) n xs := by
  refine ⟨ho.1, ?_⟩
  rcases ho.2 with h0 | ⟨g, cap, cur, hv, hb, hg, r⟩
  · exact .inl h0
  · exact .inr ⟨g, cap, cur, hv, hb, h g _ cur (.inl rfl) hg, r⟩
theorem KpS.fr {S : Nat → Prop} {W W' : World} (h : Fr S W W') (hS : ∀ g t cs, (t = 41 ∨ t = 25) → Bk W g t cs → ¬ S g) : KpS W W' := fun g t cs ht hb => hb.fr h (hS g t cs ht hb)

theorem flatK_app (l m : List Span) : flatK (l ++ m) = flatK l ++ flatK m := by simp [flatK]
theorem flatK_one (a b : Nat) : flatK [((a : Int), ((a + b : Nat) : Int))] = List.range' a (b + 1) := by
  simp only [flatK, List.flatMap_cons, List.flatMap_nil, List.append_nil, spKeys]
  congr 1
  omega
theorem flat_pre (zs : List Span) (j a b i : Nat) (hj : j < zs.length) (he : zs[j] = ((a : Int), ((a + b : Nat) : Int))) (hi : i ≤ b + 1) : flatK (zs.take j) ++ List.range' a i <+: flatK zs := by
  have h1 : zs = zs.take j ++ (zs[j] :: zs.drop (j + 1)) := by rw [List.getElem_cons_drop, List.take_append_drop]
  have h2 : flatK zs = flatK (zs.take j) ++ (List.range' a (b + 1) ++ flatK (zs.drop (j + 1))) := by
    rw [← flatK_one, ← he, ← flatK_app, ← flatK_app]
    exact congrArg flatK h1
  rw [h2, List.prefix_append_right_inj]
  refine List.IsPrefix.trans ?_ (List.prefix_append _ _)
  obtain ⟨k, hk⟩ : ∃ k, b + 1 = i + k := ⟨b + 1 - i, by omega⟩
  rw [hk, ← List.range'_append_1]
  exact List.prefix_append _ _

theorem info_int4 : (Try.prog.info? 3).map (fun i => (i.zero, i.size, i.bytes)) = some (some (.int .i64 0), 1, 8) := by kernel_rfl
theorem i64s_app (xs ys : List Nat) : i64s (xs ++ ys) = i64s xs ++ i64s ys := by simp [i64s]

end Go.Proofs.Ytmabapbdnafpfaa
/- Package keys: whether a key is in a set. -/
namespace Go.Proofs.Ytmabapbdnafpfaa
open Go.RowKit

def inB (p : Span) (k : Int) : Bool := mayB p.1 p.2 && (decide (p.1 ≤ k) && decide (k ≤ p.2))
theorem hasB_eq (l : List Span) (k : Int) : hasB l k = l.any fun p => inB p k := by
  rw [Bool.eq_iff_iff, List.any_eq_true]
  unfold hasB
  rw [Bool.and_eq_true, decide_eq_true_eq, keysOf_true]
  constructor
  · rintro ⟨h0, p, hp, h⟩
    rw [spHas_iff] at h
    refine ⟨p, hp, ?_⟩
    simp only [inB, mayB, Bool.and_eq_true, decide_eq_true_eq]
    omega
  · rintro ⟨p, hp, h⟩
    simp only [inB, mayB, Bool.and_eq_true, decide_eq_true_eq] at h
    refine ⟨by omega, p, hp, ?_⟩
    rw [spHas_iff]
    omega
end Go.Proofs.Ytmabapbdnafpfaa
/- What package keys does. -/
namespace Go.Proofs.Ytmabapbdnafpfaa
open Go.RowKit Go.Shelf Go.Lib

theorem NewO.pl {w w' : World} {s : Nat → Bool} {e : Ending} (h : NewO w (plainOf s) e w') : ∃ A c, e = .returned (.slice A (plainOf s).length c) ∧ w'.ownsRow w.heap.size 41 2 (.slice A (plainOf s).length c) (plainOf s).length (sps (plainOf s)) ∧ Fr No w w' := h
theorem sl_one (w : World) (A : Option Addr) (n c : Nat) : Sl (w.alloc (.cells #[.slice A n c] 25)) (w.alloc (.cells #[.slice A n c] 25)).heap.size (some ⟨w.heap.size, 0, none⟩) [.slice A n c] := (Sl.made w 25 #[.slice A n c]).more (by simp)

set_option maxHeartbeats 1000000 in
theorem kPlain_own (l : List Span) (A : Option Addr) (n c : Nat) (w : World) (h : In4 w A n l) : Calls Try.prog 56 #[.slice A n c] w (NewO w (plainOf (keysOf l))) := by
  have hg := (Fr.refl No w).alloc (.cells #[.slice A n c] 25)
  have q := kFolded_any [(A, n, c, l)] (some ⟨w.heap.size, 0, none⟩) 1 1 _ (sl_one w A n c) rfl ⟨fun q hq => by
    rw [List.mem_singleton.1 hq]
    exact ⟨h.sl.since hg, h.len⟩, by have := h.le; have := h.len; simp [spansOf]; omega⟩ (by omega)
  have e : spansOf [(A, n, c, l)] = l := by simp [spansOf]
  rw [e] at q
  have Hg := Lib.hid hg
  clear h hg e
  generalize plainOf (keysOf l) = zs at q ⊢
  go_enter Try.func56, Try.ntmps56
  go_wp2_with fail
  refine q.mono ?_
  rintro e w2 ⟨A2, c2, rfl, hown, hf⟩
  have HO := Lib.hid (own_base hown Hg.out.size)
  have HF := Lib.hid (Hg.out.trans' hf (fun _ _ e => e))
  clear hown hf q
  go_wp2
  go_ret
  exact ⟨A2, c2, rfl, HO.out, HF.out⟩
theorem kPlain_any (l : List Span) (A : Option Addr) (n c : Nat) (w : World) (h : In4 w A n l) : Calls Try.prog 56 #[.slice A n c] w (NewS w (plainOf (keysOf l))) :=
  (kPlain_own l A n c w h).mono fun _ _ h => h.s

set_option maxHeartbeats 1000000 in
theorem kUnion_any (l m : List Span) (A B : Option Addr) (n c n2 c2 : Nat) (w : World) (h : In4 w A n l) (h2 : In4 w B n2 m) : Calls Try.prog 43 #[.slice A n c, .slice B n2 c2] w (NewS w (plainOf fun k => keysOf l k || keysOf m k)) := by
  have hg := (Fr.refl No w).alloc (.cells #[.slice A n c, .slice B n2 c2] 25)
  have q := kFolded_any [(A, n, c, l), (B, n2, c2, m)] (some ⟨w.heap.size, 0, none⟩) 2 2 _ ((Sl.made w 25 #[.slice A n c, .slice B n2 c2]).more (by simp)) rfl ⟨fun q hq => by
    simp only [List.mem_cons, List.not_mem_nil, or_false] at hq
    rcases hq with rfl | rfl
    · exact ⟨h.sl.since hg, h.len⟩
    · exact ⟨h2.sl.since hg, h2.len⟩, by have := h.le; have := h.len; have := h2.le; have := h2.len; simp [spansOf]; omega⟩ (by omega)
  have e : spansOf [(A, n, c, l), (B, n2, c2, m)] = l ++ m := by simp [spansOf]
  rw [e, show keysOf (l ++ m) = fun k => keysOf l k || keysOf m k from funext (keysOf_app l m)] at q
  have Hg := Lib.hid hg
  clear h h2 hg e
  generalize (plainOf fun k => keysOf l k || keysOf m k) = zs at q ⊢
  go_enter Try.func43, Try.ntmps43
  go_wp2_with fail
  refine q.mono ?_
  rintro e w2 ⟨A2, c2, rfl, hown, hf⟩
  have HO := Lib.hid (Sl.ofOwn hown)
  have HF := Lib.hid (Hg.out.trans' hf (fun _ _ e => e))
  clear hown hf q
  go_wp2
  go_ret
  exact ⟨A2, c2, rfl, HO.out, HF.out⟩

theorem cap_of {w W : World} {B n c : Nat} {A : Option Addr} {zs : List Span} (h : w.ownsRow B 41 2 (.slice A n c) n (sps zs)) (hn : zs.length = n) (hf : Fr No w W) : Cap4 W W.heap.size A n c zs :=
  ⟨(Sl.ofOwn h).since hf, hn, own_cap h⟩

set_option maxHeartbeats 1000000 in
theorem kBoth_any (l m : List Span) (A B : Option Addr) (n c n2 c2 : Nat) (w : World) (h : In4 w A n l) (h2 : In4 w B n2 m) : Calls Try.prog 42 #[.slice A n c, .slice B n2 c2] w (NewS w (plainOf fun k => keysOf l k && keysOf m k)) := by
  have q1 := kPlain_own l A n c w h
  have q2 := fun W (hf : Fr No w W) => kPlain_own m B n2 c2 W ⟨h2.sl.since hf, h2.len, h2.le⟩
  have hl1 := plainTo_len (keysOf l) 1000
  have hl2 := plainTo_len (keysOf m) 1000
  have e : (plainOf fun k => keysOf l k && keysOf m k) = plainOf fun k => keysOf (plainOf (keysOf l)) k && keysOf (plainOf (keysOf m)) k :=
    plainOf_congr fun k _ => by rw [keysOf_plainOf, keysOf_plainOf]
  have p1 := plainOf_pl (keysOf l)
  have p2 := plainOf_pl (keysOf m)
  rw [e]
  clear h h2 e
  change (plainOf (keysOf l)).length ≤ 1000 at hl1
  change (plainOf (keysOf m)).length ≤ 1000 at hl2
  generalize plainOf (keysOf l) = xs at *
  generalize plainOf (keysOf m) = ys at *
  have q3 := fun A B c c2 W h1 h2 => kCommon_any xs ys A B xs.length c ys.length c2 W h1 h2 p1 p2 (by omega) (by omega)
  generalize (plainOf fun k => keysOf xs k && keysOf ys k) = zs at q3 ⊢
  clear p1 p2
  go_enter Try.func42, Try.ntmps42
  go_wp2_with fail
  refine q1.mono ?_
  rintro e w1 ⟨A1, c1, rfl, hown1, hf1⟩
  go_wp2_with fail
  refine (q2 w1 hf1).mono ?_
  rintro e w2 ⟨A2, c2, rfl, hown2, hf2⟩
  have k1 := cap_of hown1 rfl hf2
  have k2 := cap_of hown2 rfl (Fr.refl No w2)
  have HF := Lib.hid (hf1.trans' hf2 (fun _ _ e => e))
  clear hown1 hown2 hf1 hf2 q1 q2
  go_wp2_with fail
  refine (q3 A1 A2 c1 c2 w2 k1 k2).mono ?_
  rintro e w3 ⟨A3, c3, rfl, hs, hf3⟩
  have HS := Lib.hid hs
  have HG := Lib.hid (HF.out.trans' hf3 (fun _ _ e => e))
  clear hs hf3 k1 k2 q3
  go_wp2
  go_ret
  exact ⟨A3, c3, rfl, HS.out, HG.out⟩

theorem meets_plain (s t : Nat → Bool) : meets s t = decide (0 < (plainOf fun k => s k && t k).length) := by
  rw [Bool.eq_iff_iff, meets_true, decide_eq_true_eq, plainOf_empty]
  simp
set_option maxHeartbeats 1000000 in
theorem kMeet_any (l m : List Span) (A B : Option Addr) (n c n2 c2 : Nat) (w : World) (h : In4 w A n l) (h2 : In4 w B n2 m) : Calls Try.prog 37 #[.slice A n c, .slice B n2 c2] w fun e w' => e = .returned (.bool (meets (keysOf l) (keysOf m))) ∧ Fr No w w' := by
  have q := kBoth_any l m A B n c n2 c2 w h h2
  rw [meets_plain]
  clear h h2
  generalize (plainOf fun k => keysOf l k && keysOf m k) = zs at q ⊢
  go_enter Try.func37, Try.ntmps37
  go_wp2_with fail
  refine q.mono ?_
  rintro e w1 ⟨A1, c1, rfl, hs, hf1⟩
  clear hs q
  go_wp2
  go_ret
  exact ⟨by simp, hf1⟩
end Go.Proofs.Ytmabapbdnafpfaa
