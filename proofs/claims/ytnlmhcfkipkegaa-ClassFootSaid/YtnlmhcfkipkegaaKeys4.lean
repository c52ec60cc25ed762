/- What package keys does. -/
import Derived.Test.YtnlmhcfkipkegaaFol4
import Derived.Test.YtnlmhcfkipkegaaCom4
import Derived.Test.YtnlmhcfkipkegaaGap4
import Derived.Test.YtnlmhcfkipkegaaHas4
namespace Go.Proofs.Ytnlmhcfkipkegaa
open Go.RowKit Go.Shelf Go.Lib

theorem NewO.pl {w w' : World} {s : Nat → Bool} {e : Ending} (h : NewO w (plainOf s) e w') : ∃ A c, e = .returned (.slice A (plainOf s).length c) ∧ w'.ownsRow w.heap.size 77 2 (.slice A (plainOf s).length c) (plainOf s).length (sps (plainOf s)) ∧ Fr No w w' := h
theorem sl_one (w : World) (A : Option Addr) (n c : Nat) : Sl (w.alloc (.cells #[.slice A n c] 39)) (w.alloc (.cells #[.slice A n c] 39)).heap.size (some ⟨w.heap.size, 0, none⟩) [.slice A n c] := (Sl.made w 39 #[.slice A n c]).more (by simp)

set_option maxHeartbeats 1000000 in
theorem kPlain_own (l : List Span) (A : Option Addr) (n c : Nat) (w : World) (h : In4 w A n l) : Calls Try.prog 78 #[.slice A n c] w (NewO w (plainOf (keysOf l))) := by
  have hg := (Fr.refl No w).alloc (.cells #[.slice A n c] 39)
  have q := kFolded_any [(A, n, c, l)] (some ⟨w.heap.size, 0, none⟩) 1 1 _ (sl_one w A n c) rfl ⟨fun q hq => by
    rw [List.mem_singleton.1 hq]
    exact ⟨h.sl.since hg, h.len⟩, by have := h.le; have := h.len; simp [spansOf]; omega⟩ (by omega)
  have e : spansOf [(A, n, c, l)] = l := by simp [spansOf]
  rw [e] at q
  have Hg := Lib.hid hg
  clear h hg e
  generalize plainOf (keysOf l) = zs at q ⊢
  go_enter Try.func78, Try.ntmps78
  go_wp2_with fail
  refine q.mono ?_
  rintro e w2 ⟨A2, c2, rfl, hown, hf⟩
  have HO := Lib.hid (own_base hown Hg.out.size)
  have HF := Lib.hid (Hg.out.trans' hf (fun _ _ e => e))
  clear hown hf q
  go_wp2
  go_ret
  exact ⟨A2, c2, rfl, HO.out, HF.out⟩
theorem kPlain_any (l : List Span) (A : Option Addr) (n c : Nat) (w : World) (h : In4 w A n l) : Calls Try.prog 78 #[.slice A n c] w (NewS w (plainOf (keysOf l))) :=
  (kPlain_own l A n c w h).mono fun _ _ h => h.s

set_option maxHeartbeats 1000000 in
theorem kUnion_any (l m : List Span) (A B : Option Addr) (n c n2 c2 : Nat) (w : World) (h : In4 w A n l) (h2 : In4 w B n2 m) : Calls Try.prog 30 #[.slice A n c, .slice B n2 c2] w (NewS w (plainOf fun k => keysOf l k || keysOf m k)) := by
  have hg := (Fr.refl No w).alloc (.cells #[.slice A n c, .slice B n2 c2] 39)
  have q := kFolded_any [(A, n, c, l), (B, n2, c2, m)] (some ⟨w.heap.size, 0, none⟩) 2 2 _ ((Sl.made w 39 #[.slice A n c, .slice B n2 c2]).more (by simp)) rfl ⟨fun q hq => by
    simp only [List.mem_cons, List.not_mem_nil, or_false] at hq
    rcases hq with rfl | rfl
    · exact ⟨h.sl.since hg, h.len⟩
    · exact ⟨h2.sl.since hg, h2.len⟩, by have := h.le; have := h.len; have := h2.le; have := h2.len; simp [spansOf]; omega⟩ (by omega)
  have e : spansOf [(A, n, c, l), (B, n2, c2, m)] = l ++ m := by simp [spansOf]
  rw [e, show keysOf (l ++ m) = fun k => keysOf l k || keysOf m k from funext (keysOf_app l m)] at q
  have Hg := Lib.hid hg
  clear h h2 hg e
  generalize (plainOf fun k => keysOf l k || keysOf m k) = zs at q ⊢
  go_enter Try.func30, Try.ntmps30
  go_wp2_with fail
  refine q.mono ?_
  rintro e w2 ⟨A2, c2, rfl, hown, hf⟩
  have HO := Lib.hid (Sl.ofOwn hown)
  have HF := Lib.hid (Hg.out.trans' hf (fun _ _ e => e))
  clear hown hf q
  go_wp2
  go_ret
  exact ⟨A2, c2, rfl, HO.out, HF.out⟩

theorem cap_of {w W : World} {B n c : Nat} {A : Option Addr} {zs : List Span} (h : w.ownsRow B 77 2 (.slice A n c) n (sps zs)) (hn : zs.length = n) (hf : Fr No w W) : Cap4 W W.heap.size A n c zs :=
  ⟨(Sl.ofOwn h).since hf, hn, own_cap h⟩

theorem meets_plain (s t : Nat → Bool) : meets s t = decide (0 < (plainOf fun k => s k && t k).length) := by
  rw [Bool.eq_iff_iff, meets_true, decide_eq_true_eq, plainOf_empty]
  simp
end Go.Proofs.Ytnlmhcfkipkegaa
