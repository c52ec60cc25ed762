/- Package keys: the keys of a set, one by one. -/
import Derived.RangeFuncBox
import Derived.RangeFuncLeaves
import Derived.Shelf.Abstract
import Derived.WalkKit
import Derived.OwnWalkIn
import Derived.TacticsInMore
import Derived.LoopNIn
import Derived.LoopIn
import Derived.Maps.AppendAt
import Derived.Test.YtnlmhcfkipkegaaMay4
namespace Go.Proofs.Ytnlmhcfkipkegaa
open Go.RowKit Go.Shelf

attribute [local go_sem] Oper.semAt_some

/-- What the loop's body keeps: rows of spans, and boxes of lists of spans. -/
def KpS (W W' : World) : Prop := ∀ g t cs, (t = 77 ∨ t = 39) → Bk W g t cs → Bk W' g t cs
theorem KpS.refl (W : World) : KpS W W := fun _ _ _ _ h => h
theorem KpS.trans {A B C : World} (h : KpS A B) (k : KpS B C) : KpS A C := fun g t cs ht hb => k g t cs ht (h g t cs ht hb)
theorem KpS.putObj {w : World} (W : World) (l : Nat) (o o' : Obj) (_ : w.heap.size ≤ l) (h : W.heap[l]? = some o) (hc : o.isCells = false) (_ : o.isWalk = false) : KpS W (W.putObj l o') := fun g t cs _ hb => by
  refine (World.putObj_heap_other (fun e => ?_)).trans hb
  subst e
  have := (show W.heap[g]? = _ from hb).symm.trans h
  injection this with this
  rw [← this] at hc
  cases hc
theorem KpS.alloc {A B : World} (h : KpS A B) (o : Obj) : KpS A (B.alloc o) := fun g t cs ht hb => (h g t cs ht hb).alloc o
theorem KpS.own {W W' : World} (h : KpS W W') {B n c k : Nat} {A : Option Addr} {xs : List Value} (ho : W.ownsRow B 77 k (.slice A n c) n xs) : W'.ownsRow B 77 k (.slice A n c) n xs := by
  refine ⟨ho.1, ?_⟩
  rcases ho.2 with h0 | ⟨g, cap, cur, hv, hb, hg, r⟩
  · exact .inl h0
  · exact .inr ⟨g, cap, cur, hv, hb, h g _ cur (.inl rfl) hg, r⟩
theorem KpS.fr {S : Nat → Prop} {W W' : World} (h : Fr S W W') (hS : ∀ g t cs, (t = 77 ∨ t = 39) → Bk W g t cs → ¬ S g) : KpS W W' := fun g t cs ht hb => hb.fr h (hS g t cs ht hb)

theorem flatK_app (l m : List Span) : flatK (l ++ m) = flatK l ++ flatK m := by simp [flatK]
theorem flatK_one (a b : Nat) : flatK [((a : Int), ((a + b : Nat) : Int))] = List.range' a (b + 1) := by
  simp only [flatK, List.flatMap_cons, List.flatMap_nil, List.append_nil, spKeys]
  congr 1
  omega
theorem flat_pre (zs : List Span) (j a b i : Nat) (hj : j < zs.length) (he : zs[j] = ((a : Int), ((a + b : Nat) : Int))) (hi : i ≤ b + 1) : flatK (zs.take j) ++ List.range' a i <+: flatK zs := by
  have h1 : zs = zs.take j ++ (zs[j] :: zs.drop (j + 1)) := by rw [List.getElem_cons_drop, List.take_append_drop]
  have h2 : flatK zs = flatK (zs.take j) ++ (List.range' a (b + 1) ++ flatK (zs.drop (j + 1))) := by
    rw [← flatK_one, ← he, ← flatK_app, ← flatK_app]
    exact congrArg flatK h1
  rw [h2, List.prefix_append_right_inj]
  refine List.IsPrefix.trans ?_ (List.prefix_append _ _)
  obtain ⟨k, hk⟩ : ∃ k, b + 1 = i + k := ⟨b + 1 - i, by omega⟩
  rw [hk, ← List.range'_append_1]
  exact List.prefix_append _ _

theorem info_int4 : (Try.prog.info? 3).map (fun i => (i.zero, i.size, i.bytes)) = some (some (.int .i64 0), 1, 8) := by kernel_rfl
theorem i64s_app (xs ys : List Nat) : i64s (xs ++ ys) = i64s xs ++ i64s ys := by simp [i64s]

end Go.Proofs.Ytnlmhcfkipkegaa
/- Package keys: whether a key is in a set. -/
namespace Go.Proofs.Ytnlmhcfkipkegaa
open Go.RowKit

def inB (p : Span) (k : Int) : Bool := mayB p.1 p.2 && (decide (p.1 ≤ k) && decide (k ≤ p.2))
theorem hasB_eq (l : List Span) (k : Int) : hasB l k = l.any fun p => inB p k := by
  rw [Bool.eq_iff_iff, List.any_eq_true]
  unfold hasB
  rw [Bool.and_eq_true, decide_eq_true_eq, keysOf_true]
  constructor
  · rintro ⟨h0, p, hp, h⟩
    rw [spHas_iff] at h
    refine ⟨p, hp, ?_⟩
    simp only [inB, mayB, Bool.and_eq_true, decide_eq_true_eq]
    omega
  · rintro ⟨p, hp, h⟩
    simp only [inB, mayB, Bool.and_eq_true, decide_eq_true_eq] at h
    refine ⟨by omega, p, hp, ?_⟩
    rw [spHas_iff]
    omega
end Go.Proofs.Ytnlmhcfkipkegaa
