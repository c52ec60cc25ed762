/- The contracts that the laws want, of histories that are not great. -/
import Derived.Test.YtmabapbdnafpfaaDpa15
import Derived.Test.YtmabapbdnafpfaaAdd15
import Derived.Test.YtmabapbdnafpfaaAlv15
import Derived.Test.YtmabapbdnafpfaaCnf14
namespace Go.Proofs.Ytmabapbdnafpfaa
open Go.RowKit

theorem fewN_of_great15 {h : List Ndl} (hg : great15 h = false) : FewN h := fun x hx => by
  have := (few_of_great15 hg).2 x hx
  omega
theorem confU15 {h : List Ndl} {A : Option Addr} {w : World} (hs : Nds w A h) (hf : FewN h) : ∀ (a b : Nat) (ha : a < h.length) (hb : b < h.length) W, Fr No w W → Calls Try.prog 29 #[h[a].agg, h[b].agg] W (Has W (confN h[a].n h[b].n)) :=
  fun a b ha hb W hW => conflictU_any h[a] h[b] W ((hs.all _ (List.getElem_mem ha)).since hW) ((hs.all _ (List.getElem_mem hb)).since hW) (hf _ (List.getElem_mem ha)).1 (hf _ (List.getElem_mem ha)).2 (hf _ (List.getElem_mem hb)).1 (hf _ (List.getElem_mem hb)).2
theorem confR15 {h : List Ndl} {A : Option Addr} {w : World} (hs : Nds w A h) (hf : FewN h) : ∀ (a b : Nat) (ha : a < h.length) (hb : b < h.length) W, Fr No w W → Calls Try.prog 9 #[h[a].agg, h[b].agg] W (Has W (confN h[a].n h[b].n)) :=
  fun a b ha hb W hW => refConflict14_any h[a] h[b] W ((hs.all _ (List.getElem_mem ha)).since hW) ((hs.all _ (List.getElem_mem hb)).since hW) (hf _ (List.getElem_mem ha)).1 (hf _ (List.getElem_mem ha)).2 (hf _ (List.getElem_mem hb)).1 (hf _ (List.getElem_mem hb)).2
theorem ofC15 (h : List Ndl) (A : Option Addr) (n c : Nat) (w : World) (hs : Nds w A h) (hn : h.length = n) (hnm : n ≤ 1048576) (hnc : n ≤ c) (hf : FewN h) :
    Calls Try.prog 10 #[.slice A n c] w fun e w' => ∃ L ls lc, e = .returned (.slice L ls.length lc) ∧ Ils w' L ls ∧ OfL (ndsOf h) ls ∧ Fr No w w' := by
  refine (of15 h A n c w hs hn hnm hnc (confU15 hs hf)).mono ?_
  rintro e w' ⟨L, ls, lc, h1, h2, h3, h4⟩
  exact ⟨L, ls, lc, h1, h2.ils, h3, h4⟩
theorem dirI_nat (h : List Nd) (i k : Nat) : dirI h i k = dirB h i k := by
  unfold dirI
  rw [decide_eq_true (show (0 : Int) ≤ i ∧ (0 : Int) ≤ k by omega), Bool.true_and, Int.toNat_natCast, Int.toNat_natCast]
theorem depI_nat (h : List Nd) (i k : Nat) : depI h i k = depB h i k := by
  unfold depI
  rw [decide_eq_true (show (0 : Int) ≤ i ∧ (0 : Int) ≤ k by omega), Bool.true_and, Int.toNat_natCast, Int.toNat_natCast]
theorem aliveD15 (w : World) : Calls Try.prog 7 #[] w (Has w true) := by
  refine alive15 w (fun h A c W hs hl hc hf => ofC15 h A h.length c W hs rfl (by omega) hc hf) (fun h A c W i k hs hl hc hf hi hk => ?_) (fun h A c W i k hs hl hc hf hi hk => ?_)
  · rw [← depI_nat]
    exact depends15 h A h.length c W i k hs rfl (by omega) hc (confU15 hs hf)
  · rw [← dirI_nat]
    exact direct15_any h A h.length c W i k hs rfl (confU15 hs hf)
theorem lawOf15 (h : List Ndl) (A : Option Addr) (n c : Nat) (w : World) (i k : Int) (hs : Nds w A h) (hh : h.length = n) (hnc : n ≤ c) (hnm : n ≤ 9223372036854775807) : Calls Try.prog 3 #[.slice A n c, .int .i64 i, .int .i64 k] w (Has w true) := by
  have h40 : great15 h = false → n ≤ 1048576 := fun hg => by have := (few_of_great15 hg).1; omega
  exact depsOf15_any h A n c w i k hs hh (fun W _ => aliveD15 W) (fun W hW => great15_any h A n c W (hs.since hW) hh hnm) (fun a b ha hb hg W hW => confR15 hs (fewN_of_great15 hg) a b ha hb W hW)
    (fun hg W hW => ofC15 h A n c W (hs.since hW) hh (h40 hg) hnc (fewN_of_great15 hg))
    (fun hg W hW => refOf15_any h A n c W (hs.since hW) hh (h40 hg) (confR15 (hs.since hW) (fewN_of_great15 hg)))
    (fun hg W hW => direct15_any h A n c W i k (hs.since hW) hh (confU15 (hs.since hW) (fewN_of_great15 hg)))
theorem lawTwo15 (h : List Ndl) (A : Option Addr) (n c : Nat) (w : World) (i k : Int) (hs : Nds w A h) (hh : h.length = n) (hnc : n ≤ c) (hnm : n ≤ 9223372036854775807) : Calls Try.prog 4 #[.slice A n c, .int .i64 i, .int .i64 k] w (Has w true) := by
  have h40 : great15 h = false → n ≤ 1048576 := fun hg => by have := (few_of_great15 hg).1; omega
  exact depsTwo15_any h A n c w i k hh hnm (fun W _ => aliveD15 W) (fun W hW => great15_any h A n c W (hs.since hW) hh hnm)
    (fun hg W hW => refOf15_any h A n c W (hs.since hW) hh (h40 hg) (confR15 (hs.since hW) (fewN_of_great15 hg)))
    (fun hg W hW => depends15 h A n c W i k (hs.since hW) hh (h40 hg) hnc (confU15 (hs.since hW) (fewN_of_great15 hg)))
    (fun hg W hW => apart15 h A n c W i k (hs.since hW) hh (h40 hg) hnc (confU15 (hs.since hW) (fewN_of_great15 hg)))
end Go.Proofs.Ytmabapbdnafpfaa
