/- Package pages: a pair leaves a page, and pages are joined. -/
import Derived.Test.YtenmiociinogeaaGtp5
import Derived.Deep.RegionLawGrows
namespace Go.Proofs.Ytenmiociinogeaa
open Go.RowKit

section
variable {w w' : World} {S : Nat → Prop} {q o c : Nat} {hs : List Pgh} {P : List Pg}
/-- Is there a page and a next one that have few pairs together? -/
def fewP (P : List Pg) (i : Nat) : Bool := decide (i + 1 < P.length ∧ (P.getD i []).length + (P.getD (i + 1) []).length ≤ 4)
set_option maxHeartbeats 2000000 in
theorem few_neg (i : Int) (h : i < 0) (A : Option Addr) (n c : Nat) (w : World) : Calls Try.prog 41 #[.slice A n c, .int .i64 i] w fun e w' => e = .returned (.bool false) ∧ Fr No w w' := by
  have h0 : decide ((0 : Int) ≤ i) = false := by simp; omega
  go_enter Try.func41, Try.ntmps41
  go_wp2_with fail
  go_quiet (fail)
  go_wp2
  go_ret
  exact ⟨rfl, (Fr.refl No w).drewN _⟩
set_option maxHeartbeats 2000000 in
theorem few_any (i : Nat) (hib : i ≤ 2000) (h : LsN w S q o c hs P) (hn : hs.length ≤ 2000) (hl : ∀ p ∈ P, p.length ≤ 1000) : Calls Try.prog 41 #[.slice (some ⟨q, o, none⟩) hs.length c, .int .i64 i] w fun e w' => e = .returned (.bool (fewP P i)) ∧ Fr No w w' := by
  by_cases hi : i + 1 < hs.length
  · have hi0 : i < hs.length := by omega
    have x0 := h.hdr hi0
    have x1 := h.hdr hi
    have hP0 := h.lenP hi0
    have hP1 := h.lenP hi
    have p0 := h.pg i hi0 hP0
    have p1 := h.pg (i + 1) hi hP1
    have e0 := p0.len
    have e1 := p1.len
    have l0 := hl _ (List.getElem_mem hP0)
    have l1 := hl _ (List.getElem_mem hP1)
    have hv : fewP P i = decide (((hs[i].n : Nat) : Int) + (hs[i + 1].n : Nat) ≤ 4) := by
      unfold fewP
      rw [show P.getD i [] = P[i] by simp [List.getD, hP0], show P.getD (i + 1) [] = P[i + 1] by simp [List.getD, hP1], ← e0, ← e1]
      rw [Bool.eq_iff_iff, decide_eq_true_eq, decide_eq_true_eq]
      omega
    rw [hv]
    have b0 : hs[i].n ≤ 1000 := by omega
    have b1 : hs[i + 1].n ≤ 1000 := by omega
    clear hv e0 e1 l0 l1 p0 p1
    generalize hs[i] = a at *
    generalize hs[i + 1] = b at *
    obtain ⟨ag, ao, an, ac⟩ := a
    obtain ⟨bg, bo, bn, bc⟩ := b
    unfold Pgh.val at x0 x1
    rw [show o + (i + 1) = o + i + 1 by omega] at x1
    simp only at x0 x1 b0 b1
    have x2 : w.cell? ⟨q, o + (i + 1), none⟩ = some (.slice (some ⟨bg, bo, none⟩) bn bc) := x1
    have hlt : (i : Int) + 1 < (hs.length : Int) := by omega
    have ht : ((i : Int) + 1).toNat = i + 1 := by omega
    have hw1 : IntKind.i64.wrap ((i : Int) + 1) = (i : Int) + 1 := by rw [IntKind.wrap_i64]; omega
    have hge : (0 : Int) ≤ (i : Int) + 1 := by omega
    clear h hP0 hP1 hi
    generalize hs.length = z at *
    go_enter Try.func41, Try.ntmps41
    go_wp2_with fail
    go_quiet (fail)
    go_wp2
    go_ret
    exact ⟨rfl, (Fr.refl No w).drewN _⟩
  · have hv : fewP P i = false := by
      unfold fewP
      rw [decide_eq_false_iff_not, ← h.len]
      omega
    rw [hv]
    have hlt : decide ((i : Int) + 1 < (hs.length : Int)) = false := by simp; omega
    clear h hv hi
    generalize hs.length = z at *
    go_enter Try.func41, Try.ntmps41
    go_wp2_with fail
    go_quiet (fail)
    go_wp2
    go_ret
    exact ⟨rfl, (Fr.refl No w).drewN _⟩
end
end Go.Proofs.Ytenmiociinogeaa
