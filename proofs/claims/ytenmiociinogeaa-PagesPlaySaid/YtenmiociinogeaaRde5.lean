/- The document's store: a key is taken out, whether it is there or not. -/
import Derived.Test.YtenmiociinogeaaRdl5
import Derived.Test.YtenmiociinogeaaPgs5
namespace Go.Proofs.Ytenmiociinogeaa
open Go.RowKit

theorem val_there {P : List Pg} (hi : InvP P) (k : Nat) (h : ¬ idxP P k < 0) : (valP P.flatten k).isSome = true := by
  have hP : P ≠ [] := by
    rintro rfl
    have : idxP [] k = -1 := rfl
    rw [this] at h
    omega
  have hat := atP_lt P k hP
  have hgd : P.getD (atP P k) [] = P[atP P k] := by simp [List.getD, hat]
  have hrise : Rise P[atP P k] := by
    obtain ⟨X, Y, hXY⟩ := List.append_of_mem (List.getElem_mem hat)
    have hr := hi.rise
    rw [hXY, List.flatten_append, List.flatten_cons] at hr
    exact (Rise.app (Rise.app hr).2.1).1
  have hlt := (idxI_lt P[atP P k] k).1
  have hix : idxP P k = idxI P[atP P k] k := by unfold idxP; rw [hgd]
  rw [hix] at h
  rw [hi.val k, hgd, val_idx _ hrise k (idxI P[atP P k] k).toNat (by omega) (by omega)]
  rfl

set_option maxRecDepth 100000 in
set_option maxHeartbeats 2000000 in
theorem rDel_any (R : Nat → Prop) (p k : Nat) (hk : k < 1000) (P : List Pg) (hi : InvP P) (w : World) (h : RS w R p P) :
    Calls Try.prog 10 #[.pointer (some ⟨p, 0, none⟩), .int .i64 k] w fun e w' => e = .returned (.int .i64 (delA P k)) ∧ ∃ R', RS w' R' p (delQ P k) ∧ Fr (fun x => x = p) w w' ∧ ∀ x, R' x → R x ∨ w.heap.size ≤ x := by
  by_cases hneg : idxP P k < 0
  · have qf := rFind_any R p k P w h (fun q hq => (hi.one q hq).1) (fun q hq => by have := (hi.one q hq).2; omega)
    have hv : (valP P.flatten k).isSome = false := by rw [hi.val k, val_none _ k hneg]; rfl
    have h1 : delA P k = 5 := by unfold delA; rw [hv]; rfl
    have h2 : delQ P k = P := by unfold delQ; rw [hv]; rfl
    rw [h1, h2]
    have Hh := Lib.hid h
    clear h h1 h2 hv
    generalize idxP P k = i at *
    generalize atP P k = a at qf
    go_enter Try.func10, Try.ntmps10
    go_wp2_with fail
    refine qf.mono ?_
    rintro e w1 ⟨rfl, hf1⟩
    have HR := Lib.hid (show ∃ R', RS w1 R' p P ∧ Fr (fun x => x = p) w w1 ∧ ∀ x, R' x → R x ∨ w.heap.size ≤ x from ⟨R, Hh.out.fr hf1 (fun _ _ e => e), hf1.weak (fun _ _ e => e.elim), fun _ e => .inl e⟩)
    clear qf hf1
    go_wp2
    go_ret
    exact ⟨rfl, HR.out⟩
  · have hv := val_there hi k hneg
    have h1 : delA P k = 0 := by unfold delA; rw [hv]; rfl
    have h2 : delQ P k = delP P k := by unfold delQ; rw [hv]; rfl
    rw [h1, h2]
    exact rDel_some R p k P hi hneg w h hk
end Go.Proofs.Ytenmiociinogeaa
