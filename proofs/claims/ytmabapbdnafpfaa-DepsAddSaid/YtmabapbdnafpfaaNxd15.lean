/- What a node that comes behind a history depends on: a set that grows as the history is gone through backwards; and a history that grows node by node. -/
import Derived.Test.YtmabapbdnafpfaaIls15
namespace Go.Proofs.Ytmabapbdnafpfaa
open Go.RowKit

/-- Does a node depend directly on one that is ahead of it? -/
def dirN (n a : Nd) : Bool := decide (n.saga = a.saga) || confN n a
/-- The set behind a node's turn. -/
def nxS (h : List Nd) (n : Nd) (s : Nat → Bool) (k : Nat) : Nat → Bool := if !s k && dirN n (ndAt h k) then fun j => s j || (decide (j = k) || depB h k j) else s
def nxL (h : List Nd) (n : Nd) (ks : List Nat) : Nat → Bool := ks.foldl (nxS h n) fun _ => false
theorem nxL_nil (h : List Nd) (n : Nd) : nxL h n [] = fun _ => false := rfl
theorem nxL_snoc (h : List Nd) (n : Nd) (ks : List Nat) (k : Nat) : nxL h n (ks ++ [k]) = nxS h n (nxL h n ks) k := by
  unfold nxL
  rw [List.foldl_append]
  rfl
theorem ndAt_snoc_old {h : List Nd} (n : Nd) {k : Nat} (hk : k < h.length) : ndAt (h ++ [n]) k = ndAt h k := by
  unfold ndAt
  rw [List.getD_eq_getElem?_getD, List.getD_eq_getElem?_getD, List.getElem?_append_left hk]
theorem ndAt_snoc_new (h : List Nd) (n : Nd) : ndAt (h ++ [n]) h.length = n := by
  unfold ndAt
  rw [List.getD_eq_getElem?_getD, List.getElem?_append_right (Nat.le_refl _), Nat.sub_self]
  rfl
theorem dirB_new (h : List Nd) (n : Nd) (k : Nat) : dirB (h ++ [n]) h.length k = (decide (k < h.length) && dirN n (ndAt h k)) := by
  unfold dirB dirN
  rw [ndAt_snoc_new, List.length_append, List.length_singleton]
  by_cases hk : k < h.length
  · rw [ndAt_snoc_old n hk, decide_eq_true (show k < h.length ∧ h.length < h.length + 1 by omega), decide_eq_true hk]
  · rw [decide_eq_false (show ¬ (k < h.length ∧ h.length < h.length + 1) by omega), decide_eq_false hk]
    rfl
/-- What holds of the set where the nodes from j on have been gone through. -/
structure NxI (h : List Nd) (n : Nd) (s : Nat → Bool) (j : Nat) : Prop where
  sound : ∀ k, s k = true → depB (h ++ [n]) h.length k = true
  closed : ∀ k i, s k = true → depB h k i = true → s i = true
  all : ∀ k, j ≤ k → k < h.length → dirN n (ndAt h k) = true → s k = true
theorem NxI.start (h : List Nd) (n : Nd) : NxI h n (fun _ => false) h.length := ⟨fun k e => (by cases e), fun k i e => (by cases e), fun k h1 h2 => (by omega)⟩
theorem NxI.step {h : List Nd} {n : Nd} {s : Nat → Bool} {k : Nat} (hI : NxI h n s (k + 1)) (hk : k < h.length) : NxI h n (nxS h n s k) k := by
  unfold nxS
  by_cases e : (!s k && dirN n (ndAt h k)) = true
  · rw [if_pos e]
    rw [Bool.and_eq_true, Bool.not_eq_true'] at e
    have hd : depB (h ++ [n]) h.length k = true := depB_dir (by rw [dirB_new, decide_eq_true hk, e.2]; rfl)
    refine ⟨fun i hi => ?_, fun i j hi hij => ?_, fun i hi him hdi => ?_⟩
    · simp only [Bool.or_eq_true, decide_eq_true_eq] at hi
      rcases hi with hi | hi | hi
      · exact hI.sound i hi
      · rw [hi]; exact hd
      · exact depB_trans hd (by rw [depB_snoc n hk]; exact hi)
    · simp only [Bool.or_eq_true, decide_eq_true_eq] at hi ⊢
      rcases hi with hi | hi | hi
      · exact .inl (hI.closed i j hi hij)
      · rw [hi] at hij
        exact .inr (.inr hij)
      · exact .inr (.inr (depB_trans hi hij))
    · simp only [Bool.or_eq_true, decide_eq_true_eq]
      by_cases e2 : i = k
      · exact .inr (.inl e2)
      · exact .inl (hI.all i (by omega) him hdi)
  · rw [if_neg e]
    refine ⟨hI.sound, hI.closed, fun i hi him hdi => ?_⟩
    by_cases e2 : i = k
    · subst e2
      cases q : s i
      · rw [q, hdi] at e
        exact absurd rfl e
      · rfl
    · exact hI.all i (by omega) him hdi
theorem NxI.fin {h : List Nd} {n : Nd} {s : Nat → Bool} (hI : NxI h n s 0) (k : Nat) : s k = depB (h ++ [n]) h.length k := by
  rw [Bool.eq_iff_iff]
  refine ⟨hI.sound k, fun e => ?_⟩
  have hdir : ∀ i, dirB (h ++ [n]) h.length i = true → i < h.length ∧ s i = true := fun i hi => by
    rw [dirB_new, Bool.and_eq_true, decide_eq_true_eq] at hi
    exact ⟨hi.1, hI.all i (Nat.zero_le _) hi.1 hi.2⟩
  rcases depB_iff.1 e with e | ⟨m, e, f⟩
  · exact (hdir k e).2
  · have hm := hdir m e
    rw [depB_snoc n hm.1] at f
    exact hI.closed m k hm.2 f
/-- Gone through whole, the set is what the new node depends on. -/
theorem nx_down (h : List Nd) (n : Nd) (ks : Nat → List Nat) (h0 : ks h.length = []) (hs : ∀ j, j < h.length → ks j = ks (j + 1) ++ [j]) : ∀ d j, j + d = h.length → NxI h n (nxL h n (ks j)) j
  | 0, j, e => by
    have e : j = h.length := by omega
    rw [e, h0]
    exact NxI.start h n
  | d + 1, j, e => by
    rw [hs j (by omega), nxL_snoc]
    exact (nx_down h n ks h0 hs d (j + 1) (by omega)).step (by omega)
/-- All that a list tells of a node more. -/
theorem depL_new (h : List Nd) (n : Nd) (s : Nat → Bool) (hs : ∀ k, s k = depB (h ++ [n]) h.length k) : (List.range h.length).filter s = depL (h ++ [n]) h.length := by
  unfold depL
  congr 1
  funext k
  exact hs k
theorem OfL.more {h : List Nd} {ls : List IL} (e : OfL h ls) (n : Nd) (x : IL) (hx : x.l = depL (h ++ [n]) h.length) : OfL (h ++ [n]) (ls ++ [x]) := by
  unfold OfL at e ⊢
  rw [List.map_append, e, List.length_append, List.length_singleton, List.range_succ, List.map_append, List.map_singleton, List.map_singleton, hx]
  congr 1
  refine List.map_congr_left fun i hi => ?_
  exact (depL_snoc n (List.mem_range.1 hi)).symm
theorem OfL.nil : OfL [] [] := rfl
theorem ndsOf_take15 (l : List Ndl) (i : Nat) : ndsOf (l.take i) = (ndsOf l).take i := by simp [ndsOf]
theorem ndsOf_len (l : List Ndl) : (ndsOf l).length = l.length := by simp [ndsOf]
theorem take_snoc_nd (l : List Ndl) {i : Nat} (hi : i < l.length) : ndsOf (l.take (i + 1)) = ndsOf (l.take i) ++ [l[i].n] := by
  unfold ndsOf
  rw [List.take_succ_eq_append_getElem hi, List.map_append]
  rfl
end Go.Proofs.Ytmabapbdnafpfaa
