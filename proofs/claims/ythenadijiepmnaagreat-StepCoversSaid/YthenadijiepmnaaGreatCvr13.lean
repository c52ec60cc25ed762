/- What a step that doesn't fail has read and written, and what its changes are of. -/
import Derived.Test.YthenadijiepmnaaGreatGrt13
namespace Go.Proofs.YthenadijiepmnaaGreat
open Go.RowKit

/-- A step that fails. -/
theorem runS_bad {right asked : Bool} {mr mw : Nat → Bool} {gs : List Int} {l : List Ins} {r : Nat → Int} {m : Mp} (h : (runS right asked mr mw gs l r m).code ≠ 0) : (runS right asked mr mw gs l r m).r = r ∧ (runS right asked mr mw gs l r m).rd = [] ∧ (runS right asked mr mw gs l r m).wt = [] ∧ (runS right asked mr mw gs l r m).ch = [] := by
  unfold runS at h ⊢
  split
  · next hr =>
    rw [if_pos hr] at h
    split
    · exact ⟨rfl, rfl, rfl, rfl⟩
    · next s hs =>
      rw [hs] at h
      exact absurd rfl h
  · exact ⟨rfl, rfl, rfl, rfl⟩
/-- A step that doesn't. -/
structure Good13 (ri : Bool) (mr mw : Nat → Bool) (gs : List Int) (l : List Ins) (r : Nat → Int) (m : Mp) : Prop where
  yes : ri = true
  rd : insideS (keysOf (runS ri true mr mw gs l r m).rd) mr = true
  wt : insideS (keysOf (runS ri true mr mw gs l r m).wt) mw = true
  ch : ∀ c ∈ (runS ri true mr mw gs l r m).ch, ∃ k : Nat, k < 1000 ∧ c.key = k ∧ keysOf (runS ri true mr mw gs l r m).wt k = true
  other : ∀ (o : Nat) (m2 : Mp), o < 1000 → keysOf (runS ri true mr mw gs l r m).rd o = false → (∀ k, k ≠ o → m k = m2 k) → runS ri true mr mw gs l r m2 = runS ri true mr mw gs l r m
theorem runS_good {right : Bool} {mr mw : Nat → Bool} {gs : List Int} {l : List Ins} {r : Nat → Int} {m : Mp} (h : (runS right true mr mw gs l r m).code = 0) : Good13 right mr mw gs l r m := by
  cases right with
  | false => exact absurd h (show ¬ ((1 : Int) = 0) by decide)
  | true =>
    cases hs : runI true mr mw gs l 0 ⟨m, r, fun _ => false, fun _ => false⟩ with
    | error p =>
      obtain ⟨e, k⟩ := p
      have h1 := runI_err hs
      unfold runS at h
      rw [if_pos rfl, hs] at h
      have h : (e : Int) = 0 := h
      omega
    | ok s =>
      have hq : runS true true mr mw gs l r m = ⟨0, 0, s.r, plainOf s.rd, plainOf s.wt, chgsOf s.wt s.m⟩ := by
        unfold runS
        rw [if_pos rfl, hs]
      have hg := runI_grow hs
      refine ⟨rfl, ?_, ?_, ?_, ?_⟩
      · rw [hq, insideS_iff]
        intro k hk hr
        have hr : keysOf (plainOf s.rd) k = true := hr
        rw [keysOf_plain _ _ hk] at hr
        exact (hg.cr rfl k hr).elim (fun e => by cases e) id
      · rw [hq, insideS_iff]
        intro k hk hr
        have hr : keysOf (plainOf s.wt) k = true := hr
        rw [keysOf_plain _ _ hk] at hr
        exact (hg.cw rfl k hr).elim (fun e => by cases e) id
      · rw [hq]
        intro c hc
        obtain ⟨k, h1, h2, h3⟩ := chgsOf_mem hc
        refine ⟨k, h1, h3.1, ?_⟩
        show keysOf (plainOf s.wt) k = true
        rw [keysOf_plain _ _ h1]
        exact h2
      · intro o m2 ho hr hm
        rw [hq] at hr
        have hr : keysOf (plainOf s.rd) o = false := hr
        rw [keysOf_plain _ _ ho] at hr
        exact runS_other hs hr hm
end Go.Proofs.YthenadijiepmnaaGreat
