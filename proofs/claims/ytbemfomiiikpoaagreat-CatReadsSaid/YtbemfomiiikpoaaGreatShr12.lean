/- What is read leaves no more words than there were. -/
import Derived.Test.YtbemfomiiikpoaaGreatPrs11
namespace Go.Proofs.YtbemfomiiikpoaaGreat
open Go.RowKit

def Shr (st st' : Option (List Nat)) : Prop := ∀ ys, st' = some ys → ∃ xs, st = some xs ∧ ys.length ≤ xs.length
theorem Shr.refl (st : Option (List Nat)) : Shr st st := fun ys h => ⟨ys, h, Nat.le_refl _⟩
theorem Shr.trans {a b c : Option (List Nat)} (h : Shr a b) (h2 : Shr b c) : Shr a c := fun zs hz => by
  obtain ⟨ys, hy, l1⟩ := h2 zs hz
  obtain ⟨xs, hx, l2⟩ := h ys hy
  exact ⟨xs, hx, Nat.le_trans l1 l2⟩
theorem Shr.few {a b : Option (List Nat)} {n : Nat} (h : Shr a b) (hl : ∀ xs, a = some xs → xs.length ≤ n) : ∀ xs, b = some xs → xs.length ≤ n := fun ys hy => by
  obtain ⟨xs, hx, l1⟩ := h ys hy
  exact Nat.le_trans l1 (hl xs hx)
theorem Shr.map {α β : Type} {st : Option (List Nat)} {o : Option (α × List Nat)} {g : α × List Nat → β × List Nat} (h : Shr st (o.map (·.2))) (hg : ∀ q, (g q).2 = q.2) : Shr st ((o.map g).map (·.2)) := by
  rw [Option.map_map]
  intro ys e
  apply h ys
  cases o with
  | none => simp at e
  | some q => simpa [hg] using e
theorem shr_cnt (m : Int) (st : Option (List Nat)) : Shr st (cS m st) := by
  intro ys h
  unfold cS at h
  match st with
  | none => simp [cntR] at h
  | some [] => simp [cntR] at h
  | some (u :: r) =>
    simp only [cntR] at h
    split at h
    · simp at h
      subst h
      exact ⟨_, rfl, by simp⟩
    · simp at h
theorem shr_sgn (st : Option (List Nat)) : Shr st (gS st) := by
  intro ys h
  unfold gS at h
  match st with
  | none => simp [sgnR] at h
  | some [] => simp [sgnR] at h
  | some (u :: r) =>
    simp [sgnR] at h
    subst h
    exact ⟨_, rfl, by simp⟩
theorem shr_flag (st : Option (List Nat)) : Shr st ((flagR st).map (·.2)) := by
  intro ys h
  match st with
  | none => simp [flagR] at h
  | some [] => simp [flagR] at h
  | some (u :: r) =>
    simp only [flagR] at h
    split at h
    · simp at h
      subst h
      exact ⟨_, rfl, by simp⟩
    · simp at h
theorem shr_text (st : Option (List Nat)) : Shr st (txS st) := by
  intro ys h
  unfold txS textR at h
  have hc := shr_cnt 64 st
  unfold cS at hc
  cases h1 : cntR 64 st with
  | none => rw [h1] at h; simp at h
  | some p =>
    obtain ⟨n, r⟩ := p
    rw [h1] at h hc
    simp only at h
    obtain ⟨xs, hx, l1⟩ := hc r rfl
    split at h
    · simp at h
      subst h
      exact ⟨xs, hx, by simp; omega⟩
    · simp at h
theorem shr_key (st : Option (List Nat)) : Shr st (kS st) := by
  unfold kS keyR
  split
  · intro ys h
    simp at h
  · exact (shr_sgn st).trans (Shr.map (shr_cnt 999 (gS st)) (fun _ => rfl))
theorem shr_ins (st : Option (List Nat)) : Shr st ((insR st).map (·.2)) := by
  unfold insR
  exact Shr.map (((((((shr_cnt 255 st).trans (shr_cnt 255 _)).trans (shr_cnt 255 _)).trans (shr_cnt 255 _)).trans (shr_key _)).trans (shr_key _)).trans (shr_sgn _)) (fun _ => rfl)
theorem shr_stN (k : Nat) (st : Option (List Nat)) : Shr st (stN k st) := by
  induction k with
  | zero => exact Shr.refl st
  | succ k ih => exact ih.trans (shr_ins _)
theorem shr_got (st : Option (List Nat)) : Shr st (gotS st) := (shr_cnt 8 st).trans (shr_stN _ _)
theorem shr_fsp (st : Option (List Nat)) : Shr st ((fspR st).map (·.2)) := by
  unfold fspR
  exact Shr.map (((shr_key st).trans (shr_key _)).trans (shr_flag _)) (fun _ => rfl)
theorem shr_stF (k : Nat) (st : Option (List Nat)) : Shr st (stF k st) := by
  induction k with
  | zero => exact Shr.refl st
  | succ k ih => exact ih.trans (shr_fsp _)
theorem shr_gotF (st : Option (List Nat)) : Shr st (gotFS st) := (shr_cnt 4 st).trans (shr_stF _ _)
theorem shr_pS (st : Option (List Nat)) : Shr st (pS st) := (shr_got st).trans (shr_gotF _)
theorem shr_stC (k : Nat) (st : Option (List Nat)) : Shr st (stC k st) := by
  induction k with
  | zero => exact Shr.refl st
  | succ k ih => exact (ih.trans (shr_pS _)).trans (shr_pS _)
theorem shr_clS (st : Option (List Nat)) : Shr st (clS st) := (((shr_text st).trans (shr_cnt 3 _)).trans (shr_cnt 4 _)).trans (shr_stC _ _)
theorem shr_cl (st : Option (List Nat)) : Shr st ((clR st).map (·.2)) := by
  unfold clR
  split
  · exact ((shr_clS st).trans (shr_flag _ : Shr _ (fS (clS st)))).trans (by rw [Option.map_map]; intro ys h; simp at h; exact ⟨ys, h, Nat.le_refl _⟩)
  · intro ys h
    simp at h
end Go.Proofs.YtbemfomiiikpoaaGreat
