/- Lists of pages in memory: a page more, a page less. -/
import Derived.Test.YtenmiociinogeaaIns5
import Derived.Test.YtenmiociinogeaaHom5
namespace Go.Proofs.Ytenmiociinogeaa
open Go.RowKit

/-- A list with one element less. -/
def outL {α : Type} (xs : List α) (i : Nat) : List α := xs.take i ++ xs.drop (i + 1)
theorem outL_len {α : Type} (xs : List α) (i : Nat) (hi : i < xs.length) : (outL xs i).length = xs.length - 1 := by
  unfold outL
  simp only [List.length_append, List.length_take, List.length_drop]
  omega
theorem outL_at {α : Type} {xs : List α} {i j : Nat} {u : α} (hi : i < xs.length) (h : (outL xs i)[j]? = some u) : (j < i ∧ xs[j]? = some u) ∨ (i ≤ j ∧ xs[j + 1]? = some u) := by
  unfold outL at h
  have hl : (xs.take i).length = i := by rw [List.length_take]; omega
  by_cases h1 : j < i
  · rw [List.getElem?_append_left (by omega), List.getElem?_take, if_pos h1] at h
    exact .inl ⟨h1, h⟩
  · rw [List.getElem?_append_right (by omega), hl, List.getElem?_drop, show i + 1 + (j - i) = j + 1 by omega] at h
    exact .inr ⟨by omega, h⟩
theorem outL_sub {α : Type} (xs : List α) (i : Nat) : (outL xs i).Sublist xs := by
  unfold outL
  rw [← List.eraseIdx_eq_take_drop_succ]
  exact List.eraseIdx_sublist xs i
theorem outL_map {α β : Type} (f : α → β) (xs : List α) (i : Nat) : (outL xs i).map f = outL (xs.map f) i := by simp [outL]
theorem insL_map {α β : Type} (f : α → β) (xs us : List α) (i : Nat) : (insL xs us i).map f = insL (xs.map f) (us.map f) i := by simp [insL]

section
variable {w w' : World} {S : Nat → Prop} {q o c : Nat} {hs : List Pgh} {P : List Pg}
theorem LsN.at (h : LsN w S q o c hs P) {i : Nat} {x : Pgh} {l : Pg} (hx : hs[i]? = some x) (hl : P[i]? = some l) : PgA w x l := by
  obtain ⟨h1, rfl⟩ := List.getElem?_eq_some_iff.1 hx
  obtain ⟨h2, rfl⟩ := List.getElem?_eq_some_iff.1 hl
  exact h.pg i h1 h2
/-- One page more. -/
theorem LsN.ins (h : LsN w S q o c hs P) {i q' o' c' : Nat} {x : Pgh} {l : Pg} (hi : i ≤ hs.length) (hp : PgA w x l) (hap : ∀ y ∈ hs, Apt y x) (hxS : S x.g)
    (hc : hs.length + 1 ≤ c') (hcm : c' ≤ maxLen) (hr : Rg w' 72 1 q' o' c' (insL (hs.map Pgh.val) [x.val] i)) (hf : Fc q o (o + c) w w') (hq : (q' = q ∧ o' = o ∧ c' = c) ∨ w.heap.size ≤ q') :
    LsN w' (Sx S w w') q' o' c' (insL hs [x] i) (insL P [l] i) ∧ Fr S w w' := by
  have hfr : Fr S w w' := hf.fr.weak (fun k _ e => e ▸ h.sq)
  have hgq : ∀ y (m : Pg), PgA w y m → y.g ≠ q := fun y m p => fun e => h.hd.apart p.rg (by decide) e.symm
  have hmem : ∀ y ∈ insL hs [x] i, y ∈ hs ∨ y = x := fun y hy => by
    unfold insL at hy
    rcases List.mem_append.1 hy with hy | hy
    · rcases List.mem_append.1 hy with hy | hy
      · exact .inl (List.mem_of_mem_take hy)
      · exact .inr (List.mem_singleton.1 hy)
    · exact .inl (List.mem_of_mem_drop hy)
  refine ⟨⟨by rw [insL_len, insL_len, h.len]; rfl, by rw [insL_len]; exact hc, hcm, by rw [insL_map]; exact hr, fun j h1 h2 => ?_, ?_, ?_, fun y hy => ?_, Sx.lt h.lt hf.size⟩, hfr⟩
  · have a1 := List.getElem?_eq_getElem h1
    have a2 := List.getElem?_eq_getElem h2
    generalize (insL hs [x] i)[j] = y at *
    generalize (insL P [l] i)[j] = m at *
    have hP : i ≤ P.length := by rw [← h.len]; exact hi
    have key : PgA w y m := by
      rcases insL_at hi a1 with ⟨b1, b2⟩ | ⟨b1, b2, b3⟩ | ⟨b1, b2⟩ <;> rcases insL_at hP a2 with ⟨d1, d2⟩ | ⟨d1, d2, d3⟩ | ⟨d1, d2⟩ <;> (try simp only [List.length_cons, List.length_nil] at *) <;>
        first | omega | exact h.at b2 d2 | skip
      rw [show j - i = 0 by omega] at b3 d3
      simp at b3 d3
      subst b3 d3
      exact hp
    exact key.fc hf (.inl (hgq y m key))
  · unfold insL
    rw [List.pairwise_append, List.pairwise_append]
    have hsub := List.pairwise_append.1 (by rw [List.take_append_drop]; exact h.ap : (hs.take i ++ hs.drop i).Pairwise Apt)
    refine ⟨⟨hsub.1, List.pairwise_singleton _ _, fun a ha b hb => ?_⟩, hsub.2.1, fun a ha b hb => ?_⟩
    · rw [List.mem_singleton.1 hb]
      exact hap a (List.mem_of_mem_take ha)
    · rcases List.mem_append.1 ha with ha | ha
      · exact hsub.2.2 a ha b hb
      · rw [List.mem_singleton.1 ha]
        exact (hap b (List.mem_of_mem_drop hb)).symm
  · rcases hq with hq | hq
    · exact .inl (hq.1 ▸ h.sq)
    · exact .inr ⟨hq, hr.lt⟩
  · rcases hmem y hy with hy | hy
    · exact .inl (h.sg y hy)
    · exact .inl (hy ▸ hxS)
/-- One page less. -/
theorem LsN.out (h : LsN w S q o c hs P) {i : Nat} (hi : i < hs.length) (hr : Rg w' 72 1 q o c (outL (hs.map Pgh.val) i)) (hf : Fc q o (o + hs.length) w w') :
    LsN w' (Sx S w w') q o c (outL hs i) (outL P i) ∧ Fr S w w' := by
  have hfr : Fr S w w' := hf.fr.weak (fun k _ e => e ▸ h.sq)
  have hP : i < P.length := by rw [← h.len]; exact hi
  have hle := h.le
  refine ⟨⟨by rw [outL_len _ _ hi, outL_len _ _ hP, h.len], by rw [outL_len _ _ hi]; omega, h.max, by rw [outL_map]; exact hr, fun j h1 h2 => ?_, h.ap.sublist (outL_sub _ _), .inl h.sq, fun y hy => .inl (h.sg y ((outL_sub _ _).subset hy)), Sx.lt h.lt hf.size⟩, hfr⟩
  have a1 := List.getElem?_eq_getElem h1
  have a2 := List.getElem?_eq_getElem h2
  generalize (outL hs i)[j] = y at *
  generalize (outL P i)[j] = m at *
  have key : PgA w y m := by
    rcases outL_at hi a1 with ⟨b1, b2⟩ | ⟨b1, b2⟩ <;> rcases outL_at hP a2 with ⟨d1, d2⟩ | ⟨d1, d2⟩ <;> first | omega | exact h.at b2 d2
  exact key.fc hf (.inl (fun e => h.hd.apart key.rg (by decide) e.symm))
end
end Go.Proofs.Ytenmiociinogeaa
