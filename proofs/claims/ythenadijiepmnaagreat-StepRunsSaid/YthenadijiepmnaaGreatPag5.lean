/- A store of pages as plain mathematics: pages of pairs, rising by keys. No program is spoken of. -/
namespace Go.Proofs.YthenadijiepmnaaGreat

/-- A value for a key, put into a rising list. -/
def insP : List (Nat × Int) → Nat → Int → List (Nat × Int)
  | [], k, v => [(k, v)]
  | x :: r, k, v => if x.1 = k then (k, v) :: r else if k < x.1 then (k, v) :: x :: r else x :: insP r k v
/-- A key, taken out of a list. -/
def outP (l : List (Nat × Int)) (k : Nat) : List (Nat × Int) := l.filter fun x => decide (x.1 ≠ k)
/-- The value of a key in a list. -/
def valP : List (Nat × Int) → Nat → Option Int
  | [], _ => none
  | x :: r, k => if x.1 = k then some x.2 else valP r k
/-- Keys rise. -/
def Rise (l : List (Nat × Int)) : Prop := l.Pairwise fun x y => x.1 < y.1
theorem Rise.nil : Rise [] := List.Pairwise.nil
theorem Rise.app {a b : List (Nat × Int)} (h : Rise (a ++ b)) : Rise a ∧ Rise b ∧ ∀ x ∈ a, ∀ y ∈ b, x.1 < y.1 := List.pairwise_append.1 h

theorem insP_left {a l : List (Nat × Int)} {k : Nat} {v : Int} (h : ∀ x ∈ a, x.1 < k) : insP (a ++ l) k v = a ++ insP l k v := by
  induction a with
  | nil => rfl
  | cons x r ih =>
    have hx := h x (by simp)
    rw [List.cons_append, insP, if_neg (by omega), if_neg (by omega), ih (fun y hy => h y (by simp [hy]))]
    rfl
theorem insP_right {l b : List (Nat × Int)} {k : Nat} {v : Int} (h : ∀ x ∈ b, k < x.1) : insP (l ++ b) k v = insP l k v ++ b := by
  induction l with
  | nil =>
    cases b with
    | nil => rfl
    | cons y r =>
      have hy := h y (by simp)
      rw [List.nil_append]
      simp only [insP]
      rw [if_neg (by omega), if_pos hy]
      rfl
  | cons x r ih =>
    rw [List.cons_append, insP, insP]
    split
    · rfl
    · split
      · rfl
      · rw [ih]; rfl
theorem insP_mem {l : List (Nat × Int)} {k : Nat} {v : Int} {y : Nat × Int} (h : y ∈ insP l k v) : y = (k, v) ∨ y ∈ l := by
  induction l with
  | nil => simpa [insP] using h
  | cons x r ih =>
    rw [insP] at h
    split at h
    · rcases List.mem_cons.1 h with h | h
      · exact .inl h
      · exact .inr (by simp [h])
    · split at h
      · rcases List.mem_cons.1 h with h | h
        · exact .inl h
        · exact .inr h
      · rcases List.mem_cons.1 h with h | h
        · exact .inr (by simp [h])
        · rcases ih h with h | h
          · exact .inl h
          · exact .inr (by simp [h])
theorem insP_rise {l : List (Nat × Int)} (h : Rise l) (k : Nat) (v : Int) : Rise (insP l k v) := by
  induction l with
  | nil => exact List.pairwise_singleton _ _
  | cons x r ih =>
    obtain ⟨h1, h2⟩ := List.pairwise_cons.1 h
    rw [insP]
    split
    · next e => exact List.pairwise_cons.2 ⟨fun y hy => by have := h1 y hy; show k < y.1; omega, h2⟩
    · split
      · next h3 => exact List.pairwise_cons.2 ⟨fun y hy => by rcases List.mem_cons.1 hy with e | hy; (subst e; exact h3); (have := h1 y hy; show k < y.1; omega), h⟩
      · refine List.pairwise_cons.2 ⟨fun y hy => ?_, ih h2⟩
        rcases insP_mem hy with e | hy
        · subst e
          show x.1 < k
          omega
        · exact h1 y hy
theorem insP_len (l : List (Nat × Int)) (k : Nat) (v : Int) : 1 ≤ (insP l k v).length ∧ (insP l k v).length ≤ l.length + 1 ∧ l.length ≤ (insP l k v).length := by
  induction l with
  | nil => simp [insP]
  | cons x r ih =>
    rw [insP]
    split
    · simp
    · split
      · simp
      · simp; omega
theorem insP_head {l : List (Nat × Int)} {k : Nat} {v : Int} {x : Nat × Int} {r : List (Nat × Int)} (h : l = x :: r) : ∃ y s, insP l k v = y :: s ∧ (y.1 = x.1 ∨ (y.1 = k ∧ k < x.1)) := by
  subst h
  rw [insP]
  split
  · next e => exact ⟨_, _, rfl, .inl e.symm⟩
  · split
    · next h => exact ⟨_, _, rfl, .inr ⟨rfl, h⟩⟩
    · exact ⟨_, _, rfl, .inl rfl⟩
theorem valP_ins {l : List (Nat × Int)} (h : Rise l) (k j : Nat) (v : Int) : valP (insP l k v) j = if j = k then some v else valP l j := by
  induction l with
  | nil => simp only [insP, valP]; by_cases e : k = j <;> simp [e, eq_comm]
  | cons x r ih =>
    obtain ⟨h1, h2⟩ := List.pairwise_cons.1 h
    rw [insP]
    split
    · next e =>
      simp only [valP]
      by_cases hj : j = k
      · rw [if_pos hj.symm, if_pos hj]
      · rw [if_neg (fun e => hj e.symm), if_neg hj, if_neg (by omega)]
    · split
      · simp only [valP]
        by_cases hj : j = k
        · rw [if_pos hj.symm, if_pos hj]
        · rw [if_neg (fun e => hj e.symm), if_neg hj]
      · next e _ =>
        simp only [valP]
        rw [ih h2]
        by_cases hj : j = k
        · subst hj
          rw [if_neg e, if_pos rfl, if_pos rfl]
        · rw [if_neg hj, if_neg hj]
theorem valP_none {l : List (Nat × Int)} {k : Nat} (h : ∀ x ∈ l, x.1 ≠ k) : valP l k = none := by
  induction l with
  | nil => rfl
  | cons x r ih => rw [valP, if_neg (h x (by simp)), ih (fun y hy => h y (by simp [hy]))]
theorem valP_app {a b : List (Nat × Int)} {k : Nat} : valP (a ++ b) k = (valP a k).or (valP b k) := by
  induction a with
  | nil => simp [valP]
  | cons x r ih =>
    rw [List.cons_append, valP, valP]
    split
    · simp
    · exact ih
theorem valP_some {l : List (Nat × Int)} {k : Nat} {v : Int} (h : valP l k = some v) : (k, v) ∈ l := by
  induction l with
  | nil => cases h
  | cons x r ih =>
    rw [valP] at h
    split at h
    · next e => injection h with h; subst h; subst e; simp
    · simp [ih h]
theorem outP_rise {l : List (Nat × Int)} (h : Rise l) (k : Nat) : Rise (outP l k) := List.Pairwise.filter _ h
theorem outP_app (a b : List (Nat × Int)) (k : Nat) : outP (a ++ b) k = outP a k ++ outP b k := by simp [outP]
theorem outP_same {l : List (Nat × Int)} {k : Nat} (h : ∀ x ∈ l, x.1 ≠ k) : outP l k = l := List.filter_eq_self.2 (fun x hx => by simpa using h x hx)
theorem outP_mem {l : List (Nat × Int)} {k : Nat} {x : Nat × Int} (h : x ∈ outP l k) : x ∈ l ∧ x.1 ≠ k := by simpa [outP] using h
theorem valP_out (l : List (Nat × Int)) (k j : Nat) : valP (outP l k) j = if j = k then none else valP l j := by
  by_cases hj : j = k
  · subst hj
    rw [if_pos rfl]
    exact valP_none (fun x hx => (outP_mem hx).2)
  · rw [if_neg hj]
    induction l with
    | nil => rfl
    | cons x r ih =>
      unfold outP at ih ⊢
      by_cases e : x.1 = k
      · rw [List.filter_cons_of_neg (by simp [e]), ih, valP, if_neg (by omega)]
      · rw [List.filter_cons_of_pos (by simp [e]), valP, valP, ih]
/-- A rising list is its values. -/
theorem rise_ext : ∀ {a b : List (Nat × Int)}, Rise a → Rise b → (∀ k, valP a k = valP b k) → a = b
  | [], [], _, _, _ => rfl
  | [], y :: s, _, _, h => by have := h y.1; simp [valP] at this
  | x :: r, [], _, _, h => by have := h x.1; simp [valP] at this
  | x :: r, y :: s, ha, hb, h => by
    obtain ⟨a1, a2⟩ := List.pairwise_cons.1 ha
    obtain ⟨b1, b2⟩ := List.pairwise_cons.1 hb
    have hx := h x.1
    have hy := h y.1
    rw [valP, if_pos rfl, valP] at hx
    rw [valP, valP, if_pos rfl] at hy
    have e : y.1 = x.1 := by
      by_cases e : y.1 = x.1
      · exact e
      · rw [if_neg e] at hx
        rw [if_neg (fun e' => e e'.symm)] at hy
        have h1 := b1 _ (valP_some hx.symm)
        have h2 := a1 _ (valP_some hy)
        simp only at h1 h2
        omega
    rw [if_pos e] at hx
    injection hx with hx
    obtain rfl : x = y := Prod.ext e.symm hx
    rw [rise_ext a2 b2 (fun k => ?_)]
    have hk := h k
    rw [valP, valP] at hk
    by_cases e' : x.1 = k
    · subst e'
      rw [valP_none (fun z hz => by have := a1 z hz; omega), valP_none (fun z hz => by have := b1 z hz; omega)]
    · rw [if_neg e', if_neg e'] at hk
      exact hk

/-- The first key of a page. -/
def headK (p : List (Nat × Int)) : Nat := (p.headD (0, 0)).1
/-- The last of the first j pages whose first key isn't above k; the first page without one. -/
def atTo (P : List (List (Nat × Int))) (k : Nat) : Nat → Nat
  | 0 => 0
  | j + 1 => if headK (P.getD j []) ≤ k then j else atTo P k j
/-- The page to which a key belongs. -/
def atP (P : List (List (Nat × Int))) (k : Nat) : Nat := atTo P k P.length
/-- Some pages in the place of others. -/
def setP (P : List (List (Nat × Int))) (at_ many : Nat) (l : List (List (Nat × Int))) : List (List (Nat × Int)) := P.take at_ ++ l ++ P.drop (at_ + many)
/-- A value put for a key. -/
def putP (P : List (List (Nat × Int))) (k : Nat) (v : Int) : List (List (Nat × Int)) :=
  if P = [] then [[(k, v)]] else
    let l := insP (P.getD (atP P k) []) k v
    if 8 < l.length then setP P (atP P k) 1 [l.take 4, l.drop 4] else setP P (atP P k) 1 [l]
/-- A key taken out. -/
def delP (P : List (List (Nat × Int))) (k : Nat) : List (List (Nat × Int)) :=
  let at_ := atP P k
  let l := outP (P.getD at_ []) k
  if l = [] then setP P at_ 1 []
  else if at_ + 1 < P.length ∧ l.length + (P.getD (at_ + 1) []).length ≤ 4 then setP P at_ 2 [l ++ P.getD (at_ + 1) []]
  else if 0 < at_ ∧ (P.getD (at_ - 1) []).length + l.length ≤ 4 then setP P (at_ - 1) 2 [P.getD (at_ - 1) [] ++ l]
  else setP P at_ 1 [l]
/-- A store's pages: each has 1 to 8 pairs; all keys rise. -/
structure InvP (P : List (List (Nat × Int))) : Prop where
  one : ∀ p ∈ P, 1 ≤ p.length ∧ p.length ≤ 8
  rise : Rise P.flatten
  key : ∀ x ∈ P.flatten, x.1 < 1000
theorem InvP.nil : InvP [] := ⟨fun _ h => (by cases h), List.Pairwise.nil, fun _ h => (by cases h)⟩
theorem atTo_zero {P : List (List (Nat × Int))} {k : Nat} : ∀ j, (∀ i, i < j → k < headK (P.getD i [])) → atTo P k j = 0
  | 0, _ => rfl
  | j + 1, h => by
    have h1 := h j (by omega)
    rw [atTo, if_neg (by omega)]
    exact atTo_zero j (fun i hi => h i (by omega))
theorem atTo_last {P : List (List (Nat × Int))} {k a : Nat} (ha : headK (P.getD a []) ≤ k) : ∀ j, a < j → (∀ i, a < i → i < j → k < headK (P.getD i [])) → atTo P k j = a
  | 0, h, _ => by omega
  | j + 1, h, h2 => by
    rw [atTo]
    by_cases e : a = j
    · subst e
      rw [if_pos ha]
    · have h3 := h2 j (by omega) (by omega)
      rw [if_neg (by omega)]
      exact atTo_last ha j (by omega) (fun i h4 h5 => h2 i h4 (by omega))
/-- A store is cut around the page to which a key belongs. -/
theorem InvP.cut {P : List (List (Nat × Int))} (h : InvP P) (hne : P ≠ []) (k : Nat) :
    ∃ A p B, P = A ++ p :: B ∧ atP P k = A.length ∧ (∀ x ∈ A.flatten, x.1 < k) ∧ (∀ x ∈ B.flatten, k < x.1) := by
  -- the pages from the first one whose first key is above k
  have hsplit : ∀ (Q : List (List (Nat × Int))), (∀ p ∈ Q, 1 ≤ p.length) → Rise Q.flatten → ∃ A B, Q = A ++ B ∧ (∀ i, i < A.length → headK (A.getD i []) ≤ k) ∧ (∀ p ∈ B, k < headK p) := by
    intro Q
    induction Q with
    | nil => intro _ _; exact ⟨[], [], rfl, fun i hi => by simp at hi, fun _ h => by cases h⟩
    | cons q r ih =>
      intro h1 hr
      rw [List.flatten_cons] at hr
      obtain ⟨r1, r2, r3⟩ := Rise.app hr
      by_cases hq : headK q ≤ k
      · obtain ⟨A, B, rfl, hA, hB⟩ := ih (fun p hp => h1 p (by simp [hp])) r2
        refine ⟨q :: A, B, rfl, fun i hi => ?_, hB⟩
        cases i with
        | zero => simpa using hq
        | succ i => simpa using hA i (by simpa using hi)
      · refine ⟨[], q :: r, rfl, fun i hi => by simp at hi, fun p hp => ?_⟩
        rcases List.mem_cons.1 hp with e | hp2
        · subst e; omega
        · have l1 := h1 q (by simp)
          have l2 := h1 p (by simp [hp2])
          clear hp
          cases q with
          | nil => simp at l1
          | cons x xs =>
            cases p with
            | nil => simp at l2
            | cons y ys =>
              have := r3 x (by simp) y (List.mem_flatten.2 ⟨_, hp2, by simp⟩)
              simp only [headK, List.headD_cons] at hq ⊢
              omega
  obtain ⟨A, B, hP, hA, hB⟩ := hsplit P (fun p hp => (h.one p hp).1) h.rise
  have hBk : ∀ (C : List (List (Nat × Int))), (∀ p ∈ C, p ∈ P) → (∀ p ∈ C, k < headK p) → Rise C.flatten → ∀ x ∈ C.flatten, k < x.1 := by
    intro C hCP hC hr x hx
    obtain ⟨p, hp, hxp⟩ := List.mem_flatten.1 hx
    have l1 := (h.one p (hCP p hp)).1
    have hk := hC p hp
    have hrp : Rise p := by
      obtain ⟨s, t, rfl⟩ := List.append_of_mem hp
      rw [List.flatten_append, List.flatten_cons] at hr
      exact (Rise.app (Rise.app hr).2.1).1
    cases p with
    | nil => simp at l1
    | cons y ys =>
      simp only [headK, List.headD_cons] at hk
      rcases List.mem_cons.1 hxp with e | hx'
      · subst e; exact hk
      · have := (List.pairwise_cons.1 hrp).1 x hx'
        omega
  have hr := h.rise
  rw [hP, List.flatten_append] at hr
  obtain ⟨rA, rB, rAB⟩ := Rise.app hr
  by_cases hAe : A = []
  · subst hAe
    cases B with
    | nil => exact absurd hP hne
    | cons p B' =>
      refine ⟨[], p, B', hP, ?_, fun x hx => by simp at hx, ?_⟩
      · show atTo P k P.length = 0
        refine atTo_zero _ (fun i hi => ?_)
        rw [hP] at hi ⊢
        rw [List.nil_append, List.getD_eq_getElem?_getD, List.getElem?_eq_getElem (by simpa using hi)]
        exact hB _ (List.getElem_mem _)
      · rw [List.flatten_cons] at rB
        exact hBk B' (fun q hq => by rw [hP]; simp [hq]) (fun q hq => hB q (by simp [hq])) (Rise.app rB).2.1
  · obtain ⟨A', p, rfl⟩ : ∃ A' p, A = A' ++ [p] := ⟨A.dropLast, A.getLast hAe, (List.dropLast_concat_getLast hAe).symm⟩
    refine ⟨A', p, B, by rw [hP]; simp, ?_, ?_, hBk B (fun q hq => by rw [hP]; simp [hq]) hB rB⟩
    · show atTo P k P.length = A'.length
      have h1 := hA A'.length (by simp)
      refine atTo_last ?_ _ (by rw [hP]; simp) (fun i h2 h3 => ?_)
      · rw [hP]
        simpa using h1
      · rw [hP] at h3 ⊢
        simp only [List.length_append, List.length_cons, List.length_nil] at h3
        rw [List.getD_eq_getElem?_getD, List.getElem?_append_right (by simp; omega), List.getElem?_eq_getElem (by simp; omega)]
        exact hB _ (List.getElem_mem _)
    · intro x hx
      rw [List.flatten_append] at rA
      have l1 := (h.one p (by rw [hP]; simp)).1
      have h1 := hA A'.length (by simp)
      cases p with
      | nil => simp at l1
      | cons y ys =>
        have := (Rise.app rA).2.2 x hx y (by simp)
        simp [headK] at h1
        omega
theorem setP_one (A B L : List (List (Nat × Int))) (p : List (Nat × Int)) : setP (A ++ p :: B) A.length 1 L = A ++ L ++ B := by
  unfold setP
  rw [List.take_left, show A ++ p :: B = (A ++ [p]) ++ B by simp, show A.length + 1 = (A ++ [p]).length by simp, List.drop_left]
theorem setP_two (A B L : List (List (Nat × Int))) (p q : List (Nat × Int)) : setP (A ++ p :: q :: B) A.length 2 L = A ++ L ++ B := by
  unfold setP
  rw [List.take_left, show A ++ p :: q :: B = (A ++ [p, q]) ++ B by simp, show A.length + 2 = (A ++ [p, q]).length by simp, List.drop_left]
theorem getD_mid (A B : List (List (Nat × Int))) (p : List (Nat × Int)) : (A ++ p :: B).getD A.length [] = p := by
  rw [List.getD_eq_getElem?_getD, List.getElem?_append_right (Nat.le_refl _), Nat.sub_self]
  rfl
/-- What is put, pair by pair. -/
theorem putP_pairs {P : List (List (Nat × Int))} (h : InvP P) (k : Nat) (v : Int) : (putP P k v).flatten = insP P.flatten k v := by
  unfold putP
  by_cases hne : P = []
  · subst hne
    rfl
  · rw [if_neg hne]
    obtain ⟨A, p, B, rfl, hat, hA, hB⟩ := h.cut hne k
    rw [hat, getD_mid]
    have e1 : insP (A ++ p :: B).flatten k v = A.flatten ++ (insP p k v ++ B.flatten) := by
      rw [List.flatten_append, List.flatten_cons, insP_left hA, insP_right hB]
    rw [e1]
    dsimp only
    split
    · rw [setP_one, List.flatten_append, List.flatten_append]
      simp only [List.flatten_cons, List.flatten_nil, List.append_nil]
      rw [List.take_append_drop, List.append_assoc]
    · rw [setP_one]
      simp
theorem putP_inv {P : List (List (Nat × Int))} (h : InvP P) {k : Nat} (hk : k < 1000) (v : Int) : InvP (putP P k v) := by
  have hp := putP_pairs h k v
  refine ⟨?_, by rw [hp]; exact insP_rise h.rise k v, ?_⟩
  · unfold putP
    by_cases hne : P = []
    · rw [if_pos hne]
      intro p hp
      simp at hp
      subst hp
      simp
    · rw [if_neg hne]
      obtain ⟨A, p, B, rfl, hat, hA, hB⟩ := h.cut hne k
      rw [hat, getD_mid]
      have hl := insP_len p k v
      have h8 := h.one p (by simp)
      dsimp only
      split
      · next h9 =>
        rw [setP_one]
        intro q hq
        simp only [List.mem_append, List.mem_cons, List.not_mem_nil, or_false] at hq
        rcases hq with (hq | hq | hq) | hq
        · exact h.one q (by simp [hq])
        · subst hq
          rw [List.length_take]
          omega
        · subst hq
          rw [List.length_drop]
          omega
        · exact h.one q (by simp [hq])
      · next h9 =>
        rw [setP_one]
        intro q hq
        simp only [List.mem_append, List.mem_cons, List.not_mem_nil, or_false] at hq
        rcases hq with (hq | hq) | hq
        · exact h.one q (by simp [hq])
        · subst hq
          omega
        · exact h.one q (by simp [hq])
  · rw [hp]
    intro x hx
    rcases insP_mem hx with e | hx
    · subst e
      exact hk
    · exact h.key x hx
/-- What stands at a key stands in its page. -/
theorem InvP.val {P : List (List (Nat × Int))} (h : InvP P) (k : Nat) : valP P.flatten k = valP (P.getD (atP P k) []) k := by
  by_cases hne : P = []
  · subst hne
    rfl
  · obtain ⟨A, p, B, rfl, hat, hA, hB⟩ := h.cut hne k
    rw [hat, getD_mid, List.flatten_append, List.flatten_cons, valP_app, valP_app, valP_none (fun x hx => by have := hA x hx; omega), valP_none (l := B.flatten) (fun x hx => by have := hB x hx; omega)]
    simp
theorem outP_len (l : List (Nat × Int)) (k : Nat) : (outP l k).length ≤ l.length := List.length_filter_le _ _
/-- What is taken out, pair by pair. -/
theorem delP_both {P : List (List (Nat × Int))} (h : InvP P) (hne : P ≠ []) (k : Nat) : (delP P k).flatten = outP P.flatten k ∧ InvP (delP P k) := by
  obtain ⟨A, p, B, rfl, hat, hA, hB⟩ := h.cut hne k
  have e1 : outP (A ++ p :: B).flatten k = A.flatten ++ (outP p k ++ B.flatten) := by
    rw [List.flatten_append, List.flatten_cons, outP_app, outP_app, outP_same (fun x hx => by have := hA x hx; omega), outP_same (l := B.flatten) (fun x hx => by have := hB x hx; omega)]
  have hl := outP_len p k
  have h8 := h.one p (by simp)
  suffices hs : (delP (A ++ p :: B) k).flatten = A.flatten ++ (outP p k ++ B.flatten) ∧ ∀ q ∈ delP (A ++ p :: B) k, 1 ≤ q.length ∧ q.length ≤ 8 by
    refine ⟨by rw [hs.1, e1], hs.2, ?_, ?_⟩
    · rw [hs.1, ← e1]
      exact outP_rise h.rise k
    · rw [hs.1, ← e1]
      intro x hx
      exact h.key x (outP_mem hx).1
  unfold delP
  rw [hat]
  dsimp only
  rw [getD_mid]
  split
  · next h0 =>
    rw [setP_one]
    refine ⟨by simp [h0], fun q hq => ?_⟩
    simp only [List.append_nil, List.mem_append] at hq
    rcases hq with hq | hq
    · exact h.one q (by simp [hq])
    · exact h.one q (by simp [hq])
  · next h0 =>
    have h1 : 1 ≤ (outP p k).length := by
      cases e : outP p k with
      | nil => exact absurd e h0
      | cons _ _ => simp
    split
    · next h2 =>
      cases B with
      | nil => simp at h2
      | cons b B' =>
        have eb : (A ++ p :: b :: B').getD (A.length + 1) [] = b := by
          rw [show A ++ p :: b :: B' = (A ++ [p]) ++ b :: B' by simp, show A.length + 1 = (A ++ [p]).length by simp, getD_mid]
        rw [eb] at h2 ⊢
        rw [setP_two]
        refine ⟨by simp, fun q hq => ?_⟩
        simp only [List.mem_append, List.mem_cons, List.not_mem_nil, or_false] at hq
        rcases hq with (hq | hq) | hq
        · exact h.one q (by simp [hq])
        · subst hq
          rw [List.length_append]
          omega
        · exact h.one q (by simp [hq])
    · split
      · next h3 =>
        obtain ⟨A', a, rfl⟩ : ∃ A' a, A = A' ++ [a] := ⟨A.dropLast, A.getLast (by rintro rfl; simp at h3), (List.dropLast_concat_getLast _).symm⟩
        have ea : ((A' ++ [a]) ++ p :: B).getD ((A' ++ [a]).length - 1) [] = a := by
          rw [show (A' ++ [a]) ++ p :: B = A' ++ a :: p :: B by simp, show (A' ++ [a]).length - 1 = A'.length by simp, getD_mid]
        rw [ea] at h3 ⊢
        rw [show (A' ++ [a]) ++ p :: B = A' ++ a :: p :: B by simp, show (A' ++ [a]).length - 1 = A'.length by simp, setP_two]
        refine ⟨by simp, fun q hq => ?_⟩
        simp only [List.mem_append, List.mem_cons, List.not_mem_nil, or_false] at hq
        rcases hq with (hq | hq) | hq
        · exact h.one q (by simp [hq])
        · subst hq
          rw [List.length_append]
          omega
        · exact h.one q (by simp [hq])
      · rw [setP_one]
        refine ⟨by simp, fun q hq => ?_⟩
        simp only [List.mem_append, List.mem_cons, List.not_mem_nil, or_false] at hq
        rcases hq with (hq | hq) | hq
        · exact h.one q (by simp [hq])
        · subst hq
          omega
        · exact h.one q (by simp [hq])

/-- The pairs whose keys are from lo to hi. -/
def scanP (l : List (Nat × Int)) (lo hi : Int) : List (Nat × Int) := l.filter fun x => decide (lo ≤ x.1) && decide ((x.1 : Int) ≤ hi)
theorem scanP_all {l : List (Nat × Int)} (h : ∀ x ∈ l, x.1 < 1000) : scanP l 0 999 = l := List.filter_eq_self.2 (fun x hx => by have := h x hx; simp; omega)
/-- The key ahead of the next page's first one. -/
def nextK : List (List (Nat × Int)) → Int
  | [] => 999
  | b :: _ => (headK b : Int) - 1
/-- From a page's first key to the one ahead of the next page's there is just that page. -/
theorem InvP.page {A B : List (List (Nat × Int))} {p : List (Nat × Int)} (h : InvP (A ++ p :: B)) : scanP (A ++ p :: B).flatten (headK p) (nextK B) = p := by
  have hr := h.rise
  rw [List.flatten_append, List.flatten_cons] at hr
  obtain ⟨_, r2, r3⟩ := Rise.app hr
  obtain ⟨rp, rB, rpB⟩ := Rise.app r2
  have h1 := (h.one p (by simp)).1
  obtain ⟨y, ys, rfl⟩ : ∃ y ys, p = y :: ys := by
    cases p with
    | nil => simp at h1
    | cons y ys => exact ⟨y, ys, rfl⟩
  unfold scanP
  rw [List.flatten_append, List.flatten_cons, List.filter_append, List.filter_append]
  have f1 : ∀ hi : Int, A.flatten.filter (fun x => decide (((headK (y :: ys) : Nat) : Int) ≤ x.1) && decide ((x.1 : Int) ≤ hi)) = [] := fun hi => List.filter_eq_nil_iff.2 (fun x hx => by
    have := r3 x hx y (by simp)
    simp [headK]
    omega)
  rw [f1, List.nil_append]
  have f2 : (y :: ys).filter (fun x => decide (((headK (y :: ys) : Nat) : Int) ≤ x.1) && decide ((x.1 : Int) ≤ (nextK B))) = y :: ys := List.filter_eq_self.2 (fun x hx => by
    have hy : y.1 ≤ x.1 := by
      rcases List.mem_cons.1 hx with e | hx
      · subst e; exact Nat.le_refl _
      · exact Nat.le_of_lt ((List.pairwise_cons.1 rp).1 x hx)
    have hk := h.key x (by rw [List.flatten_append, List.flatten_cons]; simp only [List.mem_append]; exact .inr (.inl hx))
    cases B with
    | nil =>
      have hx9 : (x.1 : Int) ≤ 999 := by omega
      have hd : decide ((x.1 : Int) ≤ 999) = true := decide_eq_true hx9
      simp [nextK, headK]
      exact ⟨hy, hd⟩
    | cons b B' =>
      have hb := (h.one b (by simp)).1
      cases b with
      | nil => simp at hb
      | cons z zs =>
        have := rpB x hx z (by simp)
        simp [nextK, headK]
        omega)
  rw [f2]
  have f3 : B.flatten.filter (fun x => decide (((headK (y :: ys) : Nat) : Int) ≤ x.1) && decide ((x.1 : Int) ≤ (nextK B))) = [] := List.filter_eq_nil_iff.2 (fun x hx => by
    cases B with
    | nil => simp at hx
    | cons b B' =>
      have hb := (h.one b (by simp)).1
      rw [List.flatten_cons] at rB hx
      obtain ⟨b1, b2, b3⟩ := Rise.app rB
      cases b with
      | nil => simp at hb
      | cons z zs =>
        have hz : z.1 ≤ x.1 := by
          rcases List.mem_append.1 hx with hx | hx
          · rcases List.mem_cons.1 hx with e | hx
            · subst e; exact Nat.le_refl _
            · exact Nat.le_of_lt ((List.pairwise_cons.1 b1).1 x hx)
          · exact Nat.le_of_lt (b3 z (by simp) x hx)
        simp [nextK, headK]
        omega)
  rw [f3, List.append_nil]
end Go.Proofs.YthenadijiepmnaaGreat
