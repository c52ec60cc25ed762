/- What a page is while a value is put, pair by pair; where a key is. No program is spoken of. -/
import Derived.Test.YtenmiociinogeaaRfp5
namespace Go.Proofs.Ytenmiociinogeaa

/-- Has a page a key? -/
def hasK (q : Pg) (k : Nat) : Bool := q.any fun x => decide (x.1 = k)
/-- A pair, or what is put for its key. -/
def rep (k : Nat) (v : Int) (x : Nat × Int) : Nat × Int := if x.1 = k then (k, v) else x
def goB (q : Pg) (k j : Nat) : Bool := hasK q k || (q.take j).any fun x => decide (k < x.1)
def goL (q : Pg) (k : Nat) (v : Int) (j : Nat) : Pg :=
  if hasK q k = true then (q.map (rep k v)).take j else if goB q k j = true then insP (q.take j) k v else q.take j
theorem goL_zero (q : Pg) (k : Nat) (v : Int) : goL q k v 0 = [] := by
  unfold goL
  cases h : hasK q k <;> simp [goB, h]
theorem goB_zero (q : Pg) (k : Nat) : goB q k 0 = hasK q k := by simp [goB]
theorem goB_step (q : Pg) (k j : Nat) (hj : j < q.length) : goB q k (j + 1) = (goB q k j || decide (k < q[j].1)) := by
  unfold goB
  rw [List.take_succ_eq_append_getElem hj, List.any_append]
  simp [Bool.or_assoc]
theorem hasK_at (q : Pg) (k j : Nat) (hj : j < q.length) (h : q[j].1 = k) : hasK q k = true := List.any_eq_true.2 ⟨_, List.getElem_mem hj, by simpa using h⟩
theorem goL_step (q : Pg) (hr : Rise q) (k : Nat) (v : Int) (j : Nat) (hj : j < q.length) :
    goL q k v (j + 1) = goL q k v j ++ (if goB q k j = false ∧ k < q[j].1 then [(k, v)] else []) ++ [rep k v q[j]] := by
  have ht := List.take_succ_eq_append_getElem hj
  unfold goL
  cases h : hasK q k with
  | true =>
    have hb : goB q k j = true := by unfold goB; rw [h]; rfl
    rw [if_pos rfl, if_pos rfl, if_neg (by rw [hb]; simp), List.append_nil, List.take_succ_eq_append_getElem (by simpa using hj)]
    simp
  | false =>
    have hne : q[j].1 ≠ k := fun e => by rw [hasK_at q k j hj e] at h; cases h
    have hrep : rep k v q[j] = q[j] := by unfold rep; rw [if_neg hne]
    simp only [Bool.false_eq_true, if_false]
    rw [goB_step q k j hj, hrep, ht]
    have hpre : ∀ x ∈ q.take j, x.1 < q[j].1 := fun x hx => by
      have h1 : Rise (q.take j ++ (q[j] :: q.drop (j + 1))) := by rw [← List.drop_eq_getElem_cons hj, List.take_append_drop]; exact hr
      exact (Rise.app h1).2.2 x hx _ List.mem_cons_self
    cases hb : goB q k j with
    | true =>
      have hgt : k < q[j].1 := by
        unfold goB at hb
        rw [h, Bool.false_or, List.any_eq_true] at hb
        obtain ⟨x, hx, hk⟩ := hb
        have := hpre x hx
        simp at hk
        omega
      rw [if_pos (by simp), if_pos rfl, if_neg (by simp), List.append_nil, insP_right (b := [q[j]]) (fun x hx => by rw [List.mem_singleton.1 hx]; exact hgt)]
    | false =>
      have hlt : ∀ x ∈ q.take j, x.1 < k := fun x hx => by
        have h1 : ¬ k < x.1 := fun hk => by
          have : goB q k j = true := by unfold goB; rw [h, Bool.false_or, List.any_eq_true]; exact ⟨x, hx, by simpa using hk⟩
          rw [hb] at this; cases this
        have h2 : x.1 ≠ k := fun e => by
          have : hasK q k = true := List.any_eq_true.2 ⟨x, List.mem_of_mem_take hx, by simpa using e⟩
          rw [h] at this; cases this
        omega
      by_cases hgt : k < q[j].1
      · rw [if_pos (by simp [hgt]), if_neg (by simp), if_pos ⟨rfl, hgt⟩, insP_left hlt, insP, if_neg (by omega), if_pos hgt]
        simp
      · rw [if_neg (by simp; omega), if_neg (by simp), if_neg (by simp; omega)]
        simp
theorem ins_has : ∀ (q : Pg), Rise q → ∀ (k : Nat) (v : Int), hasK q k = true → q.map (rep k v) = insP q k v
  | [], _, k, v, h => by cases h
  | x :: r, hr, k, v, h => by
    obtain ⟨h1, h2⟩ := List.pairwise_cons.1 hr
    rw [List.map_cons, insP]
    by_cases e : x.1 = k
    · have hrest : r.map (rep k v) = r := by
        conv => rhs; rw [← List.map_id r]
        refine List.map_congr_left fun y hy => ?_
        have := h1 y hy
        unfold rep
        rw [if_neg (by omega)]
        rfl
      rw [if_pos e, hrest]
      unfold rep
      rw [if_pos e]
    · have h3 : hasK r k = true := by
        unfold hasK at h ⊢
        rw [List.any_cons] at h
        simpa [e] using h
      have h4 : ¬ k < x.1 := fun hk => by
        obtain ⟨y, hy, e2⟩ := List.any_eq_true.1 h3
        have := h1 y hy
        simp at e2
        omega
      rw [if_neg e, if_neg h4, ← ins_has r h2 k v h3]
      unfold rep
      rw [if_neg e]
theorem goL_len (q : Pg) (k : Nat) (v : Int) (j : Nat) : (goL q k v j).length ≤ j + 1 := by
  unfold goL
  split
  · simp; omega
  · split
    · have := (insP_len (q.take j) k v).2.1
      simp at this
      omega
    · simp; omega
theorem goL_end (q : Pg) (hr : Rise q) (k : Nat) (v : Int) : goL q k v q.length ++ (if goB q k q.length = true then [] else [(k, v)]) = insP q k v := by
  unfold goL
  cases h : hasK q k with
  | true =>
    have hb : goB q k q.length = true := by unfold goB; rw [h]; rfl
    rw [if_pos rfl, if_pos hb, List.append_nil, List.take_of_length_le (by simp), ins_has q hr k v h]
  | false =>
    rw [if_neg (by simp), List.take_length]
    cases hb : goB q k q.length with
    | true => simp
    | false =>
      have hlt : ∀ x ∈ q, x.1 < k := fun x hx => by
        have h1 : ¬ k < x.1 := fun hk => by
          have : goB q k q.length = true := by unfold goB; rw [h, Bool.false_or, List.any_eq_true]; exact ⟨x, by simpa using hx, by simpa using hk⟩
          rw [hb] at this; cases this
        have h2 : x.1 ≠ k := fun e => by
          have : hasK q k = true := List.any_eq_true.2 ⟨x, hx, by simpa using e⟩
          rw [h] at this; cases this
        omega
      have := insP_left (l := []) (v := v) hlt
      rw [List.append_nil] at this
      rw [this]
      simp [insP]
theorem idxTo_some (q : Pg) (k : Nat) : ∀ n i, idxTo q k n = some i → i < n ∧ (q.getD i (0, 0)).1 = k
  | 0, i, h => by cases h
  | n + 1, i, h => by
    rw [idxTo] at h
    cases h1 : idxTo q k n with
    | some m =>
      rw [h1] at h
      simp only [Option.some.injEq] at h
      subst h
      obtain ⟨h2, h3⟩ := idxTo_some q k n m h1
      exact ⟨by omega, h3⟩
    | none =>
      rw [h1] at h
      simp only at h
      split at h
      · next e => injection h with h; subst h; exact ⟨by omega, e⟩
      · cases h
theorem idxTo_none (q : Pg) (k : Nat) : ∀ n, idxTo q k n = none → ∀ i, i < n → (q.getD i (0, 0)).1 ≠ k
  | 0, _, i, hi => absurd hi (by omega)
  | n + 1, h, i, hi => by
    rw [idxTo] at h
    cases h1 : idxTo q k n with
    | some m => rw [h1] at h; cases h
    | none =>
      rw [h1] at h
      simp only at h
      split at h
      · cases h
      · next e =>
        rcases Nat.lt_or_ge i n with h2 | h2
        · exact idxTo_none q k n h1 i h2
        · obtain rfl : i = n := by omega
          exact e
/-- In a rising page a key is where it is found, and nowhere else. -/
theorem idxI_iff (q : Pg) (hr : Rise q) (k j : Nat) (hj : j < q.length) : ((j : Int) = idxI q k) ↔ q[j].1 = k := by
  have hg : ∀ i (hi : i < q.length), q.getD i (0, 0) = q[i] := fun i hi => by simp [List.getD, hi]
  unfold idxI
  cases h : idxTo q k q.length with
  | none =>
    have h1 := idxTo_none q k _ h j hj
    rw [hg j hj] at h1
    constructor
    · intro e
      have e2 : (j : Int) = -1 := e
      omega
    · intro e; exact absurd e h1
  | some i =>
    obtain ⟨h1, h2⟩ := idxTo_some q k _ i h
    rw [hg i h1] at h2
    constructor
    · intro e
      have e2 : (j : Int) = (i : Int) := e
      obtain rfl : j = i := by omega
      exact h2
    · intro e
      have : ¬ j < i ∧ ¬ i < j := by
        constructor
        · intro hlt
          have := List.pairwise_iff_getElem.1 hr j i hj h1 hlt
          omega
        · intro hlt
          have := List.pairwise_iff_getElem.1 hr i j h1 hj hlt
          omega
      have : j = i := by omega
      subst this
      rfl
theorem idxI_neg (q : Pg) (k : Nat) : (idxI q k < 0) ↔ hasK q k = false := by
  have hg : ∀ i (hi : i < q.length), q.getD i (0, 0) = q[i] := fun i hi => by simp [List.getD, hi]
  unfold idxI
  cases h : idxTo q k q.length with
  | none =>
    constructor
    · intro _
      rw [Bool.eq_false_iff]
      intro h1
      obtain ⟨x, hx, e⟩ := List.any_eq_true.1 h1
      obtain ⟨i, hi, rfl⟩ := List.getElem_of_mem hx
      have := idxTo_none q k _ h i hi
      rw [hg i hi] at this
      exact this (by simpa using e)
    · intro _; simp
  | some i =>
    obtain ⟨h1, h2⟩ := idxTo_some q k _ i h
    rw [hg i h1] at h2
    constructor
    · intro e; simp at e; omega
    · intro e; rw [hasK_at q k i h1 h2] at e; cases e
theorem idxI_lt (q : Pg) (k : Nat) : idxI q k < (q.length : Int) ∧ -1 ≤ idxI q k := by
  unfold idxI
  cases h : idxTo q k q.length with
  | none => constructor <;> simp <;> omega
  | some i =>
    obtain ⟨h1, _⟩ := idxTo_some q k _ i h
    constructor <;> simp <;> omega
end Go.Proofs.Ytenmiociinogeaa
