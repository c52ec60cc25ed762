/- Package pages: to which page a key belongs, and where in a page it is. -/
import Derived.Test.YtenmiociinogeaaLay5
import Derived.Test.YtenmiociinogeaaPut5
namespace Go.Proofs.Ytenmiociinogeaa
open Go.RowKit

/-- How many keys of a page are below a key. -/
def posP (q : Pg) (k : Nat) : Nat := q.countP fun x => decide (x.1 < k)
theorem posP_le (q : Pg) (k : Nat) : posP q k ≤ q.length := List.countP_le_length
theorem posP_iff : ∀ (q : Pg), Rise q → ∀ (k t : Nat) (ht : t < q.length), (q[t].1 < k ↔ t < posP q k)
  | [], _, _, t, ht => by simp at ht
  | x :: r, hr, k, t, ht => by
    obtain ⟨h1, h2⟩ := List.pairwise_cons.1 hr
    have ih := posP_iff r h2 k
    unfold posP at ih ⊢
    rw [List.countP_cons]
    by_cases hx : x.1 < k
    · rw [if_pos (by simpa using hx)]
      cases t with
      | zero => simpa using hx
      | succ t =>
        rw [List.getElem_cons_succ, ih t (by simpa using ht)]
        omega
    · have h0 : r.countP (fun x => decide (x.1 < k)) = 0 := by
        rw [List.countP_eq_zero]
        intro y hy
        have := h1 y hy
        simp
        omega
      rw [if_neg (by simpa using hx), h0]
      constructor
      · intro h
        cases t with
        | zero => exact absurd h hx
        | succ t =>
          have := h1 _ (List.getElem_mem (by simpa using ht : t < r.length))
          rw [List.getElem_cons_succ] at h
          omega
      · intro h
        omega
theorem hasK_pos (q : Pg) (hr : Rise q) (k : Nat) : hasK q k = true ↔ ∃ h : posP q k < q.length, q[posP q k].1 = k := by
  unfold hasK
  rw [List.any_eq_true]
  constructor
  · rintro ⟨x, hx, he⟩
    obtain ⟨t, ht, rfl⟩ := List.mem_iff_getElem.1 hx
    have he : q[t].1 = k := by simpa using he
    have h1 := posP_iff q hr k t ht
    have h2 : t = posP q k := by
      rcases Nat.lt_trichotomy t (posP q k) with h | h | h
      · have := h1.2 h; omega
      · exact h
      · have h3 := posP_iff q hr k (posP q k) (by omega)
        have h4 := List.pairwise_iff_getElem.1 hr (posP q k) t (by omega) ht h
        have := h3.1 (by omega)
        omega
    subst h2
    exact ⟨ht, he⟩
  · rintro ⟨h, e⟩
    exact ⟨_, List.getElem_mem h, by simpa using e⟩

set_option maxHeartbeats 1000000 in
theorem pTakes_some (a : Addr) (k : Int) (w : World) : Calls Try.prog 25 #[.pointer (some a), .int .i64 k] w fun e w' => e = .returned (.bool (decide (0 ≤ k ∧ k ≤ 999))) ∧ w' = w := by
  by_cases h1 : 0 ≤ k
  · go_enter Try.func25, Try.ntmps25
    go_wp2
    go_ret
    simp [h1]
  · go_enter Try.func25, Try.ntmps25
    go_wp2
    go_ret
    simp
    omega
theorem pTakes_nil (k : Int) (w : World) : Calls Try.prog 25 #[.pointer none, .int .i64 k] w fun e w' => e = .returned (.bool false) ∧ w' = w := by
  go_enter Try.func25, Try.ntmps25
  go_wp2
  go_ret
  exact ⟨rfl, rfl⟩
theorem pAll_some (s : Nat) (v : Value) (w : World) (h : w.cell? ⟨s, 0, none⟩ = some v) (hv : ∃ A n c, v = .slice A n c) : Calls Try.prog 33 #[.pointer (some ⟨s, 0, none⟩)] w fun e w' => e = .returned v ∧ w' = w := by
  obtain ⟨A, n, c, rfl⟩ := hv
  go_enter Try.func33, Try.ntmps33
  go_wp2
  go_ret
  exact ⟨rfl, rfl⟩
theorem pAll_nil (w : World) : Calls Try.prog 33 #[.pointer none] w fun e w' => e = .returned (.slice none 0 0) ∧ w' = w := by
  go_enter Try.func33, Try.ntmps33
  go_wp2
  go_ret
  exact ⟨rfl, rfl⟩
theorem pFirst_any (g o n c : Nat) (x : Int) (w : World) (hn : 0 < n) (h : w.cell? ⟨g, o, none⟩ = some (.int .i64 x)) : Calls Try.prog 36 #[.slice (some ⟨g, o, none⟩) n c] w fun e w' => e = .returned (.int .i64 x) ∧ w' = w := by
  go_enter Try.func36, Try.ntmps36
  go_wp2
  go_ret
  exact ⟨rfl, rfl⟩
theorem isNaN_any (x : Int) (w : World) : Calls Try.prog 54 #[.int .i64 x] w fun e w' => e = .returned (.bool false) ∧ w' = w := by
  go_enter Try.func54, Try.ntmps54
  go_wp2
  go_ret
  simp
def cmpI (x y : Int) : Int := if x < y then -1 else if y < x then 1 else 0
theorem cmpI_lt (x y : Int) : cmpI x y < 0 ↔ x < y := by unfold cmpI; split <;> (try split) <;> omega
theorem cmpI_eq (x y : Int) : cmpI x y = 0 ↔ x = y := by unfold cmpI; split <;> (try split) <;> omega
set_option maxHeartbeats 1000000 in
theorem compare_any (x y : Int) (w : World) : Calls Try.prog 50 #[.int .i64 x, .int .i64 y] w fun e w' => e = .returned (.int .i64 (cmpI x y)) ∧ w' = w := by
  have h1 := fun x => isNaN_any x w
  by_cases hl : x < y
  · have e : cmpI x y = -1 := if_pos hl
    rw [e]
    clear e
    go_enter Try.func50, Try.ntmps50
    go_wp2_with (refine (h1 _).mono ?_; rintro e w2 ⟨rfl, rfl⟩)
    go_ret
    exact ⟨rfl, rfl⟩
  · by_cases hg : y < x
    · have e : cmpI x y = 1 := by unfold cmpI; rw [if_neg hl, if_pos hg]
      rw [e]
      clear e
      go_enter Try.func50, Try.ntmps50
      go_wp2_with (refine (h1 _).mono ?_; rintro e w2 ⟨rfl, rfl⟩)
      go_ret
      exact ⟨rfl, rfl⟩
    · have e : cmpI x y = 0 := by unfold cmpI; rw [if_neg hl, if_neg hg]
      rw [e]
      clear e
      go_enter Try.func50, Try.ntmps50
      go_wp2_with (refine (h1 _).mono ?_; rintro e w2 ⟨rfl, rfl⟩)
      go_ret
      exact ⟨rfl, rfl⟩
set_option maxHeartbeats 1000000 in
theorem findC_any (a b k : Int) (w : World) : Calls Try.prog 49 #[.agg #[.int .i64 a, .int .i64 b], .int .i64 k] w fun e w' => e = .returned (.int .i64 (cmpI a k)) ∧ Fr No w w' := by
  have v1 := (Bk.made w 50 #[.int .i64 a, .int .i64 b]).cell 0
  have g1 := (Fr.refl No w).alloc (.cells #[.int .i64 a, .int .i64 b] 50)
  simp at v1
  have hc := fun W => compare_any a k W
  go_enter Try.func49, Try.ntmps49
  go_wp2_with fail
  refine (hc _).mono ?_
  rintro e w2 ⟨rfl, rfl⟩
  go_wp2
  go_ret
  exact ⟨rfl, g1⟩
end Go.Proofs.Ytenmiociinogeaa
