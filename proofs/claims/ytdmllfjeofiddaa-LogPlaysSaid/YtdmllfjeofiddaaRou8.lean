/- The document's own log: how many words its frames take. -/
import Derived.Test.YtdmllfjeofiddaaRoq8
import Derived.Test.YtdmllfjeofiddaaSam6
namespace Go.Proofs.Ytdmllfjeofiddaa
open Go.RowKit

theorem streamF_sum (e : Int) (i : Nat) (l : List Frm) : (streamF e i l).length = (l.map fun f => f.words.length + 1).sum := by
  induction l generalizing i with
  | nil => rfl
  | cons f r ih => rw [streamF, List.length_append, putW_len, ih, List.map_cons, List.sum_cons]
/-- How many words the first j frames take. -/
def lenTo (xs : List FrV) (j : Nat) : Nat := ((xs.take j).map fun x => x.ws.length + 1).sum
theorem lenTo_succ (xs : List FrV) {j : Nat} (h : j < xs.length) : lenTo xs (j + 1) = lenTo xs j + 1 + xs[j].ws.length := by
  unfold lenTo
  rw [List.take_succ_eq_append_getElem h, List.map_append, List.sum_append]
  simp
  omega
theorem lenTo_all (e : Int) (xs : List FrV) {j : Nat} (h : xs.length ≤ j) : lenTo xs j = (streamF e 0 (xs.map FrV.f)).length := by
  unfold lenTo
  rw [List.take_of_length_le h, streamF_sum, List.map_map]
  rfl
theorem lenTo_le (e : Int) (xs : List FrV) (j : Nat) : lenTo xs j ≤ (streamF e 0 (xs.map FrV.f)).length := by
  rw [← lenTo_all e xs (j := xs.length) (Nat.le_refl _)]
  unfold lenTo
  rw [List.take_length]
  conv => rhs; rw [← List.take_append_drop j xs, List.map_append, List.sum_append]
  omega
set_option maxHeartbeats 1000000 in
theorem refUsed8_any (B : Nat → Prop) (lg r : Nat) (M : Lg) (hu : M.used ≤ 1099511627776) (w : World) (h : RL w B lg r M) :
    Calls Try.prog 49 #[.pointer (some ⟨lg, 0, none⟩)] w fun e w' => e = .returned (.int .i64 M.used) ∧ w = w' := by
  obtain ⟨A, c, xs, h1, h2, h3, h4, h5, -⟩ := h.lies
  have k4 : w.cell? ⟨lg, 4, none⟩ = some (.slice A xs.length c) := h1.cell 4
  have H2 := Lib.hid h2
  have Hs := Lib.hid (fun j (hj : j < xs.length) => lenTo_succ xs hj)
  have Hl : Hid (∀ j, lenTo xs j ≤ 1099511627776) := Lib.hid (fun j => by
    have := lenTo_le M.ep xs j
    rw [h3] at this
    exact Nat.le_trans this hu)
  have He : Hid (lenTo xs xs.length = M.used) := Lib.hid (by
    rw [lenTo_all M.ep xs (Nat.le_refl _), h3]
    rfl)
  obtain ⟨m, Hm⟩ : ∃ m, Hid (xs.length = m) := ⟨_, Lib.hid rfl⟩
  rw [Hm.out] at k4 He h4
  have hcl : c ≤ 9223372036854775807 := h5
  clear h1 h2 h3 h hu h5
  go_enter Try.func49, Try.ntmps49
  go_wp2
  go_loop [3, 4] (fun nv iv => ∃ j : Nat, j ≤ m ∧ iv = .int .i64 j ∧ nv = .int .i64 (lenTo xs j)) (fun _ iv => m - (intOf iv).toNat)
  case atStart => exact ⟨0, by omega, rfl, rfl⟩
  case round =>
    obtain ⟨j, hj, rfl, rfl⟩ := hrel
    by_cases hlt : j < m
    · have hjx : j < xs.length := by rw [Hm.out]; exact hlt
      obtain ⟨ad, rfl, hb, c0, c1⟩ := H2.out.at hjx
      have hs := Hs.out j hjx
      have hl1 := Hl.out (j + 1)
      have hl0 := Hl.out j
      rw [hs] at hl1
      have Hs2 := Lib.hid hs
      generalize xs[j].ws.length = z at *
      generalize lenTo xs j = y at *
      clear hs c0
      go_wp2
      go_round
      case rel => exact ⟨j + 1, by omega, by go_num, by rw [Hs2.out]; go_num⟩
      case measure => simp [intOf]; omega
    · obtain rfl : j = m := by omega
      rw [He.out]
      clear hlt
      go_wp2
      go_ret
      exact ⟨rfl, rfl⟩
end Go.Proofs.Ytdmllfjeofiddaa
