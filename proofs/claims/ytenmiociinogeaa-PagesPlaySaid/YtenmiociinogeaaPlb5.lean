/- Two stores side by side, op by op. -/
import Derived.Test.YtenmiociinogeaaTwp5
namespace Go.Proofs.Ytenmiociinogeaa
open Go.RowKit

section
variable {w1 W2 w w' w'' : World} {s p q : Nat} {S R : Nat → Prop} {P Q : List Pg} {t : TypeId} {cs : Array Value}
theorem LeftR.back (hf : Fr No w w') (h : LeftR w' R p P w'') : LeftR w R p P w'' := by
  obtain ⟨R', h1, h2, h3⟩ := h
  have hs := hf.size
  exact ⟨R', h1, (hf.weak (S' := fun x => x = p) (fun _ _ e => e.elim)).trans' h2 (fun _ _ e => e), fun x hx => (h3 x hx).imp_right (fun e => by omega)⟩
theorem del_inv (h : InvP P) (k : Nat) : InvP (delQ P k) := by
  unfold delQ
  split
  · next hs =>
    have hne : P ≠ [] := by
      rintro rfl
      cases hs
    exact (delP_both h hne k).2
  · exact h
/-- Behind a call of the package's store, what the document's call is to do there. -/
theorem Two5.next {f : Nat} {args : Array Value} {a : Int} (h : Two5 w1 w s p S R P) (hQ : InvP Q) (hL : Left w S s Q w') (hb : Bk w q t cs) (hqS : ¬ S q) (hqR : ¬ R q)
    (hcal : ∀ W', RS W' R p P → Calls Try.prog f args W' fun e w6 => e = .returned (.int .i64 a) ∧ LeftR W' R p Q w6) :
    Bk w' q t cs ∧ ∀ W', Fr No w' W' → Calls Try.prog f args W' fun e w6 => e = .returned (.int .i64 a) ∧ Bk w6 q t cs ∧ ∃ S' R', Two5 w1 w6 s p S' R' Q := by
  have hrs := h.one hL
  have hL2 := hL
  obtain ⟨S', a1, a2, a3⟩ := hL
  have hb1 := hb.fr a2 hqS
  refine ⟨hb1, fun W' hW' => (hcal W' (hrs.fr hW' (fun _ _ e => e))).mono ?_⟩
  rintro e w6 ⟨rfl, hR⟩
  have hR2 := hR.back hW'
  have hp := h.rs.self
  refine ⟨rfl, ?_, h.both hQ hL2 hR2⟩
  obtain ⟨R', b1, b2, b3⟩ := hR2
  exact hb1.fr b2 (fun e => hqR (e ▸ hp))

theorem Two5.del (h : Two5 w1 W2 s p S R P) (hb : Bk W2 q t cs) (hqS : ¬ S q) (hqR : ¬ R q) (k : Int) : ∃ a Q, ∀ W, Fr No W2 W →
    Calls Try.prog 9 #[.pointer (some ⟨s, 0, none⟩), .int .i64 k] W fun e w5 => e = .returned (.int .i64 a) ∧ Bk w5 q t cs ∧ ∀ W', Fr No w5 W' →
      Calls Try.prog 10 #[.pointer (some ⟨p, 0, none⟩), .int .i64 k] W' fun e w6 => e = .returned (.int .i64 a) ∧ Bk w6 q t cs ∧ ∃ S' R', Two5 w1 w6 s p S' R' Q := by
  by_cases hk : 0 ≤ k ∧ k ≤ 999
  · obtain ⟨kk, rfl⟩ := Int.eq_ofNat_of_zero_le hk.1
    have hkk : kk < 1000 := by omega
    refine ⟨delA P kk, delQ P kk, fun W hW => ?_⟩
    have hW2 := h.since hW
    refine (pDel_any kk hkk h.inv hW2.ps).mono ?_
    rintro e w5 ⟨rfl, hL⟩
    exact ⟨rfl, hW2.next (del_inv h.inv kk) hL (hb.fr hW (fun e => e)) hqS hqR (fun W' hrs => rDel_any R p kk hkk P h.inv W' hrs)⟩
  · refine ⟨3, P, fun W hW => ?_⟩
    have hW2 := h.since hW
    refine (pDel_no k (by omega) (some ⟨s, 0, none⟩) W).mono ?_
    rintro e w5 ⟨rfl, hf⟩
    refine ⟨rfl, hW2.next h.inv ⟨S, hW2.ps.fr hf (fun _ _ e => e), hf.weak (fun _ _ e => e.elim), fun _ e => .inl e⟩ (hb.fr hW (fun e => e)) hqS hqR (fun W' hrs => (rDel_no k (some ⟨p, 0, none⟩) (by omega) W').mono ?_)⟩
    rintro e w6 ⟨rfl, rfl⟩
    exact ⟨rfl, R, hrs, Fr.refl _ _, fun _ e => .inl e⟩
theorem Two5.put (h : Two5 w1 W2 s p S R P) (hb : Bk W2 q t cs) (hqS : ¬ S q) (hqR : ¬ R q) (k v : Int) : ∃ a Q, ∀ W, Fr No W2 W →
    Calls Try.prog 14 #[.pointer (some ⟨s, 0, none⟩), .int .i64 k, .int .i64 v] W fun e w5 => e = .returned (.int .i64 a) ∧ Bk w5 q t cs ∧ ∀ W', Fr No w5 W' →
      Calls Try.prog 15 #[.pointer (some ⟨p, 0, none⟩), .int .i64 k, .int .i64 v] W' fun e w6 => e = .returned (.int .i64 a) ∧ Bk w6 q t cs ∧ ∃ S' R', Two5 w1 w6 s p S' R' Q := by
  by_cases hk : 0 ≤ k ∧ k ≤ 999
  · obtain ⟨kk, rfl⟩ := Int.eq_ofNat_of_zero_le hk.1
    have hkk : kk < 1000 := by omega
    refine ⟨0, putP P kk v, fun W hW => ?_⟩
    have hW2 := h.since hW
    refine (pPut_any kk hkk v h.inv hW2.ps).mono ?_
    rintro e w5 ⟨rfl, hL⟩
    exact ⟨rfl, hW2.next (putP_inv h.inv hkk v) hL (hb.fr hW (fun e => e)) hqS hqR (fun W' hrs => rPut_any R p kk hkk v P h.inv W' hrs)⟩
  · refine ⟨3, P, fun W hW => ?_⟩
    have hW2 := h.since hW
    refine (pPut_no k v (by omega) (some ⟨s, 0, none⟩) W).mono ?_
    rintro e w5 ⟨rfl, hf⟩
    refine ⟨rfl, hW2.next h.inv ⟨S, hW2.ps.fr hf (fun _ _ e => e), hf.weak (fun _ _ e => e.elim), fun _ e => .inl e⟩ (hb.fr hW (fun e => e)) hqS hqR (fun W' hrs => (rPut_no k v (some ⟨p, 0, none⟩) (by omega) W').mono ?_)⟩
    rintro e w6 ⟨rfl, rfl⟩
    exact ⟨rfl, R, hrs, Fr.refl _ _, fun _ e => .inl e⟩
theorem Two5.get (h : Two5 w1 W2 s p S R P) (k : Int) : ∃ a b, (∀ W, Fr No W2 W → Calls Try.prog 11 #[.pointer (some ⟨s, 0, none⟩), .int .i64 k] W fun e w5 => e = .returned (.tuple #[.int .i64 a, .int .i64 b]) ∧ Fr No W w5) ∧
    (∀ W, Fr No W2 W → Calls Try.prog 12 #[.pointer (some ⟨p, 0, none⟩), .int .i64 k] W fun e w5 => e = .returned (.tuple #[.int .i64 a, .int .i64 b]) ∧ Fr No W w5) := by
  by_cases hk : 0 ≤ k ∧ k ≤ 999
  · obtain ⟨kk, rfl⟩ := Int.eq_ofNat_of_zero_le hk.1
    have hkk : kk < 1000 := by omega
    exact ⟨(getA P kk).1, (getA P kk).2, fun W hW => pGet_any kk hkk h.inv (h.since hW).ps, fun W hW => rGet_any R p kk hkk P h.inv W (h.since hW).rs⟩
  · refine ⟨0, 3, fun W hW => pGet_no k (by omega) _ W, fun W hW => (rGet_no k (some ⟨p, 0, none⟩) (by omega) W).mono ?_⟩
    rintro e w5 ⟨rfl, rfl⟩
    exact ⟨rfl, Fr.refl _ _⟩
/-- The store that a copy was made of goes its own way. -/
theorem Two5.old {S' : Nat → Prop} {s' : Nat} (h : Two5 w1 w s' p S' R P) (hd : ∀ k, S k → ¬ S' k ∧ ¬ R k ∧ w1.heap.size ≤ k) (hL : Left w S s Q w') :
    ∃ S2, PS w' S2 s Q ∧ (∀ k, S2 k → ¬ S' k ∧ ¬ R k ∧ w1.heap.size ≤ k) ∧ Two5 w1 w' s' p S' R P := by
  obtain ⟨S2, a1, a2, a3⟩ := hL
  have hs := h.fr.size
  refine ⟨S2, a1, fun k hk => ?_, h.inv, h.ps.fr a2 (fun k e e2 => (hd k e2).1 e), h.rs.fr a2 (fun k e e2 => (hd k e2).2.1 e), h.lo, h.lr, h.ap, h.fr.trans' a2 (fun k hk e => by have := (hd k e).2.2; omega)⟩
  rcases a3 k hk with e | e
  · exact hd k e
  · exact ⟨fun e2 => by have := h.ps.lt k e2; omega, fun e2 => by have := h.rs.lt k e2; omega, by omega⟩
theorem Two5.copy (h : Two5 w1 W2 s p S R P) (hb : Bk W2 q t cs) (k v : Int) : ∀ W, Fr No W2 W →
    Calls Try.prog 13 #[.pointer (some ⟨s, 0, none⟩)] W fun e w5 => ∃ s', e = .returned (.pointer (some ⟨s', 0, none⟩)) ∧ Bk w5 q t cs ∧ ∀ W', Fr No w5 W' →
      Calls Try.prog 14 #[.pointer (some ⟨s, 0, none⟩), .int .i64 k, .int .i64 v] W' fun e w6 => (∃ a, e = .returned (.int .i64 a)) ∧ ∀ W'', Fr No w6 W'' →
        Calls Try.prog 9 #[.pointer (some ⟨s, 0, none⟩), .int .i64 0] W'' fun e w7 => (∃ a, e = .returned (.int .i64 a)) ∧ ∃ S' R', Two5 w1 w7 s' p S' R' P := by
  intro W hW
  have hW2 := h.since hW
  refine (pCopy_any h.inv hW2.ps).mono ?_
  rintro e w5 ⟨s', S', rfl, c1, c2, c3⟩
  have h5 : Two5 w1 w5 s' p S' R P := ⟨h.inv, c1, hW2.rs.fr c3 (fun _ _ e => e), fun k e => Nat.le_trans hW2.fr.size (c2 k e), h.lr, fun k e e2 => by have h1 := c2 k e; have h2 := hW2.rs.lt k e2; omega, hW2.fr.trans' c3 (fun _ _ e => e)⟩
  have hd : ∀ k, S k → ¬ S' k ∧ ¬ R k ∧ w1.heap.size ≤ k := fun k e => ⟨fun e2 => by have h1 := c2 k e2; have h2 := hW2.ps.lt k e; omega, h.ap k e, h.lo k e⟩
  refine ⟨s', rfl, (hb.fr hW (fun e => e)).fr c3 (fun e => e), fun W' hW' => ?_⟩
  have hps5 := (hW2.ps.fr c3 (fun _ _ e => e)).fr hW' (fun _ _ e => e)
  have h5' := h5.since hW'
  have hput : Calls Try.prog 14 #[.pointer (some ⟨s, 0, none⟩), .int .i64 k, .int .i64 v] W' fun e w6 => (∃ a, e = .returned (.int .i64 a)) ∧ ∃ Q, InvP Q ∧ Left W' S s Q w6 := by
    by_cases hk : 0 ≤ k ∧ k ≤ 999
    · obtain ⟨kk, rfl⟩ := Int.eq_ofNat_of_zero_le hk.1
      refine (pPut_any kk (by omega) v h.inv hps5).mono ?_
      rintro e w6 ⟨rfl, hL⟩
      exact ⟨⟨_, rfl⟩, _, putP_inv h.inv (by omega) v, hL⟩
    · refine (pPut_no k v (by omega) (some ⟨s, 0, none⟩) W').mono ?_
      rintro e w6 ⟨rfl, hf⟩
      exact ⟨⟨_, rfl⟩, P, h.inv, S, hps5.fr hf (fun _ _ e => e), hf.weak (fun _ _ e => e.elim), fun _ e => .inl e⟩
  refine hput.mono ?_
  rintro e w6 ⟨he, Q, hQ, hL⟩
  obtain ⟨S2, d1, d2, d3⟩ := h5'.old hd hL
  refine ⟨he, fun W'' hW'' => (pDel_any 0 (by omega) hQ (d1.fr hW'' (fun _ _ e => e))).mono ?_⟩
  rintro e w7 ⟨rfl, hL7⟩
  obtain ⟨S3, e1, e2, e3⟩ := (d3.since hW'').old d2 hL7
  exact ⟨⟨_, rfl⟩, S', R, e3⟩
end
end Go.Proofs.Ytenmiociinogeaa
