/- In which order keys that are unlike are put makes no difference: plain mathematics. -/
import Derived.Test.YtenmiociinogeaaLaw5
namespace Go.Proofs.Ytenmiociinogeaa
open Go.RowKit

abbrev Unlike (l : List (Int × Int)) : Prop := l.Pairwise fun x y => x.1 ≠ y.1
theorem ofP_val (n : Nat) : ∀ l : List (Int × Int), l.length = n → Unlike l → ∀ k : Nat, k < 1000 → ∀ v, valP (ofP l).flatten k = some v ↔ ((k : Int), v) ∈ l := by
  induction n with
  | zero =>
    intro l h _ k _ v
    rw [List.eq_nil_of_length_eq_zero h]
    simp [ofP, valP]
  | succ n ih =>
    intro l h hu k hk v
    obtain ⟨i, x, rfl⟩ := snoc2 l (by rintro rfl; cases h)
    obtain ⟨u1, -, u3⟩ := List.pairwise_append.1 hu
    have hi := ofP_inv n i (by simpa using h)
    have h1 := ih i (by simpa using h) u1 k hk v
    have hne : ∀ y ∈ i, y.1 ≠ x.1 := fun y hy => u3 y hy x (by simp)
    rw [ofP_snoc, List.mem_append, List.mem_singleton]
    by_cases hx : 0 ≤ x.1 ∧ x.1 ≤ 999
    · rw [if_pos hx, putP_pairs hi, valP_ins hi.rise]
      by_cases hkx : k = x.1.toNat
      · rw [if_pos hkx]
        constructor
        · intro e
          injection e with e
          refine .inr ?_
          rw [← e]
          exact Prod.ext (by simp only; omega) rfl
        · rintro (e | e)
          · exact absurd (show ((k : Int), v).1 = x.1 by simp only; omega) (hne _ e)
          · rw [← e]
      · rw [if_neg hkx, h1]
        constructor
        · exact .inl
        · rintro (e | e)
          · exact e
          · exact absurd (show k = x.1.toNat by rw [← e]; simp) hkx
    · rw [if_neg hx, h1]
      constructor
      · exact .inl
      · rintro (e | e)
        · exact e
        · exact absurd (show 0 ≤ x.1 ∧ x.1 ≤ 999 by rw [← e]; simp only; omega) hx
theorem unlike_rev {l : List (Int × Int)} (h : Unlike l) : Unlike l.reverse := List.pairwise_reverse.2 (h.imp fun e => e.symm)
theorem val_far {P : List Pg} (h : InvP P) (k : Nat) (hk : 1000 ≤ k) : valP P.flatten k = none := valP_none fun x hx e => by have := h.key x hx; omega
theorem ofP_rev (l : List (Int × Int)) (h : Unlike l) : (ofP l).flatten = (ofP l.reverse).flatten := by
  have i1 := ofP_inv _ l rfl
  have i2 := ofP_inv _ l.reverse rfl
  refine rise_ext i1.rise i2.rise fun k => ?_
  rcases Nat.lt_or_ge k 1000 with hk | hk
  · refine Option.ext fun v => ?_
    rw [ofP_val _ l rfl h k hk v, ofP_val _ l.reverse rfl (unlike_rev h) k hk v, List.mem_reverse]
  · rw [val_far i1 k hk, val_far i2 k hk]
theorem out_ins (l : List (Nat × Int)) (h : Rise l) (k : Nat) (v : Int) (hn : valP l k = none) : outP (insP l k v) k = l := by
  refine rise_ext (outP_rise (insP_rise h k v) k) h fun j => ?_
  rw [valP_out, valP_ins h]
  by_cases e : j = k
  · rw [if_pos e, e, hn]
  · rw [if_neg e, if_neg e]
/-- What is put and taken out again leaves pairs as they were. -/
theorem put_del {P : List Pg} (hi : InvP P) {k : Nat} (hk : k < 1000) (v : Int) (hn : valP P.flatten k = none) : delA (putP P k v) k = 0 ∧ (delQ (putP P k v) k).flatten = P.flatten ∧ InvP (delQ (putP P k v) k) := by
  have h1 := putP_inv hi hk v
  have h2 : valP (putP P k v).flatten k = some v := by rw [putP_pairs hi, valP_ins hi.rise, if_pos rfl]
  have hne : putP P k v ≠ [] := by intro e; rw [e] at h2; simp [valP] at h2
  obtain ⟨h3, h4⟩ := delP_both h1 hne k
  refine ⟨by unfold delA; rw [h2]; rfl, ?_, ?_⟩
  · unfold delQ
    rw [h2]
    simp only [Option.isSome_some, if_true]
    rw [h3, putP_pairs hi, out_ins _ hi.rise k v hn]
  · unfold delQ
    rw [h2]
    simpa using h4
theorem prs2_app (l m : List (Int × Int)) : prs2 (l ++ m) = prs2 l ++ prs2 m := by simp [prs2]
/-- Two stores, the second one new since w1: what a call leaves of both that touches the second alone. -/
theorem Left.two {w1 w w' : World} {Sa Sb : Nat → Prop} {s t : Nat} {P Q' : List Pg} (hA : PS w Sa s P) (hd : ∀ k, Sa k → ¬ Sb k) (hlo : ∀ k, Sb k → w1.heap.size ≤ k) (hf : Fr No w1 w) (h : Left w Sb t Q' w') :
    ∃ Sb', PS w' Sb' t Q' ∧ PS w' Sa s P ∧ (∀ k, Sa k → ¬ Sb' k) ∧ (∀ k, Sb' k → w1.heap.size ≤ k) ∧ Fr No w1 w' := by
  obtain ⟨Sb', h1, h2, h3⟩ := h
  refine ⟨Sb', h1, hA.fr h2 hd, fun k e e2 => ?_, fun k e => ?_, hf.trans' h2 (fun k hk e => by have := hlo k e; omega)⟩
  · rcases h3 k e2 with e3 | e3
    · exact hd k e e3
    · have := hA.lt k e; omega
  · rcases h3 k e with e3 | e3
    · exact hlo k e3
    · have := hf.size; omega
theorem prs2_back {l : List (Int × Int)} {j : Nat} (hj : j < l.length) : prs2 (l.drop j).reverse = prs2 (l.drop (j + 1)).reverse ++ [.int .i64 l[j].1, .int .i64 l[j].2] := by
  rw [List.drop_eq_getElem_cons hj, List.reverse_cons, prs2_app]
  rfl
theorem val_off (l : List (Int × Int)) (h : Unlike l) (mk : Int) (hn : ∀ x ∈ l, x.1 ≠ mk) (k : Nat) (hk : k < 1000) (e : mk = k) : valP (ofP l).flatten k = none := by
  refine Option.eq_none_iff_forall_ne_some.2 fun v hv => ?_
  exact hn _ ((ofP_val _ l rfl h k hk v).1 hv) e.symm

end Go.Proofs.Ytenmiociinogeaa
