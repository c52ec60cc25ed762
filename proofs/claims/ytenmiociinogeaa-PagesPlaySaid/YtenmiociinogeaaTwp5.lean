/- A store of package pages and one of the document's, with the same pages. -/
import Derived.Test.YtenmiociinogeaaRde5
import Derived.Test.YtenmiociinogeaaFem5
namespace Go.Proofs.Ytenmiociinogeaa
open Go.RowKit

/-- The document's zero Store. -/
theorem rs_zero {w : World} {p : Nat} (h : Bk w p 32 #[.slice none 0 0]) : RS w (fun k => k = p) p [] :=
  ⟨.slice none 0 0, [], ⟨h, World.ownsRow_nil _ _ _ _, (fun u hu => by cases hu), by simp⟩, rfl, (fun i h1 _ => by simp at h1), rfl, (fun k e => by simp [Value.ownBlock] at e), (fun u hu => by cases hu), fun k e => by rw [e]; exact h.lt⟩
theorem RS.self {w : World} {R : Nat → Prop} {p : Nat} {P : List Pg} (h : RS w R p P) : R p := by
  obtain ⟨v, hs, _, _, _, h1, _⟩ := h
  exact h1
theorem RS.lt {w : World} {R : Nat → Prop} {p : Nat} {P : List Pg} (h : RS w R p P) : ∀ k, R k → k < w.heap.size := by
  obtain ⟨v, hs, _, _, _, _, _, _, h4⟩ := h
  exact h4
/-- What a call leaves of the document's store. -/
def LeftR (w : World) (R : Nat → Prop) (p : Nat) (P : List Pg) (w' : World) : Prop := ∃ R', RS w' R' p P ∧ Fr (fun x => x = p) w w' ∧ ∀ x, R' x → R x ∨ w.heap.size ≤ x
/-- Two stores with the same pages, both new since w1, with nothing in common. -/
structure Two5 (w1 w : World) (s p : Nat) (S R : Nat → Prop) (P : List Pg) : Prop where
  inv : InvP P
  ps : PS w S s P
  rs : RS w R p P
  lo : ∀ k, S k → w1.heap.size ≤ k
  lr : ∀ k, R k → w1.heap.size ≤ k
  ap : ∀ k, S k → ¬ R k
  fr : Fr No w1 w
section
variable {w1 w w' w'' : World} {s p : Nat} {S R : Nat → Prop} {P Q : List Pg}
theorem Two5.since (h : Two5 w1 w s p S R P) (hf : Fr No w w') : Two5 w1 w' s p S R P :=
  ⟨h.inv, h.ps.fr hf (fun _ _ e => e), h.rs.fr hf (fun _ _ e => e), h.lo, h.lr, h.ap, h.fr.trans' hf (fun _ _ e => e)⟩
/-- Behind a call of the package's store alone: the document's lies as it lay. -/
theorem Two5.one (h : Two5 w1 w s p S R P) (hL : Left w S s Q w') : RS w' R p P := by
  obtain ⟨S', _, h2, _⟩ := hL
  exact h.rs.fr h2 (fun k e e2 => h.ap k e2 e)
/-- Behind a call of each. -/
theorem Two5.both (h : Two5 w1 w s p S R P) (hq : InvP Q) (hL : Left w S s Q w') (hR : LeftR w' R p Q w'') : ∃ S' R', Two5 w1 w'' s p S' R' Q := by
  obtain ⟨S', a1, a2, a3⟩ := hL
  obtain ⟨R', b1, b2, b3⟩ := hR
  have hp := h.rs.self
  have hpl := h.rs.lt p hp
  have hsz := h.fr.size
  have hsz2 := a2.size
  have hnp : ¬ S' p := fun e => (a3 p e).elim (fun e => h.ap p e hp) (fun e => by omega)
  refine ⟨S', R', hq, a1.fr b2 (fun k e e2 => hnp (e2 ▸ e)), b1, fun k e => ?_, fun k e => ?_, fun k e e2 => ?_, (h.fr.trans' a2 (fun k hk e => by have := h.lo k e; omega)).trans' b2 (fun k hk e => by have := h.lr p hp; omega)⟩
  · rcases a3 k e with e | e
    · exact h.lo k e
    · omega
  · rcases b3 k e with e | e
    · exact h.lr k e
    · omega
  · have h1 := a1.lt k e
    rcases b3 k e2 with e2 | e2
    · rcases a3 k e with e | e
      · exact h.ap k e e2
      · have := h.rs.lt k e2; omega
    · omega
end
end Go.Proofs.Ytenmiociinogeaa
