/- What package prog reads as a template, an instruction and a program. -/
import Derived.Test.YthincpklokgjhaaPrs9
namespace Go.Proofs.Ythincpklokgjhaa
open Go.RowKit

section
variable {G : Nat → Prop}
theorem Rdd.to {w : World} {p : Nat} {st : Option (List Nat)} {v : Value} {e : Ending} {w' : World} (h : Rdd G w p st v e w') : e = .returned v ∧ Rdq G w' p st ∧ Fr (Only p) w w' := h
/-- What a call that reads leaves and tells: what was read, where it was right. -/
def Got {α : Type} (G : Nat → Prop) (w : World) (p : Nat) (o : Option (α × List Nat)) (f : α → Value) (e : Ending) (w' : World) : Prop :=
  ∃ x : α, e = .returned (f x) ∧ (∀ q, o = some q → q.1 = x) ∧ Rdq G w' p (o.map (·.2)) ∧ Fr (Only p) w w'
theorem Got.set {α : Type} {w w3 w4 : World} {p X : Nat} {o : Option (α × List Nat)} {f : α → Value} {e : Ending} (h : Got G w p o f e w3) (hf : Fr (Only X) w3 w4) (hX : w.heap.size ≤ X) (hp : p < w.heap.size) (hG : ∀ k, G k → k < w.heap.size) : Got G w p o f e w4 := by
  obtain ⟨x, h1, h2, h3, h4⟩ := h
  refine ⟨x, h1, h2, h3.frG hf (fun e => ?_) (fun k hk e => ?_), h4.trans' hf (fun i hi e => ?_)⟩
  · have e : p = X := e
    omega
  · have e : k = X := e
    have := hG k hk
    omega
  · have e : i = X := e
    omega
theorem count9 (p : Nat) (m : Int) (st : Option (List Nat)) (w : World) (hr : Rdq G w p st) (hm : -9223372036854775808 ≤ m ∧ m < 9223372036854775808) :
    Calls Try.prog 42 #[.pointer (some ⟨p, 0, none⟩), .int .i64 m] w (Rdd G w p (cS m st) (.int .i64 (cV m st))) := qcount_any p m st w hr hm
theorem signed9 (p : Nat) (st : Option (List Nat)) (w : World) (hr : Rdq G w p st) :
    Calls Try.prog 57 #[.pointer (some ⟨p, 0, none⟩)] w (Rdd G w p (gS st) (.int .i64 (gV st))) := qsigned_any p st w hr

theorem kS_some {s : Option (List Nat)} (h : (kS s).isSome = true) : ∃ y, keyR s = some y ∧ kV s = y.1 := by
  unfold kS at h
  unfold kV
  cases h1 : keyR s with
  | none => rw [h1] at h; cases h
  | some y => exact ⟨y, rfl, rfl⟩
theorem keyR_none : keyR none = none := rfl
/-- What an instruction is, of its parts. -/
theorem insR_parts {st s1 s2 s3 s4 s5 s6 : Option (List Nat)} (h1 : s1 = cS 255 st) (h2 : s2 = cS 255 s1) (h3 : s3 = cS 255 s2) (h4 : s4 = cS 255 s3) (h5 : s5 = kS s4) (h6 : s6 = kS s5) {x y : Int × Int} (hx : ∀ q, keyR s4 = some q → q.1 = x) (hy : ∀ q, keyR s5 = some q → q.1 = y) :
    (insR st).map (·.2) = gS s6 ∧ ∀ q, insR st = some q → q.1 = ⟨cV 255 st, cV 255 s1, cV 255 s2, cV 255 s3, x.1, x.2, y.1, y.2, gV s6⟩ := by
  have e : insR st = (sgnR s6).map fun q => (⟨cV 255 st, cV 255 s1, cV 255 s2, cV 255 s3, (kV s4).1, (kV s4).2, (kV s5).1, (kV s5).2, q.1⟩, q.2) := by
    rw [h6, h5, h4, h3, h2, h1]
    rfl
  refine ⟨by rw [e, Option.map_map]; rfl, fun q hq => ?_⟩
  rw [e] at hq
  cases h7 : sgnR s6 with
  | none => rw [h7] at hq; cases hq
  | some z =>
    rw [h7] at hq
    simp only [Option.map_some, Option.some.injEq] at hq
    have n6 : s6.isSome = true := by
      cases s6 with
      | none => cases h7
      | some _ => rfl
    rw [h6] at n6
    obtain ⟨y5, g1, g2⟩ := kS_some n6
    have n5 : s5.isSome = true := by
      cases s5 with
      | none => rw [keyR_none] at g1; cases g1
      | some _ => rfl
    rw [h5] at n5
    obtain ⟨y4, g3, g4⟩ := kS_some n5
    rw [← hq, g2, g4, hx y4 g3, hy y5 g1, gV, h7]
    rfl

theorem ins_one (i : Ins) : ∀ u ∈ i.cells.toArray.toList, u.oneCell' = true := by
  intro u hu
  simp only [Ins.cells, List.mem_cons, List.not_mem_nil, or_false] at hu
  rcases hu with rfl | rfl | rfl | rfl | rfl | rfl | rfl | rfl | rfl <;> rfl
/-- A program that was read. -/
def GotP (G : Nat → Prop) (w : World) (p : Nat) (st : Option (List Nat)) (e : Ending) (w' : World) : Prop :=
  ∃ A c, e = .returned (.slice A (gotL st).length c) ∧ Sl w' w'.heap.size A ((gotL st).flatMap Ins.cells) ∧ Rdq G w' p (gotS st) ∧ Fr (Only p) w w'
end
end Go.Proofs.Ythincpklokgjhaa
