/- The law: an open catalogue has all that any of the same classes has, a closed one none of them. -/
import Derived.Test.YtkihbjgmmaklaaaAlv12
import Derived.Test.YtkihbjgmmaklaaaRmy12
import Derived.Test.YtkihbjgmmaklaaaRsm12
import Derived.Test.YtkihbjgmmaklaaaRead12
import Derived.Deep.CutRange
namespace Go.Proofs.Ytkihbjgmmaklaaa
open Go.RowKit

/-- What an open, a closed catalogue is told as. -/
def CopR (w : World) (p : PCt) (v : Value) (w' : World) : Prop := ∃ y : Ctl, v = y.agg ∧ y.p = p ∧ (∀ V, Fr (fun i => i < w.heap.size) w' V → Clss V y.cA y.cls) ∧ Fr No w w'
theorem copR {w : World} {f : Nat} {args : Array Value} {p : PCt} (h : Calls Try.prog f args w (CopW w p)) : Calls Try.prog f args w (fun e w' => ∃ v, e = .returned v ∧ CopR w p v w') := h.mono (fun e w' h => by
  obtain ⟨y, rfl, h⟩ := h
  exact ⟨_, rfl, y, rfl, h⟩)
theorem exec_alloc_cat (ρ : Operand → Value) (W : World) {dst : Option Tmp} {ty : TypeId} {pos : String} {after : Array Edge} {g : Option (Tmp × Bool)} : (execOp ρ { dst := dst, op := .alloc 26, type := ty, pos := pos, after := after, guard := g }).run Try.prog W = .ok (.value (.pointer (some ⟨W.heap.size, 0, none⟩))) (W.alloc (.cells (brA (.slice none 0 0) fun _ => 0) 26)) := by kernel_rfl
/-- The open one and the closed one, in boxes of their own. -/
structure AB12 (Z : Array Value) (w wx : World) (p : PCt) (P9 P10 : Nat) (a b : Ctl) : Prop where
  ap : a.p = p.opened
  bp : b.p = p.closed
  ac : Clss wx a.cA a.cls
  bc : Clss wx b.cA b.cls
  ba : Bk wx P9 26 a.arr
  bb : Bk wx P10 26 b.arr
  fr : Fr No w wx
  ld : ∀ V, Fr No wx V → LdO V 26 ⟨w.heap.size, 0, none⟩ (.agg Z) ∧ LdO V 26 ⟨P9, 0, none⟩ a.agg ∧ LdO V 26 ⟨P10, 0, none⟩ b.agg
theorem cat_apart {W : World} {P H : Nat} (h : P ≥ W.heap.size) (hH : H < W.heap.size) : ¬ P = H := by omega

end Go.Proofs.Ytkihbjgmmaklaaa
