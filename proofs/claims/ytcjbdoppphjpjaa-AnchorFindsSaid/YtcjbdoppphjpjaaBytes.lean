/- Rows of bytes: appends of one, and of several, as steps of the walk; what is read of them. -/
import Derived.Test.YtcjbdoppphjpjaaRows
import Derived.Test.YtcjbdoppphjpjaaLib2
import Derived.StillTailTactics
import Derived.Deep.OwnRows
import Derived.Deep.RegionHeld3
namespace Go.Proofs.Ytcjbdoppphjpjaa
open Go.RowKit

theorem info5 : (Try.prog.info? 5).map (fun i => (i.zero, i.size, i.bytes)) = some (some (.int .u8 0), 1, 1) := by kernel_rfl

/-- A byte behind what is owned, as one step of the walk. -/
theorem append_byte {w : World} {ops : Array Oper} {rest : List Oper} {o : Oper} {a : Act} {Q : Exit → Act → World → Prop} (hgd : o.guard = none) (s x : Operand)
    (ho : o.op = .call { callee := .builtin .append, args := #[s, x], argTypes := #[42, 42] })
    (base : Nat) (A : Option Addr) (n c : Nat) (xs : List Nat) (u : Nat) (U : Int) (hU : U = u) (hs : a.eval s = .slice A n c) (H : Nat) (hH : w.heap.size = H) (hx : a.eval x = .slice (some ⟨H, 0, none⟩) 1 1) (hown : w.ownsRow base 5 1 (.slice A n c) n (u8s xs))
    (hlen : n + 1 ≤ 1099511627776) (hbase : base ≤ w.heap.size)
    (h : ∀ A' c' w', w'.ownsRow base 5 1 (.slice A' (n + 1) c') (n + 1) (u8s (xs ++ [u])) → Fr (fun k => (Value.slice A n c).ownBlock = some k) w w' →
      ((Value.slice A' (n + 1) c').ownBlock = (Value.slice A n c).ownBlock ∨ ∃ k, (Value.slice A' (n + 1) c').ownBlock = some k ∧ w.heap.size ≤ k) → wpList Try.prog ops Q rest (a.put o.dst (.slice A' (n + 1) c')) w') :
    wpList Try.prog ops Q (o :: rest) a (w.alloc (.cells #[.int .u8 U] 5)) := by
  subst hU
  refine wpList_append_one hgd s x _ ho base 5 _ 1 Try.underlying42 info5 rfl (.slice A n c) n (u8s xs) (.int .u8 u) rfl hs H hH hx hown (by unfold maxLen; omega) (by omega) hbase ?_
  intro A' c' w' q1 q2 q3
  rw [u8s_app] at h
  exact h A' c' w' q1 q2 q3

end Go.Proofs.Ytcjbdoppphjpjaa
