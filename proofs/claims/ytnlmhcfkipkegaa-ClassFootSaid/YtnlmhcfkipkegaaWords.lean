/- Rows of words and of bytes: appends of one, and of several, as steps of the walk; what is read of them. -/
import Derived.Test.YtnlmhcfkipkegaaRows
import Derived.Test.YtnlmhcfkipkegaaLib2
import Derived.StillTailTactics
import Derived.Deep.OwnRows
import Derived.Deep.RegionHeld3
namespace Go.Proofs.Ytnlmhcfkipkegaa
open Go.RowKit

theorem info43 : (Try.prog.info? 57).map (fun i => (i.zero, i.size, i.bytes)) = some (some (.int .u64 0), 1, 8) := by kernel_rfl

/-- A word behind what is owned, as one step of the walk. -/
theorem append_word {w : World} {ops : Array Oper} {rest : List Oper} {o : Oper} {a : Act} {Q : Exit → Act → World → Prop} (hgd : o.guard = none) (s x : Operand)
    (ho : o.op = .call { callee := .builtin .append, args := #[s, x], argTypes := #[22, 22] })
    (base : Nat) (A : Option Addr) (n c : Nat) (xs : List Nat) (u : Nat) (U : Int) (hU : U = u) (hs : a.eval s = .slice A n c) (H : Nat) (hH : w.heap.size = H) (hx : a.eval x = .slice (some ⟨H, 0, none⟩) 1 1) (hown : w.ownsRow base 57 1 (.slice A n c) n (u64s xs))
    (hlen : n + 1 ≤ 1099511627776) (hbase : base ≤ w.heap.size)
    (h : ∀ A' c' w', w'.ownsRow base 57 1 (.slice A' (n + 1) c') (n + 1) (u64s (xs ++ [u])) → Fr (fun k => (Value.slice A n c).ownBlock = some k) w w' →
      ((Value.slice A' (n + 1) c').ownBlock = (Value.slice A n c).ownBlock ∨ ∃ k, (Value.slice A' (n + 1) c').ownBlock = some k ∧ w.heap.size ≤ k) → wpList Try.prog ops Q rest (a.put o.dst (.slice A' (n + 1) c')) w') :
    wpList Try.prog ops Q (o :: rest) a (w.alloc (.cells #[.int .u64 U] 57)) := by
  subst hU
  refine wpList_append_one hgd s x _ ho base 57 _ 8 Try.underlying22 info43 rfl (.slice A n c) n (u64s xs) (.int .u64 u) rfl hs H hH hx hown (by unfold maxLen; omega) (by omega) hbase ?_
  intro A' c' w' q1 q2 q3
  rw [u64s_app] at h
  exact h A' c' w' q1 q2 q3

/-- The words of a list behind what is owned, as one step of the walk. -/
theorem append_words {w : World} {ops : Array Oper} {rest : List Oper} {o : Oper} {a : Act} {Q : Exit → Act → World → Prop} (hgd : o.guard = none) (s x : Operand)
    (ho : o.op = .call { callee := .builtin .append, args := #[s, x], argTypes := #[22, 22] })
    (base : Nat) (A : Option Addr) (n c : Nat) (xs : List Nat) (hs : a.eval s = .slice A n c) (B : Nat) (A2 : Option Addr) (m c2 : Nat) (ys : List Nat) (hx : a.eval x = .slice A2 m c2) (hm : ys.length = m) (hr : Sl w B A2 (u64s ys))
    (hown : w.ownsRow base 57 1 (.slice A n c) n (u64s xs)) (hlen : n + m ≤ 1099511627776) (hbase : base ≤ w.heap.size)
    (h : ∀ A' c' w', w'.ownsRow base 57 1 (.slice A' (n + m) c') (n + m) (u64s (xs ++ ys)) → Fr (fun k => (Value.slice A n c).ownBlock = some k) w w' →
      ((Value.slice A' (n + m) c').ownBlock = (Value.slice A n c).ownBlock ∨ ∃ k, (Value.slice A' (n + m) c').ownBlock = some k ∧ w.heap.size ≤ k) → wpList Try.prog ops Q rest (a.put o.dst (.slice A' (n + m) c')) w') :
    wpList Try.prog ops Q (o :: rest) a w := by
  obtain ⟨i, hi, hz, hz1, hz2⟩ := info_parts info43
  refine wpList_append_src _ hgd s x _ ho base 57 i _ 1 8 Try.underlying22 hi hz hz1 hz2 rfl (by omega) (.slice A n c) n (u64s xs) hs hown B A2 m c2 (u64s ys) hx (by simp [u64s, hm]) hr (u64s_one ys) (by unfold maxLen; omega) (by omega) hbase ?_
  intro v' w' q1 q2 q3
  obtain ⟨A', c', rfl, -, -, -⟩ := own_shape q1
  rw [u64s_app] at h
  refine h A' c' w' q1 ((Fr.refl _ w).grown q2 (fun k hk => .inl hk)) ?_
  rcases q3 with q3 | q3
  · exact .inl q3
  · exact .inr ⟨_, q3, Nat.le_refl _⟩

/-- The same as one step of a region that draws its order. -/
theorem step_words {w : World} {ops : Array Oper} {o : Oper} {a : Act} {K : Act → World → Prop} {Q : Exit → Act → World → Prop} {E : Prop} (hgd : o.guard = none) (s x : Operand)
    (ho : o.op = .call { callee := .builtin .append, args := #[s, x], argTypes := #[22, 22] })
    (base : Nat) (A : Option Addr) (n c : Nat) (xs : List Nat) (hs : a.eval s = .slice A n c) (B : Nat) (A2 : Option Addr) (m c2 : Nat) (ys : List Nat) (hx : a.eval x = .slice A2 m c2) (hm : ys.length = m) (hr : Sl w B A2 (u64s ys))
    (hown : w.ownsRow base 57 1 (.slice A n c) n (u64s xs)) (hlen : n + m ≤ 1099511627776) (hbase : base ≤ w.heap.size)
    (h : ∀ A' c' w', w'.ownsRow base 57 1 (.slice A' (n + m) c') (n + m) (u64s (xs ++ ys)) → Fr (fun k => (Value.slice A n c).ownBlock = some k) w w' →
      ((Value.slice A' (n + m) c').ownBlock = (Value.slice A n c).ownBlock ∨ ∃ k, (Value.slice A' (n + m) c').ownBlock = some k ∧ w.heap.size ≤ k) → K (a.put o.dst (.slice A' (n + m) c')) w') :
    if Region.wanted o (yielded ops a.tmps) = true then Oper.wp Try.prog o a w K Q else E := by
  obtain ⟨i, hi, hz, hz1, hz2⟩ := info_parts info43
  refine step_append_src _ hgd s x _ ho base 57 i _ 1 8 Try.underlying22 hi hz hz1 hz2 rfl (by omega) (.slice A n c) n (u64s xs) hs hown B A2 m c2 (u64s ys) hx (by simp [u64s, hm]) hr (u64s_one ys) (by unfold maxLen; omega) (by omega) hbase ?_
  intro v' w' q1 q2 q3
  obtain ⟨A', c', rfl, -, -, -⟩ := own_shape q1
  rw [u64s_app] at h
  refine h A' c' w' q1 ((Fr.refl _ w).grown q2 (fun k hk => .inl hk)) ?_
  rcases q3 with q3 | q3
  · exact .inl q3
  · exact .inr ⟨_, q3, Nat.le_refl _⟩
theorem sl_word {w : World} (u : Nat) (U : Int) (hU : U = u) (H : Nat) (hH : H = w.heap.size) : Sl (w.alloc (.cells #[.int .u64 U] 57)) (H + 1) (some ⟨H, 0, none⟩) (u64s [u]) := by
  subst hU hH
  intro _
  refine ⟨_, rfl, by simp, fun j y hy => ?_⟩
  match j, hy with
  | 0, hy =>
    simp [u64s] at hy
    subst hy
    exact (Bk.made w 57 #[.int .u64 u]).cell 0


/-- A new list of words. -/
def NewL (w : World) (zs : List Nat) (e : Ending) (w' : World) : Prop :=
  ∃ A c, e = .returned (.slice A zs.length c) ∧ w'.ownsRow w.heap.size 57 1 (.slice A zs.length c) zs.length (u64s zs) ∧ Fr No w w'

end Go.Proofs.Ytnlmhcfkipkegaa
/- Rows of bytes: appends of one, and of several, as steps of the walk; what is read of them. -/
namespace Go.Proofs.Ytnlmhcfkipkegaa
open Go.RowKit

theorem info5 : (Try.prog.info? 5).map (fun i => (i.zero, i.size, i.bytes)) = some (some (.int .u8 0), 1, 1) := by kernel_rfl

/-- A byte behind what is owned, as one step of the walk. -/
theorem append_byte {w : World} {ops : Array Oper} {rest : List Oper} {o : Oper} {a : Act} {Q : Exit → Act → World → Prop} (hgd : o.guard = none) (s x : Operand)
    (ho : o.op = .call { callee := .builtin .append, args := #[s, x], argTypes := #[120, 120] })
    (base : Nat) (A : Option Addr) (n c : Nat) (xs : List Nat) (u : Nat) (U : Int) (hU : U = u) (hs : a.eval s = .slice A n c) (H : Nat) (hH : w.heap.size = H) (hx : a.eval x = .slice (some ⟨H, 0, none⟩) 1 1) (hown : w.ownsRow base 5 1 (.slice A n c) n (u8s xs))
    (hlen : n + 1 ≤ 1099511627776) (hbase : base ≤ w.heap.size)
    (h : ∀ A' c' w', w'.ownsRow base 5 1 (.slice A' (n + 1) c') (n + 1) (u8s (xs ++ [u])) → Fr (fun k => (Value.slice A n c).ownBlock = some k) w w' →
      ((Value.slice A' (n + 1) c').ownBlock = (Value.slice A n c).ownBlock ∨ ∃ k, (Value.slice A' (n + 1) c').ownBlock = some k ∧ w.heap.size ≤ k) → wpList Try.prog ops Q rest (a.put o.dst (.slice A' (n + 1) c')) w') :
    wpList Try.prog ops Q (o :: rest) a (w.alloc (.cells #[.int .u8 U] 5)) := by
  subst hU
  refine wpList_append_one hgd s x _ ho base 5 _ 1 Try.underlying120 info5 rfl (.slice A n c) n (u8s xs) (.int .u8 u) rfl hs H hH hx hown (by unfold maxLen; omega) (by omega) hbase ?_
  intro A' c' w' q1 q2 q3
  rw [u8s_app] at h
  exact h A' c' w' q1 q2 q3

end Go.Proofs.Ytnlmhcfkipkegaa
