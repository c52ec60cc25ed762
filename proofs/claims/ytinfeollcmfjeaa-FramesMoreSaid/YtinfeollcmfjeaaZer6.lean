/- append(l, make([]uint64, k)...): zeros behind a row of words that is owned. -/
import Derived.Test.YtinfeollcmfjeaaSum6
import Derived.Lib.AppendZerosOnto
import Derived.Laws.CopyRow
namespace Go.Proofs.Ytinfeollcmfjeaa
open Go.RowKit

theorem zero_cells (k : Nat) : (Builtin.zeroCells (Value.int .u64 0).cells k).toList = u64s (List.replicate k 0) := by
  unfold Builtin.zeroCells u64s
  apply List.ext_getElem
  · simp [Value.cells]
  · intro i h1 h2
    simp [Value.cells, Nat.mod_one]

theorem append_zeros {w : World} (ty : TypeId) (base : Nat) (A : Option Addr) (n c k : Nat) (xs : List Nat) (hown : w.ownsRow base 43 1 (.slice A n c) n (u64s xs)) (hlen : n + k ≤ 1099511627776) (hbase : base ≤ w.heap.size) :
    ∃ A' c' w', (Builtin.append_ #[22, 3] ty #[.slice A n c, .int .i64 (k : Int)]).run Try.prog w = .ok (.slice A' (n + k) c') w' ∧ w'.ownsRow base 43 1 (.slice A' (n + k) c') (n + k) (u64s (xs ++ List.replicate k 0)) ∧ Fr (fun j => (Value.slice A n c).ownBlock = some j) w w' := by
  obtain ⟨i, hi, hz, hz1, hz2⟩ := info_parts info43
  have ht := Try.underlying22
  have htn := Try.underlying3
  have hw : IntKind.i64.wrap (k : Int) = k := by rw [IntKind.wrap_i64]; omega
  have hneg : ¬ ((k : Int) < 0) := by omega
  have h48 : ¬ (281474976710656 < (k : Int) * (8 : Int)) := by omega
  obtain ⟨A3, c3, hv3, hnc, hcm, -⟩ := own_shape hown
  simp only [Value.slice.injEq] at hv3
  obtain ⟨-, -, rfl⟩ := hv3
  by_cases hk : k = 0
  · subst hk
    refine ⟨A, c, w, ?_, by simpa using hown, Fr.refl _ _⟩
    cases A with
    | none => simp [Builtin.append_, run_underlying ht, run_underlying htn, sizeOf, typeInfo, hi, hz2, asInt, asIntOf, hnc, IntKind.wrap_i64]
    | some a => simp [Builtin.append_, run_underlying ht, run_underlying htn, sizeOf, typeInfo, hi, hz2, asInt, asIntOf, hnc, storeCells, IntKind.wrap_i64]
  · have hl1 : (u64s xs).length = n := by have := hown.1; simpa using this
    have hx1 : xs.length = n := by rw [← hl1, u64s_len]
    have hzl : (u64s (List.replicate k 0)).length = k := by simp [u64s]
    have hrow : u64s (xs ++ List.replicate k 0) = u64s xs ++ u64s (List.replicate k 0) := u64s_app _ _
    by_cases hroom : n + k ≤ c
    · rcases hown.2 with ⟨hv, h0⟩ | ⟨g, cap, cur, hv, hbg, hg, hnc', hcm', hcs, htake⟩
      · simp only [Value.slice.injEq] at hv
        omega
      · simp only [Value.slice.injEq] at hv
        obtain ⟨rfl, -, rfl⟩ := hv
        rw [Nat.mul_one] at hcs htake
        have hst := run_storeCells_at (P := Try.prog) g n 43 (u64s (List.replicate k 0)) 0 cur w hg (by rw [hzl, hcs]; omega) (u64s_one _)
        have e1 : (⟨g, 0, none⟩ : Addr).add n = ⟨g, n, none⟩ := by cases n <;> simp [Addr.add]
        obtain ⟨R, hR⟩ : ∃ R, R = (cur.toList.take (n + 0) ++ u64s (List.replicate k 0) ++ cur.toList.drop (n + 0 + (u64s (List.replicate k 0)).length)).toArray := ⟨_, rfl⟩
        rw [← hR, ← zero_cells] at hst
        refine ⟨some ⟨g, 0, none⟩, c, w.setRow g R, ?_, ⟨?_, .inr ⟨g, c, R, rfl, hbg, setRow_heap w g cur R _ (0, 0) hg, hroom, hcm, ?_, ?_⟩⟩, (Fr.refl _ w).setRow (.inl (by simp [Value.ownBlock])) R⟩
        · simp [Builtin.append_, run_underlying ht, run_underlying htn, sizeOf, typeInfo, zeroValue, hi, hz, hz1, hz2, asInt, asIntOf, hw, hneg, h48, hk, hroom, e1, hst]
        · rw [u64s_len, List.length_append, List.length_replicate, hx1, Nat.mul_one]
        · rw [hR]
          simp only [List.size_toArray, List.length_append, List.length_take, List.length_drop, Array.length_toList, hzl, Nat.add_zero, Nat.mul_one]
          omega
        · rw [hR, hrow, Nat.mul_one, Nat.add_zero, htake]
          have : n + k = (u64s xs ++ u64s (List.replicate k 0)).length := by rw [List.length_append, hl1, hzl]
          rw [this]
          exact List.take_left
    · have hold : (Builtin.firstCells i.size n (.slice A n c)).run Try.prog w.drew = .ok (u64s xs).toArray w.drew := by
        cases A with
        | none =>
          rcases hown.2 with ⟨hv, h0⟩ | ⟨g, cap, cur, hv, _⟩
          · subst h0
            have : u64s xs = [] := List.eq_nil_of_length_eq_zero hl1
            rw [this]
            exact run_firstCells_none _ _ _ _ _
          · cases hv
        | some a =>
          refine run_firstCells_some (P := Try.prog) w.drew i.size n a n c (u64s xs) (by rw [hz1, Nat.mul_one]; exact hl1) (fun j u hu => ?_)
          obtain ⟨ad, e, -, hc⟩ := Sl.ofOwn hown (by intro e; rw [e] at hu; simp at hu)
          injection e with e
          subst e
          exact hc j u hu
      have hfit : Builtin.nextslicecap (n + k) c * i.bytes ≤ 281474976710656 := by rw [hz2]; exact growslice_fits (by omega) (by omega)
      have hr := Lib.run_append_grow_zeros (P := Try.prog) w 22 3 ty 43 i (.int .u64 0) .i64 .i64 ht htn hi hz A n c (u64s xs) hold k (by omega) (by omega) (by omega) (by omega) (by rw [hz2]; omega) hfit
      have hge := grownCap_ge w (n + k) c 43
      have hcm2 : grownCap w (n + k) c 43 ≤ maxLen := grownCap_le_maxLen w (n + k) c 43 (by unfold maxLen; omega)
      refine ⟨_, _, _, hr, ⟨?_, .inr ⟨w.heap.size, _, _, rfl, hbase, heap_alloc_new w.drew _, hge, hcm2, ?_, ?_⟩⟩, ((Fr.refl _ w).drew).alloc _⟩
      · rw [u64s_len, List.length_append, List.length_replicate, hx1, Nat.mul_one]
      · have hz0 : (Value.int IntKind.u64 0).cells.size = 1 := rfl
        simp only [Array.size_append, List.size_toArray, size_zeroCells, hz0, hl1, Nat.mul_one]
        omega
      · simp only [Array.toList_append, zero_cells, Nat.mul_one]
        rw [hrow, List.append_assoc]
        have : n + k = (u64s xs ++ u64s (List.replicate k 0)).length := by rw [List.length_append, hl1, hzl]
        rw [this, ← List.append_assoc]
        exact List.take_left

/-- The same as one step of the walk. -/
theorem app_zeros {w : World} {ops : Array Oper} {rest : List Oper} {o : Oper} {a : Act} {Q : Exit → Act → World → Prop} (hgd : o.guard = none) (s x : Operand)
    (ho : o.op = .call { callee := .builtin .append, args := #[s, x], argTypes := #[22, 3] })
    (base : Nat) (A : Option Addr) (n c k : Nat) (xs : List Nat) (hs : a.eval s = .slice A n c) (hx : a.eval x = .int .i64 (k : Int)) (hown : w.ownsRow base 43 1 (.slice A n c) n (u64s xs)) (hlen : n + k ≤ 1099511627776) (hbase : base ≤ w.heap.size)
    (h : ∀ A' c' w', w'.ownsRow base 43 1 (.slice A' (n + k) c') (n + k) (u64s (xs ++ List.replicate k 0)) → Fr (fun j => (Value.slice A n c).ownBlock = some j) w w' → wpList Try.prog ops Q rest (a.put o.dst (.slice A' (n + k) c')) w') :
    wpList Try.prog ops Q (o :: rest) a w := by
  obtain ⟨A', c', w', q1, q2, q3⟩ := append_zeros o.type base A n c k xs hown hlen hbase
  exact Lib.wpList_append_run w hgd s x _ _ ho _ _ hs hx _ w' q1 (h A' c' w' q2 q3)
end Go.Proofs.Ytinfeollcmfjeaa
