/- The law 'KeysSame'. -/
import Derived.Test.YthnpgepniiicaaaLaw4
import Derived.Test.YthnpgepniiicaaaArr8
import Derived.Deep.RegionWith
import Derived.Deep.CutRange
namespace Go.Proofs.Ythnpgepniiicaaa
open Go.RowKit

section
variable {P : Program}
theorem run_eqItems_flags {e : TypeId} (he : P.underlying e = some .bool) (s t : Nat → Bool) (n : Nat) (w : World) :
    ∀ is : List Nat, (∀ i ∈ is, i < n) → (Op.eqItems 9999 e 1 (flags n s) (flags n t) is).run P w = .ok (is.all fun i => s i == t i) w := by
  intro is
  induction is with
  | nil => intro _; rfl
  | cons i r ih =>
    intro hi
    have hin : i < n := hi i (by simp)
    have px : ∀ f : Nat → Bool, (part e (flags n f) (i * 1)).run P w = .ok (.bool (f i)) w := fun f => by
      have h := flags_at n f i hin
      rw [← Nat.mul_one i] at h
      simp only [part, isAgg, Sem.run_bind, run_underlying he, Result.andThen_ok]
      simp [-Nat.mul_one, h]
      rw [Nat.mul_one]
    have pe : (Op.equalIn 9999 e (.bool (s i)) (.bool (t i))).run P w = .ok (s i == t i) w := by
      exact run_equalIn_bool w 9998 e _ _ he
    simp only [Op.eqItems, Sem.run_bind, px, pe, Result.andThen_ok, List.all_cons]
    cases hb : (s i == t i)
    · rfl
    · simp only [Bool.not_true, Bool.false_eq_true, if_false, Bool.true_and]
      exact ih (fun j hj => hi j (by simp [hj]))
end
def sameB (s t : Nat → Bool) : Bool := (List.range 1000).all fun i => s i == t i
theorem sameB_plain (s t : Nat → Bool) : sameB s t = decide (plainOf s = plainOf t) := by
  rw [Bool.eq_iff_iff, decide_eq_true_eq, plainOf_inj]
  simp [sameB]
theorem eqSet (s t : Nat → Bool) (w : World) : (Op.equalIn 10000 37 (.agg (flags 1000 s)) (.agg (flags 1000 t))).run Try.prog w = .ok (sameB s t) w := by
  obtain ⟨i, hi, -⟩ := Option.map_eq_some_iff.1 (show (Try.prog.info? 4).map (·.size) = some 1 by kernel_rfl)
  rw [run_equalIn_array w 9999 _ _ Try.underlying37 hi, show Try.prog.cellsOf 4 = 1 by kernel_rfl]
  exact run_eqItems_flags Try.underlying4 s t 1000 w _ (fun i hi => by simpa using hi)
/-- The set that lies at g. -/
def setAt (w : World) (g i : Nat) : Bool := match w.cell? ⟨g, i, none⟩ with
  | some (.bool b) => b
  | _ => false
def IsSet (w : World) (g : Nat) : Prop := Bk w g 37 (flags 1000 (setAt w g))
theorem IsSet.at {w : World} {g : Nat} {s : Nat → Bool} (h : Bk w g 37 (flags 1000 s)) {k : Nat} (hk : k < 1000) : setAt w g k = s k := by
  unfold setAt
  rw [h.cell k, flags_at _ _ _ hk]
theorem IsSet.of {w : World} {g : Nat} {s : Nat → Bool} (h : Bk w g 37 (flags 1000 s)) : IsSet w g := by
  unfold IsSet
  rw [flags_congr 1000 (setAt w g) s (fun k hk => IsSet.at h hk)]
  exact h
theorem load_set (w : World) (g : Nat) (h : IsSet w g) : (Instr.loadAt 37 (.pointer (some ⟨g, 0, none⟩))).run Try.prog w = .ok (.agg (flags 1000 (setAt w g))) w := by
  have := run_loadAt_mid (P := Try.prog) w g 0 37 (flags 1000 (setAt w g)).toList (.array 1000 4) (Bk.range h 0 _ (fun j u hu => by rw [Nat.zero_add, ← Array.getElem?_toList]; exact hu)) Try.underlying37 rfl (by rw [Array.length_toList, flags_size]; kernel_rfl)
  rw [Array.toArray_toList] at this
  exact this
/-- A pointer to a set, and its block. -/
def PtrSet (w : World) (v : Value) : Prop := ∃ g, v = .pointer (some ⟨g, 0, none⟩) ∧ IsSet w g
def blkOf (v : Value) : Nat := match v with
  | .pointer (some ad) => ad.block
  | _ => 0
theorem PtrSet.of {w : World} {g : Nat} {s : Nat → Bool} (h : Bk w g 37 (flags 1000 s)) : PtrSet w (.pointer (some ⟨g, 0, none⟩)) := ⟨g, rfl, IsSet.of h⟩
theorem load_bk (w : World) (g : Nat) (s : Nat → Bool) (h : Bk w g 37 (flags 1000 s)) : (Instr.loadAt 37 (.pointer (some ⟨g, 0, none⟩))).run Try.prog w = .ok (.agg (flags 1000 s)) w := by
  have := run_loadAt_mid (P := Try.prog) w g 0 37 (flags 1000 s).toList (.array 1000 4) (Bk.range h 0 _ (fun j u hu => by rw [Nat.zero_add, ← Array.getElem?_toList]; exact hu)) Try.underlying37 rfl (by rw [Array.length_toList, flags_size]; kernel_rfl)
  rw [Array.toArray_toList] at this
  exact this
/-- An operation that loads the whole set. -/
theorem wp_load_bk {dst : Option Tmp} {x : Operand} {ty : TypeId} {pos : String} {after : Array Edge} {a : Act} {w : World} {K : Act → World → Prop} {Q : Exit → Act → World → Prop} (g : Nat) (s : Nat → Bool) (h : Bk w g 37 (flags 1000 s)) (hg : a.eval x = .pointer (some ⟨g, 0, none⟩)) (hk : K (a.put dst (.agg (flags 1000 s))) w) :
    Oper.wp Try.prog { dst := dst, op := .load 37 x, type := ty, pos := pos, after := after, guard := none } a w K Q := by
  unfold Oper.wp execOp
  simp only [hg, Instr.loadAt, Instr.sureAddr, Sem.run_bind, Sem.run_pure, Result.andThen_ok]
  have := load_bk w g s h
  simp only [Instr.loadAt, Instr.sureAddr, Sem.run_bind, Sem.run_pure, Result.andThen_ok] at this
  rw [this]
  exact hk
theorem ite_yes {c A B : Prop} [Decidable c] (h : c) (hA : A) : if c then A else B := by rw [if_pos h]; exact hA
theorem PtrSet.blk {w : World} {g : Nat} : blkOf (.pointer (some ⟨g, 0, none⟩)) = g := rfl
end Go.Proofs.Ythnpgepniiicaaa
