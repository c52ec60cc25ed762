/- Loads and stores of whole values, in one step of a walk. -/
import Derived.Test.YtkihbjgmmaklaaaLib
import Derived.Test.YtkihbjgmmaklaaaRows
import Derived.Laws.Tables
import Derived.Deep.WholeRow
import Derived.WalkKit
import Derived.CallsIn
namespace Go.Proofs.Ytkihbjgmmaklaaa
open Go.RowKit

theorem bk_row12 {w : World} {g : Nat} {t : TypeId} {cs : Array Value} (h : Bk w g t cs) (ds : Array Value) : Bk (w.setRow g ds) g t ds := setRow_heap w g cs ds t (0, 0) h
theorem fr_row12 {S : Nat → Prop} {a w : World} (h : Fr S a w) {g : Nat} (hg : S g ∨ a.heap.size ≤ g) (cs : Array Value) : Fr S a (w.setRow g cs) := by
  refine ⟨h.same, by simpa using h.size, fun i hi hn => ?_⟩
  have hne : i ≠ g := by
    rintro rfl
    rcases hg with hg | hg
    · exact hn hg
    · omega
  rw [setRow_other w g i cs hne, h.block i hi hn]
/-- A whole value is loaded, is stored. -/
def LdO (w : World) (T : TypeId) (ad : Addr) (v : Value) : Prop := (loadVar T ad).run Try.prog w = .ok v w
def StO (w : World) (T : TypeId) (ad : Addr) (v : Value) (w' : World) : Prop := (storeVar T ad v).run Try.prog w = .ok () w'
section
variable {F : Fence} {n : Nat} {dst : Option Tmp} {x y : Operand} {T ty : TypeId} {pos : String} {after : Array Edge} {a : Act} {w w' : World} {K : Act → World → Prop} {Q : Exit → Act → World → Prop} {ad : Addr} {v : Value}
theorem exec_ld {g : Option (Tmp × Bool)} (hg : a.eval x = .pointer (some ad)) (h : LdO w T ad v) : (execOp a.eval { dst := dst, op := .load T x, type := ty, pos := pos, after := after, guard := g }).run Try.prog w = .ok (.value v) w := by
  unfold execOp
  have h2 : (loadVar T ad).run Try.prog w = .ok v w := h
  simp only [hg, Instr.loadAt, Instr.sureAddr, Sem.run_bind, Sem.run_pure, Result.andThen_ok, h2]
theorem wp_ld (hg : a.eval x = .pointer (some ad)) (h : LdO w T ad v) (hk : K (a.put dst v) w) : Oper.wp Try.prog { dst := dst, op := .load T x, type := ty, pos := pos, after := after, guard := none } a w K Q := by
  unfold Oper.wp
  rw [exec_ld hg h]
  exact hk
theorem wpIn_ld (hg : a.eval x = .pointer (some ad)) (h : LdO w T ad v) (hk : K (a.put dst v) w) : Oper.wpIn F n Try.prog { dst := dst, op := .load T x, type := ty, pos := pos, after := after, guard := none } a w K Q := by
  refine ⟨fun f hf => (by cases hf), ?_⟩
  have : ({ dst := dst, op := .load T x, type := ty, pos := pos, after := after, guard := none } : Oper).semAt F.round a.eval = execOp a.eval { dst := dst, op := .load T x, type := ty, pos := pos, after := after, guard := none } := by
    cases F.round <;> rfl
  rw [this, exec_ld hg h]
  exact hk
theorem exec_st {g : Option (Tmp × Bool)} (hg : a.eval x = .pointer (some ad)) (hv : a.eval y = v) (h : StO w T ad v w') : (execOp a.eval { dst := dst, op := .store T x y, type := ty, pos := pos, after := after, guard := g }).run Try.prog w = .ok .skip w' := by
  unfold execOp
  have h2 : (storeVar T ad v).run Try.prog w = .ok () w' := h
  simp only [hg, hv, Instr.storeAt, Instr.sureAddr, Sem.run_bind, Sem.run_pure, Result.andThen_ok, h2]
theorem wp_st (hg : a.eval x = .pointer (some ad)) (hv : a.eval y = v) (h : StO w T ad v w') (hk : K (a.put dst undef) w') : Oper.wp Try.prog { dst := dst, op := .store T x y, type := ty, pos := pos, after := after, guard := none } a w K Q := by
  unfold Oper.wp
  rw [exec_st hg hv h]
  exact hk
theorem wpIn_st (hg : a.eval x = .pointer (some ad)) (hv : a.eval y = v) (h : StO w T ad v w') (hk : K (a.put dst undef) w') : Oper.wpIn F n Try.prog { dst := dst, op := .store T x y, type := ty, pos := pos, after := after, guard := none } a w K Q := by
  refine ⟨fun f hf => (by cases hf), ?_⟩
  have : ({ dst := dst, op := .store T x y, type := ty, pos := pos, after := after, guard := none } : Oper).semAt F.round a.eval = execOp a.eval { dst := dst, op := .store T x y, type := ty, pos := pos, after := after, guard := none } := by
    cases F.round <;> rfl
  rw [this, exec_st hg hv h]
  exact hk
theorem wpl_ld {ops : Array Oper} {rest : List Oper} {g : Option (Tmp × Bool)} (hn : g = none) (hg : a.eval x = .pointer (some ad)) (h : LdO w T ad v) (hk : wpList Try.prog ops Q rest (a.put dst v) w) : wpList Try.prog ops Q ({ dst := dst, op := .load T x, type := ty, pos := pos, after := after, guard := g } :: rest) a w := by
  subst hn
  exact wpList_plain rfl (fun K hK => wp_ld hg h (hK _ _ hk))
theorem wplIn_ld {ops : Array Oper} {rest : List Oper} {g : Option (Tmp × Bool)} (hn : g = none) (hg : a.eval x = .pointer (some ad)) (h : LdO w T ad v) (hk : wpListIn F n Try.prog ops Q rest (a.put dst v) w) : wpListIn F n Try.prog ops Q ({ dst := dst, op := .load T x, type := ty, pos := pos, after := after, guard := g } :: rest) a w := by
  subst hn
  exact wpListIn_plain rfl (fun K hK => wpIn_ld hg h (hK _ _ hk))
theorem wpl_ldg {ops : Array Oper} {rest : List Oper} {g : Option (Tmp × Bool)} (hw : Region.wanted { dst := dst, op := .load T x, type := ty, pos := pos, after := after, guard := g } (yielded ops a.tmps) = true) (hg : a.eval x = .pointer (some ad)) (h : LdO w T ad v) (hk : wpList Try.prog ops Q rest (a.put dst v) w) : wpList Try.prog ops Q ({ dst := dst, op := .load T x, type := ty, pos := pos, after := after, guard := g } :: rest) a w := by
  refine wpList_step (fun K hK => ?_)
  rw [if_pos hw]
  unfold Oper.wp
  rw [exec_ld hg h]
  exact hK _ _ hk
theorem wpl_st {ops : Array Oper} {rest : List Oper} {g : Option (Tmp × Bool)} (hn : g = none) (hg : a.eval x = .pointer (some ad)) (hv : a.eval y = v) (h : StO w T ad v w') (hk : wpList Try.prog ops Q rest (a.put dst undef) w') : wpList Try.prog ops Q ({ dst := dst, op := .store T x y, type := ty, pos := pos, after := after, guard := g } :: rest) a w := by
  subst hn
  exact wpList_plain rfl (fun K hK => wp_st hg hv h (hK _ _ hk))
theorem wplIn_st {ops : Array Oper} {rest : List Oper} {g : Option (Tmp × Bool)} (hn : g = none) (hg : a.eval x = .pointer (some ad)) (hv : a.eval y = v) (h : StO w T ad v w') (hk : wpListIn F n Try.prog ops Q rest (a.put dst undef) w') : wpListIn F n Try.prog ops Q ({ dst := dst, op := .store T x y, type := ty, pos := pos, after := after, guard := g } :: rest) a w := by
  subst hn
  exact wpListIn_plain rfl (fun K hK => wpIn_st hg hv h (hK _ _ hk))
end
theorem cell_result {fn : Func} {i : Nat} {T : TypeId} (hfn : fn.results = #[.cell i T]) {tmps : Array Value} {W : World} {ad : Addr} {v : Value} (h : LdO W T ad v) (h1 : tmps.getD i undef = .pointer (some ad)) : (results fn tmps).run Try.prog W = .ok v W := by
  have e1 : tmps[i]?.getD undef = .pointer (some ad) := by simpa using h1
  have h2 : (loadVar T ad).run Try.prog W = .ok v W := h
  unfold results
  rw [hfn]
  simp [e1, asAddr, h2]
end Go.Proofs.Ytkihbjgmmaklaaa
