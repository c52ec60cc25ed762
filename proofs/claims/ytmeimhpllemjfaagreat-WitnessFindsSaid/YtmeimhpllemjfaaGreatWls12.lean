/- Loads and stores of whole values, in one step of a walk. -/
import Derived.Test.YtmeimhpllemjfaaGreatLib
import Derived.Test.YtmeimhpllemjfaaGreatRows
import Derived.Laws.Tables
import Derived.Deep.WholeRow
import Derived.WalkKit
import Derived.CallsIn
import Derived.Test.YtmeimhpllemjfaaGreatCtp12
namespace Go.Proofs.YtmeimhpllemjfaaGreat
open Go.RowKit

theorem bk_row12 {w : World} {g : Nat} {t : TypeId} {cs : Array Value} (h : Bk w g t cs) (ds : Array Value) : Bk (w.setRow g ds) g t ds := setRow_heap w g cs ds t (0, 0) h
theorem fr_row12 {S : Nat → Prop} {a w : World} (h : Fr S a w) {g : Nat} (hg : S g ∨ a.heap.size ≤ g) (cs : Array Value) : Fr S a (w.setRow g cs) := by
 refine ⟨h.same, by simpa using h.size, fun i hi hn => ?_⟩
 have hne : i ≠ g := by
  rintro rfl
  rcases hg with hg | hg
  ·exact hn hg
  ·omega
 rw [setRow_other w g i cs hne, h.block i hi hn]
def LdO (w : World) (T : TypeId) (ad : Addr) (v : Value) : Prop := (loadVar T ad).run Tryz.prog w = .ok v w
def StO (w : World) (T : TypeId) (ad : Addr) (v : Value) (w' : World) : Prop := (storeVar T ad v).run Tryz.prog w = .ok () w'
section
variable {F : Fence} {n : Nat} {dst : Option Tmp} {x y : Operand} {T ty : TypeId} {pos : String} {after : Array Edge} {a : Act} {w w' : World} {K : Act → World → Prop} {Q : Exit → Act → World → Prop} {ad : Addr} {v : Value}
theorem exec_ld {g : Option (Tmp × Bool)} (hg : a.eval x = .pointer (some ad)) (h : LdO w T ad v) : (execOp a.eval { dst := dst, op := .load T x, type := ty, pos := pos, after := after, guard := g }).run Tryz.prog w = .ok (.value v) w := by
 unfold execOp
 have h2 : (loadVar T ad).run Tryz.prog w = .ok v w := h
 simp only [hg, Instr.loadAt, Instr.sureAddr, Sem.run_bind, Sem.run_pure, Result.andThen_ok, h2]
theorem wp_ld (hg : a.eval x = .pointer (some ad)) (h : LdO w T ad v) (hk : K (a.put dst v) w) : Oper.wp Tryz.prog { dst := dst, op := .load T x, type := ty, pos := pos, after := after, guard := none } a w K Q := by
 unfold Oper.wp
 rw [exec_ld hg h]
 exact hk
theorem wpIn_ld (hg : a.eval x = .pointer (some ad)) (h : LdO w T ad v) (hk : K (a.put dst v) w) : Oper.wpIn F n Tryz.prog { dst := dst, op := .load T x, type := ty, pos := pos, after := after, guard := none } a w K Q := by
 refine ⟨fun f hf => (by cases hf), ?_⟩
 have : ({ dst := dst, op := .load T x, type := ty, pos := pos, after := after, guard := none } : Oper).semAt F.round a.eval = execOp a.eval { dst := dst, op := .load T x, type := ty, pos := pos, after := after, guard := none } := by
  cases F.round <;> rfl
 rw [this, exec_ld hg h]
 exact hk
theorem exec_st {g : Option (Tmp × Bool)} (hg : a.eval x = .pointer (some ad)) (hv : a.eval y = v) (h : StO w T ad v w') : (execOp a.eval { dst := dst, op := .store T x y, type := ty, pos := pos, after := after, guard := g }).run Tryz.prog w = .ok .skip w' := by
 unfold execOp
 have h2 : (storeVar T ad v).run Tryz.prog w = .ok () w' := h
 simp only [hg, hv, Instr.storeAt, Instr.sureAddr, Sem.run_bind, Sem.run_pure, Result.andThen_ok, h2]
theorem wp_st (hg : a.eval x = .pointer (some ad)) (hv : a.eval y = v) (h : StO w T ad v w') (hk : K (a.put dst undef) w') : Oper.wp Tryz.prog { dst := dst, op := .store T x y, type := ty, pos := pos, after := after, guard := none } a w K Q := by
 unfold Oper.wp
 rw [exec_st hg hv h]
 exact hk
theorem wpIn_st (hg : a.eval x = .pointer (some ad)) (hv : a.eval y = v) (h : StO w T ad v w') (hk : K (a.put dst undef) w') : Oper.wpIn F n Tryz.prog { dst := dst, op := .store T x y, type := ty, pos := pos, after := after, guard := none } a w K Q := by
 refine ⟨fun f hf => (by cases hf), ?_⟩
 have : ({ dst := dst, op := .store T x y, type := ty, pos := pos, after := after, guard := none } : Oper).semAt F.round a.eval = execOp a.eval { dst := dst, op := .store T x y, type := ty, pos := pos, after := after, guard := none } := by
  cases F.round <;> rfl
 rw [this, exec_st hg hv h]
 exact hk
theorem wpl_ld {ops : Array Oper} {rest : List Oper} {g : Option (Tmp × Bool)} (hn : g = none) (hg : a.eval x = .pointer (some ad)) (h : LdO w T ad v) (hk : wpList Tryz.prog ops Q rest (a.put dst v) w) : wpList Tryz.prog ops Q ({ dst := dst, op := .load T x, type := ty, pos := pos, after := after, guard := g } :: rest) a w := by
 subst hn
 exact wpList_plain rfl (fun K hK => wp_ld hg h (hK _ _ hk))
theorem wplIn_ld {ops : Array Oper} {rest : List Oper} {g : Option (Tmp × Bool)} (hn : g = none) (hg : a.eval x = .pointer (some ad)) (h : LdO w T ad v) (hk : wpListIn F n Tryz.prog ops Q rest (a.put dst v) w) : wpListIn F n Tryz.prog ops Q ({ dst := dst, op := .load T x, type := ty, pos := pos, after := after, guard := g } :: rest) a w := by
 subst hn
 exact wpListIn_plain rfl (fun K hK => wpIn_ld hg h (hK _ _ hk))
theorem wpl_ldg {ops : Array Oper} {rest : List Oper} {g : Option (Tmp × Bool)} (hw : Region.wanted { dst := dst, op := .load T x, type := ty, pos := pos, after := after, guard := g } (yielded ops a.tmps) = true) (hg : a.eval x = .pointer (some ad)) (h : LdO w T ad v) (hk : wpList Tryz.prog ops Q rest (a.put dst v) w) : wpList Tryz.prog ops Q ({ dst := dst, op := .load T x, type := ty, pos := pos, after := after, guard := g } :: rest) a w := by
 refine wpList_step (fun K hK => ?_)
 rw [if_pos hw]
 unfold Oper.wp
 rw [exec_ld hg h]
 exact hK _ _ hk
theorem wpl_st {ops : Array Oper} {rest : List Oper} {g : Option (Tmp × Bool)} (hn : g = none) (hg : a.eval x = .pointer (some ad)) (hv : a.eval y = v) (h : StO w T ad v w') (hk : wpList Tryz.prog ops Q rest (a.put dst undef) w') : wpList Tryz.prog ops Q ({ dst := dst, op := .store T x y, type := ty, pos := pos, after := after, guard := g } :: rest) a w := by
 subst hn
 exact wpList_plain rfl (fun K hK => wp_st hg hv h (hK _ _ hk))
theorem wplIn_st {ops : Array Oper} {rest : List Oper} {g : Option (Tmp × Bool)} (hn : g = none) (hg : a.eval x = .pointer (some ad)) (hv : a.eval y = v) (h : StO w T ad v w') (hk : wpListIn F n Tryz.prog ops Q rest (a.put dst undef) w') : wpListIn F n Tryz.prog ops Q ({ dst := dst, op := .store T x y, type := ty, pos := pos, after := after, guard := g } :: rest) a w := by
 subst hn
 exact wpListIn_plain rfl (fun K hK => wpIn_st hg hv h (hK _ _ hk))
end
theorem cell_result {fn : Func} {i : Nat} {T : TypeId} (hfn : fn.results = #[.cell i T]) {tmps : Array Value} {W : World} {ad : Addr} {v : Value} (h : LdO W T ad v) (h1 : tmps.getD i undef = .pointer (some ad)) : (results fn tmps).run Tryz.prog W = .ok v W := by
 have e1 : tmps[i]?.getD undef = .pointer (some ad) := by simpa using h1
 have h2 : (loadVar T ad).run Tryz.prog W = .ok v W := h
 unfold results
 rw [hfn]
 simp [e1, asAddr, h2]
end Go.Proofs.YtmeimhpllemjfaaGreat
/- A catalogue that lies there is told as a result. -/
namespace Go.Proofs.YtmeimhpllemjfaaGreat
open Go.RowKit

set_option maxRecDepth 100000 in
set_option maxHeartbeats 4000000 in
theorem loadVar_cat (W : World) (H : Nat) (v : Value) (b : Nat → Int) (h : Bk W H 26 (brA v b)) : (loadVar 26 ⟨H, 0, none⟩).run Tryz.prog W = .ok (.agg (brA v b)) W := by
 have h0 : W.rangeAt H 0 (brA v b).toList := fun j u hu => by
  rw [Nat.zero_add, h.cell, ← Array.getElem?_toList]
  exact hu
 have := run_loadAt_mid (P := Tryz.prog) W H 0 26 (brA v b).toList _ h0 Tryz.underlying26 rfl (by unfold brA; kernel_rfl)
 rw [Array.toArray_toList] at this
 simpa only [Instr.loadAt, Instr.sureAddr, Sem.run_bind, Sem.run_pure, Result.andThen_ok] using this
theorem store_cat {W : World} {H : Nat} {v v' : Value} {b b' : Nat → Int} (h : Bk W H 26 (brA v b)) (hv : v'.oneCell' = true) : (storeCells ⟨H, 0, none⟩ (brA v' b').toList).run Tryz.prog W = .ok () (W.setRow H (brA v' b')) := by
 have := run_storeCells_from (P := Tryz.prog) H _ (brA v' b').toList 0 _ W h (by simp [brA]) (fun u hu => by
  simp [brA] at hu
  rcases hu with rfl | rfl | rfl | rfl | rfl | rfl | rfl | rfl | rfl | rfl | rfl | rfl | rfl | rfl | rfl | rfl | rfl <;> first | exact hv | rfl)
 simpa using this
end Go.Proofs.YtmeimhpllemjfaaGreat
/- Catalogues and breakpoints, loaded and stored whole. -/
namespace Go.Proofs.YtmeimhpllemjfaaGreat
open Go.RowKit

theorem ld_cat {W : World} {H : Nat} {Z : Array Value} {v : Value} {b : Nat → Int} (hZ : Z = brA v b) (h : Bk W H 26 Z) : LdO W 26 ⟨H, 0, none⟩ (.agg Z) := by
 subst hZ
 exact loadVar_cat W H v b h
theorem st_cat {W : World} {H : Nat} {Z Z' : Array Value} {v v' : Value} {b b' : Nat → Int} (hZ : Z = brA v b) (hZ' : Z' = brA v' b') (hv : v'.oneCell' = true) (h : Bk W H 26 Z) : StO W 26 ⟨H, 0, none⟩ (.agg Z') (W.setRow H Z') := by
 subst hZ hZ'
 have h1 : ((Value.agg (brA v' b')).cells).size = 17 := rfl
 have hC : (Tryz.prog.info? 26).map (·.size) = some 17 := by kernel_rfl
 obtain ⟨i, hi, hs⟩ := Option.map_eq_some_iff.1 hC
 have hst := store_cat (v' := v') (b' := b') h hv
 unfold StO storeVar
 simp [sizeOf, typeInfo, hi, hs, h1]
 exact hst
theorem loadVar_br (W : World) (H : Nat) (b : Nat → Int) (h : Bk W H 24 (br16 b)) : (loadVar 24 ⟨H, 0, none⟩).run Tryz.prog W = .ok (.agg (br16 b)) W := by
 have h0 : W.rangeAt H 0 (br16 b).toList := fun j u hu => by
  rw [Nat.zero_add, h.cell, ← Array.getElem?_toList]
  exact hu
 have := run_loadAt_mid (P := Tryz.prog) W H 0 24 (br16 b).toList _ h0 Tryz.underlying24 rfl (by unfold br16; kernel_rfl)
 rw [Array.toArray_toList] at this
 simpa only [Instr.loadAt, Instr.sureAddr, Sem.run_bind, Sem.run_pure, Result.andThen_ok] using this
theorem loadVar_br1 (W : World) (H : Nat) (v : Value) (b : Nat → Int) (h : Bk W H 26 (brA v b)) : (loadVar 24 ⟨H, 1, none⟩).run Tryz.prog W = .ok (.agg (br16 b)) W := by
 have h0 : W.rangeAt H 1 (br16 b).toList := fun j u hu => by
  rw [h.cell]
  rw [← Array.getElem?_toList, ← hu]
  have e : (brA v b).toList = v :: (br16 b).toList := rfl
  rw [e, Nat.add_comm]
  exact List.getElem?_cons_succ
 have := run_loadAt_mid (P := Tryz.prog) W H 1 24 (br16 b).toList _ h0 Tryz.underlying24 rfl (by unfold br16; kernel_rfl)
 rw [Array.toArray_toList] at this
 simpa only [Instr.loadAt, Instr.sureAddr, Sem.run_bind, Sem.run_pure, Result.andThen_ok] using this
theorem ld_br1 {W : World} {H : Nat} {Z : Array Value} {v : Value} {b : Nat → Int} (hZ : Z = brA v b) (h : Bk W H 26 Z) : LdO W 24 ⟨H, 1, none⟩ (.agg (br16 b)) := by
 subst hZ
 exact loadVar_br1 W H v b h
theorem ld_br {W : World} {H : Nat} {b : Nat → Int} (h : Bk W H 24 (br16 b)) : LdO W 24 ⟨H, 0, none⟩ (.agg (br16 b)) := loadVar_br W H b h
theorem st_br {W : World} {H : Nat} {b b' : Nat → Int} (h : Bk W H 24 (br16 b)) : StO W 24 ⟨H, 0, none⟩ (.agg (br16 b')) (W.setRow H (br16 b')) := by
 have h1 : ((Value.agg (br16 b')).cells).size = 16 := rfl
 have hC : (Tryz.prog.info? 24).map (·.size) = some 16 := by kernel_rfl
 obtain ⟨i, hi, hs⟩ := Option.map_eq_some_iff.1 hC
 have := run_storeCells_from (P := Tryz.prog) H _ (br16 b').toList 0 _ W h (by simp [br16]) (fun u hu => by
  simp [br16] at hu
  rcases hu with rfl | rfl | rfl | rfl | rfl | rfl | rfl | rfl | rfl | rfl | rfl | rfl | rfl | rfl | rfl | rfl <;> rfl)
 have hst : (storeCells ⟨H, 0, none⟩ (br16 b').toList).run Tryz.prog W = .ok () (W.setRow H (br16 b')) := by simpa using this
 unfold StO storeVar
 simp [sizeOf, typeInfo, hi, hs, h1]
 exact hst
def updB (b : Nat → Int) (j : Nat) (u : Int) : Nat → Int := fun p => if p = j then u else b p
end Go.Proofs.YtmeimhpllemjfaaGreat
