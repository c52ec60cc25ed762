/- A catalogue that lies there is told as a result. -/
import Derived.Test.YtkihbjgmmaklaaaWlo12
import Derived.Test.YtkihbjgmmaklaaaQct12
import Derived.Laws.Tables
import Derived.Deep.WholeRow
import Derived.WalkKit
import Derived.CallsIn
import Derived.Test.YtkihbjgmmaklaaaRows
import Derived.Test.YtkihbjgmmaklaaaCat12
namespace Go.Proofs.Ytkihbjgmmaklaaa
open Go.RowKit

set_option maxRecDepth 100000 in
set_option maxHeartbeats 4000000 in
theorem loadVar_cat (W : World) (H : Nat) (v : Value) (b : Nat → Int) (h : Bk W H 26 (brA v b)) : (loadVar 26 ⟨H, 0, none⟩).run Try.prog W = .ok (.agg (brA v b)) W := by
  have h0 : W.rangeAt H 0 (brA v b).toList := fun j u hu => by
    rw [Nat.zero_add, h.cell, ← Array.getElem?_toList]
    exact hu
  have := run_loadAt_mid (P := Try.prog) W H 0 26 (brA v b).toList _ h0 Try.underlying26 rfl (by unfold brA; kernel_rfl)
  rw [Array.toArray_toList] at this
  simpa only [Instr.loadAt, Instr.sureAddr, Sem.run_bind, Sem.run_pure, Result.andThen_ok] using this
theorem store_cat {W : World} {H : Nat} {v v' : Value} {b b' : Nat → Int} (h : Bk W H 26 (brA v b)) (hv : v'.oneCell' = true) : (storeCells ⟨H, 0, none⟩ (brA v' b').toList).run Try.prog W = .ok () (W.setRow H (brA v' b')) := by
  have := run_storeCells_from (P := Try.prog) H _ (brA v' b').toList 0 _ W h (by simp [brA]) (fun u hu => by
    simp [brA] at hu
    rcases hu with rfl | rfl | rfl | rfl | rfl | rfl | rfl | rfl | rfl | rfl | rfl | rfl | rfl | rfl | rfl | rfl | rfl <;> first | exact hv | rfl)
  simpa using this
theorem brA_size (v : Value) (b : Nat → Int) : (brA v b).size = 17 := rfl
theorem cat_results {fn : Func} {i j : Nat} (hfn : fn.results = #[.cell i 26, .tmp j]) {tmps : Array Value} {W : World} {H : Nat} {v f : Value} {b : Nat → Int} (h : Bk W H 26 (brA v b)) (h1 : tmps.getD i undef = .pointer (some ⟨H, 0, none⟩)) (h2 : tmps.getD j undef = f) :
    (results fn tmps).run Try.prog W = .ok (.tuple #[.agg (brA v b), f]) W := by
  have hl := loadVar_cat W H v b h
  have e1 : tmps[i]?.getD undef = .pointer (some ⟨H, 0, none⟩) := by simpa using h1
  have e2 : tmps[j]?.getD undef = f := by simpa using h2
  unfold results
  rw [hfn]
  simp [e1, e2, asAddr, hl]
end Go.Proofs.Ytkihbjgmmaklaaa
/- Catalogues and breakpoints, loaded and stored whole. -/
namespace Go.Proofs.Ytkihbjgmmaklaaa
open Go.RowKit

theorem ld_cat {W : World} {H : Nat} {Z : Array Value} {v : Value} {b : Nat → Int} (hZ : Z = brA v b) (h : Bk W H 26 Z) : LdO W 26 ⟨H, 0, none⟩ (.agg Z) := by
  subst hZ
  exact loadVar_cat W H v b h
theorem st_cat {W : World} {H : Nat} {Z Z' : Array Value} {v v' : Value} {b b' : Nat → Int} (hZ : Z = brA v b) (hZ' : Z' = brA v' b') (hv : v'.oneCell' = true) (h : Bk W H 26 Z) : StO W 26 ⟨H, 0, none⟩ (.agg Z') (W.setRow H Z') := by
  subst hZ hZ'
  have h1 : ((Value.agg (brA v' b')).cells).size = 17 := rfl
  have hC : (Try.prog.info? 26).map (·.size) = some 17 := by kernel_rfl
  obtain ⟨i, hi, hs⟩ := Option.map_eq_some_iff.1 hC
  have hst := store_cat (v' := v') (b' := b') h hv
  unfold StO storeVar
  simp [sizeOf, typeInfo, hi, hs, h1]
  exact hst
/-- Breakpoints as they lie in a box. -/
theorem loadVar_br (W : World) (H : Nat) (b : Nat → Int) (h : Bk W H 24 (br16 b)) : (loadVar 24 ⟨H, 0, none⟩).run Try.prog W = .ok (.agg (br16 b)) W := by
  have h0 : W.rangeAt H 0 (br16 b).toList := fun j u hu => by
    rw [Nat.zero_add, h.cell, ← Array.getElem?_toList]
    exact hu
  have := run_loadAt_mid (P := Try.prog) W H 0 24 (br16 b).toList _ h0 Try.underlying24 rfl (by unfold br16; kernel_rfl)
  rw [Array.toArray_toList] at this
  simpa only [Instr.loadAt, Instr.sureAddr, Sem.run_bind, Sem.run_pure, Result.andThen_ok] using this
theorem loadVar_br1 (W : World) (H : Nat) (v : Value) (b : Nat → Int) (h : Bk W H 26 (brA v b)) : (loadVar 24 ⟨H, 1, none⟩).run Try.prog W = .ok (.agg (br16 b)) W := by
  have h0 : W.rangeAt H 1 (br16 b).toList := fun j u hu => by
    rw [h.cell]
    rw [← Array.getElem?_toList, ← hu]
    have e : (brA v b).toList = v :: (br16 b).toList := rfl
    rw [e, Nat.add_comm]
    exact List.getElem?_cons_succ
  have := run_loadAt_mid (P := Try.prog) W H 1 24 (br16 b).toList _ h0 Try.underlying24 rfl (by unfold br16; kernel_rfl)
  rw [Array.toArray_toList] at this
  simpa only [Instr.loadAt, Instr.sureAddr, Sem.run_bind, Sem.run_pure, Result.andThen_ok] using this
theorem ld_br1 {W : World} {H : Nat} {Z : Array Value} {v : Value} {b : Nat → Int} (hZ : Z = brA v b) (h : Bk W H 26 Z) : LdO W 24 ⟨H, 1, none⟩ (.agg (br16 b)) := by
  subst hZ
  exact loadVar_br1 W H v b h
theorem ld_br {W : World} {H : Nat} {b : Nat → Int} (h : Bk W H 24 (br16 b)) : LdO W 24 ⟨H, 0, none⟩ (.agg (br16 b)) := loadVar_br W H b h
theorem st_br {W : World} {H : Nat} {b b' : Nat → Int} (h : Bk W H 24 (br16 b)) : StO W 24 ⟨H, 0, none⟩ (.agg (br16 b')) (W.setRow H (br16 b')) := by
  have h1 : ((Value.agg (br16 b')).cells).size = 16 := rfl
  have hC : (Try.prog.info? 24).map (·.size) = some 16 := by kernel_rfl
  obtain ⟨i, hi, hs⟩ := Option.map_eq_some_iff.1 hC
  have := run_storeCells_from (P := Try.prog) H _ (br16 b').toList 0 _ W h (by simp [br16]) (fun u hu => by
    simp [br16] at hu
    rcases hu with rfl | rfl | rfl | rfl | rfl | rfl | rfl | rfl | rfl | rfl | rfl | rfl | rfl | rfl | rfl | rfl <;> rfl)
  have hst : (storeCells ⟨H, 0, none⟩ (br16 b').toList).run Try.prog W = .ok () (W.setRow H (br16 b')) := by simpa using this
  unfold StO storeVar
  simp [sizeOf, typeInfo, hi, hs, h1]
  exact hst
end Go.Proofs.Ytkihbjgmmaklaaa
