/- Package log: a list of words copied; the words of a part's sectors; what the frames have of a sector. -/
import Derived.Test.YtdmllfjeofiddaaPlg8
import Derived.Test.YtdmllfjeofiddaaWords
import Derived.Test.YtdmllfjeofiddaaRanges
import Derived.Shelf.Spec.SlicesInsert
import Derived.Laws.NewBlocks
import Derived.Laws.IdiomCopy
import Derived.Laws.Append
namespace Go.Proofs.Ytdmllfjeofiddaa
open Go.RowKit Go.Shelf

theorem run_copy_k {P : Program} (w : World) (dT sT ty elem : TypeId) (size b o dLen dCap : Nat) (a : Addr) (sLen sCap m : Nat) (cs : List Value)
    (hu : P.underlying dT = some (.slice elem)) (hs : (P.info? elem).map (·.size) = some size) (hm : Nat.min sLen dLen = m) (hn : cs.length = m * size)
    (hsrc : ∀ j v, cs[j]? = some v → w.cell? (a.add j) = some v) (hc : ∀ j, j < cs.length → (w.cell? ⟨b, o + j, none⟩).isSome = true) (hf : ∀ j, j < cs.length → w.frozen? ⟨b, o + j, none⟩ = false) (h1 : ∀ v ∈ cs, v.oneCell' = true) :
    (Builtin.copy_ #[dT, sT] ty #[.slice (some ⟨b, o, none⟩) dLen dCap, .slice (some a) sLen sCap]).run P w = .ok (goInt m) (w.setCells b o cs) := by
  have hl := run_firstCells_some (P := P) w size m a sLen sCap cs hn hsrc
  have hst := run_storeCells_cells (P := P) b o cs 0 w (by simpa using hc) (by simpa using hf) h1
  simp only [Nat.add_zero] at hst
  cases hq : P.info? elem with
  | none => simp [hq] at hs
  | some i =>
    have hi : i.size = size := by simpa [hq] using hs
    simp [Builtin.copy_, run_underlying hu, Builtin.lenOf, sizeOf, typeInfo, hq, hi, hm, hl, hst]
set_option maxRecDepth 100000 in
set_option maxHeartbeats 2000000 in
/-- A copy of a list that isn't nil. -/
theorem wClone (ws : List Nat) (ad : Addr) (m c : Nat) (w : World) (h : Sl w w.heap.size (some ad) (u64s ws)) (hm : ws.length = m) (hlen : m ≤ 1099511627776) :
    Calls Try.prog 38 #[.slice (some ad) m c] w (NewL w ws) := by
  obtain ⟨i0, hi, hz0, hz1, hz2⟩ := info_parts info43
  have hne := fun w (a : Option Addr) k k' k2 k3 => Lib.run_eql_slice_nil (P := Try.prog) w 36 40 a k k' k2 k3 Try.underlying36
  go_enter Try.func38, Try.ntmps38
  go_wp2_with (at_builtin; refine wpList_append_src _ rfl _ _ 36 rfl w.heap.size 40 i0 (.int .u64 0) 1 8 Try.underlying36 hi hz0 hz1 hz2 rfl (by decide) _ _ _ rfl (World.ownsRow_made w #[] 0 (Nat.le_refl _) (Nat.zero_le _) (by simp)) w.heap.size (some ad) m c (u64s ws) rfl ?q1 ?q2 ?q3 ?q4 ?q5 ?q6 ?_)
  case q1 => simp [u64s, hm]
  case q2 => exact h.fr ((Fr.refl No w).alloc _) (Nat.le_refl _) (fun _ _ _ e => e)
  case q3 => exact u64s_one ws
  case q4 => unfold maxLen; omega
  case q5 => omega
  case q6 => simp
  intro v' w1 hown hgrow hnil
  have hown' : w1.ownsRow w.heap.size 40 1 v' m (u64s ws) := by simpa using hown
  obtain ⟨A', c', rfl, -, -, -⟩ := own_shape hown'
  have hfr : Fr No w w1 := (((Fr.refl No w).alloc (.cells #[] 40))).grown hgrow (fun k e => by simp [Value.ownBlock] at e; exact .inr (by omega))
  have Hfr := Lib.hid hfr
  have Hown := Lib.hid hown'
  clear hown hgrow hnil hown' hfr h
  go_wp2
  go_ret
  exact ⟨A', c', by rw [hm]; rfl, by rw [hm]; exact Hown.out, Hfr.out⟩

/-- What the words have of the i-th sector, and zeros behind. -/
def secW (ws : List Nat) (i : Nat) : List Nat := (List.range 8).map fun k => ws.getD (8 * i + k) 0
theorem secW_sec {ws : List Nat} (h : ∀ u ∈ ws, u < 18446744073709551616) (i : Nat) : Sec (secW ws i) := by
  refine ⟨by simp [secW], fun u hu => ?_⟩
  simp only [secW, List.mem_map, List.mem_range] at hu
  obtain ⟨k, -, rfl⟩ := hu
  exact getD_lt h _
/-- Eight zeros, into which the words from B to E are copied. -/
theorem secW_put (ws : List Nat) (i B E : Nat) (hB : B = min (8 * i) ws.length) (hE : E = min (B + 8) ws.length) :
    putMany (secA zSec) 0 (u64s ((ws.drop B).take (E - B))) = secA (secW ws i) := by
  have hz : (secA zSec).size = 8 := rfl
  have hl : (u64s ((ws.drop B).take (E - B))).length = E - B := by
    simp [u64s]
    omega
  refine Array.ext_getElem? fun j => ?_
  rw [putMany_at _ _ _ _ (by rw [hl, hz]; omega), hl]
  have e1 : (secA (secW ws i))[j]? = ((secW ws i)[j]?).map fun (u : Nat) => Value.int .u64 (u : Int) := by simp [secA, u64s]
  by_cases hj : j < 8
  · have e2 : (secW ws i)[j]? = some (ws.getD (8 * i + j) 0) := by simp [secW, hj]
    rw [e1, e2]
    by_cases hc : j < E - B
    · rw [if_pos (by omega)]
      have e3 : (u64s ((ws.drop B).take (E - B)))[j - 0]? = (ws[B + j]?).map fun (u : Nat) => Value.int .u64 (u : Int) := by
        simp [u64s, hc]
      rw [e3, show B + j = 8 * i + j by omega, List.getElem?_eq_getElem (show 8 * i + j < ws.length by omega)]
      simp only [Option.map_some, List.getD, List.getElem?_eq_getElem (show 8 * i + j < ws.length by omega), Option.getD_some]
    · rw [if_neg (by omega), List.getD, List.getElem?_eq_none (by omega)]
      have : j = 0 ∨ j = 1 ∨ j = 2 ∨ j = 3 ∨ j = 4 ∨ j = 5 ∨ j = 6 ∨ j = 7 := by omega
      rcases this with rfl | rfl | rfl | rfl | rfl | rfl | rfl | rfl <;> rfl
  · rw [if_neg (by omega), e1, List.getElem?_eq_none (by simp [secW]; omega), Array.getElem?_eq_none (by omega)]
    rfl
end Go.Proofs.Ytdmllfjeofiddaa
