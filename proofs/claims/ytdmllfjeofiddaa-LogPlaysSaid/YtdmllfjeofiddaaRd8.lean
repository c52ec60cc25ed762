/- What is read as a sector. -/
import Derived.Test.YtdmllfjeofiddaaArgs
import Derived.Test.YtdmllfjeofiddaaDev3
namespace Go.Proofs.Ytdmllfjeofiddaa
open Go.ChangeShapes Go.WideShapes Go.ChangeAt Go.RowKit

section
variable {H : Type} {enc : TypeId × Value → H} {P : Program} {w : World}
theorem arr8_cells {t e : TypeId} (ht : P.underlying t = some (.array 8 e)) (he : P.underlying e = some (.int .u64)) (hc : P.cellsOf e = 1) (hct : P.cellsOf t = 8) {fuel : Nat} {cs : List Value} {y : DataW H × List MemPlace} (h : DataW.trod enc P w 0 (fun _ => true) true fuel t cs = some y) :
    ∃ s0 s1 s2 s3 s4 s5 s6 s7 : Nat, cs = u64s [s0, s1, s2, s3, s4, s5, s6, s7] ∧ Sec [s0, s1, s2, s3, s4, s5, s6, s7] := by
  obtain ⟨xs, m, rfl, _, hl, hxl, hg⟩ := DataW.trod_array ht h
  rw [hct] at hl
  rw [hc] at hg
  have each : ∀ i, i < 8 → ∃ n : Nat, (cs.drop (i * 1)).take 1 = [.int .u64 (n : Int)] ∧ n < 18446744073709551616 := by
    intro i hi
    have h1 := hg i hi
    rw [List.getElem?_eq_getElem (by omega)] at h1
    obtain ⟨n, h2, h3⟩ := rd_u64 he _ _ _ h1
    exact ⟨n, h2, h3⟩
  match cs, hl with
  | [c0, c1, c2, c3, c4, c5, c6, c7], _ =>
    obtain ⟨s0, e0, l0⟩ := each 0 (by omega)
    obtain ⟨s1, e1, l1⟩ := each 1 (by omega)
    obtain ⟨s2, e2, l2⟩ := each 2 (by omega)
    obtain ⟨s3, e3, l3⟩ := each 3 (by omega)
    obtain ⟨s4, e4, l4⟩ := each 4 (by omega)
    obtain ⟨s5, e5, l5⟩ := each 5 (by omega)
    obtain ⟨s6, e6, l6⟩ := each 6 (by omega)
    obtain ⟨s7, e7, l7⟩ := each 7 (by omega)
    simp at e0 e1 e2 e3 e4 e5 e6 e7
    subst e0 e1 e2 e3 e4 e5 e6 e7
    exact ⟨s0, s1, s2, s3, s4, s5, s6, s7, rfl, ⟨rfl, fun u hu => by simp at hu; omega⟩⟩
theorem arg_arr8 {t e : TypeId} {v : Value} {d : DataW H} {p : List MemPlace} {r : Reach} {b : Nat} (ht : P.underlying t = some (.array 8 e)) (he : P.underlying e = some (.int .u64)) (hc : P.cellsOf e = 1) (hct : P.cellsOf t = 8) (hv : Value.okWide P w r b t v) (h : DataW.Trod enc P w 0 (fun _ => true) true t v d p) :
    ∃ s0 s1 s2 s3 s4 s5 s6 s7 : Nat, v = .agg #[.int .u64 s0, .int .u64 s1, .int .u64 s2, .int .u64 s3, .int .u64 s4, .int .u64 s5, .int .u64 s6, .int .u64 s7] ∧ Sec [s0, s1, s2, s3, s4, s5, s6, s7] := by
  simp only [Value.okWide, ht] at hv
  obtain ⟨cs, rfl, _, _⟩ := hv
  obtain ⟨fuel, hf⟩ := h
  obtain ⟨s0, s1, s2, s3, s4, s5, s6, s7, e1, h2⟩ := arr8_cells ht he hc hct hf
  refine ⟨s0, s1, s2, s3, s4, s5, s6, s7, ?_, h2⟩
  have e2 : cs.toList = u64s [s0, s1, s2, s3, s4, s5, s6, s7] := by simpa [Value.cells] using e1
  have e3 : cs = #[.int .u64 s0, .int .u64 s1, .int .u64 s2, .int .u64 s3, .int .u64 s4, .int .u64 s5, .int .u64 s6, .int .u64 s7] := by
    apply Array.toList_inj.1
    rw [e2]
    rfl
  rw [e3]
end
end Go.Proofs.Ytdmllfjeofiddaa
