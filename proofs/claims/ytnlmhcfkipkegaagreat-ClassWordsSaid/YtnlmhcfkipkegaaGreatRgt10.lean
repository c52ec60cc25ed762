/- What the document's own reader reads as a flag. -/
import Derived.Test.YtnlmhcfkipkegaaGreatRrd9
import Derived.Test.YtnlmhcfkipkegaaGreatPrg10
namespace Go.Proofs.YtnlmhcfkipkegaaGreat
open Go.RowKit

theorem fS_cS (st : Option (List Nat)) : fS st = cS 1 st ∧ (((cV 1 st) == 1) = fV st) := by
  match st with
  | none => exact ⟨rfl, rfl⟩
  | some [] => exact ⟨rfl, rfl⟩
  | some (u :: r) =>
    by_cases h : u ≤ 1
    · have h1 : 0 ≤ (1 : Int) ∧ (u : Int) ≤ 1 := by omega
      have e1 : flagR (some (u :: r)) = some (u == 1, r) := by simp only [flagR]; rw [if_pos h]
      have e2 : cntR 1 (some (u :: r)) = some (u, r) := by simp only [cntR]; rw [if_pos h1]
      refine ⟨by rw [fS, cS, e1, e2]; rfl, ?_⟩
      rw [fV, cV, e1, e2]
      simp only [Option.map_some, Option.getD_some]
      rw [Bool.eq_iff_iff, beq_iff_eq, beq_iff_eq]
      omega
    · have h1 : ¬ (0 ≤ (1 : Int) ∧ (u : Int) ≤ 1) := by omega
      have e1 : flagR (some (u :: r)) = none := by simp only [flagR]; rw [if_neg h]
      have e2 : cntR 1 (some (u :: r)) = none := by simp only [cntR]; rw [if_neg h1]
      refine ⟨by rw [fS, cS, e1, e2]; rfl, ?_⟩
      rw [fV, cV, e1, e2]
      rfl
end Go.Proofs.YtnlmhcfkipkegaaGreat
/- What the document's own reader reads as a footprint. -/
namespace Go.Proofs.YtnlmhcfkipkegaaGreat
open Go.RowKit

theorem info_fsp : (Tryz.prog.info? 79).map (fun i => (i.zero, i.size, i.bytes)) = some (some (.agg #[.int .i64 0, .int .i64 0, .int .i64 0, .int .i64 0, .bool false]), 5, 40) := by kernel_rfl
theorem fsp_one (f : Fsp) : ∀ u ∈ f.cells.toArray.toList, u.oneCell' = true := by
  intro u hu
  simp only [Fsp.cells, List.mem_cons, List.not_mem_nil, or_false] at hu
  rcases hu with rfl | rfl | rfl | rfl | rfl <;> rfl
/-- What a span of templates is, of its parts. -/
theorem fspR_parts {s s1 s2 s3 s4 s5 : Option (List Nat)} {a b c d : Int} (ha : a = gV s) (h1 : s1 = gS s) (hb : b = cV 999 s1) (h2 : s2 = cS 999 s1) (hc : c = gV s2) (h3 : s3 = gS s2) (hd : d = cV 999 s3) (h4 : s4 = cS 999 s3) (h5 : s5 = if far9 a ∨ far9 c then none else s4) :
    (fspR s).map (·.2) = fS s5 ∧ ∀ q, fspR s = some q → q.1 = ⟨a, b, c, d, fV s5⟩ := by
  by_cases fa : far9 a
  · have e1 : keyR s = none := by rw [keyR, ← ha, if_pos fa]
    have e2 : kS s = none := by rw [kS, e1]; rfl
    have e3 : fspR s = none := by rw [fspR, e2]; rfl
    have e4 : s5 = none := by rw [h5, if_pos (.inl fa)]
    rw [e3, e4]
    exact ⟨rfl, fun q h => by cases h⟩
  · have k1 : keyR s = (cntR 999 s1).map fun q => ((a, (q.1 : Int)), q.2) := by rw [keyR, ← ha, if_neg fa, ← h1]
    have e2 : kS s = s2 := by rw [kS, k1, h2, cS, Option.map_map]; rfl
    by_cases fc : far9 c
    · have e1 : keyR s2 = none := by rw [keyR, ← hc, if_pos fc]
      have e3 : fspR s = none := by rw [fspR, e2, kS, e1]; rfl
      have e4 : s5 = none := by rw [h5, if_pos (.inr fc)]
      rw [e3, e4]
      exact ⟨rfl, fun q h => by cases h⟩
    · have k2 : keyR s2 = (cntR 999 s3).map fun q => ((c, (q.1 : Int)), q.2) := by rw [keyR, ← hc, if_neg fc, ← h3]
      have e3 : kS s2 = s4 := by rw [kS, k2, h4, cS, Option.map_map]; rfl
      have e4 : s5 = s4 := by rw [h5, if_neg (fun h => h.elim fa fc)]
      have e5 : fspR s = (flagR s4).map fun q => (⟨(kV s).1, (kV s).2, (kV s2).1, (kV s2).2, q.1⟩, q.2) := by rw [fspR, e2, e3]
      refine ⟨by rw [e5, e4, Option.map_map]; rfl, fun q hq => ?_⟩
      rw [e5] at hq
      cases h7 : flagR s4 with
      | none => rw [h7] at hq; cases hq
      | some z =>
        rw [h7] at hq
        simp only [Option.map_some, Option.some.injEq] at hq
        have n4 : s4.isSome = true := by
          cases s4 with
          | none => cases h7
          | some _ => rfl
        have m4 : ∃ y, cntR 999 s3 = some y := by
          rw [h4, cS] at n4
          cases h8 : cntR 999 s3 with
          | none => rw [h8] at n4; cases n4
          | some y => exact ⟨y, rfl⟩
        obtain ⟨y4, h8⟩ := m4
        have n2 : s2.isSome = true := by
          cases h9 : s2 with
          | none =>
            rw [h3, h9] at h8
            cases h8
          | some _ => rfl
        have m2 : ∃ y, cntR 999 s1 = some y := by
          rw [h2, cS] at n2
          cases h9 : cntR 999 s1 with
          | none => rw [h9] at n2; cases n2
          | some y => exact ⟨y, rfl⟩
        obtain ⟨y2, h9⟩ := m2
        have v1 : kV s = (a, b) := by rw [kV, k1, h9, hb, cV, h9]; rfl
        have v2 : kV s2 = (c, d) := by rw [kV, k2, h8, hd, cV, h8]; rfl
        rw [← hq, v1, v2, e4, fV, h7]
        rfl

end Go.Proofs.YtnlmhcfkipkegaaGreat
