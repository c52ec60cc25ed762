/- Package log: what the frames have of a sector. -/
import Derived.Test.YtdmllfjeofiddaaPlh8
import Derived.Test.YtdmllfjeofiddaaLib2
namespace Go.Proofs.Ytdmllfjeofiddaa
open Go.RowKit Go.Shelf

theorem fz8 {w : World} {g : Nat} {t : TypeId} {cs : Array Value} (h : Bk w g t cs) : w.frozen? ⟨g, 0, none⟩ = false ∧ w.frozen? ⟨g, 1, none⟩ = false ∧ w.frozen? ⟨g, 2, none⟩ = false ∧ w.frozen? ⟨g, 3, none⟩ = false ∧ w.frozen? ⟨g, 4, none⟩ = false ∧ w.frozen? ⟨g, 5, none⟩ = false ∧ w.frozen? ⟨g, 6, none⟩ = false ∧ w.frozen? ⟨g, 7, none⟩ = false :=
  ⟨h.frozen 0, h.frozen 1, h.frozen 2, h.frozen 3, h.frozen 4, h.frozen 5, h.frozen 6, h.frozen 7⟩
/-- A copy of nothing. -/
theorem run_copy_0 {P : Program} (w : World) (dT sT ty elem : TypeId) (D X : Option Addr) (dLen dCap sCap : Nat) (hu : P.underlying dT = some (.slice elem)) (hs : (P.info? elem).map (·.size) = some 1) :
    (Builtin.copy_ #[dT, sT] ty #[.slice D dLen dCap, .slice X 0 sCap]).run P w = .ok (goInt 0) w := by
  cases hq : P.info? elem with
  | none => simp [hq] at hs
  | some i =>
    have hi : i.size = 1 := by simpa [hq] using hs
    cases X <;> cases D <;> simp [Builtin.copy_, run_underlying hu, Builtin.lenOf, sizeOf, typeInfo, hq, hi, Builtin.firstCells, storeCells, loadCells, loadCellsFrom]
set_option maxRecDepth 100000 in
set_option maxHeartbeats 2000000 in
theorem lSector_any {l d q n m c k : Nat} {ep : Int} {A : Option Addr} {ws : List Nat} (i : Nat) (hi : i < 100000) (h64 : ∀ u ∈ ws, u < 18446744073709551616) (w : World) (h : LB w l d q n ep A m c ws k) (hm : m ≤ 100000) :
    Calls Try.prog 55 #[.pointer (some ⟨l, 0, none⟩), .int .i64 i] w fun e w' => e = .returned (secV (secW ws i)) ∧ Fr No w w' := by
  obtain ⟨W, HW⟩ : ∃ W, Hid (W = (w.alloc (.cells #[.int .u64 0, .int .u64 0, .int .u64 0, .int .u64 0, .int .u64 0, .int .u64 0, .int .u64 0, .int .u64 0] 41)).alloc (.cells #[.int .u64 0, .int .u64 0, .int .u64 0, .int .u64 0, .int .u64 0, .int .u64 0, .int .u64 0, .int .u64 0] 41)) := ⟨_, Lib.hid rfl⟩
  have fW : Fr No w W := by rw [HW.out]; exact ((Fr.refl No w).alloc _).alloc _
  have hb := h.fr fW (fun _ _ e => e)
  have bS : Bk W (w.heap.size + 1) 41 (secA zSec) := by
    rw [HW.out]
    have := Bk.made (w.alloc (.cells #[.int .u64 0, .int .u64 0, .int .u64 0, .int .u64 0, .int .u64 0, .int .u64 0, .int .u64 0, .int .u64 0] 41)) 41 (secA zSec)
    rwa [World.size_alloc] at this
  have bR : Bk W w.heap.size 41 (secA zSec) := by
    rw [HW.out]
    exact (Bk.made w 41 (secA zSec)).fr ((Fr.refl No _).alloc _) (fun e => e)
  have c4 : W.cell? ⟨l, 4, none⟩ = some (.slice A m c) := hb.cells.2.2.2.2.1
  have c4' := c4
  rw [HW.out] at c4'
  have hcap := h.cap
  have hlen := h.len
  have hm' : maxLen = 9223372036854775807 := rfl
  obtain ⟨B, HB⟩ : ∃ B, Hid (B = min (8 * i) ws.length) := ⟨_, Lib.hid rfl⟩
  obtain ⟨E, HE⟩ : ∃ E, Hid (E = min (B + 8) ws.length) := ⟨_, Lib.hid rfl⟩
  have hB : min (8 * i) m = B := by rw [HB.out, hlen]
  have hE : min (B + 8) m = E := by rw [HE.out, hlen]
  have eB : min ((i : Int) * 8) (m : Int) = (B : Int) := by omega
  have eE : min ((B : Int) + 8) (m : Int) = (E : Int) := by omega
  have hBE : B ≤ E := by omega
  have hEm : E ≤ m := by omega
  have hE8 : E - B ≤ 8 := by omega
  have hEc : E ≤ c := by omega
  have hBc : B ≤ c := by omega
  have hput := secW_put ws i B E HB.out HE.out
  have Hsl := Lib.hid (Sl.ofOwn hb.own)
  have Hshape := Lib.hid (own_shape hb.own)
  have Hlen := Lib.hid hlen
  have hs1 : (Try.prog.info? 40).map (·.size) = some 1 := by kernel_rfl
  have Hcp : Hid (∀ ty X, (E ≠ B → X = A.map (·.add B)) → ∃ W', Fr (fun k => k = w.heap.size + 1) W W' ∧ Bk W' (w.heap.size + 1) 41 (secA (secW ws i)) ∧ (Builtin.copy_ #[36, 36] ty #[.slice (some ⟨w.heap.size + 1, 0, none⟩) 8 8, .slice X (E - B) (E - B)]).run Try.prog W.drew = .ok (goInt ((E - B : Nat) : Int)) W') := Lib.hid (by
    intro ty X hX
    by_cases hc : E = B
    · subst hc
      rw [Nat.sub_self] at hput ⊢
      refine ⟨W.drew, (Fr.refl _ _).drew, ?_, run_copy_0 W.drew _ _ ty _ _ X 8 8 0 Try.underlying36 hs1⟩
      rw [← hput]
      exact bS
    · obtain ⟨ad, rfl, hlt, hcell⟩ := Hsl.out (by
        intro e0
        have h0 := congrArg List.length e0
        have h1 := Hlen.out
        have h2 : (u64s ws).length = ws.length := by simp [u64s]
        rw [h2] at h0
        simp only [List.length_nil] at h0
        omega)
      obtain rfl := hX hc
      have hl : (u64s ((ws.drop B).take (E - B))).length = E - B := by
        have := Hlen.out
        simp [u64s]
        omega
      refine ⟨W.drew.setCells (w.heap.size + 1) 0 (u64s ((ws.drop B).take (E - B))), Fr.setCells _ 0 ((Fr.refl _ W).drew) (.inl rfl), ?_, ?_⟩
      · rw [← hput]
        exact Bk.putMany _ 0 (w := W.drew) bS
      · refine run_copy_k W.drew _ _ ty 40 1 (w.heap.size + 1) 0 8 8 (ad.add B) (E - B) (E - B) (E - B) _ Try.underlying36 hs1 (Nat.min_eq_left hE8) (by rw [hl, Nat.mul_one]) ?_ ?_ ?_ (u64s_one _)
        · intro j v hv
          rw [add_add']
          refine hcell _ v ?_
          have e3 : (u64s ((ws.drop B).take (E - B)))[j]? = some v := hv
          have hj : j < E - B := by rw [← hl]; exact (List.getElem?_eq_some_iff.1 hv).1
          have e4 : u64s ((ws.drop B).take (E - B)) = ((u64s ws).drop B).take (E - B) := by simp [u64s]
          rw [e4, List.getElem?_take, if_pos hj, List.getElem?_drop] at e3
          exact e3
        · intro j hj
          rw [hl] at hj
          have : W.cell? ⟨w.heap.size + 1, 0 + j, none⟩ = (secA zSec)[0 + j]? := bS.cell _
          show (W.cell? ⟨w.heap.size + 1, 0 + j, none⟩).isSome = true
          rw [this, Array.getElem?_eq_getElem (by show 0 + j < 8; omega)]
          rfl
        · intro j hj
          exact bS.frozen _)
  have HS := Lib.hid (secW_sec h64 i)
  have Bs := Lib.hid bS
  have Br := Lib.hid bR
  have FW := Lib.hid fW
  clear h hb hlen hput HB HE hB hE fW bS bR Hsl hs1 h64
  go_enter Try.func55, Try.ntmps55
  go_wp2
  rw [← HW.out]
  clear HW c4'
  obtain ⟨X, HX⟩ : ∃ X, Hid (X = if E - B = 0 then A else A.map (·.add B)) := ⟨_, Lib.hid rfl⟩
  obtain ⟨W', hF, hBk, hrun⟩ := Hcp.out 3 X (fun hne => by rw [HX.out, if_neg (by omega)])
  obtain ⟨s0, s1, s2, s3, s4, s5, s6, s7, hs⟩ := sec_lit HS.out
  rw [hs] at hBk
  have Hs := Lib.hid hs
  clear hs
  have bR2 := Br.out.fr hF (by omega)
  obtain ⟨k0, k1, k2, k3, k4, k5, k6, k7⟩ := bk8 hBk
  obtain ⟨f0, f1, f2, f3, f4, f5, f6, f7⟩ := fz8 bR2
  obtain ⟨z0, z1, z2, z3, z4, z5, z6, z7⟩ := bk8 bR2
  obtain ⟨WF, HWF⟩ : ∃ WF, Hid (WF = ((((((((W'.setCell ⟨w.heap.size, 0, none⟩ (.int .u64 s0)).setCell ⟨w.heap.size, 1, none⟩ (.int .u64 s1)).setCell ⟨w.heap.size, 2, none⟩ (.int .u64 s2)).setCell ⟨w.heap.size, 3, none⟩ (.int .u64 s3)).setCell ⟨w.heap.size, 4, none⟩ (.int .u64 s4)).setCell ⟨w.heap.size, 5, none⟩ (.int .u64 s5)).setCell ⟨w.heap.size, 6, none⟩ (.int .u64 s6)).setCell ⟨w.heap.size, 7, none⟩ (.int .u64 s7))) := ⟨_, Lib.hid rfl⟩
  have HFin : Hid (Fr No w WF) := Lib.hid (by
    rw [HWF.out]
    have h0 : Fr No w W' := FW.out.trans' hF (fun k hk e => by omega)
    repeat (first | with_reducible exact h0 | refine Fr.setCell ?_ (.inr (Nat.le_refl _)) _))
  have HbF : Hid (Bk WF w.heap.size 41 #[.int .u64 s0, .int .u64 s1, .int .u64 s2, .int .u64 s3, .int .u64 s4, .int .u64 s5, .int .u64 s6, .int .u64 s7]) := Lib.hid (by
    rw [HWF.out]
    exact ((((((((bR2.put 0 (.int .u64 s0)).put 1 (.int .u64 s1)).put 2 (.int .u64 s2)).put 3 (.int .u64 s3)).put 4 (.int .u64 s4)).put 5 (.int .u64 s5)).put 6 (.int .u64 s6)).put 7 (.int .u64 s7)))
  clear hF bR2 Hshape Hcp HS Bs Br FW hBk
  by_cases hc : E = B
  · subst hc
    rw [HX.out, if_pos (Nat.sub_self _), Nat.sub_self] at hrun
    clear HX
    go_region_law (refine step_copy_runI rfl _ _ 36 36 rfl _ _ (by simp [Act.eval, Act.put]) (by simp [Act.eval, Act.put]) hrun ?_)
    go_wp2
    rw [← HWF.out]
    clear HWF k0 k1 k2 k3 k4 k5 k6 k7 f0 f1 f2 f3 f4 f5 f6 f7 z0 z1 z2 z3 z4 z5 z6 z7
    obtain ⟨k0, k1, k2, k3, k4, k5, k6, k7⟩ := bk8 HbF.out
    refine bodyPost_ret (v := secV [s0, s1, s2, s3, s4, s5, s6, s7]) (by simp [results, Try.results55, go_sem, secV, secA, u64s, k0, k1, k2, k3, k4, k5, k6, k7]) rfl ⟨by rw [Hs.out], HFin.out⟩
  · have hne : E - B ≠ 0 := by omega
    rw [HX.out, if_neg hne] at hrun
    clear HX
    go_region_law (refine step_copy_runI rfl _ _ 36 36 rfl _ _ (by simp [Act.eval, Act.put]) (by simp [Act.eval, Act.put]) hrun ?_)
    go_wp2
    rw [← HWF.out]
    clear HWF k0 k1 k2 k3 k4 k5 k6 k7 f0 f1 f2 f3 f4 f5 f6 f7 z0 z1 z2 z3 z4 z5 z6 z7
    obtain ⟨k0, k1, k2, k3, k4, k5, k6, k7⟩ := bk8 HbF.out
    refine bodyPost_ret (v := secV [s0, s1, s2, s3, s4, s5, s6, s7]) (by simp [results, Try.results55, go_sem, secV, secA, u64s, k0, k1, k2, k3, k4, k5, k6, k7]) rfl ⟨by rw [Hs.out], HFin.out⟩
end Go.Proofs.Ytdmllfjeofiddaa
