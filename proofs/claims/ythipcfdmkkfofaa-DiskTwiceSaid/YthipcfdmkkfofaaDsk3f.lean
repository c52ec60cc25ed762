/- A device of package disk, copied. -/
import Derived.Test.YthipcfdmkkfofaaDsk3a
import Derived.Test.YthipcfdmkkfofaaKeys3
import Derived.Deep.RegionWith
namespace Go.Proofs.Ythipcfdmkkfofaa
open Go.RowKit Go.Shelf Go.Maps

section
variable {S : Nat → Prop} {d L m c n a b : Nat} {D : Dv} {f : Nat → List Nat} {g : Nat → Option Value}
theorem u64_one (xs : List Nat) : ∀ u ∈ u64s xs, u.oneCell' = true := u64s_one xs
/-- What a row of sectors holds, cell by cell. -/
theorem Lb.sl {w : World} (h : Lb w L n c f) (hf : ∀ i, i < n → (f i).length = 8) : Sl w w.heap.size (some ⟨L, 0, none⟩) (secs n f).toList := by
  obtain ⟨cur, hb, h1, h2, h3⟩ := h
  intro _
  refine ⟨_, rfl, hb.lt, fun j u hu => ?_⟩
  have hj : j < (secs n f).size := by
    have := (List.getElem?_eq_some_iff.1 hu).1
    simpa using this
  rw [secs_size n f hf] at hj
  have e : (⟨L, 0, none⟩ : Addr).add j = ⟨L, j, none⟩ := by cases j <;> simp [Addr.add]
  have ej : j = j / 8 * 8 + j % 8 := by omega
  have h4 := h3 (j / 8) (j % 8) (by omega) (by omega)
  have h5 := secs_at n f hf (j / 8) (j % 8) (by omega) (by omega)
  rw [← ej] at h4 h5
  rw [e, hb.cell, h4, ← h5]
  simpa using hu
theorem secs_one (n : Nat) (f : Nat → List Nat) : ∀ u ∈ (secs n f).toList, u.oneCell' = true := by
  intro u hu
  simp only [secs, List.mem_flatMap] at hu
  obtain ⟨i, _, hu⟩ := hu
  exact u64s_one _ u hu
set_option maxRecDepth 100000 in
set_option maxHeartbeats 1000000 in
theorem sClone (w : World) (h : Lb w L n c f) (hf : ∀ i, i < n → (f i).length = 8) (hpos : 1 ≤ n) (hn : n ≤ 4096) :
    Calls Try.prog 59 #[.slice (some ⟨L, 0, none⟩) n c] w fun e w' => ∃ g' c', e = .returned (.slice (some ⟨g', 0, none⟩) n c') ∧ Lb w' g' n c' f ∧ Fr No w w' ∧ w.heap.size ≤ g' := by
  obtain ⟨i0, hi, hz0, hz1, hz2⟩ := info_parts sec_info
  have hsl := h.sl hf
  have hmx : (4096 : Nat) ≤ maxLen := by decide
  have hne := fun w (a : Option Addr) k k' k2 k3 => Lib.run_eql_slice_nil (P := Try.prog) w 86 48 a k k' k2 k3 Try.underlying86
  have hl : (secs n f).toList.length = n * 8 := by
    have := secs_size n f hf
    simpa [Nat.mul_comm] using this
  clear h
  go_enter Try.func59, Try.ntmps59
  go_wp2_with (at_builtin; refine wpList_append_src _ rfl _ _ 86 rfl w.heap.size 48 i0 (secV zSec) 8 64 Try.underlying86 hi hz0 hz1 hz2 rfl (by decide) _ _ _ rfl (World.ownsRow_made w #[] 0 (Nat.le_refl _) (Nat.zero_le _) (by simp)) w.heap.size (some ⟨L, 0, none⟩) n c (secs n f).toList rfl ?q1 ?q2 ?q3 ?q4 ?q5 ?q6 ?_)
  case q1 => exact hl
  case q2 => exact hsl.fr ((Fr.refl No w).alloc _) (Nat.le_refl _) (fun _ _ _ e => e)
  case q3 => exact secs_one n f
  case q4 => omega
  case q5 => omega
  case q6 => simp
  intro v' w1 hown hgrow hnil
  have hown' : w1.ownsRow w.heap.size 48 8 v' n (secs n f).toList := by simpa using hown
  obtain ⟨g', cap, rfl, hg, hgl⟩ := hown'.form (by omega)
  have hfr : Fr No w w1 := (((Fr.refl No w).alloc (.cells #[] 48))).grown hgrow (fun k e => by simp [Value.ownBlock] at e; exact .inr (by omega))
  have Hfr := Lib.hid hfr
  have Hown := Lib.hid hown'
  clear hown hgrow hnil hown' hfr hsl
  go_wp2
  go_ret
  refine ⟨g', cap, rfl, ?_, Hfr.out, hg⟩
  rcases Hown.out.2 with ⟨hv, _⟩ | ⟨g2, cap2, cur, hv, _, hb, h1, h2, h3, h4⟩
  · cases hv
  · injection hv with e1 e2 e3
    injection e1 with e1
    injection e1 with e1
    subst e1
    subst e3
    refine ⟨cur, hb, by rw [h3]; exact Nat.mul_le_mul_right 8 h1, h1, fun i j hi' hj => ?_⟩
    have h5 := secs_at n f hf i j hi' hj
    rw [← h5]
    have h6 : (cur.toList.take (n * 8))[i * 8 + j]? = (secs n f).toList[i * 8 + j]? := by rw [h4]
    rw [List.getElem?_take, if_pos (by omega)] at h6
    simpa using h6
theorem mClone (w : World) (h : MI Try.prog 3 w m n g) : Calls Try.prog 60 #[.map (some m)] w fun e w' => e = .returned (.map (some w.heap.size)) ∧ MI Try.prog 3 w' w.heap.size n g ∧ Fr No w w' ∧ w'.heap.size = w.heap.size + 1 := by
  obtain ⟨D0, ⟨es, clock, hb, r⟩, hd⟩ := h
  have q := AnyW.maps_Clone cloneA m es clock w hb
  refine q.mono ?_
  rintro e w' ⟨he, rfl⟩
  exact ⟨he, ⟨D0, ⟨es, clock, heap_alloc_new w _, r⟩, hd⟩, (Fr.refl No w).alloc _, by simp⟩
set_option maxRecDepth 100000 in
set_option maxHeartbeats 4000000 in
theorem dCopy_any (w : World) (h : DD w S d D a b) : Calls Try.prog 32 #[.pointer (some ⟨d, 0, none⟩)] w fun e w' => ∃ S' d', e = .returned (.pointer (some ⟨d', 0, none⟩)) ∧ DD w' S' d' D a b ∧ Step No S' w w' := by
  obtain ⟨_, _, _, L, m, c, -, hk⟩ := h
  have hn4 := hk.n
  have hpos := hk.pos
  have hf8 : ∀ i, i < D.n → (D.la i).length = 8 := fun i hi => (hk.ok.la i hi).len
  have CA : ∀ W, Fr No w W → Calls Try.prog 59 #[.slice (some ⟨L, 0, none⟩) D.n c] W fun e w' => ∃ g' c', e = .returned (.slice (some ⟨g', 0, none⟩) D.n c') ∧ Lb w' g' D.n c' D.la ∧ Fr No W w' ∧ W.heap.size ≤ g' := fun W h => sClone W (hk.la.fr h (fun e => e)) hf8 hpos hn4
  have CB : ∀ W, Fr No w W → Calls Try.prog 60 #[.map (some m)] W fun e w' => e = .returned (.map (some W.heap.size)) ∧ MI Try.prog 3 w' W.heap.size D.n D.wr ∧ Fr No W w' ∧ w'.heap.size = W.heap.size + 1 := fun W h => mClone W (hk.mp.fr h (fun e => e))
  obtain ⟨c0, c1, c2, c3⟩ := hk.cells
  have hcw : ∀ W, Fr No w W → W.cell? ⟨d, 0, none⟩ = some (.slice (some ⟨L, 0, none⟩) D.n c) ∧ W.cell? ⟨d, 1, none⟩ = some (.map (some m)) := fun W h => ⟨(hk.fr h (fun e => e) (fun e => e) (fun e => e)).cells.1, (hk.fr h (fun e => e) (fun e => e) (fun e => e)).cells.2.1⟩
  have g1 : Fr No w (w.alloc (.cells #[.slice (some ⟨L, 0, none⟩) D.n c, .map (some m), .int .i64 (wrap64 a), .int .i64 (wrap64 b)] 89)) := (Fr.refl No w).alloc _
  have v1 := Bk.made w 89 #[.slice (some ⟨L, 0, none⟩) D.n c, .map (some m), .int .i64 (wrap64 a), .int .i64 (wrap64 b)]
  obtain ⟨k0, k1⟩ := hcw _ g1
  have Hok := Lib.hid hk.ok
  clear hk
  go_enter Try.func32, Try.ntmps32
  go_wp2_with fail
  first | go_region_with (first
    | (go_at_call 59
       refine (CA _ g1.drew).mono ?_
       rintro e w2 ⟨g', c', rfl, hL2, hf2, hg2⟩
       have g2 := g1.drew.trans' hf2 (fun _ _ e => e)
       have v2 := v1.drew.fr hf2 (fun e => e)
       obtain ⟨p0, p1⟩ := hcw _ g2
       have x0 := v2.cell 0
       have x1 := v2.cell 1
       have z0 := v2.frozen 0
       have z1 := v2.frozen 1
       simp at x0 x1)
    | (go_at_call 60
       refine (CB _ g2).mono ?_
       rintro e w3 ⟨rfl, hM3, hf3, hs3⟩
       have g3 := g2.trans' hf3 (fun _ _ e => e)
       have v3 := v2.fr hf3 (fun e => e)
       have y0 := v3.cell 0
       have y1 := v3.cell 1
       have t0 := v3.frozen 0
       have t1 := v3.frozen 1
       have hL3 := hL2.fr hf3 (fun e => e)
       simp at y0 y1)) | fail
  all_goals (
    go_wp2_with fail
    go_ret
    have hp1 : w.heap.size < g' := by simp at hg2; omega
    have hp2 := v2.lt
    have hf5 : Fr (fun k => k = w.heap.size) w3 ((w3.setCell ⟨w.heap.size, 0, none⟩ (.slice (some ⟨g', 0, none⟩) D.n c')).setCell ⟨w.heap.size, 1, none⟩ (.map (some w2.heap.size))) :=
      ((Fr.refl (fun k => k = w.heap.size) w3).setCell (p := ⟨w.heap.size, 0, none⟩) (.inl rfl) _).setCell (p := ⟨w.heap.size, 1, none⟩) (.inl rfl) _
    have hD : DK ((w3.setCell ⟨w.heap.size, 0, none⟩ (.slice (some ⟨g', 0, none⟩) D.n c')).setCell ⟨w.heap.size, 1, none⟩ (.map (some w2.heap.size))) w.heap.size g' w2.heap.size c' D a b :=
      ⟨Hok.out, hn4, (v3.put 0 (.slice (some ⟨g', 0, none⟩) D.n c')).put 1 (.map (some w2.heap.size)), hL3.fr hf5 (by omega), hM3.fr hf5 (by omega), hpos⟩
    refine ⟨_, w.heap.size, rfl, hD.dd, g3.trans' hf5 (fun k hk e => by omega), fun k hk => .inr ?_⟩
    rcases hk with rfl | rfl | rfl <;> omega)
theorem dCopy_nil (w : World) : Calls Try.prog 32 #[.pointer none] w fun e w' => e = .returned (.pointer none) ∧ Fr No w w' := by
  go_enter Try.func32, Try.ntmps32
  go_wp2
  go_ret
  exact ⟨rfl, Fr.refl _ _⟩
end
end Go.Proofs.Ythipcfdmkkfofaa
