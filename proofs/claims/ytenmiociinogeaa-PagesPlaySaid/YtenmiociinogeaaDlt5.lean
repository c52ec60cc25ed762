/- The library's slices.Delete, of one element: at pairs and at pages. -/
import Derived.Test.YtenmiociinogeaaLay5
import Derived.Deep.RegionLaw
import Derived.Lib.SliceRun
namespace Go.Proofs.Ytenmiociinogeaa
open Go.RowKit

theorem run_clear_one {P : Program} (w : World) (t e ty : TypeId) (z : Value) (ht : P.underlying t = some (.slice e)) (hv : ∀ w, (zeroValue e).run P w = .ok z w) (h1 : ∀ v ∈ z.cells.toList, v.oneCell' = true) (b o c : Nat)
    (hc : ∀ j, j < z.cells.size → (w.cell? ⟨b, o + j, none⟩).isSome = true) (hf : ∀ j, j < z.cells.size → w.frozen? ⟨b, o + j, none⟩ = false) :
    (Builtin.clear_ #[t] ty #[.slice (some ⟨b, o, none⟩) 1 c]).run P w = .ok (.tuple #[]) (w.setCells b o z.cells.toList) := by
  have hzc : (Builtin.zeroCells z.cells 1).toList = z.cells.toList := by
    simp [Builtin.zeroCells]
    apply List.ext_getElem
    · simp
    · intro i h2 h3
      have : i % z.cells.size = i := Nat.mod_eq_of_lt (by simpa using h2)
      have h4 : i < z.cells.size := by simpa using h2
      simp [this, getElem!_pos z.cells i h4]
  have hst := run_storeCells_cells (P := P) b o z.cells.toList 0 w (by simpa using hc) (by simpa using hf) h1
  simp only [Nat.add_zero] at hst
  simp [Builtin.clear_, run_underlying ht, hv, hzc, hst]

set_option maxHeartbeats 4000000 in
set_option maxRecDepth 100000 in
theorem delPr (g o n c i : Nat) (xs : List Value) (w : World) (hx : xs.length = n * 2) (hn : n ≤ 100000) (hi : i < n) (hc : n ≤ c) (hcm : c ≤ maxLen) (h1 : ∀ u ∈ xs, u.oneCell' = true) (h : Rg w 50 2 g o c xs) :
    Calls Try.prog 39 #[.slice (some ⟨g, o, none⟩) n c, .int .i64 i, .int .i64 ((i : Int) + 1)] w fun e w' =>
      e = .returned (.slice (some ⟨g, o, none⟩) (n - 1) c) ∧ Rg w' 50 2 g o c (xs.take (i * 2) ++ xs.drop ((i + 1) * 2)) ∧ Fc g o (o + n * 2) w w' := by
  obtain ⟨news, hnews⟩ : ∃ news, news = xs.drop ((i + 1) * 2) := ⟨_, rfl⟩
  have hlen : news.length = (n - (i + 1)) * 2 := by rw [hnews, List.length_drop, hx]; omega
  obtain ⟨A, hA, hsrc⟩ : ∃ A : Addr, (if c = i + 1 then (some ⟨g, o, none⟩ : Option Addr) else some ⟨g, o + (i + 1) * 2, none⟩) = some A ∧ Hid (∀ t u, news[t]? = some u → w.drew.cell? (A.add t) = some u) := by
    by_cases h0 : c = i + 1
    · refine ⟨⟨g, o, none⟩, by simp [h0], Lib.hid (fun t u hu => ?_)⟩
      rw [List.length_eq_zero_iff.1 (show news.length = 0 by rw [hlen]; omega)] at hu
      simp at hu
    · refine ⟨⟨g, o + (i + 1) * 2, none⟩, by simp [h0], Lib.hid (fun t u hu => ?_)⟩
      rw [hnews, List.getElem?_drop] at hu
      have := h.cell hu
      rw [Addr.add_lit, show o + (i + 1) * 2 + t = o + ((i + 1) * 2 + t) by omega]
      exact this
  have s1 : Hid (news.length = (n - (i + 1)) * 2) := Lib.hid hlen
  have s2 : Hid (∀ u ∈ news, u.oneCell' = true) := Lib.hid (fun u hu => h1 u (List.mem_of_mem_drop (hnews ▸ hu)))
  have s3 : Hid (∀ t, t < news.length → (w.drew.cell? ⟨g, o + i * 2 + t, none⟩).isSome = true ∧ w.drew.frozen? ⟨g, o + i * 2 + t, none⟩ = false) := Lib.hid (fun t ht => by
    rw [hlen] at ht
    rw [Nat.add_assoc]
    exact ⟨h.drew.there (by omega), h.drew.froz _⟩)
  obtain ⟨W1, hW1⟩ : ∃ W1, W1 = w.drew.setCells g (o + i * 2) news := ⟨_, rfl⟩
  have hR1 : Rg W1 50 2 g o c (xs.take (i * 2) ++ news) := by
    rw [hW1]
    refine h.drew.put (i * 2) news _ (by omega) (by rw [List.length_append, List.length_take]; omega) (fun j u hu => ?_)
    rw [List.getElem?_append] at hu
    have hl : (xs.take (i * 2)).length = i * 2 := by rw [List.length_take]; omega
    rw [hl] at hu
    by_cases hj : j < i * 2
    · rw [if_pos hj, List.getElem?_take, if_pos hj] at hu
      exact .inr ⟨.inl hj, hu⟩
    · rw [if_neg hj] at hu
      exact .inl ⟨by omega, hu⟩
  have hF1 : Fc g o (o + n * 2) w W1 := by
    rw [hW1]
    exact (Fc.refl g o (o + n * 2) w).drew.cells news (by omega) (by omega)
  have hl2 : (xs.take (i * 2) ++ news).length = (n - 1) * 2 := by rw [List.length_append, List.length_take, hlen]; omega
  obtain ⟨zs, hzs⟩ : ∃ zs : List Value, zs = (.agg #[.int .i64 0, .int .i64 0] : Value).cells.toList := ⟨_, rfl⟩
  have hZc : zs.length = 2 := by rw [hzs]; rfl
  have hZ1 : ∀ v ∈ (.agg #[.int .i64 0, .int .i64 0] : Value).cells.toList, v.oneCell' = true := by intro v hv; simp [Value.cells] at hv; rcases hv with rfl | rfl <;> rfl
  have hcl : ∀ ty, (Builtin.clear_ #[70] ty #[.slice (some ⟨g, o + (i + (n - (i + 1))) * 2, none⟩) (n - (i + (n - (i + 1)))) (c - (i + (n - (i + 1))))]).run Try.prog W1 = .ok (.tuple #[]) (W1.setCells g (o + (n - 1) * 2) zs) := fun ty => by
    rw [show o + (i + (n - (i + 1))) * 2 = o + (n - 1) * 2 by omega, show n - (i + (n - (i + 1))) = 1 by omega, hzs]
    exact run_clear_one W1 _ 50 ty (.agg #[.int .i64 0, .int .i64 0]) Try.underlying70 (fun w => Try.zeroValue50 w) hZ1 g _ _ (fun j hj => by rw [Nat.add_assoc]; exact hR1.there (by have : j < 2 := hj; omega)) (fun j _ => hR1.froz _)
  have hR2 : Rg (W1.setCells g (o + (n - 1) * 2) zs) 50 2 g o c (xs.take (i * 2) ++ news) :=
    hR1.put ((n - 1) * 2) _ _ (by rw [hZc]; omega) (by omega) (fun j u hu => by
      have := (List.getElem?_eq_some_iff.1 hu).1
      exact .inr ⟨.inl (by omega), hu⟩)
  have hF2 : Fc g o (o + n * 2) w (W1.setCells g (o + (n - 1) * 2) zs) := hF1.cells _ (by omega) (by rw [hZc]; omega)
  have HR : Hid (Rg (W1.setCells g (o + (n - 1) * 2) zs) 50 2 g o c (xs.take (i * 2) ++ xs.drop ((i + 1) * 2)) ∧ Fc g o (o + n * 2) w (W1.setCells g (o + (n - 1) * 2) zs)) := Lib.hid ⟨by rw [← hnews]; exact hR2, hF2⟩
  have hW : Hid (W1 = w.drew.setCells g (o + i * 2) news) := Lib.hid hW1
  obtain ⟨i0, hi0, hz0, hz1, hz2⟩ := info_parts info_pair
  have hic : i ≤ c := by omega
  have hjc : i + 1 ≤ c := by omega
  have hjn : (i : Int) + 1 ≤ (n : Int) := by omega
  have hj0 : (0 : Int) ≤ (i : Int) + 1 := by omega
  have hjt : ((i : Int) + 1).toNat = i + 1 := by omega
  have hc63 : c ≤ 9223372036854775807 := by unfold maxLen at hcm; omega
  clear hW1 hR1 hF1 hR2 hF2 hnews hlen hl2 h hcm hzs hZc hZ1 h1 hx
  go_enter Try.func39, Try.ntmps39
  go_wp2_with fail
  go_region_law (refine step_append_room rfl (.tmp 22) (.tmp 25) 70 rfl 50 i0 2 Try.underlying70 hi0 hz1 g o i c (by simp [Act.eval, Act.put]) A (n - (i + 1)) (c - (i + 1)) news (by simp [Act.eval, Act.put]) s1.out hsrc.out s2.out (by omega) s3.out ?_; rw [← hW.out])
  go_wp2
  go_ret
  exact ⟨by rw [show n - 1 = i + (n - (i + 1)) by omega]; rfl, HR.out⟩
theorem info_page : (Try.prog.info? 72).map (fun i => (i.zero, i.size, i.bytes)) = some (some (.agg #[.slice none 0 0]), 1, 24) := by kernel_rfl

set_option maxHeartbeats 4000000 in
set_option maxRecDepth 100000 in
theorem delPg (g o n c i : Nat) (xs : List Value) (w : World) (hx : xs.length = n * 1) (hn : n ≤ 100000) (hi : i < n) (hc : n ≤ c) (hcm : c ≤ maxLen) (h1 : ∀ u ∈ xs, u.oneCell' = true) (h : Rg w 72 1 g o c xs) :
    Calls Try.prog 40 #[.slice (some ⟨g, o, none⟩) n c, .int .i64 i, .int .i64 ((i : Int) + 1)] w fun e w' =>
      e = .returned (.slice (some ⟨g, o, none⟩) (n - 1) c) ∧ Rg w' 72 1 g o c (xs.take (i * 1) ++ xs.drop ((i + 1) * 1)) ∧ Fc g o (o + n * 1) w w' := by
  obtain ⟨news, hnews⟩ : ∃ news, news = xs.drop ((i + 1) * 1) := ⟨_, rfl⟩
  have hlen : news.length = (n - (i + 1)) * 1 := by rw [hnews, List.length_drop, hx]; omega
  obtain ⟨A, hA, hsrc⟩ : ∃ A : Addr, (if c = i + 1 then (some ⟨g, o, none⟩ : Option Addr) else some ⟨g, o + (i + 1), none⟩) = some A ∧ Hid (∀ t u, news[t]? = some u → w.drew.cell? (A.add t) = some u) := by
    by_cases h0 : c = i + 1
    · refine ⟨⟨g, o, none⟩, by simp [h0], Lib.hid (fun t u hu => ?_)⟩
      rw [List.length_eq_zero_iff.1 (show news.length = 0 by rw [hlen]; omega)] at hu
      simp at hu
    · refine ⟨⟨g, o + (i + 1), none⟩, by simp [h0], Lib.hid (fun t u hu => ?_)⟩
      rw [hnews, List.getElem?_drop] at hu
      have := h.cell hu
      rw [Addr.add_lit, show o + (i + 1) + t = o + ((i + 1) * 1 + t) by omega]
      exact this
  have s1 : Hid (news.length = (n - (i + 1)) * 1) := Lib.hid hlen
  have s2 : Hid (∀ u ∈ news, u.oneCell' = true) := Lib.hid (fun u hu => h1 u (List.mem_of_mem_drop (hnews ▸ hu)))
  have s3 : Hid (∀ t, t < news.length → (w.drew.cell? ⟨g, o + i * 1 + t, none⟩).isSome = true ∧ w.drew.frozen? ⟨g, o + i * 1 + t, none⟩ = false) := Lib.hid (fun t ht => by
    rw [hlen] at ht
    rw [Nat.add_assoc]
    exact ⟨h.drew.there (by omega), h.drew.froz _⟩)
  obtain ⟨W1, hW1⟩ : ∃ W1, W1 = w.drew.setCells g (o + i * 1) news := ⟨_, rfl⟩
  have hR1 : Rg W1 72 1 g o c (xs.take (i * 1) ++ news) := by
    rw [hW1]
    refine h.drew.put (i * 1) news _ (by omega) (by rw [List.length_append, List.length_take]; omega) (fun j u hu => ?_)
    rw [List.getElem?_append] at hu
    have hl : (xs.take (i * 1)).length = i * 1 := by rw [List.length_take]; omega
    rw [hl] at hu
    by_cases hj : j < i * 1
    · rw [if_pos hj, List.getElem?_take, if_pos hj] at hu
      exact .inr ⟨.inl hj, hu⟩
    · rw [if_neg hj] at hu
      exact .inl ⟨by omega, hu⟩
  have hF1 : Fc g o (o + n * 1) w W1 := by
    rw [hW1]
    exact (Fc.refl g o (o + n * 1) w).drew.cells news (by omega) (by omega)
  have hl2 : (xs.take (i * 1) ++ news).length = (n - 1) * 1 := by rw [List.length_append, List.length_take, hlen]; omega
  obtain ⟨zs, hzs⟩ : ∃ zs : List Value, zs = (.agg #[.slice none 0 0] : Value).cells.toList := ⟨_, rfl⟩
  have hZc : zs.length = 1 := by rw [hzs]; rfl
  have hZ1 : ∀ v ∈ (.agg #[.slice none 0 0] : Value).cells.toList, v.oneCell' = true := by intro v hv; simp [Value.cells] at hv; subst hv; rfl
  have hcl : ∀ ty, (Builtin.clear_ #[26] ty #[.slice (some ⟨g, o + (i + (n - (i + 1))), none⟩) (n - (i + (n - (i + 1)))) (c - (i + (n - (i + 1))))]).run Try.prog W1 = .ok (.tuple #[]) (W1.setCells g (o + (n - 1)) zs) := fun ty => by
    rw [show o + (i + (n - (i + 1))) = o + (n - 1) by omega, show n - (i + (n - (i + 1))) = 1 by omega, hzs]
    exact run_clear_one W1 _ 72 ty (.agg #[.slice none 0 0]) Try.underlying26 (fun w => Try.zeroValue72 w) hZ1 g _ _ (fun j hj => by rw [Nat.add_assoc]; exact hR1.there (by have : j < 1 := hj; omega)) (fun j _ => hR1.froz _)
  have hR2 : Rg (W1.setCells g (o + (n - 1)) zs) 72 1 g o c (xs.take (i * 1) ++ news) :=
    hR1.put ((n - 1)) _ _ (by rw [hZc]; omega) (by omega) (fun j u hu => by
      have := (List.getElem?_eq_some_iff.1 hu).1
      exact .inr ⟨.inl (by omega), hu⟩)
  have hF2 : Fc g o (o + n * 1) w (W1.setCells g (o + (n - 1)) zs) := hF1.cells _ (by omega) (by rw [hZc]; omega)
  have HR : Hid (Rg (W1.setCells g (o + (n - 1)) zs) 72 1 g o c (xs.take (i * 1) ++ xs.drop ((i + 1) * 1)) ∧ Fc g o (o + n * 1) w (W1.setCells g (o + (n - 1)) zs)) := Lib.hid ⟨by rw [← hnews]; exact hR2, hF2⟩
  have hW : Hid (W1 = w.drew.setCells g (o + i * 1) news) := Lib.hid hW1
  obtain ⟨i0, hi0, hz0, hz1, hz2⟩ := info_parts info_page
  have hic : i ≤ c := by omega
  have hjc : i + 1 ≤ c := by omega
  have hjn : (i : Int) + 1 ≤ (n : Int) := by omega
  have hj0 : (0 : Int) ≤ (i : Int) + 1 := by omega
  have hjt : ((i : Int) + 1).toNat = i + 1 := by omega
  have hc63 : c ≤ 9223372036854775807 := by unfold maxLen at hcm; omega
  clear hW1 hR1 hF1 hR2 hF2 hnews hlen hl2 h hcm hzs hZc hZ1 h1 hx
  go_enter Try.func40, Try.ntmps40
  go_wp2_with fail
  go_region_law (refine step_append_room rfl (.tmp 22) (.tmp 25) 26 rfl 72 i0 1 Try.underlying26 hi0 hz1 g o i c (by simp [Act.eval, Act.put]) A (n - (i + 1)) (c - (i + 1)) news (by simp [Act.eval, Act.put]) s1.out hsrc.out s2.out (by omega) s3.out ?_; rw [← hW.out])
  go_wp2
  go_ret
  exact ⟨by rw [show n - 1 = i + (n - (i + 1)) by omega]; rfl, HR.out⟩
end Go.Proofs.Ytenmiociinogeaa
