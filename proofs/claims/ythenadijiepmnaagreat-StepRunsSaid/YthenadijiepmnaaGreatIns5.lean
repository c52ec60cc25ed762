/- The library's slices.Delete, of one element: at pairs and at pages. -/
import Derived.Test.YthenadijiepmnaaGreatLay5
import Derived.Deep.RegionLaw
import Derived.Lib.SliceRun
import Derived.Shelf.Spec.SlicesInsert
import Derived.Lib.AppendZerosOnto
import Derived.Laws.NewBlocks
namespace Go.Proofs.YthenadijiepmnaaGreat
open Go.RowKit

theorem run_clear_one {P : Program} (w : World) (t e ty : TypeId) (z : Value) (ht : P.underlying t = some (.slice e)) (hv : ∀ w, (zeroValue e).run P w = .ok z w) (h1 : ∀ v ∈ z.cells.toList, v.oneCell' = true) (b o c : Nat)
    (hc : ∀ j, j < z.cells.size → (w.cell? ⟨b, o + j, none⟩).isSome = true) (hf : ∀ j, j < z.cells.size → w.frozen? ⟨b, o + j, none⟩ = false) :
    (Builtin.clear_ #[t] ty #[.slice (some ⟨b, o, none⟩) 1 c]).run P w = .ok (.tuple #[]) (w.setCells b o z.cells.toList) := by
  have hzc : (Builtin.zeroCells z.cells 1).toList = z.cells.toList := by
    simp [Builtin.zeroCells]
    apply List.ext_getElem
    · simp
    · intro i h2 h3
      have : i % z.cells.size = i := Nat.mod_eq_of_lt (by simpa using h2)
      have h4 : i < z.cells.size := by simpa using h2
      simp [this, getElem!_pos z.cells i h4]
  have hst := run_storeCells_cells (P := P) b o z.cells.toList 0 w (by simpa using hc) (by simpa using hf) h1
  simp only [Nat.add_zero] at hst
  simp [Builtin.clear_, run_underlying ht, hv, hzc, hst]

set_option maxHeartbeats 4000000 in
set_option maxRecDepth 100000 in
theorem delPr (g o n c i : Nat) (xs : List Value) (w : World) (hx : xs.length = n * 2) (hn : n ≤ 100000) (hi : i < n) (hc : n ≤ c) (hcm : c ≤ maxLen) (h1 : ∀ u ∈ xs, u.oneCell' = true) (h : Rg w 54 2 g o c xs) :
    Calls Tryz.prog 91 #[.slice (some ⟨g, o, none⟩) n c, .int .i64 i, .int .i64 ((i : Int) + 1)] w fun e w' =>
      e = .returned (.slice (some ⟨g, o, none⟩) (n - 1) c) ∧ Rg w' 54 2 g o c (xs.take (i * 2) ++ xs.drop ((i + 1) * 2)) ∧ Fc g o (o + n * 2) w w' := by
  obtain ⟨news, hnews⟩ : ∃ news, news = xs.drop ((i + 1) * 2) := ⟨_, rfl⟩
  have hlen : news.length = (n - (i + 1)) * 2 := by rw [hnews, List.length_drop, hx]; omega
  obtain ⟨A, hA, hsrc⟩ : ∃ A : Addr, (if c = i + 1 then (some ⟨g, o, none⟩ : Option Addr) else some ⟨g, o + (i + 1) * 2, none⟩) = some A ∧ Hid (∀ t u, news[t]? = some u → w.drew.cell? (A.add t) = some u) := by
    by_cases h0 : c = i + 1
    · refine ⟨⟨g, o, none⟩, by simp [h0], Lib.hid (fun t u hu => ?_)⟩
      rw [List.length_eq_zero_iff.1 (show news.length = 0 by rw [hlen]; omega)] at hu
      simp at hu
    · refine ⟨⟨g, o + (i + 1) * 2, none⟩, by simp [h0], Lib.hid (fun t u hu => ?_)⟩
      rw [hnews, List.getElem?_drop] at hu
      have := h.cell hu
      rw [Addr.add_lit, show o + (i + 1) * 2 + t = o + ((i + 1) * 2 + t) by omega]
      exact this
  have s1 : Hid (news.length = (n - (i + 1)) * 2) := Lib.hid hlen
  have s2 : Hid (∀ u ∈ news, u.oneCell' = true) := Lib.hid (fun u hu => h1 u (List.mem_of_mem_drop (hnews ▸ hu)))
  have s3 : Hid (∀ t, t < news.length → (w.drew.cell? ⟨g, o + i * 2 + t, none⟩).isSome = true ∧ w.drew.frozen? ⟨g, o + i * 2 + t, none⟩ = false) := Lib.hid (fun t ht => by
    rw [hlen] at ht
    rw [Nat.add_assoc]
    exact ⟨h.drew.there (by omega), h.drew.froz _⟩)
  obtain ⟨W1, hW1⟩ : ∃ W1, W1 = w.drew.setCells g (o + i * 2) news := ⟨_, rfl⟩
  have hR1 : Rg W1 54 2 g o c (xs.take (i * 2) ++ news) := by
    rw [hW1]
    refine h.drew.put (i * 2) news _ (by omega) (by rw [List.length_append, List.length_take]; omega) (fun j u hu => ?_)
    rw [List.getElem?_append] at hu
    have hl : (xs.take (i * 2)).length = i * 2 := by rw [List.length_take]; omega
    rw [hl] at hu
    by_cases hj : j < i * 2
    · rw [if_pos hj, List.getElem?_take, if_pos hj] at hu
      exact .inr ⟨.inl hj, hu⟩
    · rw [if_neg hj] at hu
      exact .inl ⟨by omega, hu⟩
  have hF1 : Fc g o (o + n * 2) w W1 := by
    rw [hW1]
    exact (Fc.refl g o (o + n * 2) w).drew.cells news (by omega) (by omega)
  have hl2 : (xs.take (i * 2) ++ news).length = (n - 1) * 2 := by rw [List.length_append, List.length_take, hlen]; omega
  obtain ⟨zs, hzs⟩ : ∃ zs : List Value, zs = (.agg #[.int .i64 0, .int .i64 0] : Value).cells.toList := ⟨_, rfl⟩
  have hZc : zs.length = 2 := by rw [hzs]; rfl
  have hZ1 : ∀ v ∈ (.agg #[.int .i64 0, .int .i64 0] : Value).cells.toList, v.oneCell' = true := by intro v hv; simp [Value.cells] at hv; rcases hv with rfl | rfl <;> rfl
  have hcl : ∀ ty, (Builtin.clear_ #[103] ty #[.slice (some ⟨g, o + (i + (n - (i + 1))) * 2, none⟩) (n - (i + (n - (i + 1)))) (c - (i + (n - (i + 1))))]).run Tryz.prog W1 = .ok (.tuple #[]) (W1.setCells g (o + (n - 1) * 2) zs) := fun ty => by
    rw [show o + (i + (n - (i + 1))) * 2 = o + (n - 1) * 2 by omega, show n - (i + (n - (i + 1))) = 1 by omega, hzs]
    exact run_clear_one W1 _ 54 ty (.agg #[.int .i64 0, .int .i64 0]) Tryz.underlying103 (fun w => Tryz.zeroValue54 w) hZ1 g _ _ (fun j hj => by rw [Nat.add_assoc]; exact hR1.there (by have : j < 2 := hj; omega)) (fun j _ => hR1.froz _)
  have hR2 : Rg (W1.setCells g (o + (n - 1) * 2) zs) 54 2 g o c (xs.take (i * 2) ++ news) :=
    hR1.put ((n - 1) * 2) _ _ (by rw [hZc]; omega) (by omega) (fun j u hu => by
      have := (List.getElem?_eq_some_iff.1 hu).1
      exact .inr ⟨.inl (by omega), hu⟩)
  have hF2 : Fc g o (o + n * 2) w (W1.setCells g (o + (n - 1) * 2) zs) := hF1.cells _ (by omega) (by rw [hZc]; omega)
  have HR : Hid (Rg (W1.setCells g (o + (n - 1) * 2) zs) 54 2 g o c (xs.take (i * 2) ++ xs.drop ((i + 1) * 2)) ∧ Fc g o (o + n * 2) w (W1.setCells g (o + (n - 1) * 2) zs)) := Lib.hid ⟨by rw [← hnews]; exact hR2, hF2⟩
  have hW : Hid (W1 = w.drew.setCells g (o + i * 2) news) := Lib.hid hW1
  obtain ⟨i0, hi0, hz0, hz1, hz2⟩ := info_parts info_pair
  have hic : i ≤ c := by omega
  have hjc : i + 1 ≤ c := by omega
  have hjn : (i : Int) + 1 ≤ (n : Int) := by omega
  have hj0 : (0 : Int) ≤ (i : Int) + 1 := by omega
  have hjt : ((i : Int) + 1).toNat = i + 1 := by omega
  have hc63 : c ≤ 9223372036854775807 := by unfold maxLen at hcm; omega
  clear hW1 hR1 hF1 hR2 hF2 hnews hlen hl2 h hcm hzs hZc hZ1 h1 hx
  go_enter Tryz.func91, Tryz.ntmps91
  go_wp2_with fail
  go_region_law (refine step_append_room rfl (.tmp 22) (.tmp 25) 103 rfl 54 i0 2 Tryz.underlying103 hi0 hz1 g o i c (by simp [Act.eval, Act.put]) A (n - (i + 1)) (c - (i + 1)) news (by simp [Act.eval, Act.put]) s1.out hsrc.out s2.out (by omega) s3.out ?_; rw [← hW.out])
  go_wp2
  go_ret
  exact ⟨by rw [show n - 1 = i + (n - (i + 1)) by omega]; rfl, HR.out⟩
theorem info_page : (Tryz.prog.info? 105).map (fun i => (i.zero, i.size, i.bytes)) = some (some (.agg #[.slice none 0 0]), 1, 24) := by kernel_rfl

set_option maxHeartbeats 4000000 in
set_option maxRecDepth 100000 in
theorem delPg (g o n c i : Nat) (xs : List Value) (w : World) (hx : xs.length = n * 1) (hn : n ≤ 100000) (hi : i < n) (hc : n ≤ c) (hcm : c ≤ maxLen) (h1 : ∀ u ∈ xs, u.oneCell' = true) (h : Rg w 105 1 g o c xs) :
    Calls Tryz.prog 92 #[.slice (some ⟨g, o, none⟩) n c, .int .i64 i, .int .i64 ((i : Int) + 1)] w fun e w' =>
      e = .returned (.slice (some ⟨g, o, none⟩) (n - 1) c) ∧ Rg w' 105 1 g o c (xs.take (i * 1) ++ xs.drop ((i + 1) * 1)) ∧ Fc g o (o + n * 1) w w' := by
  obtain ⟨news, hnews⟩ : ∃ news, news = xs.drop ((i + 1) * 1) := ⟨_, rfl⟩
  have hlen : news.length = (n - (i + 1)) * 1 := by rw [hnews, List.length_drop, hx]; omega
  obtain ⟨A, hA, hsrc⟩ : ∃ A : Addr, (if c = i + 1 then (some ⟨g, o, none⟩ : Option Addr) else some ⟨g, o + (i + 1), none⟩) = some A ∧ Hid (∀ t u, news[t]? = some u → w.drew.cell? (A.add t) = some u) := by
    by_cases h0 : c = i + 1
    · refine ⟨⟨g, o, none⟩, by simp [h0], Lib.hid (fun t u hu => ?_)⟩
      rw [List.length_eq_zero_iff.1 (show news.length = 0 by rw [hlen]; omega)] at hu
      simp at hu
    · refine ⟨⟨g, o + (i + 1), none⟩, by simp [h0], Lib.hid (fun t u hu => ?_)⟩
      rw [hnews, List.getElem?_drop] at hu
      have := h.cell hu
      rw [Addr.add_lit, show o + (i + 1) + t = o + ((i + 1) * 1 + t) by omega]
      exact this
  have s1 : Hid (news.length = (n - (i + 1)) * 1) := Lib.hid hlen
  have s2 : Hid (∀ u ∈ news, u.oneCell' = true) := Lib.hid (fun u hu => h1 u (List.mem_of_mem_drop (hnews ▸ hu)))
  have s3 : Hid (∀ t, t < news.length → (w.drew.cell? ⟨g, o + i * 1 + t, none⟩).isSome = true ∧ w.drew.frozen? ⟨g, o + i * 1 + t, none⟩ = false) := Lib.hid (fun t ht => by
    rw [hlen] at ht
    rw [Nat.add_assoc]
    exact ⟨h.drew.there (by omega), h.drew.froz _⟩)
  obtain ⟨W1, hW1⟩ : ∃ W1, W1 = w.drew.setCells g (o + i * 1) news := ⟨_, rfl⟩
  have hR1 : Rg W1 105 1 g o c (xs.take (i * 1) ++ news) := by
    rw [hW1]
    refine h.drew.put (i * 1) news _ (by omega) (by rw [List.length_append, List.length_take]; omega) (fun j u hu => ?_)
    rw [List.getElem?_append] at hu
    have hl : (xs.take (i * 1)).length = i * 1 := by rw [List.length_take]; omega
    rw [hl] at hu
    by_cases hj : j < i * 1
    · rw [if_pos hj, List.getElem?_take, if_pos hj] at hu
      exact .inr ⟨.inl hj, hu⟩
    · rw [if_neg hj] at hu
      exact .inl ⟨by omega, hu⟩
  have hF1 : Fc g o (o + n * 1) w W1 := by
    rw [hW1]
    exact (Fc.refl g o (o + n * 1) w).drew.cells news (by omega) (by omega)
  have hl2 : (xs.take (i * 1) ++ news).length = (n - 1) * 1 := by rw [List.length_append, List.length_take, hlen]; omega
  obtain ⟨zs, hzs⟩ : ∃ zs : List Value, zs = (.agg #[.slice none 0 0] : Value).cells.toList := ⟨_, rfl⟩
  have hZc : zs.length = 1 := by rw [hzs]; rfl
  have hZ1 : ∀ v ∈ (.agg #[.slice none 0 0] : Value).cells.toList, v.oneCell' = true := by intro v hv; simp [Value.cells] at hv; subst hv; rfl
  have hcl : ∀ ty, (Builtin.clear_ #[68] ty #[.slice (some ⟨g, o + (i + (n - (i + 1))), none⟩) (n - (i + (n - (i + 1)))) (c - (i + (n - (i + 1))))]).run Tryz.prog W1 = .ok (.tuple #[]) (W1.setCells g (o + (n - 1)) zs) := fun ty => by
    rw [show o + (i + (n - (i + 1))) = o + (n - 1) by omega, show n - (i + (n - (i + 1))) = 1 by omega, hzs]
    exact run_clear_one W1 _ 105 ty (.agg #[.slice none 0 0]) Tryz.underlying68 (fun w => Tryz.zeroValue105 w) hZ1 g _ _ (fun j hj => by rw [Nat.add_assoc]; exact hR1.there (by have : j < 1 := hj; omega)) (fun j _ => hR1.froz _)
  have hR2 : Rg (W1.setCells g (o + (n - 1)) zs) 105 1 g o c (xs.take (i * 1) ++ news) :=
    hR1.put ((n - 1)) _ _ (by rw [hZc]; omega) (by omega) (fun j u hu => by
      have := (List.getElem?_eq_some_iff.1 hu).1
      exact .inr ⟨.inl (by omega), hu⟩)
  have hF2 : Fc g o (o + n * 1) w (W1.setCells g (o + (n - 1)) zs) := hF1.cells _ (by omega) (by rw [hZc]; omega)
  have HR : Hid (Rg (W1.setCells g (o + (n - 1)) zs) 105 1 g o c (xs.take (i * 1) ++ xs.drop ((i + 1) * 1)) ∧ Fc g o (o + n * 1) w (W1.setCells g (o + (n - 1)) zs)) := Lib.hid ⟨by rw [← hnews]; exact hR2, hF2⟩
  have hW : Hid (W1 = w.drew.setCells g (o + i * 1) news) := Lib.hid hW1
  obtain ⟨i0, hi0, hz0, hz1, hz2⟩ := info_parts info_page
  have hic : i ≤ c := by omega
  have hjc : i + 1 ≤ c := by omega
  have hjn : (i : Int) + 1 ≤ (n : Int) := by omega
  have hj0 : (0 : Int) ≤ (i : Int) + 1 := by omega
  have hjt : ((i : Int) + 1).toNat = i + 1 := by omega
  have hc63 : c ≤ 9223372036854775807 := by unfold maxLen at hcm; omega
  clear hW1 hR1 hF1 hR2 hF2 hnews hlen hl2 h hcm hzs hZc hZ1 h1 hx
  go_enter Tryz.func92, Tryz.ntmps92
  go_wp2_with fail
  go_region_law (refine step_append_room rfl (.tmp 22) (.tmp 25) 68 rfl 105 i0 1 Tryz.underlying68 hi0 hz1 g o i c (by simp [Act.eval, Act.put]) A (n - (i + 1)) (c - (i + 1)) news (by simp [Act.eval, Act.put]) s1.out hsrc.out s2.out (by omega) s3.out ?_; rw [← hW.out])
  go_wp2
  go_ret
  exact ⟨by rw [show n - 1 = i + (n - (i + 1)) by omega]; rfl, HR.out⟩
end Go.Proofs.YthenadijiepmnaaGreat
/- The library's slices.Insert, of one element: at pairs and at pages. -/
namespace Go.Proofs.YthenadijiepmnaaGreat
open Go.RowKit

theorem run_copy_k {P : Program} (w : World) (dT sT ty elem : TypeId) (size b o dLen dCap : Nat) (a : Addr) (sLen sCap m : Nat) (cs : List Value)
    (hu : P.underlying dT = some (.slice elem)) (hs : (P.info? elem).map (·.size) = some size) (hm : Nat.min sLen dLen = m) (hn : cs.length = m * size)
    (hsrc : ∀ j v, cs[j]? = some v → w.cell? (a.add j) = some v) (hc : ∀ j, j < cs.length → (w.cell? ⟨b, o + j, none⟩).isSome = true) (hf : ∀ j, j < cs.length → w.frozen? ⟨b, o + j, none⟩ = false) (h1 : ∀ v ∈ cs, v.oneCell' = true) :
    (Builtin.copy_ #[dT, sT] ty #[.slice (some ⟨b, o, none⟩) dLen dCap, .slice (some a) sLen sCap]).run P w = .ok (goInt m) (w.setCells b o cs) := by
  have hl := run_firstCells_some (P := P) w size m a sLen sCap cs hn hsrc
  have hst := run_storeCells_cells (P := P) b o cs 0 w (by simpa using hc) (by simpa using hf) h1
  simp only [Nat.add_zero] at hst
  cases hq : P.info? elem with
  | none => simp [hq] at hs
  | some i =>
    have hi : i.size = size := by simpa [hq] using hs
    simp [Builtin.copy_, run_underlying hu, Builtin.lenOf, sizeOf, typeInfo, hq, hi, hm, hl, hst]
theorem Rg.fresh (w : World) (t : TypeId) (k c : Nat) (xs : List Value) (Z : Array Value) (h : (xs.toArray ++ Z).size = c * k) : Rg (w.alloc (.cells (xs.toArray ++ Z) t)) t k w.heap.size 0 c xs := by
  refine ⟨by simp at h; omega, _, Bk.made w t _, by omega, fun j u hu => ?_⟩
  have := (List.getElem?_eq_some_iff.1 hu).1
  rw [Nat.zero_add, Array.getElem?_append_left (by simpa using this)]
  simpa using hu
/-- A list with one element more. -/
def insL {α : Type} (xs us : List α) (i : Nat) : List α := xs.take i ++ us ++ xs.drop i
theorem insL_len {α : Type} (xs us : List α) (i : Nat) : (insL xs us i).length = xs.length + us.length := by
  unfold insL
  simp only [List.length_append, List.length_take, List.length_drop]
  omega
theorem insL_at {α : Type} {xs us : List α} {i j : Nat} {u : α} (hi : i ≤ xs.length) (h : (insL xs us i)[j]? = some u) : (j < i ∧ xs[j]? = some u) ∨ (i ≤ j ∧ j < i + us.length ∧ us[j - i]? = some u) ∨ (i + us.length ≤ j ∧ xs[j - us.length]? = some u) := by
  unfold insL at h
  have hl : (xs.take i).length = i := by rw [List.length_take]; omega
  by_cases h1 : j < i
  · rw [List.append_assoc, List.getElem?_append_left (by omega), List.getElem?_take, if_pos h1] at h
    exact .inl ⟨h1, h⟩
  · rw [List.append_assoc, List.getElem?_append_right (by omega), hl] at h
    by_cases h2 : j < i + us.length
    · rw [List.getElem?_append_left (by omega)] at h
      exact .inr (.inl ⟨by omega, h2, h⟩)
    · rw [List.getElem?_append_right (by omega), List.getElem?_drop, show i + (j - i - us.length) = j - us.length by omega] at h
      exact .inr (.inr ⟨by omega, h⟩)

section
variable {g o n c i b : Nat} {xs us : List Value} {w : World}
/-- What an insertion leaves: a row with one element more, in its place or anew. -/
def insPrLeft (w : World) (g o n c i : Nat) (xs us : List Value) (e : Ending) (w' : World) : Prop :=
  ∃ g' o' c', e = .returned (.slice (some ⟨g', o', none⟩) (n + 1) c') ∧ n + 1 ≤ c' ∧ c' ≤ maxLen ∧ Rg w' 54 2 g' o' c' (insL xs us (i * 2)) ∧ Fc g o (o + c * 2) w w' ∧ ((g' = g ∧ o' = o ∧ c' = c) ∨ w.heap.size ≤ g')

set_option maxHeartbeats 4000000 in
set_option maxRecDepth 100000 in
theorem insPr_end_room (hx : xs.length = n * 2) (hn : n ≤ 100000) (hc : n + 1 ≤ c) (hcm : c ≤ maxLen) (hul : us.length = 2) (hu1 : ∀ u ∈ us, u.oneCell' = true) (h : Rg w 54 2 g o c xs) (hb : Rg w 54 2 b 0 1 us) :
    Calls Tryz.prog 63 #[.slice (some ⟨g, o, none⟩) n c, .int .i64 n, .slice (some ⟨b, 0, none⟩) 1 1] w (insPrLeft w g o n c n xs us) := by
  obtain ⟨i0, hi0, hz0, hz1, hz2⟩ := info_parts info_pair
  have hsrc : Src Tryz.prog i0.size 28 (.slice (some ⟨b, 0, none⟩) 1 1) 1 us w := Src.ofSlice w Tryz.underlying28 ⟨b, 0, none⟩ 1 1 us (by rw [hz1]; omega) (fun j u hu => by rw [Addr.add_lit]; exact hb.cell hu) hu1
  have hrun : ∀ ty, (Builtin.append_ #[103, 28] ty #[.slice (some ⟨g, o, none⟩) n c, .slice (some ⟨b, 0, none⟩) 1 1]).run Tryz.prog w = .ok (.slice (some ⟨g, o, none⟩) (n + 1) c) (w.setCells g (o + n * 2) us) := fun ty => by
    have := run_append_room_src w 103 28 ty 54 i0 Tryz.underlying103 hi0 g o n c _ 1 us hsrc (by omega) (fun j hj => by rw [hz1, Nat.add_assoc]; exact h.there (by omega)) (fun j _ => h.froz _)
    rwa [hz1] at this
  have HR : Hid (insPrLeft w g o n c n xs us (.returned (.slice (some ⟨g, o, none⟩) (n + 1) c)) (w.setCells g (o + n * 2) us)) := Lib.hid ⟨g, o, c, rfl, hc, hcm,
    h.put (n * 2) us _ (by omega) (by rw [insL_len]; omega) (fun j u hu => by
      rcases insL_at (by omega) hu with h1 | h1 | h1
      · exact .inr ⟨.inl h1.1, h1.2⟩
      · exact .inl ⟨h1.1, h1.2.2⟩
      · have := (List.getElem?_eq_some_iff.1 h1.2).1
        omega), (Fc.refl g o _ w).cells us (by omega) (by omega), .inl ⟨rfl, rfl, rfl⟩⟩
  clear hx hcm hul hu1 h hb hsrc
  go_enter Tryz.func63, Tryz.ntmps63
  go_wp2_with (at_builtin; refine Lib.wpList_append_run _ rfl _ _ _ _ rfl _ _ rfl rfl _ _ (hrun _) ?_)
  go_ret
  first | exact HR.out | (have hr := HR.out; simp only [Nat.mul_one] at hr; exact hr)

/-- The same where there is no room; a nil list too. -/
theorem insPr_grow_run (A : Option Addr) (hx : xs.length = n * 2) (hn : n ≤ 100000) (hc : c = n) (hul : us.length = 2) (hu1 : ∀ u ∈ us, u.oneCell' = true) (hb : Rg w 54 2 b 0 1 us)
    (hA : (∃ g o, A = some ⟨g, o, none⟩ ∧ Rg w 54 2 g o c xs) ∨ (A = none ∧ n = 0)) :
    ∃ c' W', (∀ ty, (Builtin.append_ #[103, 28] ty #[.slice A n c, .slice (some ⟨b, 0, none⟩) 1 1]).run Tryz.prog w = .ok (.slice (some ⟨w.heap.size, 0, none⟩) (n + 1) c') W') ∧ n + 1 ≤ c' ∧ c' ≤ maxLen ∧ Rg W' 54 2 w.heap.size 0 c' (xs ++ us) ∧ Fr No w W' := by
  obtain ⟨i0, hi0, hz0, hz1, hz2⟩ := info_parts info_pair
  have hsrc : Src Tryz.prog i0.size 28 (.slice (some ⟨b, 0, none⟩) 1 1) 1 us w := Src.ofSlice w Tryz.underlying28 ⟨b, 0, none⟩ 1 1 us (by rw [hz1]; omega) (fun j u hu => by rw [Addr.add_lit]; exact hb.cell hu) hu1
  have hold : (Builtin.firstCells i0.size n (.slice A n c)).run Tryz.prog w.drew = .ok xs.toArray w.drew := by
    rw [hz1]
    rcases hA with ⟨g, o, rfl, h⟩ | ⟨rfl, rfl⟩
    · exact run_firstCells_some w.drew 2 n _ n c xs hx (fun j v hj => by rw [Addr.add_lit]; exact h.drew.cell hj)
    · rw [List.length_eq_zero_iff.1 (show xs.length = 0 by omega)]
      exact run_firstCells_none w.drew 2 0 0 c
  have hge := grownCap_ge w (n + 1) c 54
  have hcm := grownCap_le_maxLen w (n + 1) c 54 (by unfold maxLen; omega)
  refine ⟨_, _, fun ty => run_append_grow_src w 103 28 ty 54 i0 _ Tryz.underlying103 hi0 hz0 A n c xs hold _ 1 us hsrc (by omega) (by omega) (by rw [hz2]; exact growslice_fits (by omega) (by omega)), hge, hcm, ?_, ((Fr.refl No w).drew).alloc _⟩
  refine Rg.fresh w.drew 54 2 _ (xs ++ us) _ ?_
  rw [Array.size_append, size_zeroCells]
  simp only [List.length_append, hx, hul, Value.cells, Array.size, List.length_cons, List.length_nil]
  omega

set_option maxHeartbeats 4000000 in
set_option maxRecDepth 100000 in
theorem insPr_end_grow (A : Option Addr) (hx : xs.length = n * 2) (hn : n ≤ 100000) (hc : c = n) (hul : us.length = 2) (hu1 : ∀ u ∈ us, u.oneCell' = true) (hb : Rg w 54 2 b 0 1 us)
    (hA : (∃ g o, A = some ⟨g, o, none⟩ ∧ Rg w 54 2 g o c xs) ∨ (A = none ∧ n = 0)) :
    Calls Tryz.prog 63 #[.slice A n c, .int .i64 n, .slice (some ⟨b, 0, none⟩) 1 1] w fun e w' => ∃ c', e = .returned (.slice (some ⟨w.heap.size, 0, none⟩) (n + 1) c') ∧ n + 1 ≤ c' ∧ c' ≤ maxLen ∧ Rg w' 54 2 w.heap.size 0 c' (xs ++ us) ∧ Fr No w w' := by
  obtain ⟨c', W', hrun, h1, h2, h3, h4⟩ := insPr_grow_run A hx hn hc hul hu1 hb hA
  have HR := Lib.hid (show ∃ c'', Ending.returned (.slice (some ⟨w.heap.size, 0, none⟩) (n + 1) c') = .returned (.slice (some ⟨w.heap.size, 0, none⟩) (n + 1) c'') ∧ n + 1 ≤ c'' ∧ c'' ≤ maxLen ∧ Rg W' 54 2 w.heap.size 0 c'' (xs ++ us) ∧ Fr No w W' from ⟨c', rfl, h1, h2, h3, h4⟩)
  subst hc
  clear h1 h2 h3 h4 hb hul hu1 hx
  rcases hA with ⟨g, o, rfl, -⟩ | ⟨rfl, rfl⟩
  · go_enter Tryz.func63, Tryz.ntmps63
    go_wp2_with (at_builtin; refine Lib.wpList_append_run _ rfl _ _ _ _ rfl _ _ rfl rfl _ _ (hrun _) ?_)
    all_goals
      go_ret
      exact HR.out
  · go_enter Tryz.func63, Tryz.ntmps63
    go_wp2_with (at_builtin; refine Lib.wpList_append_run _ rfl _ _ _ _ rfl _ _ rfl rfl _ _ (hrun _) ?_)
    all_goals
      go_ret
      exact HR.out

set_option maxHeartbeats 8000000 in
set_option maxRecDepth 100000 in
theorem insPr_mid_room (hx : xs.length = n * 2) (hn : n ≤ 100000) (hi : i < n) (hc : n + 1 ≤ c) (hcm : c ≤ maxLen) (h1 : ∀ u ∈ xs, u.oneCell' = true) (hul : us.length = 2) (hu1 : ∀ u ∈ us, u.oneCell' = true) (h : Rg w 54 2 g o c xs) (hb : Rg w 54 2 b 0 1 us) (hbg : b ≠ g) :
    Calls Tryz.prog 63 #[.slice (some ⟨g, o, none⟩) n c, .int .i64 i, .slice (some ⟨b, 0, none⟩) 1 1] w (insPrLeft w g o n c i xs us) := by
  obtain ⟨i0, hi0, hz0, hz1, hz2⟩ := info_parts info_pair
  have hsz : (Tryz.prog.info? 54).map (·.size) = some 2 := by rw [hi0]; simp [hz1]
  obtain ⟨kA, hsa, -⟩ := hb.shape (by omega)
  obtain ⟨kB, hsb, hkB⟩ := h.shape (by omega)
  have hov : ∀ lb cb, (callFunc 100 #[.slice (some ⟨b, 0, none⟩) 1 1, .slice (some ⟨g, o + (i + 1) * 2, none⟩) lb cb]).run Tryz.prog w = .ok (.value (.bool false)) w := fun lb cb => by
    rw [run_callFunc_extern Tryz.func100 (by kernel_rfl) (by kernel_rfl) (by kernel_rfl) (e := Extern.SlicesOverlaps.overlaps #[28, 28] #[4]) (by kernel_rfl),
      Lib.run_overlaps_apart w 28 4 54 Tryz.underlying28 2 Tryz.sizeOf54 ⟨b, 0, none⟩ ⟨g, o + (i + 1) * 2, none⟩ 1 1 lb cb hbg _ _ kA kB hsa hsb hkB (hb.froz _) (hb.froz _)]
    rfl
  have hdl : (xs.drop (i * 2)).length = (n - i) * 2 := by rw [List.length_drop, hx]; omega
  have hcp1 : ∀ ty dc sc, (Builtin.copy_ #[103, 103] ty #[.slice (some ⟨g, o + (i + 1) * 2, none⟩) (n - i) dc, .slice (some ⟨g, o + i * 2, none⟩) (n + 1 - i) sc]).run Tryz.prog w.drew = .ok (goInt ((n - i : Nat) : Int)) (w.drew.setCells g (o + (i + 1) * 2) (xs.drop (i * 2))) := fun ty dc sc =>
    run_copy_k w.drew 103 103 ty 54 2 g (o + (i + 1) * 2) _ dc ⟨g, o + i * 2, none⟩ _ sc (n - i) (xs.drop (i * 2)) Tryz.underlying103 hsz (by simp only [Nat.min_def]; split <;> omega) hdl
      (fun j v hj => by rw [Addr.add_lit, Nat.add_assoc]; rw [List.getElem?_drop] at hj; exact h.drew.cell (by rwa [show i * 2 + j = i * 2 + j by omega]))
      (fun j hj => by rw [Nat.add_assoc]; exact h.drew.there (by omega)) (fun j _ => h.drew.froz _) (fun v hv => h1 v (List.mem_of_mem_drop hv))
  obtain ⟨W1, hW1⟩ : ∃ W1, W1 = w.drew.setCells g (o + (i + 1) * 2) (xs.drop (i * 2)) := ⟨_, rfl⟩
  have hR1 : Rg W1 54 2 g o c (xs.take (i * 2)) := by
    rw [hW1]
    refine h.drew.put ((i + 1) * 2) _ _ (by omega) (by rw [List.length_take]; omega) (fun j u hu => ?_)
    rw [List.getElem?_take] at hu
    by_cases hj : j < i * 2
    · rw [if_pos hj] at hu
      exact .inr ⟨.inl (by omega), hu⟩
    · rw [if_neg hj] at hu
      cases hu
  have hb1 : Rg W1 54 2 b 0 1 us := by
    rw [hW1]
    exact hb.drew.fr ((Fr.refl (fun k => k = g) w.drew).setCells _ _ (.inl rfl)) hbg
  have hcp2 : ∀ ty dc, (Builtin.copy_ #[103, 28] ty #[.slice (some ⟨g, o + i * 2, none⟩) (n + 1 - i) dc, .slice (some ⟨b, 0, none⟩) 1 1]).run Tryz.prog W1 = .ok (goInt ((1 : Nat) : Int)) (W1.setCells g (o + i * 2) us) := fun ty dc =>
    run_copy_k W1 103 28 ty 54 2 g (o + i * 2) _ dc ⟨b, 0, none⟩ 1 1 1 us Tryz.underlying103 hsz (by simp only [Nat.min_def]; split <;> omega) (by omega)
      (fun j v hj => by rw [Addr.add_lit]; exact hb1.cell hj)
      (fun j hj => by rw [Nat.add_assoc]; exact hR1.there (by omega)) (fun j _ => hR1.froz _) hu1
  have HR : Hid (insPrLeft w g o n c i xs us (.returned (.slice (some ⟨g, o, none⟩) (n + 1) c)) (W1.setCells g (o + i * 2) us)) := Lib.hid (by
    have hR0 : Rg W1 54 2 g o c (xs.take ((i + 1) * 2) ++ xs.drop (i * 2)) := by
      rw [hW1]
      refine h.drew.put ((i + 1) * 2) _ _ (by omega) (by rw [List.length_append, List.length_take]; omega) (fun j u hu => ?_)
      have hl : (xs.take ((i + 1) * 2)).length = (i + 1) * 2 := by rw [List.length_take]; omega
      rw [List.getElem?_append, hl] at hu
      by_cases hj : j < (i + 1) * 2
      · rw [if_pos hj, List.getElem?_take, if_pos hj] at hu
        exact .inr ⟨.inl hj, hu⟩
      · rw [if_neg hj] at hu
        exact .inl ⟨by omega, hu⟩
    refine ⟨g, o, c, rfl, hc, hcm, hR0.put (i * 2) us _ (by omega) (by rw [insL_len]; omega) (fun j u hu => ?_), ?_, .inl ⟨rfl, rfl, rfl⟩⟩
    · have hl : (xs.take ((i + 1) * 2)).length = (i + 1) * 2 := by rw [List.length_take]; omega
      rcases insL_at (by omega) hu with ⟨a1, a2⟩ | ⟨a1, a2, a3⟩ | ⟨a1, a2⟩
      · refine .inr ⟨.inl (by omega), ?_⟩
        rw [List.getElem?_append_left (by omega), List.getElem?_take, if_pos (by omega)]
        exact a2
      · refine .inl ⟨by omega, ?_⟩
        rw [show j - i * 2 = j - i * 2 by omega]
        exact a3
      · refine .inr ⟨.inr (by omega), ?_⟩
        rw [List.getElem?_append_right (by omega), hl, List.getElem?_drop, show i * 2 + (j - (i + 1) * 2) = j - us.length by omega]
        exact a2
    · rw [hW1]
      exact ((Fc.refl g o (o + c * 2) w).drew.cells _ (by omega) (by omega)).cells us (by omega) (by omega))
  rw [← hW1] at hcp1
  have hin : i ≤ n := by omega
  have hz2' : ¬ ((i : Int) = (n : Int)) := by omega
  have hz3 : ((i : Int) == (n : Int)) = false := by simpa using hz2'
  have hz4 : ¬ ((c : Int) < (n : Int) + 1) := by omega
  have hz5 : (n : Int) + 1 ≤ (c : Int) := by omega
  have htn : ((n : Int) + 1).toNat = n + 1 := by omega
  have hti : ((i : Int) + 1).toNat = i + 1 := by omega
  have hb2 : ¬ (c = i + 1) := by omega
  have hb3 : (i : Int) + 1 ≤ (n : Int) + 1 := by omega
  have hb4 : ¬ (c = i) := by omega
  have hb5 : (0 : Int) ≤ (i : Int) + 1 := by omega
  have hb6 : (0 : Int) ≤ (n : Int) + 1 := by omega
  have hb7 : (i : Int) ≤ (n : Int) + 1 := by omega
  have hw1 : IntKind.i64.wrap ((i : Int) + 1) = (i : Int) + 1 := by rw [IntKind.wrap_i64]; omega
  have hc63 : c ≤ 9223372036854775807 := by unfold maxLen at hcm; omega
  clear hW1 hR1 hb1 hdl hsa hsb hkB hcm h1 hul hu1 h hb hbg hx
  go_enter Tryz.func63, Tryz.ntmps63
  go_wp2_with (simp only [hov])
  go_region_law (refine step_copy_runI rfl _ _ 103 103 rfl _ _ (by simp [Act.eval, Act.put]) (by simp [Act.eval, Act.put]) (hcp1 _ _ _) ?_)
  go_wp2_with (at_builtin; refine wpList_copy_runI _ rfl _ _ 103 28 rfl _ _ rfl rfl (hcp2 _ _) ?_)
  go_ret
  first | exact HR.out | (have hr := HR.out; simp only [Nat.mul_one] at hr; exact hr)
set_option maxHeartbeats 8000000 in
set_option maxRecDepth 100000 in
theorem insPr_mid_grow (hx : xs.length = n * 2) (hn : n ≤ 100000) (hi : i < n) (hc : c = n) (h1 : ∀ u ∈ xs, u.oneCell' = true) (hul : us.length = 2) (hu1 : ∀ u ∈ us, u.oneCell' = true) (h : Rg w 54 2 g o c xs) (hb : Rg w 54 2 b 0 1 us) :
    Calls Tryz.prog 63 #[.slice (some ⟨g, o, none⟩) n c, .int .i64 i, .slice (some ⟨b, 0, none⟩) 1 1] w (insPrLeft w g o n c i xs us) := by
  obtain ⟨i0, hi0, hz0, hz1, hz2⟩ := info_parts info_pair
  have hsz : (Tryz.prog.info? 54).map (·.size) = some 2 := by rw [hi0]; simp [hz1]
  have hold : (Builtin.firstCells i0.size i (.slice (some ⟨g, o, none⟩) i c)).run Tryz.prog w.drew = .ok (xs.take (i * 2)).toArray w.drew := by
    rw [hz1]
    refine run_firstCells_some w.drew 2 i ⟨g, o, none⟩ i c (xs.take (i * 2)) (by rw [List.length_take]; omega) (fun j v hj => ?_)
    rw [Addr.add_lit]
    rw [List.getElem?_take] at hj
    split at hj
    · exact h.drew.cell hj
    · cases hj
  have hik : i + (n + 1 - i) = n + 1 := by omega
  have hkk : (n : Int) + 1 - (i : Int) = ((n + 1 - i : Nat) : Int) := by omega
  obtain ⟨G, W1, hrz, hG1, hG2, hR1, hF1⟩ : ∃ G W1, (∀ ty, (Builtin.append_ #[103, 3] ty #[.slice (some ⟨g, o, none⟩) i c, .int .i64 ((n : Int) + 1 - (i : Int))]).run Tryz.prog w = .ok (.slice (some ⟨w.heap.size, 0, none⟩) (n + 1) G) W1) ∧ n + 1 ≤ G ∧ G ≤ maxLen ∧ Rg W1 54 2 w.heap.size 0 G (xs.take (i * 2)) ∧ Fr No w W1 := by
    have hge := grownCap_ge w (n + 1) c 54
    have hcm := grownCap_le_maxLen w (n + 1) c 54 (by unfold maxLen; omega)
    refine ⟨grownCap w (n + 1) c 54, _, fun ty => ?_, hge, hcm, ?_, ((Fr.refl No w).drew).alloc (.cells ((xs.take (i * 2)).toArray ++ (Builtin.zeroCells (.agg #[.int .i64 0, .int .i64 0] : Value).cells (n + 1 - i) ++ Builtin.zeroCells (.agg #[.int .i64 0, .int .i64 0] : Value).cells (grownCap w (n + 1) c 54 - (n + 1)))) 54)⟩
    · have := Lib.run_append_grow_zeros w 103 3 ty 54 i0 _ .i64 .i64 Tryz.underlying103 Tryz.underlying3 hi0 hz0 (some ⟨g, o, none⟩) i c (xs.take (i * 2)) hold (n + 1 - i) (by omega) (by omega) (by omega) (by omega) (by rw [hz2]; omega) (by rw [hz2, hik]; exact growslice_fits (by omega) (by omega))
      rw [hik] at this
      rw [hkk, this, Array.append_assoc]
    · refine Rg.fresh w.drew 54 2 _ (xs.take (i * 2)) _ ?_
      rw [Array.size_append, Array.size_append, size_zeroCells, size_zeroCells]
      simp only [List.length_take, hx, Value.cells, Array.size, List.length_cons, List.length_nil]
      omega
  have hHg : w.heap.size ≠ g := by have := h.lt; omega
  have hHb : w.heap.size ≠ b := by have := hb.lt; omega
  have hb1 := hb.fr hF1 (fun e => e)
  have hcpA : ∀ ty dc, (Builtin.copy_ #[103, 28] ty #[.slice (some ⟨w.heap.size, i * 2, none⟩) (n + 1 - i) dc, .slice (some ⟨b, 0, none⟩) 1 1]).run Tryz.prog W1 = .ok (goInt ((1 : Nat) : Int)) (W1.setCells w.heap.size (i * 2) us) := fun ty dc =>
    run_copy_k W1 103 28 ty 54 2 w.heap.size (i * 2) _ dc ⟨b, 0, none⟩ 1 1 1 us Tryz.underlying103 hsz (by simp only [Nat.min_def]; split <;> omega) (by omega)
      (fun j v hj => by rw [Addr.add_lit]; exact hb1.cell hj)
      (fun j hj => by have := hR1.there (j := i * 2 + j) (by omega); rwa [Nat.zero_add] at this) (fun j _ => hR1.froz _) hu1
  obtain ⟨W2, hW2⟩ : ∃ W2, W2 = W1.setCells w.heap.size (i * 2) us := ⟨_, rfl⟩
  have hR2 : Rg W2 54 2 w.heap.size 0 G (xs.take (i * 2) ++ us) := by
    have := hR1.put (i * 2) us (xs.take (i * 2) ++ us) (by omega) (by rw [List.length_append, List.length_take]; omega) (fun j u hu => by
      have hl : (xs.take (i * 2)).length = i * 2 := by rw [List.length_take]; omega
      rw [List.getElem?_append, hl] at hu
      by_cases hj : j < i * 2
      · rw [if_pos hj] at hu
        exact .inr ⟨.inl (by omega), hu⟩
      · rw [if_neg hj] at hu
        exact .inl ⟨by omega, by rw [show j - i * 2 = j - i * 2 by omega]; exact hu⟩)
    rw [Nat.zero_add] at this
    rw [hW2]
    exact this
  have hF2 : Fr No w W2 := by rw [hW2]; exact hF1.setCells us _ (.inr (Nat.le_refl _))
  have h2 := h.fr hF2 (fun e => e)
  have hdl : (xs.drop (i * 2)).length = (n - i) * 2 := by rw [List.length_drop, hx]; omega
  have hcpB : ∀ ty dc sc, (Builtin.copy_ #[103, 103] ty #[.slice (some ⟨w.heap.size, (i + 1) * 2, none⟩) (n - i) dc, .slice (some ⟨g, o + i * 2, none⟩) (n - i) sc]).run Tryz.prog W2.drew = .ok (goInt ((n - i : Nat) : Int)) (W2.drew.setCells w.heap.size ((i + 1) * 2) (xs.drop (i * 2))) := fun ty dc sc =>
    run_copy_k W2.drew 103 103 ty 54 2 w.heap.size ((i + 1) * 2) _ dc ⟨g, o + i * 2, none⟩ _ sc (n - i) (xs.drop (i * 2)) Tryz.underlying103 hsz (by simp only [Nat.min_def]; split <;> omega) hdl
      (fun j v hj => by rw [Addr.add_lit, Nat.add_assoc]; rw [List.getElem?_drop] at hj; exact h2.drew.cell (by rwa [show i * 2 + j = i * 2 + j by omega]))
      (fun j hj => by have := hR2.drew.there (j := (i + 1) * 2 + j) (by omega); rwa [Nat.zero_add] at this) (fun j _ => hR2.drew.froz _) (fun v hv => h1 v (List.mem_of_mem_drop hv))
  have HR : Hid (insPrLeft w g o n c i xs us (.returned (.slice (some ⟨w.heap.size, 0, none⟩) (n + 1) G)) (W2.drew.setCells w.heap.size ((i + 1) * 2) (xs.drop (i * 2)))) := Lib.hid (by
    refine ⟨w.heap.size, 0, G, rfl, hG1, hG2, ?_, Fc.of0 g o _ (hF2.drew.setCells _ _ (.inr (Nat.le_refl _))), .inr (Nat.le_refl _)⟩
    have := hR2.drew.put ((i + 1) * 2) (xs.drop (i * 2)) (insL xs us (i * 2)) (by omega) (by rw [insL_len]; omega) (fun j u hu => by
      have hl : (xs.take (i * 2)).length = i * 2 := by rw [List.length_take]; omega
      unfold insL at hu
      have hl2 : (xs.take (i * 2) ++ us).length = (i + 1) * 2 := by rw [List.length_append]; omega
      rw [List.getElem?_append, hl2] at hu
      by_cases hj : j < (i + 1) * 2
      · rw [if_pos hj] at hu
        exact .inr ⟨.inl hj, hu⟩
      · rw [if_neg hj] at hu
        exact .inl ⟨by omega, hu⟩)
    rwa [Nat.zero_add] at this)
  rw [← hW2] at hcpA
  have hin : i ≤ n := by omega
  have hz2' : ¬ ((i : Int) = (n : Int)) := by omega
  have hz3 : ((i : Int) == (n : Int)) = false := by simpa using hz2'
  have hz4 : (c : Int) < (n : Int) + 1 := by omega
  have hti : ((i : Int) + 1).toNat = i + 1 := by omega
  have hic : i ≤ c := by omega
  have hb2 : ¬ (G = i + 1) := by omega
  have hb3 : (i : Int) + 1 ≤ (n : Int) + 1 := by omega
  have hb4 : ¬ (c = i) := by omega
  have hb8 : ¬ (G = i) := by omega
  have hb5 : (0 : Int) ≤ (i : Int) + 1 := by omega
  have hb7 : (i : Int) ≤ (n : Int) + 1 := by omega
  have hw1 : IntKind.i64.wrap ((i : Int) + 1) = (i : Int) + 1 := by rw [IntKind.wrap_i64]; omega
  have hw2 : IntKind.i64.wrap ((n : Int) + 1 - (i : Int)) = (n : Int) + 1 - (i : Int) := by rw [IntKind.wrap_i64]; omega
  have hG63 : G ≤ 9223372036854775807 := by unfold maxLen at hG2; omega
  clear hW2 hR1 hR2 hF1 hF2 hb1 h2 hdl h1 hul hu1 h hb hx hold hik hkk hc hHg hHb hG2
  go_enter Tryz.func63, Tryz.ntmps63
  go_wp2_with (first
    | (at_builtin; refine Lib.wpList_append_run _ rfl _ _ _ _ rfl _ _ rfl rfl _ _ (hrz _) ?_)
    | (at_builtin; refine wpList_copy_runI _ rfl _ _ 103 28 rfl _ _ rfl rfl (hcpA _ _) ?_))
  go_region_law (refine step_copy_runI rfl _ _ 103 103 rfl _ _ (by simp [Act.eval, Act.put]) (by simp [Act.eval, Act.put]) (hcpB _ _ _) ?_)
  go_wp2
  go_ret
  first | exact HR.out | (have hr := HR.out; simp only [Nat.mul_one] at hr; exact hr)

/-- One element more, wherever. -/
theorem insPr_any (hx : xs.length = n * 2) (hn : n ≤ 100000) (hi : i ≤ n) (hc : n ≤ c) (hcm : c ≤ maxLen) (h1 : ∀ u ∈ xs, u.oneCell' = true) (hul : us.length = 2) (hu1 : ∀ u ∈ us, u.oneCell' = true) (h : Rg w 54 2 g o c xs) (hb : Rg w 54 2 b 0 1 us) (hbg : b ≠ g) :
    Calls Tryz.prog 63 #[.slice (some ⟨g, o, none⟩) n c, .int .i64 i, .slice (some ⟨b, 0, none⟩) 1 1] w (insPrLeft w g o n c i xs us) := by
  by_cases h2 : n + 1 ≤ c
  · by_cases h3 : i < n
    · exact insPr_mid_room hx hn h3 h2 hcm h1 hul hu1 h hb hbg
    · obtain rfl : i = n := by omega
      exact insPr_end_room hx hn h2 hcm hul hu1 h hb
  · obtain rfl : c = n := by omega
    by_cases h3 : i < c
    · exact insPr_mid_grow hx hn h3 rfl h1 hul hu1 h hb
    · obtain rfl : i = c := by omega
      refine (insPr_end_grow (some ⟨g, o, none⟩) hx hn rfl hul hu1 hb (.inl ⟨g, o, rfl, h⟩)).mono ?_
      rintro e w' ⟨c', rfl, a1, a2, a3, a4⟩
      refine ⟨_, _, _, rfl, a1, a2, ?_, Fc.of0 g o _ a4, .inr (Nat.le_refl _)⟩
      unfold insL
      rw [List.take_of_length_le (by omega), List.drop_eq_nil_of_le (by omega), List.append_nil]
      exact a3
end

section
variable {g o n c i b : Nat} {xs us : List Value} {w : World}
/-- What an insertion leaves: a row with one element more, in its place or anew. -/
def insPgLeft (w : World) (g o n c i : Nat) (xs us : List Value) (e : Ending) (w' : World) : Prop :=
  ∃ g' o' c', e = .returned (.slice (some ⟨g', o', none⟩) (n + 1) c') ∧ n + 1 ≤ c' ∧ c' ≤ maxLen ∧ Rg w' 105 1 g' o' c' (insL xs us (i * 1)) ∧ Fc g o (o + c * 1) w w' ∧ ((g' = g ∧ o' = o ∧ c' = c) ∨ w.heap.size ≤ g')

set_option maxHeartbeats 4000000 in
set_option maxRecDepth 100000 in
theorem insPg_end_room (hx : xs.length = n * 1) (hn : n ≤ 100000) (hc : n + 1 ≤ c) (hcm : c ≤ maxLen) (hul : us.length = 1) (hu1 : ∀ u ∈ us, u.oneCell' = true) (h : Rg w 105 1 g o c xs) (hb : Rg w 105 1 b 0 1 us) :
    Calls Tryz.prog 102 #[.slice (some ⟨g, o, none⟩) n c, .int .i64 n, .slice (some ⟨b, 0, none⟩) 1 1] w (insPgLeft w g o n c n xs us) := by
  obtain ⟨i0, hi0, hz0, hz1, hz2⟩ := info_parts info_page
  have hsrc : Src Tryz.prog i0.size 67 (.slice (some ⟨b, 0, none⟩) 1 1) 1 us w := Src.ofSlice w Tryz.underlying67 ⟨b, 0, none⟩ 1 1 us (by rw [hz1]; omega) (fun j u hu => by rw [Addr.add_lit]; exact hb.cell hu) hu1
  have hrun : ∀ ty, (Builtin.append_ #[68, 67] ty #[.slice (some ⟨g, o, none⟩) n c, .slice (some ⟨b, 0, none⟩) 1 1]).run Tryz.prog w = .ok (.slice (some ⟨g, o, none⟩) (n + 1) c) (w.setCells g (o + n * 1) us) := fun ty => by
    have := run_append_room_src w 68 67 ty 105 i0 Tryz.underlying68 hi0 g o n c _ 1 us hsrc (by omega) (fun j hj => by rw [hz1, Nat.add_assoc]; exact h.there (by omega)) (fun j _ => h.froz _)
    rwa [hz1] at this
  have HR : Hid (insPgLeft w g o n c n xs us (.returned (.slice (some ⟨g, o, none⟩) (n + 1) c)) (w.setCells g (o + n * 1) us)) := Lib.hid ⟨g, o, c, rfl, hc, hcm,
    h.put (n * 1) us _ (by omega) (by rw [insL_len]; omega) (fun j u hu => by
      rcases insL_at (by omega) hu with h1 | h1 | h1
      · exact .inr ⟨.inl h1.1, h1.2⟩
      · exact .inl ⟨h1.1, h1.2.2⟩
      · have := (List.getElem?_eq_some_iff.1 h1.2).1
        omega), (Fc.refl g o _ w).cells us (by omega) (by omega), .inl ⟨rfl, rfl, rfl⟩⟩
  clear hx hcm hul hu1 h hb hsrc
  go_enter Tryz.func102, Tryz.ntmps102
  go_wp2_with (at_builtin; refine Lib.wpList_append_run _ rfl _ _ _ _ rfl _ _ rfl rfl _ _ (hrun _) ?_)
  go_ret
  first | exact HR.out | (have hr := HR.out; simp only [Nat.mul_one] at hr; exact hr)

/-- The same where there is no room; a nil list too. -/
theorem insPg_grow_run (A : Option Addr) (hx : xs.length = n * 1) (hn : n ≤ 100000) (hc : c = n) (hul : us.length = 1) (hu1 : ∀ u ∈ us, u.oneCell' = true) (hb : Rg w 105 1 b 0 1 us)
    (hA : (∃ g o, A = some ⟨g, o, none⟩ ∧ Rg w 105 1 g o c xs) ∨ (A = none ∧ n = 0)) :
    ∃ c' W', (∀ ty, (Builtin.append_ #[68, 67] ty #[.slice A n c, .slice (some ⟨b, 0, none⟩) 1 1]).run Tryz.prog w = .ok (.slice (some ⟨w.heap.size, 0, none⟩) (n + 1) c') W') ∧ n + 1 ≤ c' ∧ c' ≤ maxLen ∧ Rg W' 105 1 w.heap.size 0 c' (xs ++ us) ∧ Fr No w W' := by
  obtain ⟨i0, hi0, hz0, hz1, hz2⟩ := info_parts info_page
  have hsrc : Src Tryz.prog i0.size 67 (.slice (some ⟨b, 0, none⟩) 1 1) 1 us w := Src.ofSlice w Tryz.underlying67 ⟨b, 0, none⟩ 1 1 us (by rw [hz1]; omega) (fun j u hu => by rw [Addr.add_lit]; exact hb.cell hu) hu1
  have hold : (Builtin.firstCells i0.size n (.slice A n c)).run Tryz.prog w.drew = .ok xs.toArray w.drew := by
    rw [hz1]
    rcases hA with ⟨g, o, rfl, h⟩ | ⟨rfl, rfl⟩
    · exact run_firstCells_some w.drew 1 n _ n c xs hx (fun j v hj => by rw [Addr.add_lit]; exact h.drew.cell hj)
    · rw [List.length_eq_zero_iff.1 (show xs.length = 0 by omega)]
      exact run_firstCells_none w.drew 1 0 0 c
  have hge := grownCap_ge w (n + 1) c 105
  have hcm := grownCap_le_maxLen w (n + 1) c 105 (by unfold maxLen; omega)
  refine ⟨_, _, fun ty => run_append_grow_src w 68 67 ty 105 i0 _ Tryz.underlying68 hi0 hz0 A n c xs hold _ 1 us hsrc (by omega) (by omega) (by rw [hz2]; exact growslice_fits (by omega) (by omega)), hge, hcm, ?_, ((Fr.refl No w).drew).alloc _⟩
  refine Rg.fresh w.drew 105 1 _ (xs ++ us) _ ?_
  rw [Array.size_append, size_zeroCells]
  simp only [List.length_append, hx, hul, Value.cells, Array.size, List.length_cons, List.length_nil]
  omega

set_option maxHeartbeats 4000000 in
set_option maxRecDepth 100000 in
theorem insPg_end_grow (A : Option Addr) (hx : xs.length = n * 1) (hn : n ≤ 100000) (hc : c = n) (hul : us.length = 1) (hu1 : ∀ u ∈ us, u.oneCell' = true) (hb : Rg w 105 1 b 0 1 us)
    (hA : (∃ g o, A = some ⟨g, o, none⟩ ∧ Rg w 105 1 g o c xs) ∨ (A = none ∧ n = 0)) :
    Calls Tryz.prog 102 #[.slice A n c, .int .i64 n, .slice (some ⟨b, 0, none⟩) 1 1] w fun e w' => ∃ c', e = .returned (.slice (some ⟨w.heap.size, 0, none⟩) (n + 1) c') ∧ n + 1 ≤ c' ∧ c' ≤ maxLen ∧ Rg w' 105 1 w.heap.size 0 c' (xs ++ us) ∧ Fr No w w' := by
  obtain ⟨c', W', hrun, h1, h2, h3, h4⟩ := insPg_grow_run A hx hn hc hul hu1 hb hA
  have HR := Lib.hid (show ∃ c'', Ending.returned (.slice (some ⟨w.heap.size, 0, none⟩) (n + 1) c') = .returned (.slice (some ⟨w.heap.size, 0, none⟩) (n + 1) c'') ∧ n + 1 ≤ c'' ∧ c'' ≤ maxLen ∧ Rg W' 105 1 w.heap.size 0 c'' (xs ++ us) ∧ Fr No w W' from ⟨c', rfl, h1, h2, h3, h4⟩)
  subst hc
  clear h1 h2 h3 h4 hb hul hu1 hx
  rcases hA with ⟨g, o, rfl, -⟩ | ⟨rfl, rfl⟩
  · go_enter Tryz.func102, Tryz.ntmps102
    go_wp2_with (at_builtin; refine Lib.wpList_append_run _ rfl _ _ _ _ rfl _ _ rfl rfl _ _ (hrun _) ?_)
    all_goals
      go_ret
      exact HR.out
  · go_enter Tryz.func102, Tryz.ntmps102
    go_wp2_with (at_builtin; refine Lib.wpList_append_run _ rfl _ _ _ _ rfl _ _ rfl rfl _ _ (hrun _) ?_)
    all_goals
      go_ret
      exact HR.out

set_option maxHeartbeats 8000000 in
set_option maxRecDepth 100000 in
theorem insPg_mid_room (hx : xs.length = n * 1) (hn : n ≤ 100000) (hi : i < n) (hc : n + 1 ≤ c) (hcm : c ≤ maxLen) (h1 : ∀ u ∈ xs, u.oneCell' = true) (hul : us.length = 1) (hu1 : ∀ u ∈ us, u.oneCell' = true) (h : Rg w 105 1 g o c xs) (hb : Rg w 105 1 b 0 1 us) (hbg : b ≠ g) :
    Calls Tryz.prog 102 #[.slice (some ⟨g, o, none⟩) n c, .int .i64 i, .slice (some ⟨b, 0, none⟩) 1 1] w (insPgLeft w g o n c i xs us) := by
  obtain ⟨i0, hi0, hz0, hz1, hz2⟩ := info_parts info_page
  have hsz : (Tryz.prog.info? 105).map (·.size) = some 1 := by rw [hi0]; simp [hz1]
  obtain ⟨kA, hsa, -⟩ := hb.shape (by omega)
  obtain ⟨kB, hsb, hkB⟩ := h.shape (by omega)
  have hov : ∀ lb cb, (callFunc 126 #[.slice (some ⟨b, 0, none⟩) 1 1, .slice (some ⟨g, o + (i + 1), none⟩) lb cb]).run Tryz.prog w = .ok (.value (.bool false)) w := fun lb cb => by
    rw [run_callFunc_extern Tryz.func126 (by kernel_rfl) (by kernel_rfl) (by kernel_rfl) (e := Extern.SlicesOverlaps.overlaps #[67, 67] #[4]) (by kernel_rfl),
      Lib.run_overlaps_apart w 67 4 105 Tryz.underlying67 1 Tryz.sizeOf105 ⟨b, 0, none⟩ ⟨g, o + (i + 1), none⟩ 1 1 lb cb hbg _ _ kA kB hsa hsb hkB (hb.froz _) (hb.froz _)]
    rfl
  have hdl : (xs.drop (i * 1)).length = (n - i) * 1 := by rw [List.length_drop, hx]; omega
  have hcp1 : ∀ ty dc sc, (Builtin.copy_ #[68, 68] ty #[.slice (some ⟨g, o + (i + 1), none⟩) (n - i) dc, .slice (some ⟨g, o + i, none⟩) (n + 1 - i) sc]).run Tryz.prog w.drew = .ok (goInt ((n - i : Nat) : Int)) (w.drew.setCells g (o + (i + 1)) (xs.drop (i * 1))) := fun ty dc sc =>
    run_copy_k w.drew 68 68 ty 105 1 g (o + (i + 1)) _ dc ⟨g, o + i, none⟩ _ sc (n - i) (xs.drop (i * 1)) Tryz.underlying68 hsz (by simp only [Nat.min_def]; split <;> omega) hdl
      (fun j v hj => by rw [Addr.add_lit, Nat.add_assoc]; rw [List.getElem?_drop] at hj; exact h.drew.cell (by rwa [show i + j = i * 1 + j by omega]))
      (fun j hj => by rw [Nat.add_assoc]; exact h.drew.there (by omega)) (fun j _ => h.drew.froz _) (fun v hv => h1 v (List.mem_of_mem_drop hv))
  obtain ⟨W1, hW1⟩ : ∃ W1, W1 = w.drew.setCells g (o + (i + 1)) (xs.drop (i * 1)) := ⟨_, rfl⟩
  have hR1 : Rg W1 105 1 g o c (xs.take (i * 1)) := by
    rw [hW1]
    refine h.drew.put ((i + 1)) _ _ (by omega) (by rw [List.length_take]; omega) (fun j u hu => ?_)
    rw [List.getElem?_take] at hu
    by_cases hj : j < i * 1
    · rw [if_pos hj] at hu
      exact .inr ⟨.inl (by omega), hu⟩
    · rw [if_neg hj] at hu
      cases hu
  have hb1 : Rg W1 105 1 b 0 1 us := by
    rw [hW1]
    exact hb.drew.fr ((Fr.refl (fun k => k = g) w.drew).setCells _ _ (.inl rfl)) hbg
  have hcp2 : ∀ ty dc, (Builtin.copy_ #[68, 67] ty #[.slice (some ⟨g, o + i, none⟩) (n + 1 - i) dc, .slice (some ⟨b, 0, none⟩) 1 1]).run Tryz.prog W1 = .ok (goInt ((1 : Nat) : Int)) (W1.setCells g (o + i) us) := fun ty dc =>
    run_copy_k W1 68 67 ty 105 1 g (o + i) _ dc ⟨b, 0, none⟩ 1 1 1 us Tryz.underlying68 hsz (by simp only [Nat.min_def]; split <;> omega) (by omega)
      (fun j v hj => by rw [Addr.add_lit]; exact hb1.cell hj)
      (fun j hj => by rw [Nat.add_assoc]; exact hR1.there (by omega)) (fun j _ => hR1.froz _) hu1
  have HR : Hid (insPgLeft w g o n c i xs us (.returned (.slice (some ⟨g, o, none⟩) (n + 1) c)) (W1.setCells g (o + i) us)) := Lib.hid (by
    have hR0 : Rg W1 105 1 g o c (xs.take ((i + 1)) ++ xs.drop (i * 1)) := by
      rw [hW1]
      refine h.drew.put ((i + 1)) _ _ (by omega) (by rw [List.length_append, List.length_take]; omega) (fun j u hu => ?_)
      have hl : (xs.take ((i + 1))).length = (i + 1) := by rw [List.length_take]; omega
      rw [List.getElem?_append, hl] at hu
      by_cases hj : j < (i + 1)
      · rw [if_pos hj, List.getElem?_take, if_pos hj] at hu
        exact .inr ⟨.inl hj, hu⟩
      · rw [if_neg hj] at hu
        exact .inl ⟨by omega, hu⟩
    refine ⟨g, o, c, rfl, hc, hcm, hR0.put (i) us _ (by omega) (by rw [insL_len]; omega) (fun j u hu => ?_), ?_, .inl ⟨rfl, rfl, rfl⟩⟩
    · have hl : (xs.take ((i + 1))).length = (i + 1) := by rw [List.length_take]; omega
      rcases insL_at (by omega) hu with ⟨a1, a2⟩ | ⟨a1, a2, a3⟩ | ⟨a1, a2⟩
      · refine .inr ⟨.inl (by omega), ?_⟩
        rw [List.getElem?_append_left (by omega), List.getElem?_take, if_pos (by omega)]
        exact a2
      · refine .inl ⟨by omega, ?_⟩
        rw [show j - i = j - i * 1 by omega]
        exact a3
      · refine .inr ⟨.inr (by omega), ?_⟩
        rw [List.getElem?_append_right (by omega), hl, List.getElem?_drop, show i * 1 + (j - (i + 1)) = j - us.length by omega]
        exact a2
    · rw [hW1]
      exact ((Fc.refl g o (o + c * 1) w).drew.cells _ (by omega) (by omega)).cells us (by omega) (by omega))
  rw [← hW1] at hcp1
  have hin : i ≤ n := by omega
  have hz2' : ¬ ((i : Int) = (n : Int)) := by omega
  have hz3 : ((i : Int) == (n : Int)) = false := by simpa using hz2'
  have hz4 : ¬ ((c : Int) < (n : Int) + 1) := by omega
  have hz5 : (n : Int) + 1 ≤ (c : Int) := by omega
  have htn : ((n : Int) + 1).toNat = n + 1 := by omega
  have hti : ((i : Int) + 1).toNat = i + 1 := by omega
  have hb2 : ¬ (c = i + 1) := by omega
  have hb3 : (i : Int) + 1 ≤ (n : Int) + 1 := by omega
  have hb4 : ¬ (c = i) := by omega
  have hb5 : (0 : Int) ≤ (i : Int) + 1 := by omega
  have hb6 : (0 : Int) ≤ (n : Int) + 1 := by omega
  have hb7 : (i : Int) ≤ (n : Int) + 1 := by omega
  have hw1 : IntKind.i64.wrap ((i : Int) + 1) = (i : Int) + 1 := by rw [IntKind.wrap_i64]; omega
  have hc63 : c ≤ 9223372036854775807 := by unfold maxLen at hcm; omega
  clear hW1 hR1 hb1 hdl hsa hsb hkB hcm h1 hul hu1 h hb hbg hx
  go_enter Tryz.func102, Tryz.ntmps102
  go_wp2_with (simp only [hov])
  go_region_law (refine step_copy_runI rfl _ _ 68 68 rfl _ _ (by simp [Act.eval, Act.put]) (by simp [Act.eval, Act.put]) (hcp1 _ _ _) ?_)
  go_wp2_with (at_builtin; refine wpList_copy_runI _ rfl _ _ 68 67 rfl _ _ rfl rfl (hcp2 _ _) ?_)
  go_ret
  first | exact HR.out | (have hr := HR.out; simp only [Nat.mul_one] at hr; exact hr)
set_option maxHeartbeats 8000000 in
set_option maxRecDepth 100000 in
theorem insPg_mid_grow (hx : xs.length = n * 1) (hn : n ≤ 100000) (hi : i < n) (hc : c = n) (h1 : ∀ u ∈ xs, u.oneCell' = true) (hul : us.length = 1) (hu1 : ∀ u ∈ us, u.oneCell' = true) (h : Rg w 105 1 g o c xs) (hb : Rg w 105 1 b 0 1 us) :
    Calls Tryz.prog 102 #[.slice (some ⟨g, o, none⟩) n c, .int .i64 i, .slice (some ⟨b, 0, none⟩) 1 1] w (insPgLeft w g o n c i xs us) := by
  obtain ⟨i0, hi0, hz0, hz1, hz2⟩ := info_parts info_page
  have hsz : (Tryz.prog.info? 105).map (·.size) = some 1 := by rw [hi0]; simp [hz1]
  have hold : (Builtin.firstCells i0.size i (.slice (some ⟨g, o, none⟩) i c)).run Tryz.prog w.drew = .ok (xs.take (i * 1)).toArray w.drew := by
    rw [hz1]
    refine run_firstCells_some w.drew 1 i ⟨g, o, none⟩ i c (xs.take (i * 1)) (by rw [List.length_take]; omega) (fun j v hj => ?_)
    rw [Addr.add_lit]
    rw [List.getElem?_take] at hj
    split at hj
    · exact h.drew.cell hj
    · cases hj
  have hik : i + (n + 1 - i) = n + 1 := by omega
  have hkk : (n : Int) + 1 - (i : Int) = ((n + 1 - i : Nat) : Int) := by omega
  obtain ⟨G, W1, hrz, hG1, hG2, hR1, hF1⟩ : ∃ G W1, (∀ ty, (Builtin.append_ #[68, 3] ty #[.slice (some ⟨g, o, none⟩) i c, .int .i64 ((n : Int) + 1 - (i : Int))]).run Tryz.prog w = .ok (.slice (some ⟨w.heap.size, 0, none⟩) (n + 1) G) W1) ∧ n + 1 ≤ G ∧ G ≤ maxLen ∧ Rg W1 105 1 w.heap.size 0 G (xs.take (i * 1)) ∧ Fr No w W1 := by
    have hge := grownCap_ge w (n + 1) c 105
    have hcm := grownCap_le_maxLen w (n + 1) c 105 (by unfold maxLen; omega)
    refine ⟨grownCap w (n + 1) c 105, _, fun ty => ?_, hge, hcm, ?_, ((Fr.refl No w).drew).alloc (.cells ((xs.take (i * 1)).toArray ++ (Builtin.zeroCells (.agg #[.slice none 0 0] : Value).cells (n + 1 - i) ++ Builtin.zeroCells (.agg #[.slice none 0 0] : Value).cells (grownCap w (n + 1) c 105 - (n + 1)))) 105)⟩
    · have := Lib.run_append_grow_zeros w 68 3 ty 105 i0 _ .i64 .i64 Tryz.underlying68 Tryz.underlying3 hi0 hz0 (some ⟨g, o, none⟩) i c (xs.take (i * 1)) hold (n + 1 - i) (by omega) (by omega) (by omega) (by omega) (by rw [hz2]; omega) (by rw [hz2, hik]; exact growslice_fits (by omega) (by omega))
      rw [hik] at this
      rw [hkk, this, Array.append_assoc]
    · refine Rg.fresh w.drew 105 1 _ (xs.take (i * 1)) _ ?_
      rw [Array.size_append, Array.size_append, size_zeroCells, size_zeroCells]
      simp only [List.length_take, hx, Value.cells, Array.size, List.length_cons, List.length_nil]
      omega
  have hHg : w.heap.size ≠ g := by have := h.lt; omega
  have hHb : w.heap.size ≠ b := by have := hb.lt; omega
  have hb1 := hb.fr hF1 (fun e => e)
  have hcpA : ∀ ty dc, (Builtin.copy_ #[68, 67] ty #[.slice (some ⟨w.heap.size, i, none⟩) (n + 1 - i) dc, .slice (some ⟨b, 0, none⟩) 1 1]).run Tryz.prog W1 = .ok (goInt ((1 : Nat) : Int)) (W1.setCells w.heap.size (i) us) := fun ty dc =>
    run_copy_k W1 68 67 ty 105 1 w.heap.size (i) _ dc ⟨b, 0, none⟩ 1 1 1 us Tryz.underlying68 hsz (by simp only [Nat.min_def]; split <;> omega) (by omega)
      (fun j v hj => by rw [Addr.add_lit]; exact hb1.cell hj)
      (fun j hj => by have := hR1.there (j := i + j) (by omega); rwa [Nat.zero_add] at this) (fun j _ => hR1.froz _) hu1
  obtain ⟨W2, hW2⟩ : ∃ W2, W2 = W1.setCells w.heap.size (i) us := ⟨_, rfl⟩
  have hR2 : Rg W2 105 1 w.heap.size 0 G (xs.take (i * 1) ++ us) := by
    have := hR1.put (i) us (xs.take (i * 1) ++ us) (by omega) (by rw [List.length_append, List.length_take]; omega) (fun j u hu => by
      have hl : (xs.take (i * 1)).length = i * 1 := by rw [List.length_take]; omega
      rw [List.getElem?_append, hl] at hu
      by_cases hj : j < i * 1
      · rw [if_pos hj] at hu
        exact .inr ⟨.inl (by omega), hu⟩
      · rw [if_neg hj] at hu
        exact .inl ⟨by omega, by rw [show j - i = j - i * 1 by omega]; exact hu⟩)
    rw [Nat.zero_add] at this
    rw [hW2]
    exact this
  have hF2 : Fr No w W2 := by rw [hW2]; exact hF1.setCells us _ (.inr (Nat.le_refl _))
  have h2 := h.fr hF2 (fun e => e)
  have hdl : (xs.drop (i * 1)).length = (n - i) * 1 := by rw [List.length_drop, hx]; omega
  have hcpB : ∀ ty dc sc, (Builtin.copy_ #[68, 68] ty #[.slice (some ⟨w.heap.size, (i + 1), none⟩) (n - i) dc, .slice (some ⟨g, o + i, none⟩) (n - i) sc]).run Tryz.prog W2.drew = .ok (goInt ((n - i : Nat) : Int)) (W2.drew.setCells w.heap.size ((i + 1)) (xs.drop (i * 1))) := fun ty dc sc =>
    run_copy_k W2.drew 68 68 ty 105 1 w.heap.size ((i + 1)) _ dc ⟨g, o + i, none⟩ _ sc (n - i) (xs.drop (i * 1)) Tryz.underlying68 hsz (by simp only [Nat.min_def]; split <;> omega) hdl
      (fun j v hj => by rw [Addr.add_lit, Nat.add_assoc]; rw [List.getElem?_drop] at hj; exact h2.drew.cell (by rwa [show i + j = i * 1 + j by omega]))
      (fun j hj => by have := hR2.drew.there (j := (i + 1) + j) (by omega); rwa [Nat.zero_add] at this) (fun j _ => hR2.drew.froz _) (fun v hv => h1 v (List.mem_of_mem_drop hv))
  have HR : Hid (insPgLeft w g o n c i xs us (.returned (.slice (some ⟨w.heap.size, 0, none⟩) (n + 1) G)) (W2.drew.setCells w.heap.size ((i + 1)) (xs.drop (i * 1)))) := Lib.hid (by
    refine ⟨w.heap.size, 0, G, rfl, hG1, hG2, ?_, Fc.of0 g o _ (hF2.drew.setCells _ _ (.inr (Nat.le_refl _))), .inr (Nat.le_refl _)⟩
    have := hR2.drew.put ((i + 1)) (xs.drop (i * 1)) (insL xs us (i * 1)) (by omega) (by rw [insL_len]; omega) (fun j u hu => by
      have hl : (xs.take (i * 1)).length = i * 1 := by rw [List.length_take]; omega
      unfold insL at hu
      have hl2 : (xs.take (i * 1) ++ us).length = (i + 1) := by rw [List.length_append]; omega
      rw [List.getElem?_append, hl2] at hu
      by_cases hj : j < (i + 1)
      · rw [if_pos hj] at hu
        exact .inr ⟨.inl hj, hu⟩
      · rw [if_neg hj] at hu
        exact .inl ⟨by omega, hu⟩)
    rwa [Nat.zero_add] at this)
  rw [← hW2] at hcpA
  have hin : i ≤ n := by omega
  have hz2' : ¬ ((i : Int) = (n : Int)) := by omega
  have hz3 : ((i : Int) == (n : Int)) = false := by simpa using hz2'
  have hz4 : (c : Int) < (n : Int) + 1 := by omega
  have hti : ((i : Int) + 1).toNat = i + 1 := by omega
  have hic : i ≤ c := by omega
  have hb2 : ¬ (G = i + 1) := by omega
  have hb3 : (i : Int) + 1 ≤ (n : Int) + 1 := by omega
  have hb4 : ¬ (c = i) := by omega
  have hb8 : ¬ (G = i) := by omega
  have hb5 : (0 : Int) ≤ (i : Int) + 1 := by omega
  have hb7 : (i : Int) ≤ (n : Int) + 1 := by omega
  have hw1 : IntKind.i64.wrap ((i : Int) + 1) = (i : Int) + 1 := by rw [IntKind.wrap_i64]; omega
  have hw2 : IntKind.i64.wrap ((n : Int) + 1 - (i : Int)) = (n : Int) + 1 - (i : Int) := by rw [IntKind.wrap_i64]; omega
  have hG63 : G ≤ 9223372036854775807 := by unfold maxLen at hG2; omega
  clear hW2 hR1 hR2 hF1 hF2 hb1 h2 hdl h1 hul hu1 h hb hx hold hik hkk hc hHg hHb hG2
  go_enter Tryz.func102, Tryz.ntmps102
  go_wp2_with (first
    | (at_builtin; refine Lib.wpList_append_run _ rfl _ _ _ _ rfl _ _ rfl rfl _ _ (hrz _) ?_)
    | (at_builtin; refine wpList_copy_runI _ rfl _ _ 68 67 rfl _ _ rfl rfl (hcpA _ _) ?_))
  go_region_law (refine step_copy_runI rfl _ _ 68 68 rfl _ _ (by simp [Act.eval, Act.put]) (by simp [Act.eval, Act.put]) (hcpB _ _ _) ?_)
  go_wp2
  go_ret
  first | exact HR.out | (have hr := HR.out; simp only [Nat.mul_one] at hr; exact hr)

/-- One element more, wherever. -/
theorem insPg_any (hx : xs.length = n * 1) (hn : n ≤ 100000) (hi : i ≤ n) (hc : n ≤ c) (hcm : c ≤ maxLen) (h1 : ∀ u ∈ xs, u.oneCell' = true) (hul : us.length = 1) (hu1 : ∀ u ∈ us, u.oneCell' = true) (h : Rg w 105 1 g o c xs) (hb : Rg w 105 1 b 0 1 us) (hbg : b ≠ g) :
    Calls Tryz.prog 102 #[.slice (some ⟨g, o, none⟩) n c, .int .i64 i, .slice (some ⟨b, 0, none⟩) 1 1] w (insPgLeft w g o n c i xs us) := by
  by_cases h2 : n + 1 ≤ c
  · by_cases h3 : i < n
    · exact insPg_mid_room hx hn h3 h2 hcm h1 hul hu1 h hb hbg
    · obtain rfl : i = n := by omega
      exact insPg_end_room hx hn h2 hcm hul hu1 h hb
  · obtain rfl : c = n := by omega
    by_cases h3 : i < c
    · exact insPg_mid_grow hx hn h3 rfl h1 hul hu1 h hb
    · obtain rfl : i = c := by omega
      refine (insPg_end_grow (some ⟨g, o, none⟩) hx hn rfl hul hu1 hb (.inl ⟨g, o, rfl, h⟩)).mono ?_
      rintro e w' ⟨c', rfl, a1, a2, a3, a4⟩
      refine ⟨_, _, _, rfl, a1, a2, ?_, Fc.of0 g o _ a4, .inr (Nat.le_refl _)⟩
      unfold insL
      rw [List.take_of_length_le (by omega), List.drop_eq_nil_of_le (by omega), List.append_nil]
      exact a3
end
end Go.Proofs.YthenadijiepmnaaGreat
