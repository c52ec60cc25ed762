/- The function that keeps as a list tells. -/
import Derived.Test.YtdmllfjeofiddaaDsk3S
namespace Go.Proofs.Ytdmllfjeofiddaa
open Go.RowKit

set_option maxHeartbeats 400000 in
theorem keeps_any (keep : List Bool) (A : Option Addr) (n c : Nat) (w : World) (h : Sl w w.heap.size A (keep.map Value.bool)) (hn : keep.length = n) :
    Calls Try.prog 17 #[.slice A n c] w fun e w' => ∃ kn kl, e = .returned (kpV kn kl) ∧ Kp w' kn kl 0 A n c keep ∧ w.heap.size ≤ kn ∧ w.heap.size ≤ kl ∧ Fr No w w' := by
  go_enter Try.func17, Try.ntmps17
  go_wp2
  go_ret
  have b1 := Bk.made w 39 #[.slice A n c]
  have b2 := Bk.made (w.alloc (.cells #[.slice A n c] 39)) 3 #[.int .i64 0]
  simp only [World.size_alloc] at b2
  refine ⟨w.heap.size + 1, w.heap.size, rfl, ⟨b2, b1.alloc _, ?_, hn, ?_⟩, by omega, by omega, ((Fr.refl No w).alloc _).alloc _⟩
  · exact h.since (((Fr.refl No w).alloc _).alloc _)
  · intro ad e hne
    obtain ⟨ad', e', hb, _⟩ := h (by simpa using hne)
    rw [e] at e'
    injection e' with e'
    subst e'
    omega

theorem Kp.fr {S : Nat → Prop} {w w' : World} {kn kl q n c : Nat} {A : Option Addr} {keep : List Bool} (h : Kp w kn kl q A n c keep) (hf : Fr S w w') (h1 : ¬ S kn) (h2 : ¬ S kl) (h3 : ∀ ad, A = some ad → keep ≠ [] → ¬ S ad.block) : Kp w' kn kl q A n c keep :=
  ⟨h.bn.fr hf h1, h.bl.fr hf h2, (h.sl.fr hf (Nat.le_refl _) (fun ad e hne => h3 ad e (by simpa using hne))).more hf.size, h.len, h.ap⟩

set_option maxHeartbeats 400000 in
theorem keep1_any (kn kl q : Nat) (i : Int) (A : Option Addr) (n c : Nat) (keep : List Bool) (w : World) (h : Kp w kn kl q A n c keep) (hq : q ≤ 1099511627776) :
    Calls Try.prog 44 #[.int .i64 i, .pointer (some ⟨kn, 0, none⟩), .pointer (some ⟨kl, 0, none⟩)] w fun e w' => e = .returned (.bool (keep.getD q false)) ∧ Kp w' kn kl (q + 1) A n c keep ∧ Fr (fun k => k = kn) w w' := by
  have hne : kn ≠ kl := h.bn.apart h.bl (by decide)
  have hne' := hne.symm
  have c0 := h.bn.cell 0
  have f0 := h.bn.frozen 0
  have l0 := h.bl.cell 0
  simp at c0 l0
  have Hk := fun b => (h.bn.put 0 b)
  have hkp : Hid (Kp (w.setCell ⟨kn, 0, none⟩ (.int .i64 (q + 1 : Nat))) kn kl (q + 1) A n c keep ∧ Fr (fun k => k = kn) w (w.setCell ⟨kn, 0, none⟩ (.int .i64 (q + 1 : Nat)))) := Lib.hid (by
    have hf : Fr (fun k => k = kn) w (w.setCell ⟨kn, 0, none⟩ (.int .i64 (q + 1 : Nat))) := (Fr.refl (fun k => k = kn) w).setCell (p := ⟨kn, 0, none⟩) (.inl rfl) _
    refine ⟨⟨by simpa using h.bn.put 0 (.int .i64 (q + 1 : Nat)), h.bl.setCell_other hne' _, ?_, h.len, h.ap⟩, hf⟩
    exact (h.sl.fr hf (Nat.le_refl _) (fun ad e hne => h.ap ad e (by simpa using hne))).more hf.size)
  have Hn := Lib.hid h.len
  by_cases hlt : q < n
  · have hql : q < keep.length := by rw [h.len]; exact hlt
    obtain ⟨ad, rfl, hadB, hc0⟩ := h.sl.at (k := q) (by simpa using hql)
    have hcb : w.cell? (ad.add q) = some (.bool keep[q]) := by simpa using hc0
    have hak : kn ≠ ad.block := fun e => h.ap ad rfl (by rintro rfl; simp at hql) e.symm
    have hcx : (w.setCell ⟨kn, 0, none⟩ (.int .i64 ((q : Int) + 1))).cell? (ad.add q) = some (.bool keep[q]) := by
      rw [World.cell?_setCell_far _ _ _ _ (by rw [block_add]; exact hak)]
      exact hcb
    have Hg : Hid (keep.getD q false = keep[q]) := Lib.hid (by rw [List.getD_eq_getElem?_getD, List.getElem?_eq_getElem hql]; rfl)
    clear h hc0 Hk
    generalize keep[q] = kb at *
    have e1 : decide ((q : Int) + 1 ≤ (n : Int)) = true := by simp; omega
    go_enter Try.func44, Try.ntmps44
    go_wp2
    go_ret
    exact ⟨by rw [Hg.out]; rfl, hkp.out.1, hkp.out.2⟩
  · have e1 : decide ((q : Int) + 1 ≤ (n : Int)) = false := by simp; omega
    have Hg : Hid (keep.getD q false = false) := Lib.hid (by rw [List.getD_eq_getElem?_getD, List.getElem?_eq_none (by rw [h.len]; omega)]; rfl)
    clear h Hk
    go_enter Try.func44, Try.ntmps44
    go_wp2
    go_ret
    exact ⟨by rw [Hg.out]; rfl, hkp.out.1, hkp.out.2⟩
theorem filter_range (di : Nat → Bool) (n : Nat) : ((List.range n).filter di).length = cnt di n := by
  induction n with
  | zero => rfl
  | succ n ih => rw [List.range_succ, List.filter_append, List.length_append, ih]; cases h : di n <;> simp [cnt, h]
theorem dirty_len (D : Dv) : D.dirty.length = cnt D.di D.n := filter_range D.di D.n
theorem cnt_mono (di : Nat → Bool) (i j : Nat) (h : i ≤ j) : cnt di i ≤ cnt di j := by
  induction j with
  | zero => obtain rfl : i = 0 := by omega
            exact Nat.le_refl _
  | succ j ih =>
    rcases Nat.lt_or_ge i (j + 1) with h1 | h1
    · have := ih (by omega)
      simp only [cnt]
      omega
    · obtain rfl : i = j + 1 := by omega
      exact Nat.le_refl _
theorem filter_at (di : Nat → Bool) (n j : Nat) (hj : j < n) (hd : di j = true) : ((List.range n).filter di)[cnt di j]? = some j := by
  induction n with
  | zero => omega
  | succ n ih =>
    rw [List.range_succ, List.filter_append]
    by_cases hjn : j < n
    · have hl : cnt di j < cnt di n := by
        have := cnt_mono di (j + 1) n (by omega)
        simp only [cnt, hd, Bool.toNat_true] at this
        omega
      rw [List.getElem?_append_left (by rw [filter_range]; exact hl)]
      exact ih hjn
    · obtain rfl : j = n := by omega
      rw [List.getElem?_append_right (by rw [filter_range]; exact Nat.le_refl _), filter_range, Nat.sub_self]
      simp [hd]
theorem dirty_at (D : Dv) (j : Nat) (hj : j < D.n) (hd : D.di j = true) : D.dirty[cnt D.di j]? = some j := filter_at D.di D.n j hj hd

theorem cnt_most (d : Nat → Bool) (i : Nat) : cnt d i ≤ i := by
  induction i with
  | zero => exact Nat.le_refl _
  | succ i ih => unfold cnt; cases d i <;> simp <;> omega
theorem cnt_find (di : Nat → Bool) (n : Nat) : ∀ j, j < cnt di n → ∃ x, x < n ∧ di x = true ∧ cnt di x = j := by
  induction n with
  | zero => intro j h; simp [cnt] at h
  | succ n ih =>
    intro j h
    by_cases hj : j < cnt di n
    · obtain ⟨x, h1, h2⟩ := ih j hj
      exact ⟨x, by omega, h2⟩
    · cases hd : di n with
      | false => simp only [cnt, hd, Bool.toNat_false] at h; omega
      | true => simp only [cnt, hd, Bool.toNat_true] at h; exact ⟨n, by omega, hd, by omega⟩
theorem cnt_one {D : Dv} {i x : Nat} (hi : i < D.n) (hx : x < D.n) (di : D.di i = true) (dx : D.di x = true) (e : cnt D.di i = cnt D.di x) : i = x := by
  have h1 := dirty_at D i hi di
  have h2 := dirty_at D x hx dx
  rw [e, h2] at h1
  injection h1 with h1
  exact h1.symm
theorem cnt_lt {D : Dv} {i : Nat} (hi : i < D.n) (di : D.di i = true) : cnt D.di i < D.dirty.length := by
  have h1 := dirty_at D i hi di
  rcases Nat.lt_or_ge (cnt D.di i) D.dirty.length with h | h
  · exact h
  · rw [List.getElem?_eq_none h] at h1
    cases h1
end Go.Proofs.Ytdmllfjeofiddaa
