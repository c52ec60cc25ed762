/- The words of a catalogue, purely: they are read back. -/
import Derived.Test.YtbemfomiiikpoaaGreatQct12
import Derived.Test.YtbemfomiiikpoaaGreatPut11
import Derived.Test.YtbemfomiiikpoaaGreatRit12
import Derived.Test.YtbemfomiiikpoaaGreatRead12
namespace Go.Proofs.YtbemfomiiikpoaaGreat
open Go.RowKit

def wordsB (x : PCt) (j : Nat) : List Nat := (List.range j).map fun i => (x.b (i / x.cs.length * 4 + i % x.cs.length)).toNat
/-- The words of a catalogue. -/
def wordsQ (x : PCt) : List Nat := x.cs.length :: (x.cs.flatMap wordsC ++ wordsB x (x.cs.length * x.cs.length))
theorem stQ_back {l : List PC} (h : ∀ c ∈ l, c.ok = true) (r : List Nat) (k : Nat) (hk : k ≤ l.length) : stQ k (some (l.flatMap wordsC ++ r)) = some ((l.drop k).flatMap wordsC ++ r) ∧ lsQ k (some (l.flatMap wordsC ++ r)) = l.take k := by
  induction k with
  | zero => simp [stQ, lsQ]
  | succ k ih =>
    obtain ⟨e1, e2⟩ := ih (by omega)
    have hkl : k < l.length := by omega
    have e3 : clR (stQ k (some (l.flatMap wordsC ++ r))) = some (l[k], (l.drop (k + 1)).flatMap wordsC ++ r) := by
      rw [e1, List.drop_eq_getElem_cons hkl, List.flatMap_cons, List.append_assoc]
      exact clR_back (h _ (List.getElem_mem hkl)) _
    rw [stQ, lsQ, e3, e2]
    exact ⟨rfl, (List.take_succ_eq_append_getElem hkl).symm⟩
theorem stB_back {l : List Nat} (h : ∀ u ∈ l, u ≤ 255) (r : List Nat) (k : Nat) (hk : k ≤ l.length) : stB k (some (l ++ r)) = some (l.drop k ++ r) := by
  induction k with
  | zero => simp [stB]
  | succ k ih =>
    have hkl : k < l.length := by omega
    have hu := h _ (List.getElem_mem hkl)
    rw [stB, ih (by omega), List.drop_eq_getElem_cons hkl, List.cons_append, cS, cntR, if_pos (by omega)]
    rfl
theorem cVB_back {l : List Nat} (h : ∀ u ∈ l, u ≤ 255) (r : List Nat) {k : Nat} (hk : k < l.length) : cV 255 (stB k (some (l ++ r))) = (l[k] : Int) := by
  have hu := h _ (List.getElem_mem hk)
  rw [stB_back h r k (by omega), List.drop_eq_getElem_cons hk, List.cons_append, cV, cntR, if_pos (by omega)]
  rfl
theorem PCt.ok_parts {x : PCt} (h : x.ok = true) : (1 ≤ x.cs.length ∧ x.cs.length ≤ 4) ∧ (∀ c ∈ x.cs, c.ok = true) ∧ ∀ j, j < 16 → 0 ≤ x.b j ∧ x.b j < x.most (j / 4) (j % 4) := by
  unfold PCt.ok at h
  simp only [Bool.and_eq_true, decide_eq_true_eq] at h
  obtain ⟨h1, h2, h3⟩ := h
  refine ⟨h1, fun c hc => ?_, fun j hj => ?_⟩
  · obtain ⟨i, hi, rfl⟩ := List.mem_iff_getElem.1 hc
    have := range_all_at h2 hi
    unfold clOkAt at this
    simp only [Bool.and_eq_true] at this
    have h4 := this.1
    unfold PCt.at at h4
    simpa [List.getD, hi] using h4
  · have := range_all_at h3 hj
    unfold brOkAt at this
    simpa using this
theorem most_le {x : PCt} (h : ∀ c ∈ x.cs, c.ok = true) (c d : Nat) : x.most c d ≤ 8 := by
  unfold PCt.most
  split
  · next hcd =>
    have hc : x.at c = x.cs[c]'hcd.1 := by
      unfold PCt.at
      simp [List.getD, hcd.1]
    have hk := h _ (List.getElem_mem hcd.1)
    unfold PC.ok at hk
    simp only [Bool.and_eq_true, decide_eq_true_eq] at hk
    have h1 := hk.2.2.1
    rw [hc]
    have h3 : (x.cs[c]'hcd.1).steps.length = 1 ∨ (x.cs[c]'hcd.1).steps.length = 2 ∨ (x.cs[c]'hcd.1).steps.length = 3 ∨ (x.cs[c]'hcd.1).steps.length = 4 := by omega
    rcases h3 with e | e | e | e <;> rw [e] <;> decide
  · decide
theorem PCt.ok_same {x y : PCt} (hc : y.cs = x.cs) (hb : ∀ j, j < 16 → y.b j = x.b j) : y.ok = x.ok := by
  have ha : y.at = x.at := by funext i; unfold PCt.at; rw [hc]
  have hm : y.most = x.most := by funext c d; unfold PCt.most; rw [hc, ha]
  unfold PCt.ok
  rw [hc]
  have e1 : clOkAt y = clOkAt x := by funext i; unfold clOkAt; rw [ha]
  have e2 : (List.range 16).all (brOkAt y) = (List.range 16).all (brOkAt x) := by
    rw [Bool.eq_iff_iff, List.all_eq_true, List.all_eq_true]
    constructor
    · intro h j hj
      have := h j hj
      unfold brOkAt at this ⊢
      rwa [hm, hb j (List.mem_range.1 hj)] at this
    · intro h j hj
      have := h j hj
      unfold brOkAt at this ⊢
      rwa [hm, hb j (List.mem_range.1 hj)]
  rw [e1, e2]
theorem wordsB_len (x : PCt) (j : Nat) : (wordsB x j).length = j := by simp [wordsB]
/-- What is written of a catalogue that may be is read back. -/
theorem ctR_back {x : PCt} (h : x.ok = true) (r : List Nat) : ∃ y, ctR (some (wordsQ x ++ r)) = some (y, r) ∧ y.cs = x.cs ∧ ∀ j, j < 16 → y.b j = x.b j := by
  obtain ⟨⟨hn1, hn4⟩, hc, hb⟩ := PCt.ok_parts h
  obtain ⟨n, hn⟩ : ∃ n, n = x.cs.length := ⟨_, rfl⟩
  have hB : ∀ u ∈ wordsB x (n * n), u ≤ 255 := by
    intro u hu
    unfold wordsB at hu
    obtain ⟨i, hi, rfl⟩ := List.mem_map.1 hu
    have hi := List.mem_range.1 hi
    rw [← hn] at hn1 hn4 ⊢
    have h1 : i / n < n := Nat.div_lt_of_lt_mul hi
    have h2 : i % n < n := Nat.mod_lt _ (by omega)
    have h3 := hb (i / n * 4 + i % n) (by omega)
    have h4 := most_le hc ((i / n * 4 + i % n) / 4) ((i / n * 4 + i % n) % 4)
    omega
  have hcnt : cntR 4 (some (wordsQ x ++ r)) = some (n, x.cs.flatMap wordsC ++ (wordsB x (n * n) ++ r)) := by
    unfold wordsQ
    rw [List.cons_append, cntR, if_pos (by omega), List.append_assoc, hn]
  have e1 : ctN (some (wordsQ x ++ r)) = n := by unfold ctN gotFN; rw [hcnt]; rfl
  have e2 : cS 4 (some (wordsQ x ++ r)) = some (x.cs.flatMap wordsC ++ (wordsB x (n * n) ++ r)) := by unfold cS; rw [hcnt]; rfl
  obtain ⟨e3, e4⟩ := stQ_back hc (wordsB x (n * n) ++ r) n (by omega)
  have e5 : x.cs.drop n = [] := List.drop_eq_nil_of_le (by omega)
  have e6 : x.cs.take n = x.cs := List.take_of_length_le (by omega)
  rw [e5, List.flatMap_nil, List.nil_append] at e3
  rw [e6] at e4
  have e7 : ctS (some (wordsQ x ++ r)) = some r := by
    rw [ctS, e1, e2, e3, stB_back hB r (n * n) (by rw [wordsB_len]; exact Nat.le_refl _), List.drop_eq_nil_of_le (by rw [wordsB_len]; exact Nat.le_refl _), List.nil_append]
  have e8 : (ctP (some (wordsQ x ++ r))).cs = x.cs := by
    show lsQ (ctN (some (wordsQ x ++ r))) (cS 4 (some (wordsQ x ++ r))) = x.cs
    rw [e1, e2, e4]
  have e9 : ∀ j, j < 16 → (ctP (some (wordsQ x ++ r))).b j = x.b j := by
    intro j hj
    show brR (ctN (some (wordsQ x ++ r))) (ctN (some (wordsQ x ++ r)) * ctN (some (wordsQ x ++ r))) (stQ (ctN (some (wordsQ x ++ r))) (cS 4 (some (wordsQ x ++ r)))) j = x.b j
    rw [e1, e2, e3]
    unfold brR
    have hbj := hb j hj
    by_cases hin : j / 4 < n ∧ j % 4 < n
    · obtain ⟨i1, i2⟩ := hin
      have hlt : j / 4 * n + j % 4 < n * n := by
        have := Nat.mul_le_mul_right n (Nat.succ_le_of_lt i1)
        rw [Nat.succ_mul] at this
        omega
      have d1 : (j / 4 * n + j % 4) / n = j / 4 := by rw [Nat.add_comm, Nat.add_mul_div_right _ _ (by omega), Nat.div_eq_of_lt i2, Nat.zero_add]
      have d2 : (j / 4 * n + j % 4) % n = j % 4 := by rw [Nat.add_comm, Nat.add_mul_mod_self_right, Nat.mod_eq_of_lt i2]
      have d3 : j / 4 * 4 + j % 4 = j := by omega
      rw [if_pos ⟨i1, i2, hlt⟩, cVB_back hB r (by rw [wordsB_len]; exact hlt)]
      simp only [wordsB, List.getElem_map, List.getElem_range, ← hn, d1, d2, d3]
      omega
    · rw [if_neg (fun q => hin ⟨q.1, q.2.1⟩)]
      have hm : x.most (j / 4) (j % 4) = 1 := by
        unfold PCt.most
        rw [if_neg (by rw [← hn]; exact hin)]
      rw [hm] at hbj
      omega
  refine ⟨ctP (some (wordsQ x ++ r)), ?_, e8, e9⟩
  rw [ctR, if_pos (by rw [PCt.ok_same e8 e9]; exact h), e7]
  rfl
end Go.Proofs.YtbemfomiiikpoaaGreat
/- The words of a catalogue's items; its items fit. -/
namespace Go.Proofs.YtbemfomiiikpoaaGreat
open Go.RowKit

theorem itB_words (x : PCt) (j : Nat) : (itB x j).flatMap It.words = wordsB x j := by
  unfold itB wordsB
  generalize List.range j = l
  induction l with
  | nil => rfl
  | cons a r ih => rw [List.map_cons, List.flatMap_cons, ih, List.map_cons]; rfl
theorem itQ_words (x : PCt) : (itQ x).flatMap It.words = wordsQ x := by
  unfold itQ wordsQ
  have h : ∀ l : List PC, (l.flatMap itC).flatMap It.words = l.flatMap wordsC := by
    intro l
    induction l with
    | nil => rfl
    | cons a r ih => rw [List.flatMap_cons, List.flatMap_append, ih, itC_words, List.flatMap_cons]
  rw [List.flatMap_append, List.flatMap_append, h, itB_words, List.append_assoc]
  rfl
/-- A catalogue whose numbers fit, of classes that aren't great. -/
structure FitK (x : PCt) : Prop where
  n : x.cs.length ≤ 4
  name : ∀ c ∈ x.cs, c.name.size ≤ 64
  args : ∀ c ∈ x.cs, I64 c.args
  steps : ∀ c ∈ x.cs, c.steps.length ≤ 4
  s1 : ∀ c ∈ x.cs, ∀ s ∈ c.steps, FitS s
  s2 : ∀ c ∈ x.cs, ∀ s ∈ c.comps, FitS s
  br : ∀ j, j < 16 → I64 (x.b j)
theorem itQ_fit {x : PCt} (h : FitK x) : ∀ t ∈ itQ x, fitT t := by
  have i0 : I64 0 := ⟨by decide, by decide⟩
  have i4 : I64 4 := ⟨by decide, by decide⟩
  have i255 : I64 255 := ⟨by decide, by decide⟩
  have hn := h.n
  intro t ht
  unfold itQ at ht
  rw [List.mem_append, List.mem_append] at ht
  rcases ht with (ht | ht) | ht
  · simp only [List.mem_cons, List.not_mem_nil, or_false] at ht
    subst ht
    exact ⟨.inl rfl, ⟨by simp only [itN]; omega, by simp only [itN]; omega⟩, i4, i0, empty_small, rfl, rfl, rfl⟩
  · obtain ⟨c, hc, ht⟩ := List.mem_flatMap.1 ht
    exact itC_fit (h.name c hc) (h.args c hc) (h.steps c hc) (h.s1 c hc) (h.s2 c hc) t ht
  · unfold itB at ht
    obtain ⟨i, hi, rfl⟩ := List.mem_map.1 ht
    have hi := List.mem_range.1 hi
    have hn0 : 0 < x.cs.length := by
      rcases Nat.eq_zero_or_pos x.cs.length with e | e
      · rw [e] at hi
        omega
      · exact e
    have h1 : i / x.cs.length < x.cs.length := Nat.div_lt_of_lt_mul hi
    have h2 : i % x.cs.length < x.cs.length := Nat.mod_lt _ hn0
    exact ⟨.inl rfl, h.br _ (by omega), i255, i0, empty_small, rfl, rfl, rfl⟩
theorem itQ_len {x : PCt} (h : FitK x) : (itQ x).length ≤ 5000 := by
  have hn := h.n
  have h1 := flat_le itC 1000 x.cs (fun c hc => itC_len (h.steps c hc) (h.s1 c hc) (h.s2 c hc))
  have h2 : x.cs.length * 1000 ≤ 4 * 1000 := Nat.mul_le_mul_right _ hn
  have h3 : x.cs.length * x.cs.length ≤ 4 * 4 := Nat.mul_le_mul hn hn
  unfold itQ
  simp only [List.length_append, itB_len, List.length_cons, List.length_nil]
  omega
end Go.Proofs.YtbemfomiiikpoaaGreat
/- A catalogue that was handed in and that may be: its numbers fit; its words. -/
namespace Go.Proofs.YtbemfomiiikpoaaGreat
open Go.RowKit

theorem zip_get12 {l m : List Stp} (h : m.length = l.length) {s : Stp} (hs : s ∈ l) : ∃ u, (s, u) ∈ l.zip m := by
  obtain ⟨i, hi, rfl⟩ := List.getElem_of_mem hs
  have h2 : i < (l.zip m).length := by rw [List.length_zip]; omega
  exact ⟨m[i], by have := List.getElem_mem h2; rwa [List.getElem_zip] at this⟩
theorem zip_get12' {l m : List Stp} (h : m.length = l.length) {s : Stp} (hs : s ∈ m) : ∃ u, (u, s) ∈ l.zip m := by
  obtain ⟨i, hi, rfl⟩ := List.getElem_of_mem hs
  have h2 : i < (l.zip m).length := by rw [List.length_zip]; omega
  exact ⟨l[i], by have := List.getElem_mem h2; rwa [List.getElem_zip] at this⟩
/-- What is known of a class that may be. -/
theorem ok_parts12 {c : Cls} {w : World} (hf : c.Full w) (h : c.p.ok = true) : c.name.size ≤ 64 ∧ c.steps.length ≤ 4 ∧ c.comps.length = c.steps.length ∧ (∀ s ∈ c.steps, FitS s.p) ∧ (∀ s ∈ c.comps, FitS s.p) := by
  unfold PC.ok Cls.p at h
  simp only [Bool.and_eq_true, decide_eq_true_eq, List.length_map] at h
  obtain ⟨h1, -, h3, h4, h5⟩ := h
  have hall : ∀ q ∈ c.steps.zip c.comps, SmallP q.1.p ∧ SmallP q.2.p := fun q hq => by
    have h6 : (q.1.p, q.2.p) ∈ (c.steps.map Stp.p).zip (c.comps.map Stp.p) := by
      rw [List.zip_map]
      exact List.mem_map.2 ⟨q, hq, rfl⟩
    rw [List.all_eq_true] at h5
    exact pair_small (h5 _ h6)
  refine ⟨by omega, by omega, h4, fun s hs => ?_, fun s hs => ?_⟩
  · obtain ⟨u, hu⟩ := zip_get12 h4 hs
    have h7 := (hall _ hu).1
    exact ⟨(hf.steps s hs).fit.ci, (hf.steps s hs).fit.fi, h7.code, h7.foot⟩
  · obtain ⟨u, hu⟩ := zip_get12' h4 hs
    have h7 := (hall _ hu).2
    exact ⟨(hf.comps s hs).fit.ci, (hf.comps s hs).fit.fi, h7.code, h7.foot⟩
variable {x : Ctl} {w : World}
theorem ctl_ok (h : x.p.ok = true) : (1 ≤ x.cls.length ∧ x.cls.length ≤ 4) ∧ ∀ c ∈ x.cls, c.p.ok = true := by
  obtain ⟨h1, h2, -⟩ := PCt.ok_parts h
  have e : x.p.cs.length = x.cls.length := by simp [Ctl.p]
  exact ⟨by rwa [e] at h1, fun c hc => h2 _ (List.mem_map.2 ⟨c, hc, rfl⟩)⟩
theorem ctl_small (hf : x.Full w) (h : x.p.ok = true) : ∀ c ∈ x.cls, c.Small := fun c hc => by
  obtain ⟨-, h2, h3, h4, h5⟩ := ok_parts12 (hf.cls c hc) ((ctl_ok h).2 c hc)
  exact ⟨h2, h3, fun s hs => ⟨(h4 s hs).code, (h4 s hs).foot⟩, fun s hs => ⟨(h5 s hs).code, (h5 s hs).foot⟩⟩
theorem ctl_fit (hf : x.Full w) (h : x.p.ok = true) : FitK x.p := by
  have hp : ∀ c ∈ x.p.cs, ∃ d ∈ x.cls, d.p = c := fun c hc => List.mem_map.1 hc
  have hk := fun d (hd : d ∈ x.cls) => ok_parts12 (hf.cls d hd) ((ctl_ok h).2 d hd)
  refine ⟨by simpa [Ctl.p] using (ctl_ok h).1.2, fun c hc => ?_, fun c hc => ?_, fun c hc => ?_, fun c hc s hs => ?_, fun c hc s hs => ?_, hf.br⟩
  · obtain ⟨d, hd, rfl⟩ := hp c hc
    exact (hk d hd).1
  · obtain ⟨d, hd, rfl⟩ := hp c hc
    exact (hf.cls d hd).args
  · obtain ⟨d, hd, rfl⟩ := hp c hc
    simpa [Cls.p] using (hk d hd).2.1
  · obtain ⟨d, hd, rfl⟩ := hp c hc
    obtain ⟨t, ht, rfl⟩ := List.mem_map.1 hs
    exact (hk d hd).2.2.2.1 t ht
  · obtain ⟨d, hd, rfl⟩ := hp c hc
    obtain ⟨t, ht, rfl⟩ := List.mem_map.1 hs
    exact (hk d hd).2.2.2.2 t ht
theorem wordsQ_len {x : PCt} (h : FitK x) : (wordsQ x).length ≤ 5000 := by
  have hn := h.n
  have h1 := flat_le wordsC 1000 x.cs (fun c hc => wordsC_len (h.steps c hc) (h.s1 c hc) (h.s2 c hc))
  have h2 : x.cs.length * 1000 ≤ 4 * 1000 := Nat.mul_le_mul_right _ hn
  have h3 : x.cs.length * x.cs.length ≤ 4 * 4 := Nat.mul_le_mul hn hn
  unfold wordsQ
  simp only [List.length_append, wordsB_len, List.length_cons]
  omega
theorem wordsQ_lt {x : PCt} (h : FitK x) : ∀ u ∈ wordsQ x, u < 18446744073709551616 := by
  have hn := h.n
  intro u hu
  unfold wordsQ at hu
  simp only [List.mem_append, List.mem_cons] at hu
  rcases hu with rfl | hu | hu
  · omega
  · obtain ⟨c, hc, hu⟩ := List.mem_flatMap.1 hu
    exact wordsC_lt (h.args c hc) (h.steps c hc) (h.s1 c hc) (h.s2 c hc) u hu
  · unfold wordsB at hu
    obtain ⟨i, hi, rfl⟩ := List.mem_map.1 hu
    have hi := List.mem_range.1 hi
    have hn0 : 0 < x.cs.length := by
      rcases Nat.eq_zero_or_pos x.cs.length with e | e
      · rw [e] at hi
        omega
      · exact e
    have h1 : i / x.cs.length < x.cs.length := Nat.div_lt_of_lt_mul hi
    have h2 : i % x.cs.length < x.cs.length := Nat.mod_lt _ hn0
    exact nat_lt _ (h.br _ (by omega))
end Go.Proofs.YtbemfomiiikpoaaGreat
