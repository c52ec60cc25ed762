/- A class that may be is read from its words, purely. -/
import Derived.Test.YtbemfomiiikpoaaGreatPrs11
import Derived.Test.YtbemfomiiikpoaaGreatRit11
import Derived.RangeFuncOwn
import Derived.Test.YtbemfomiiikpoaaGreatPut10
import Derived.Test.YtbemfomiiikpoaaGreatMy11
namespace Go.Proofs.YtbemfomiiikpoaaGreat
open Go.RowKit

theorem hn_byte (l : List Nat) (hl : ∀ b ∈ l, b < 256) (j : Nat) : hn l / 256 ^ j % 256 = l.getD j 0 := by
  induction l generalizing j with
  | nil => simp [hn]
  | cons b r ih =>
    have hb := hl b (by simp)
    have hr := fun x hx => hl x (List.mem_cons_of_mem b hx)
    cases j with
    | zero => simp [hn]; omega
    | succ j =>
      have e : (b + 256 * hn r) / 256 ^ (j + 1) = hn r / 256 ^ j := by
        rw [Nat.pow_succ, Nat.mul_comm (256 ^ j) 256, ← Nat.div_div_eq_div_mul]
        congr 1
        omega
      simp only [hn, e, ih hr j, List.getD_cons_succ]
theorem ub_packed (l : List Nat) (hl : ∀ b ∈ l, b < 256) (i : Nat) (hi : i < 8 * ((l.length + 7) / 8)) : ub (packed l) i = l.getD i 0 := by
  have hk : i / 8 < (packed l).length := by rw [packed_len]; omega
  have e1 : (packed l).getD (i / 8) 0 = pw l (i / 8) := by
    simp only [List.getD, List.getElem?_eq_getElem hk, Option.getD_some]
    exact packed_at l (i / 8) (by rw [packed_len] at hk; exact hk)
  have e2 : (2 : Nat) ^ (i % 8 * 8) = 256 ^ (i % 8) := by rw [Nat.mul_comm, Nat.pow_mul]
  unfold ub
  rw [e1, e2]
  unfold pw
  rw [hn_byte _ (fun b hb => hl b (List.mem_of_mem_drop (List.mem_of_mem_take hb)))]
  simp only [List.getD, List.getElem?_take, List.getElem?_drop]
  rw [if_pos (by omega), show 8 * (i / 8) + i % 8 = i by omega]
theorem unp_packed (l : List Nat) (hl : ∀ b ∈ l, b < 256) : unp (packed l) l.length = l := by
  apply List.ext_getElem
  · simp [unp]
  · intro i h1 h2
    simp only [unp, List.getElem_map, List.getElem_range]
    rw [ub_packed l hl i (by omega)]
    simp [List.getD, h2]
theorem pad_packed (l : List Nat) (hl : ∀ b ∈ l, b < 256) : padB (packed l) l.length ((l.length + 7) / 8) = true := by
  refine padB_yes fun i h1 h2 => ?_
  rw [ub_packed l hl i h2]
  simp [List.getD, List.getElem?_eq_none h1]
theorem ofB_byts (s : ByteArray) : ofB (byts s) = s := by
  cases s with
  | mk d =>
    unfold ofB byts
    congr 1
    apply Array.ext'
    simp only [List.map_map]
    have e : (UInt8.ofNat ∘ UInt8.toNat) = id := by funext x; simp
    rw [e]
    simp
/-- The words of a text. -/
def wordsT (s : ByteArray) : List Nat := ((byts s).take 64).length :: packed ((byts s).take 64)
theorem textR_back {s : ByteArray} (h : s.size ≤ 64) (r : List Nat) : textR (some (wordsT s ++ r)) = some (s, r) := by
  have e : (byts s).take 64 = byts s := List.take_of_length_le (by rw [byts_len]; exact h)
  unfold wordsT
  rw [e]
  have hlt := byts_lt s
  have hb := ofB_byts s
  have hsz : (byts s).length ≤ 64 := by rw [byts_len]; exact h
  generalize byts s = bs at *
  rw [List.cons_append]
  have hc : cntR 64 (some (bs.length :: (packed bs ++ r))) = some (bs.length, packed bs ++ r) := by
    simp only [cntR]
    rw [if_pos (by omega)]
  have hp := packed_len bs
  have ht : (packed bs ++ r).take ((bs.length + 7) / 8) = packed bs := by rw [← hp]; simp
  have hd : (packed bs ++ r).drop ((bs.length + 7) / 8) = r := by rw [← hp]; simp
  unfold textR
  rw [hc]
  simp only [ht, hd, pad_packed bs hlt, unp_packed bs hlt, hb]
  rw [if_pos ⟨by rw [List.length_append, hp]; omega, trivial⟩]
theorem stN_backR {l : List Ins} (h : ∀ i ∈ l, i.Small) (r : List Nat) (k : Nat) (hk : k ≤ l.length) : stN k (some (l.flatMap wordsI ++ r)) = some ((l.drop k).flatMap wordsI ++ r) ∧ lsN k (some (l.flatMap wordsI ++ r)) = l.take k := by
  induction k with
  | zero => simp [stN, lsN]
  | succ k ih =>
    obtain ⟨e1, e2⟩ := ih (by omega)
    have hkl : k < l.length := by omega
    have e3 : insR (stN k (some (l.flatMap wordsI ++ r))) = some (l[k], (l.drop (k + 1)).flatMap wordsI ++ r) := by
      rw [e1, List.drop_eq_getElem_cons hkl, List.flatMap_cons, List.append_assoc]
      exact insR_back (h _ (List.getElem_mem hkl)) _
    rw [stN, lsN, e3, e2]
    exact ⟨rfl, (List.take_succ_eq_append_getElem hkl).symm⟩
theorem got_backR {l : List Ins} (h : ∀ i ∈ l, i.Small) (hl : l.length ≤ 8) (r : List Nat) : gotS (some (wordsP l ++ r)) = some r ∧ gotL (some (wordsP l ++ r)) = l := by
  have e0 : cntR 8 (some (wordsP l ++ r)) = some (l.length, l.flatMap wordsI ++ r) := by
    have := cntR_back (m := 8) (n := (l.length : Int)) (by omega) (l.flatMap wordsI ++ r)
    simpa [wordsP] using this
  have e1 : gotN (some (wordsP l ++ r)) = l.length := by rw [gotN, e0]; rfl
  have e2 : cS 8 (some (wordsP l ++ r)) = some (l.flatMap wordsI ++ r) := by rw [cS, e0]; rfl
  obtain ⟨q1, q2⟩ := stN_backR h r l.length (Nat.le_refl _)
  have e3 : gotS (some (wordsP l ++ r)) = some r := by
    rw [gotS, e1, e2, q1]
    simp
  refine ⟨e3, ?_⟩
  rw [gotL, e3, e1, e2, q2]
  simp
theorem stF_backR {l : List Fsp} (h : ∀ i ∈ l, i.Small) (r : List Nat) (k : Nat) (hk : k ≤ l.length) : stF k (some (l.flatMap wordsF1 ++ r)) = some ((l.drop k).flatMap wordsF1 ++ r) ∧ lsF k (some (l.flatMap wordsF1 ++ r)) = l.take k := by
  induction k with
  | zero => simp [stF, lsF]
  | succ k ih =>
    obtain ⟨e1, e2⟩ := ih (by omega)
    have hkl : k < l.length := by omega
    have e3 : fspR (stF k (some (l.flatMap wordsF1 ++ r))) = some (l[k], (l.drop (k + 1)).flatMap wordsF1 ++ r) := by
      rw [e1, List.drop_eq_getElem_cons hkl, List.flatMap_cons, List.append_assoc]
      exact fspR_back (h _ (List.getElem_mem hkl)) _
    rw [stF, lsF, e3, e2]
    exact ⟨rfl, (List.take_succ_eq_append_getElem hkl).symm⟩
theorem gotF_backR {l : List Fsp} (h : ∀ i ∈ l, i.Small) (hl : l.length ≤ 4) (r : List Nat) : gotFS (some (wordsF l ++ r)) = some r ∧ gotFL (some (wordsF l ++ r)) = l := by
  have e0 : cntR 4 (some (wordsF l ++ r)) = some (l.length, l.flatMap wordsF1 ++ r) := by
    have := cntR_back (m := 4) (n := (l.length : Int)) (by omega) (l.flatMap wordsF1 ++ r)
    simpa [wordsF] using this
  have e1 : gotFN (some (wordsF l ++ r)) = l.length := by rw [gotFN, e0]; rfl
  have e2 : cS 4 (some (wordsF l ++ r)) = some (l.flatMap wordsF1 ++ r) := by rw [cS, e0]; rfl
  obtain ⟨q1, q2⟩ := stF_backR h r l.length (Nat.le_refl _)
  have e3 : gotFS (some (wordsF l ++ r)) = some r := by
    rw [gotFS, e1, e2, q1]
    simp
  refine ⟨e3, ?_⟩
  rw [gotFL, e3, e1, e2, q2]
  simp
/-- A step that fits what is read. -/
structure SmallP (s : List Ins × List Fsp) : Prop where
  ins : ∀ i ∈ s.1, i.Small
  code : s.1.length ≤ 8
  fsp : ∀ f ∈ s.2, f.Small
  foot : s.2.length ≤ 4
def wordsS (s : List Ins × List Fsp) : List Nat := wordsP s.1 ++ wordsF s.2
theorem p_back {s : List Ins × List Fsp} (h : SmallP s) (r : List Nat) : pS (some (wordsS s ++ r)) = some r ∧ pV (some (wordsS s ++ r)) = s := by
  obtain ⟨a1, a2⟩ := got_backR h.ins h.code (wordsF s.2 ++ r)
  obtain ⟨b1, b2⟩ := gotF_backR h.fsp h.foot r
  unfold pS pV wordsS
  rw [List.append_assoc, a1, a2, b1, b2]
  exact ⟨rfl, rfl⟩
def wordsPr (q : (List Ins × List Fsp) × (List Ins × List Fsp)) : List Nat := wordsS q.1 ++ wordsS q.2
theorem stC_back {zs : List ((List Ins × List Fsp) × (List Ins × List Fsp))} (h : ∀ q ∈ zs, SmallP q.1 ∧ SmallP q.2) (r : List Nat) (k : Nat) (hk : k ≤ zs.length) :
    stC k (some (zs.flatMap wordsPr ++ r)) = some ((zs.drop k).flatMap wordsPr ++ r) ∧ lsS k (some (zs.flatMap wordsPr ++ r)) = (zs.take k).map (·.1) ∧ lsU k (some (zs.flatMap wordsPr ++ r)) = (zs.take k).map (·.2) := by
  induction k with
  | zero => simp [stC, lsS, lsU]
  | succ k ih =>
    obtain ⟨e1, e2, e3⟩ := ih (by omega)
    have hkl : k < zs.length := by omega
    have hq := h _ (List.getElem_mem hkl)
    have ed : (zs.drop k).flatMap wordsPr ++ r = wordsS zs[k].1 ++ (wordsS zs[k].2 ++ ((zs.drop (k + 1)).flatMap wordsPr ++ r)) := by
      rw [List.drop_eq_getElem_cons hkl, List.flatMap_cons, wordsPr, List.append_assoc, List.append_assoc]
    obtain ⟨p1, p2⟩ := p_back hq.1 (wordsS zs[k].2 ++ ((zs.drop (k + 1)).flatMap wordsPr ++ r))
    obtain ⟨p3, p4⟩ := p_back hq.2 ((zs.drop (k + 1)).flatMap wordsPr ++ r)
    rw [stC, lsS, lsU, e1, e2, e3, ed, p1, p2, p3, p4, List.take_succ_eq_append_getElem hkl, List.map_append, List.map_append]
    exact ⟨rfl, rfl, rfl⟩
/-- The words of a class. -/
def wordsC (c : PC) : List Nat := wordsT c.name ++ (c.args.toNat :: c.steps.length :: ((c.steps.zip c.comps).flatMap wordsPr ++ [flagW c.res]))
theorem pair_small {n : Int} {q : (List Ins × List Fsp) × (List Ins × List Fsp)} (h : pairOk n q = true) : SmallP q.1 ∧ SmallP q.2 := by
  unfold pairOk compOk at h
  simp only [Bool.and_eq_true, Bool.or_eq_true, decide_eq_true_eq] at h
  obtain ⟨h1, h2, h3, h4, -⟩ := h
  have hp : ∀ {l : List Ins}, progOk l n = true → (∀ i ∈ l, i.Small) ∧ l.length ≤ 8 := by
    intro l hl
    unfold progOk at hl
    simp only [Bool.and_eq_true, decide_eq_true_eq, List.all_eq_true] at hl
    exact ⟨fun i hi => small_of_ok hl.1.2 (hl.2.2 i hi), hl.2.1.2⟩
  have hf : ∀ {l : List Fsp}, footOk l n = true → (∀ i ∈ l, i.Small) ∧ l.length ≤ 4 := by
    intro l hl
    unfold footOk at hl
    simp only [Bool.and_eq_true, decide_eq_true_eq, List.all_eq_true] at hl
    exact ⟨fun i hi => fsmall_of_ok hl.1.2 (hl.2.2 i hi), hl.2.1⟩
  refine ⟨⟨(hp h1).1, (hp h1).2, (hf h2).1, (hf h2).2⟩, ?_⟩
  rcases h4 with h4 | h4
  · have e : q.2.1 = [] := List.eq_nil_of_length_eq_zero h4
    exact ⟨by rw [e]; simp, by rw [e]; simp, (hf h3).1, (hf h3).2⟩
  · exact ⟨(hp h4).1, (hp h4).2, (hf h3).1, (hf h3).2⟩
/-- A class that may be is read from its words. -/
theorem clR_back {c : PC} (h : c.ok = true) (r : List Nat) : clR (some (wordsC c ++ r)) = some (c, r) := by
  have h' := h
  unfold PC.ok at h'
  simp only [Bool.and_eq_true, decide_eq_true_eq, List.all_eq_true] at h'
  obtain ⟨h1, h2, h3, h4, h5⟩ := h'
  have hz : (c.steps.zip c.comps).length = c.steps.length := by rw [List.length_zip]; omega
  have e0 := textR_back (s := c.name) (by omega) (c.args.toNat :: c.steps.length :: ((c.steps.zip c.comps).flatMap wordsPr ++ [flagW c.res]) ++ r)
  have e1 : txV (some (wordsC c ++ r)) = c.name := by rw [txV, wordsC, List.append_assoc, e0]; rfl
  have e2 : txS (some (wordsC c ++ r)) = some (c.args.toNat :: c.steps.length :: ((c.steps.zip c.comps).flatMap wordsPr ++ [flagW c.res]) ++ r) := by rw [txS, wordsC, List.append_assoc, e0]; rfl
  have e3 : cV 3 (txS (some (wordsC c ++ r))) = c.args := by rw [e2]; exact cV_back ⟨h2.1, h2.2⟩ _
  have e4 : cS 3 (txS (some (wordsC c ++ r))) = some (c.steps.length :: ((c.steps.zip c.comps).flatMap wordsPr ++ ([flagW c.res] ++ r))) := by
    rw [e2, ← List.append_assoc]
    exact cS_back ⟨h2.1, h2.2⟩ _
  have e5 : cntR 4 (some (c.steps.length :: ((c.steps.zip c.comps).flatMap wordsPr ++ ([flagW c.res] ++ r)))) = some (c.steps.length, (c.steps.zip c.comps).flatMap wordsPr ++ ([flagW c.res] ++ r)) := by
    simp only [cntR]
    rw [if_pos (by omega)]
  have e6 : clN (some (wordsC c ++ r)) = c.steps.length := by rw [clN, e4, gotFN, e5]; rfl
  have e7 : cS 4 (cS 3 (txS (some (wordsC c ++ r)))) = some ((c.steps.zip c.comps).flatMap wordsPr ++ ([flagW c.res] ++ r)) := by rw [e4, cS, e5]; rfl
  obtain ⟨q1, q2, q3⟩ := stC_back (fun q hq => pair_small (h5 q hq)) ([flagW c.res] ++ r) (c.steps.zip c.comps).length (Nat.le_refl _)
  rw [hz] at q1 q2 q3
  have e8 : clS (some (wordsC c ++ r)) = some (flagW c.res :: r) := by
    rw [clS, e6, e7, q1, List.drop_of_length_le (by omega)]
    rfl
  have z1 : ((c.steps.zip c.comps).take c.steps.length).map (·.1) = c.steps := by
    rw [List.take_of_length_le (by omega)]
    exact List.map_fst_zip (by omega)
  have z2 : ((c.steps.zip c.comps).take c.steps.length).map (·.2) = c.comps := by
    rw [List.take_of_length_le (by omega)]
    exact List.map_snd_zip (by omega)
  have e9 : pcR (some (wordsC c ++ r)) = c := by
    rw [pcR, e1, e3, e6, e7, q2, q3, z1, z2, e8, fV, flagR_back]
    rfl
  rw [clR, e9, if_pos h, e8, fS, flagR_back]
  rfl
theorem itPr_words (q : (List Ins × List Fsp) × (List Ins × List Fsp)) : (itPr q).flatMap It.words = wordsPr q := by
  rw [itPr, List.flatMap_append, List.flatMap_append, List.flatMap_append, itP_words, itFP_words, itP_words, itFP_words, wordsPr, wordsS, wordsS]
  simp
theorem itC_words (c : PC) : (itC c).flatMap It.words = wordsC c := by
  have h : ∀ zs : List ((List Ins × List Fsp) × (List Ins × List Fsp)), (zs.flatMap itPr).flatMap It.words = zs.flatMap wordsPr := by
    intro zs
    induction zs with
    | nil => rfl
    | cons q s ih => rw [List.flatMap_cons, List.flatMap_append, ih, itPr_words, List.flatMap_cons]
  rw [itC, List.flatMap_append, List.flatMap_append, h, wordsC]
  cases c.res <;> simp [itT, itN, itF, It.words, wordsT, flagW]
end Go.Proofs.YtbemfomiiikpoaaGreat
/- The words and the items of a class: how many, and that they fit. -/
namespace Go.Proofs.YtbemfomiiikpoaaGreat
open Go.RowKit

theorem sgn_lt (x : Int) (h : I64 x) : sgn x < 18446744073709551616 := by
  have h1 := h.1
  have h2 := h.2
  unfold sgn
  split <;> omega

theorem nat_lt (x : Int) (h : I64 x) : x.toNat < 18446744073709551616 := by
  have h2 := h.2
  omega

theorem wordsP_lt {l : List Ins} (h : ∀ i ∈ l, i.I) (hl : l.length ≤ 8) : ∀ u ∈ wordsP l, u < 18446744073709551616 := by
  intro u hu
  rw [wordsP, List.mem_cons] at hu
  rcases hu with rfl | hu
  · omega
  · obtain ⟨i, hi, hu⟩ := List.mem_flatMap.1 hu
    obtain ⟨h0, h1, h2, h3, h4, h5, h6, h7, h8⟩ := h i hi
    simp only [wordsI, List.mem_cons, List.not_mem_nil, or_false] at hu
    rcases hu with rfl | rfl | rfl | rfl | rfl | rfl | rfl | rfl | rfl
    · exact nat_lt _ h0
    · exact nat_lt _ h1
    · exact nat_lt _ h2
    · exact nat_lt _ h3
    · exact sgn_lt _ h4
    · exact nat_lt _ h5
    · exact sgn_lt _ h6
    · exact nat_lt _ h7
    · exact sgn_lt _ h8

theorem wordsP_len (l : List Ins) : (wordsP l).length = 1 + l.length * 9 := by
  rw [wordsP, List.length_cons, wordsI_flat]
  omega

theorem itP_fit {l : List Ins} (h : ∀ i ∈ l, i.I) (hl : l.length ≤ 8) : ∀ t ∈ itP l, (t.kind = 0 ∨ t.kind = 1) ∧ I64 t.n ∧ I64 t.most ∧ I64 t.x ∧ t.s = ⟨#[]⟩ ∧ t.L = [] ∧ t.A = none ∧ t.c = 0 := by
  have i0 : I64 0 := ⟨by decide, by decide⟩
  have hN : ∀ n m, I64 n → I64 m → ((itN n m).kind = 0 ∨ (itN n m).kind = 1) ∧ I64 (itN n m).n ∧ I64 (itN n m).most ∧ I64 (itN n m).x ∧ (itN n m).s = ⟨#[]⟩ ∧ (itN n m).L = [] ∧ (itN n m).A = none ∧ (itN n m).c = 0 :=
    fun n m h1 h2 => ⟨.inl rfl, h1, h2, i0, rfl, rfl, rfl, rfl⟩
  have hS : ∀ x, I64 x → ((itS x).kind = 0 ∨ (itS x).kind = 1) ∧ I64 (itS x).n ∧ I64 (itS x).most ∧ I64 (itS x).x ∧ (itS x).s = ⟨#[]⟩ ∧ (itS x).L = [] ∧ (itS x).A = none ∧ (itS x).c = 0 :=
    fun x h1 => ⟨.inr rfl, i0, i0, h1, rfl, rfl, rfl, rfl⟩
  have i255 : I64 255 := ⟨by decide, by decide⟩
  have i999 : I64 999 := ⟨by decide, by decide⟩
  intro t ht
  rw [itP, List.mem_cons] at ht
  rcases ht with rfl | ht
  · exact hN _ _ ⟨by omega, by omega⟩ ⟨by decide, by decide⟩
  · obtain ⟨i, hi, ht⟩ := List.mem_flatMap.1 ht
    obtain ⟨h0, h1, h2, h3, h4, h5, h6, h7, h8⟩ := h i hi
    simp only [itI, itK, List.mem_append, List.mem_cons, List.not_mem_nil, or_false] at ht
    rcases ht with ((((rfl | rfl | rfl | rfl) | rfl | rfl) | rfl | rfl) | rfl)
    · exact hN _ _ h0 i255
    · exact hN _ _ h1 i255
    · exact hN _ _ h2 i255
    · exact hN _ _ h3 i255
    · exact hS _ h4
    · exact hN _ _ h5 i999
    · exact hS _ h6
    · exact hN _ _ h7 i999
    · exact hS _ h8

theorem wordsF_lt {l : List Fsp} (h : ∀ i ∈ l, i.I) (hl : l.length ≤ 4) : ∀ u ∈ wordsF l, u < 18446744073709551616 := by
  intro u hu
  rw [wordsF, List.mem_cons] at hu
  rcases hu with rfl | hu
  · omega
  · obtain ⟨i, hi, hu⟩ := List.mem_flatMap.1 hu
    obtain ⟨h0, h1, h2, h3⟩ := h i hi
    simp only [wordsF1, List.mem_cons, List.not_mem_nil, or_false] at hu
    rcases hu with rfl | rfl | rfl | rfl | rfl
    · exact sgn_lt _ h0
    · exact nat_lt _ h1
    · exact sgn_lt _ h2
    · exact nat_lt _ h3
    · unfold flagW
      split <;> omega

theorem wordsF_len (l : List Fsp) : (wordsF l).length = 1 + l.length * 5 := by
  rw [wordsF, List.length_cons, wordsF1_flat]
  omega

def fitT (t : It) : Prop := (t.kind = 0 ∨ t.kind = 1 ∨ t.kind = 2 ∨ t.kind = 3) ∧ I64 t.n ∧ I64 t.most ∧ I64 t.x ∧ t.s.size ≤ 64 ∧ t.L = [] ∧ t.A = none ∧ t.c = 0
/-- A step whose numbers fit, of lists that aren't great. -/
structure FitS (s : List Ins × List Fsp) : Prop where
  ci : ∀ i ∈ s.1, i.I
  fi : ∀ f ∈ s.2, f.I
  code : s.1.length ≤ 8
  foot : s.2.length ≤ 4
theorem empty_small : (⟨#[]⟩ : ByteArray).size ≤ 64 := by decide
theorem itP_fitT {l : List Ins} (h : ∀ i ∈ l, i.I) (hl : l.length ≤ 8) : ∀ t ∈ itP l, fitT t := fun t ht => by
  obtain ⟨k, a, b, c, s, d⟩ := itP_fit h hl t ht
  refine ⟨?_, a, b, c, by rw [s]; exact empty_small, d⟩
  rcases k with k | k
  · exact .inl k
  · exact .inr (.inl k)
theorem itFP_fitT {l : List Fsp} (h : ∀ i ∈ l, i.I) (hl : l.length ≤ 4) : ∀ t ∈ itFP l, fitT t := fun t ht => by
  obtain ⟨k, a, b, c, s, d⟩ := itFP_fit h hl t ht
  refine ⟨?_, a, b, c, by rw [s]; exact empty_small, d⟩
  rcases k with k | k | k
  · exact .inl k
  · exact .inr (.inl k)
  · exact .inr (.inr (.inl k))
theorem itC_fit {c : PC} (hn : c.name.size ≤ 64) (ha : I64 c.args) (hs : c.steps.length ≤ 4) (h1 : ∀ s ∈ c.steps, FitS s) (h2 : ∀ s ∈ c.comps, FitS s) : ∀ t ∈ itC c, fitT t := by
  have i0 : I64 0 := ⟨by decide, by decide⟩
  have i1 : I64 1 := ⟨by decide, by decide⟩
  have i3 : I64 3 := ⟨by decide, by decide⟩
  have i4 : I64 4 := ⟨by decide, by decide⟩
  intro t ht
  unfold itC at ht
  rw [List.mem_append, List.mem_append] at ht
  rcases ht with (ht | ht) | ht
  · simp only [List.mem_cons, List.not_mem_nil, or_false] at ht
    rcases ht with rfl | rfl | rfl
    · exact ⟨.inr (.inr (.inr rfl)), i0, i0, i0, hn, rfl, rfl, rfl⟩
    · exact ⟨.inl rfl, ha, i3, i0, empty_small, rfl, rfl, rfl⟩
    · exact ⟨.inl rfl, ⟨by simp only [itN]; omega, by simp only [itN]; omega⟩, i4, i0, empty_small, rfl, rfl, rfl⟩
  · obtain ⟨q, hq, ht⟩ := List.mem_flatMap.1 ht
    have q1 := h1 _ (List.of_mem_zip hq).1
    have q2 := h2 _ (List.of_mem_zip hq).2
    unfold itPr at ht
    simp only [List.mem_append] at ht
    rcases ht with ((ht | ht) | ht) | ht
    · exact itP_fitT q1.ci q1.code t ht
    · exact itFP_fitT q1.fi q1.foot t ht
    · exact itP_fitT q2.ci q2.code t ht
    · exact itFP_fitT q2.fi q2.foot t ht
  · simp only [List.mem_cons, List.not_mem_nil, or_false] at ht
    subst ht
    refine ⟨.inr (.inr (.inl rfl)), ?_, i0, i0, empty_small, rfl, rfl, rfl⟩
    show I64 (if c.res = true then 1 else 0)
    cases c.res
    · exact i0
    · exact i1
theorem flat_le {α β : Type} (f : α → List β) (K : Nat) (l : List α) (h : ∀ a ∈ l, (f a).length ≤ K) : (l.flatMap f).length ≤ l.length * K := by
  induction l with
  | nil => simp
  | cons a r ih =>
    have h1 := h a (by simp)
    have h2 := ih (fun x hx => h x (List.mem_cons_of_mem a hx))
    rw [List.flatMap_cons, List.length_append, List.length_cons, Nat.succ_mul]
    omega
theorem itC_len {c : PC} (hs : c.steps.length ≤ 4) (h1 : ∀ s ∈ c.steps, FitS s) (h2 : ∀ s ∈ c.comps, FitS s) : (itC c).length ≤ 1000 := by
  have h := flat_le itPr 188 (c.steps.zip c.comps) (fun q hq => by
    have q1 := h1 _ (List.of_mem_zip hq).1
    have q2 := h2 _ (List.of_mem_zip hq).2
    rw [itPr_len]
    have := q1.code
    have := q1.foot
    have := q2.code
    have := q2.foot
    omega)
  have hz : (c.steps.zip c.comps).length ≤ 4 := by rw [List.length_zip]; omega
  unfold itC
  simp only [List.length_append, List.length_cons, List.length_nil]
  omega
theorem wordsC_len {c : PC} (hs : c.steps.length ≤ 4) (h1 : ∀ s ∈ c.steps, FitS s) (h2 : ∀ s ∈ c.comps, FitS s) : (wordsC c).length ≤ 1000 := by
  have h := flat_le wordsPr 188 (c.steps.zip c.comps) (fun q hq => by
    have q1 := h1 _ (List.of_mem_zip hq).1
    have q2 := h2 _ (List.of_mem_zip hq).2
    unfold wordsPr wordsS
    simp only [List.length_append, wordsP_len, wordsF_len]
    have := q1.code
    have := q1.foot
    have := q2.code
    have := q2.foot
    omega)
  have hz : (c.steps.zip c.comps).length ≤ 4 := by rw [List.length_zip]; omega
  have hb : ((byts c.name).take 64).length ≤ 64 := by rw [List.length_take]; omega
  unfold wordsC wordsT
  simp only [List.length_append, List.length_cons, List.length_nil, packed_len]
  omega
theorem wordsT_lt (s : ByteArray) : ∀ u ∈ wordsT s, u < 18446744073709551616 := by
  intro u hu
  have hb : ((byts s).take 64).length ≤ 64 := by rw [List.length_take]; omega
  unfold wordsT at hu
  rw [List.mem_cons] at hu
  rcases hu with rfl | hu
  · omega
  · unfold packed at hu
    obtain ⟨k, -, rfl⟩ := List.mem_map.1 hu
    have := pw_lt ((byts s).take 64) (fun b hb => byts_lt s b (List.mem_of_mem_take hb)) k
    exact this
theorem wordsC_lt {c : PC} (ha : I64 c.args) (hs : c.steps.length ≤ 4) (h1 : ∀ s ∈ c.steps, FitS s) (h2 : ∀ s ∈ c.comps, FitS s) : ∀ u ∈ wordsC c, u < 18446744073709551616 := by
  intro u hu
  unfold wordsC at hu
  simp only [List.mem_append, List.mem_cons, List.not_mem_nil, or_false] at hu
  rcases hu with hu | rfl | rfl | hu | rfl
  · exact wordsT_lt _ u hu
  · exact nat_lt _ ha
  · omega
  · obtain ⟨q, hq, hu⟩ := List.mem_flatMap.1 hu
    have q1 := h1 _ (List.of_mem_zip hq).1
    have q2 := h2 _ (List.of_mem_zip hq).2
    unfold wordsPr wordsS at hu
    simp only [List.mem_append] at hu
    rcases hu with (hu | hu) | hu | hu
    · exact wordsP_lt q1.ci q1.code u hu
    · exact wordsF_lt q1.fi q1.foot u hu
    · exact wordsP_lt q2.ci q2.code u hu
    · exact wordsF_lt q2.fi q2.foot u hu
  · unfold flagW
    split <;> omega
end Go.Proofs.YtbemfomiiikpoaaGreat
/- Package class: steps that are written. -/
namespace Go.Proofs.YtbemfomiiikpoaaGreat
open Go.RowKit

/-- A writer whose words lie behind it. -/
def WA (p : Nat) (zs : List Nat) (w : World) : Prop := ∃ g, Wr w p g zs ∧ ∀ k, g = some k → p ≤ k
/-- What a writer's calls keep: what lies below the writer, and boxes of other types than its own two. -/
def KW (p : Nat) (W W' : World) : Prop := Below p W W' ∧ (∀ k t cs, t ≠ 31 → t ≠ 70 → Bk W k t cs → Bk W' k t cs) ∧ KeepsOthers W W'
theorem KW.refl (p : Nat) (W : World) : KW p W W := ⟨Below.refl _ _, fun _ _ _ _ _ h => h, KeepsOthers.refl _⟩
theorem KW.trans {p : Nat} {X Y Z : World} (h : KW p X Y) (k : KW p Y Z) : KW p X Z := ⟨h.1.trans k.1, fun g t cs h1 h2 hb => k.2.1 g t cs h1 h2 (h.2.1 g t cs h1 h2 hb), h.2.2.trans k.2.2⟩
theorem KW.quiet {p : Nat} {X Y : World} (hp : p ≤ X.heap.size) (h : Fr No X Y) : KW p X Y := ⟨h.toBelow hp (fun _ e => e.elim), fun _ _ _ _ _ hb => hb.fr h (fun e => e), ⟨h.size, fun k _ hk _ => (h.block k (Array.getElem?_eq_some_iff.1 hk).1 (fun e => e)).trans hk⟩⟩
theorem WA.lt {p : Nat} {zs : List Nat} {w : World} (h : WA p zs w) : p < w.heap.size := by
  obtain ⟨g, hw, -⟩ := h
  exact hw.lt.1
theorem WA.quiet {p : Nat} {zs : List Nat} {w w' : World} (h : WA p zs w) (hf : Fr No w w') : WA p zs w' := by
  obtain ⟨g, hw, hg⟩ := h
  exact ⟨g, hw.fr hf (fun _ _ e => e), hg⟩
theorem own_cells_block {w : World} {b size n : Nat} {e : TypeId} {v : Value} {xs : List Value} (h : w.ownsRow b e size v n xs) {k : Nat} (hk : v.ownBlock = some k) : ∃ cs t fr, w.heap[k]? = some (.cells cs t fr) := by
  rcases h.2 with ⟨rfl, _⟩ | ⟨g, cap, cur, rfl, _, hgb, _⟩
  · cases hk
  · have e2 : g = k := by simpa [Value.ownBlock] using hk
    subst e2
    exact ⟨_, _, _, hgb⟩
theorem wrote_wa {p : Nat} {g : Option Nat} {xs zs : List Nat} {w w' : World} {e : Ending} (h : Wr w p g xs) (hg : ∀ k, g = some k → p ≤ k) (H : Wrote w p g zs e w') : e = .returned (.tuple #[]) ∧ WA p zs w' ∧ KW p w w' := by
  obtain ⟨he, g', hw', hf, hg'⟩ := H
  have hl := h.lt
  refine ⟨he, ⟨g', hw', fun k hk => ?_⟩, hf.toBelow (by omega) (fun k e => ?_), fun k t cs h1 h2 hb => hb.fr hf (fun e => ?_), ⟨hf.size, fun k o hk hc => (hf.block k (Array.getElem?_eq_some_iff.1 hk).1 (fun e => ?_)).trans hk⟩⟩
  · rcases hg' with rfl | ⟨j, rfl, hj⟩
    · exact hg k hk
    · injection hk with hk
      omega
  · rcases e with rfl | e
    · omega
    · exact hg _ e
  · obtain ⟨A, c, b, o, e2⟩ := h.reads
    rcases e with rfl | e
    · have h3 : w.heap[k]? = some (.cells cs t (0, 0)) := hb
      have h4 : w.heap[k]? = some (.cells #[.slice A xs.length c] 31 (0, 0)) := b
      rw [h3] at h4
      injection h4 with h4
      injection h4 with _ h5 _
      exact h1 h5
    · exact own_apart o hb (fun e3 => h2 e3.symm) (e2.trans e)
  · obtain ⟨A, c, b, ow, e2⟩ := h.reads
    rcases e with rfl | e
    · have h4 : w.heap[k]? = some (.cells #[.slice A xs.length c] 31 (0, 0)) := b
      rw [hk] at h4
      injection h4 with h4
      rw [h4] at hc
      cases hc
    · obtain ⟨cs, t, fr, h5⟩ := own_cells_block ow (e2.trans e)
      rw [hk] at h5
      injection h5 with h5
      rw [h5] at hc
      cases hc
/-- The next call of a writer. -/
theorem WA.step {p : Nat} {xs zs : List Nat} {w : World} {f : Nat} {vs : Array Value} (h : WA p xs w) (C : ∀ g, Wr w p g xs → (∀ k, g = some k → p ≤ k) → Calls Tryz.prog f vs w (Wrote w p g zs)) :
    Calls Tryz.prog f vs w fun e w' => e = .returned (.tuple #[]) ∧ WA p zs w' ∧ KW p w w' := by
  obtain ⟨g, hw, hg⟩ := h
  exact (C g hw hg).mono fun e w' H => wrote_wa hw hg H
/-- A list that lies below a writer is apart of it. -/
theorem low_apart {p : Nat} {g : Option Nat} {w : World} {A : Option Addr} {xs : List Value} (h : Sl w p A xs) (hg : ∀ k, g = some k → p ≤ k) (ad : Addr) (e : A = some ad) (hne : xs ≠ []) : ¬ Of p g ad.block := by
  obtain ⟨ad', e', hb, _⟩ := h hne
  rw [e] at e'
  injection e' with e'
  subst e'
  rintro (h1 | h1)
  · omega
  · have := hg _ h1
    omega
theorem WA.prog {p : Nat} {xs : List Nat} {w : World} (h : WA p xs w) (l : List Ins) (A : Option Addr) (c : Nat) (hs : Sl w p A (l.flatMap Ins.cells)) (hi : ∀ i ∈ l, i.I) (hl : l.length ≤ 8) (hlen : xs.length + 20000 ≤ 1099511627776) :
    Calls Tryz.prog 77 #[.pointer (some ⟨p, 0, none⟩), .slice A l.length c] w fun e w' => e = .returned (.tuple #[]) ∧ WA p (xs ++ wordsP l) w' ∧ KW p w w' :=
  h.step fun g hw hg => putP_any p g xs l A l.length c w hw (hs.more (Nat.le_of_lt h.lt)) (fun ad e hne => low_apart hs hg ad e (by
    intro h0
    cases l with
    | nil => exact hne rfl
    | cons a r => simp [Ins.cells] at h0)) rfl (by omega) hi hlen
theorem WA.foot {p : Nat} {xs : List Nat} {w : World} (h : WA p xs w) (l : List Fsp) (A : Option Addr) (c : Nat) (hs : Sl w p A (l.flatMap Fsp.cells)) (hi : ∀ i ∈ l, i.I) (hl : l.length ≤ 4) (hlen : xs.length + 10000 ≤ 1099511627776) :
    Calls Tryz.prog 78 #[.pointer (some ⟨p, 0, none⟩), .slice A l.length c] w fun e w' => e = .returned (.tuple #[]) ∧ WA p (xs ++ wordsF l) w' ∧ KW p w w' :=
  h.step fun g hw hg => put10_any p g xs l A l.length c w hw (hs.more (Nat.le_of_lt h.lt)) (fun ad e hne => low_apart hs hg ad e (by
    intro h0
    cases l with
    | nil => exact hne rfl
    | cons a r => simp [Fsp.cells] at h0)) rfl (by omega) hi hlen

/-- The words of a step. -/
def wSt (s : Stp) : List Nat := wordsS s.p
theorem wSt_len {s : Stp} (h : FitS s.p) : (wSt s).length ≤ 100 := by
  have h1 : s.code.length ≤ 8 := h.code
  have h2 : s.foot.length ≤ 4 := h.foot
  unfold wSt wordsS
  simp only [Stp.p, List.length_append, wordsP_len, wordsF_len]
  omega

set_option maxRecDepth 100000 in
set_option maxHeartbeats 4000000 in
theorem putSteps_any (p : Nat) (xs : List Nat) (l : List Stp) (A : Option Addr) (n c : Nat) (w : World) (hw : WA p xs w) (hk : ∀ W, KW p w W → Sl W W.heap.size A (l.flatMap Stp.cells)) (hn : l.length = n) (hn2 : n ≤ 2) (hall : ∀ s ∈ l, s.Ok w p ∧ FitS s.p) (hlen : xs.length + 30000 ≤ 1099511627776) :
    Calls Tryz.prog 48 #[.pointer (some ⟨p, 0, none⟩), .slice A n c] w fun e w' => e = .returned (.tuple #[]) ∧ WA p (xs ++ l.flatMap wSt) w' ∧ KW p w w' := by
  have Hk := Lib.hid hk
  have Hn := Lib.hid hn
  have Hall := Lib.hid hall
  have Hw := Lib.hid hw
  have Hlw := Lib.hid hw.lt
  clear hw hk hn hall
  go_enter Tryz.func48, Tryz.ntmps48
  go_wp2
  go_loopw [8] (fun i wr => ∃ k : Nat, k ≤ n ∧ i = .int .i64 k ∧ Hid (WA p (xs ++ (l.take k).flatMap wSt) wr) ∧ Hid (((l.take k).flatMap wSt).length ≤ k * 100) ∧ Hid (KW p w wr)) (fun i _ => n - (intOf i).toNat)
  case atStart => exact ⟨0, Nat.zero_le _, rfl, Lib.hid (by simpa using Hw.out), Lib.hid (by simp), Lib.hid (KW.refl _ _)⟩
  case round =>
    obtain ⟨k, hk, rfl, hwa, hle, hkw⟩ := hrel
    by_cases hlt : k < n
    · have hkl : k < l.length := by rw [Hn.out]; exact hlt
      obtain ⟨ad, e1, hab, c0, c1⟩ := (Hk.out wr hkw.out).stp (k := k) hkl
      obtain ⟨hs, hfit⟩ := Hall.out _ (List.getElem_mem hkl)
      have Hnx : Hid ((l.take (k + 1)).flatMap wSt = (l.take k).flatMap wSt ++ wSt l[k]) := Lib.hid (by rw [List.take_succ_eq_append_getElem hkl, List.flatMap_append]; simp)
      have Hl1 := Lib.hid (wSt_len hfit)
      generalize l[k] = s at *
      obtain ⟨sA, sl, sc, fA, sf, fc⟩ := s
      subst e1
      dsimp only at c0 c1
      have Hw1 : Hid (wSt ⟨sA, sl, sc, fA, sf, fc⟩ = wordsP sl ++ wordsF sf) := Lib.hid rfl
      have Hfit := Lib.hid hfit
      have f1 : Fr No wr (wr.alloc (.cells #[.slice sA sl.length sc, .slice fA sf.length fc] 56)) := (Fr.refl _ _).alloc _
      have hb1 := Bk.made wr 56 #[.slice sA sl.length sc, .slice fA sf.length fc]
      have k1 := hkw.out.trans (KW.quiet (Nat.le_of_lt hwa.out.lt) f1)
      have hlen1 : (xs ++ (l.take k).flatMap wSt).length + 20000 ≤ 1099511627776 := by rw [List.length_append]; have := hle.out; omega
      have C1 := Lib.hid ((hwa.out.quiet f1).prog sl sA sc (hs.code.below k1.1) hfit.ci hfit.code hlen1)
      have HB1 := Lib.hid hb1
      have K1 := Lib.hid k1
      have Hs := Lib.hid hs
      clear hs hfit f1 hb1 k1 hlen1
      go_wp2_with fail
      refine (C1.out).mono ?_
      rintro e w2 ⟨rfl, a2, q2⟩
      have hb2 := q2.2.1 _ _ _ (by decide) (by decide) HB1.out
      have k2 := K1.out.trans q2
      have y1 := hb2.cell 1
      have hl2 := hb2.lt
      simp at y1
      have hlen2 : (xs ++ (l.take k).flatMap wSt ++ wordsP sl).length + 10000 ≤ 1099511627776 := by
        have h8 : sl.length ≤ 8 := Hfit.out.code
        simp only [List.length_append, wordsP_len]
        have := hle.out
        omega
      have C2 := Lib.hid (a2.foot sf fA fc (Hs.out.foot.below k2.1) Hfit.out.fi Hfit.out.foot hlen2)
      have K2 := Lib.hid k2
      clear c0 c1 hb2 k2 a2 q2 hlen2 C1
      go_wp2_with fail
      refine (C2.out).mono ?_
      rintro e w3 ⟨rfl, a3, q3⟩
      have HA3 : Hid (WA p (xs ++ (l.take (k + 1)).flatMap wSt) w3) := Lib.hid (by
        rw [Hnx.out, Hw1.out]
        simpa using a3)
      have HL3 : Hid (((l.take (k + 1)).flatMap wSt).length ≤ (k + 1) * 100) := Lib.hid (by
        rw [Hnx.out, List.length_append]
        have := hle.out
        have := Hl1.out
        omega)
      have HK3 := Lib.hid (K2.out.trans q3)
      clear a3 q3 y1 hl2 C2 hwa hle hkw
      go_wp2
      go_roundw
      case rel => exact ⟨k + 1, by omega, by go_num, HA3, HL3, HK3⟩
      case measure => simp [intOf]; omega
    · obtain rfl : k = n := by omega
      have HA3 : Hid (WA p (xs ++ l.flatMap wSt) wr) := Lib.hid (by
        have h := hwa.out
        rw [List.take_of_length_le (by rw [Hn.out]; exact Nat.le_refl _)] at h
        exact h)
      go_wp2
      go_end0
      exact ⟨rfl, HA3.out, hkw.out⟩
end Go.Proofs.YtbemfomiiikpoaaGreat
/- Package class: Put. -/
namespace Go.Proofs.YtbemfomiiikpoaaGreat
open Go.RowKit

attribute [local go_sem] Oper.semAt_some

theorem KW.pc {p : Nat} {W W' : World} (h : KW p W W') : KpC p W W' := ⟨h.1, fun g cs hb => h.2.1 g _ cs (by decide) (by decide) hb⟩
theorem sl_bk {V : World} {K : Nat} {t : TypeId} {cs : Array Value} {xs : List Value} (h : Bk V K t cs) (e : cs.toList = xs) : Sl V V.heap.size (some ⟨K, 0, none⟩) xs := by
  subst e
  intro _
  refine ⟨⟨K, 0, none⟩, rfl, h.lt, fun j u hu => ?_⟩
  have h1 := h.cell j
  have h2 : cs[j]? = some u := by rw [← Array.getElem?_toList]; exact hu
  rw [h2] at h1
  have h3 : (⟨K, 0, none⟩ : Addr).add j = ⟨K, j, none⟩ := by simp [Addr.add]; omega
  rw [h3]
  exact h1
theorem bk_ownP {β : Type} (B g : Nat) (t : TypeId) (cs : Array Value) : OwnFrom B (fun (_ : β) W => Bk W g t cs) := fun _ X Y row hs hg hr =>
  hs.grown hg (fun e => by
    obtain ⟨-, o, ho, hc⟩ := hr g e
    rw [show X.heap[g]? = _ from hs] at ho
    cases ho
    cases hc)
theorem row_ownP {β : Type} (B n₀ : Nat) (e : TypeId) (size : Nat) (v : Value) (n : Nat) (xs : List Value) : OwnFrom B (fun (_ : β) W => W.ownsRow n₀ e size v n xs) := fun _ X Y row hs hg hr => by
  refine hs.kept hg ?_
  rcases hs.2 with ⟨rfl, _⟩ | ⟨g, cap, cur, rfl, _, hgb, _⟩
  · exact .inl rfl
  · refine .inr fun e' => ?_
    obtain ⟨-, o, ho, hc⟩ := hr g (by simpa [Value.ownBlock] using e'.symm)
    rw [show X.heap[g]? = _ from hgb] at ho
    cases ho
    cases hc
theorem WA.own {β : Type} (B p : Nat) (f : β → List Nat) : OwnFrom B (fun b W => WA p (f b) W) := fun b X Y row hs hg hr => by
  obtain ⟨g, hw, hgp⟩ := hs
  obtain ⟨A, c, h1, h2, h3⟩ := hw.reads
  exact ⟨g, ⟨A, c, bk_ownP B p _ _ () X Y row h1 hg hr, row_ownP B 0 _ 1 _ _ _ () X Y row h2 hg hr, h3⟩, hgp⟩
theorem KW.own {β : Type} (B p : Nat) (w : World) (h1 : p ≤ w.heap.size) (h2 : w.heap.size ≤ B) : OwnFrom B (fun (_ : β) W => KW p w W) := fun _ X Y row hs hg hr =>
  ⟨ownFrom_below (β := Unit) h1 (Nat.le_trans h1 h2) () X Y row hs.1 hg hr, fun k t cs e1 e2 hb => bk_ownP B k t cs () X Y row (hs.2.1 k t cs e1 e2 hb) hg hr, ⟨Nat.le_trans hs.2.2.size hg.size, fun k o hk hc => by
    have h3 := hs.2.2.same k o hk hc
    have h4 := (Array.getElem?_eq_some_iff.1 hk).1
    exact (hg.block k (Array.getElem?_eq_some_iff.1 h3).1 (fun e => by have := (hr k e.symm).1; omega)).trans h3⟩⟩

theorem bk_putD {W : World} {g D : Nat} {t : TypeId} {cs : Array Value} {o o' : Obj} (hb : Bk W g t cs) (hK : W.heap[D]? = some o) (hc : o.isCells = false) : Bk (W.putObj D o') g t cs := by
  refine (World.putObj_heap_other (fun e => ?_)).trans hb
  subst e
  have := (show W.heap[g]? = _ from hb).symm.trans hK
  injection this with this
  rw [← this] at hc
  cases hc
theorem WA.putD {p D : Nat} {zs : List Nat} {W : World} {o o' : Obj} (h : WA p zs W) (hK : W.heap[D]? = some o) (hc : o.isCells = false) : WA p zs (W.putObj D o') := by
  obtain ⟨g, hw, hg⟩ := h
  obtain ⟨A, c, b, ow, e⟩ := hw.reads
  exact ⟨g, ⟨A, c, bk_putD b hK hc, ownsRow_putObj ow o' hK hc, e⟩, hg⟩
theorem KW.putD {p D : Nat} {w W : World} {o o' : Obj} (h : KW p w W) (hD : w.heap.size ≤ D) (hp : p ≤ w.heap.size) (hK : W.heap[D]? = some o) (hc : o.isCells = false) : KW p w (W.putObj D o') := by
  have hl := (Array.getElem?_eq_some_iff.1 hK).1
  refine ⟨⟨h.1.os, h.1.tape, h.1.output, by simpa using h.1.size, fun k hk => (World.putObj_heap_other (by omega)).trans (h.1.block k hk)⟩, fun k t cs h1 h2 hb => bk_putD (h.2.1 k t cs h1 h2 hb) hK hc, ⟨by simpa using h.2.2.size, fun k o2 hk h2 => ?_⟩⟩
  have h3 := (Array.getElem?_eq_some_iff.1 hk).1
  exact (World.putObj_heap_other (by omega)).trans (h.2.2.same k o2 hk h2)

/-- The words of a step and its Comp. -/
def wPr (q : Stp × Stp) : List Nat := wSt q.1 ++ wSt q.2
theorem wPr_p (q : Stp × Stp) : wPr q = wordsPr (q.1.p, q.2.p) := rfl
theorem wPr_zip (ss us : List Stp) : (ss.zip us).flatMap wPr = ((ss.map Stp.p).zip (us.map Stp.p)).flatMap wordsPr := by
  rw [List.zip_map, List.flatMap_map]
  rfl
/-- What stands while the steps are written. -/
def PuI (p : Nat) (ys : List Nat) (w : World) (H : Nat) (cs : Array Value) {ss us : List Stp} (pre : List (ZP ss us)) (W : World) : Prop :=
  WA p (ys ++ (pre.map (·.1)).flatMap wPr) W ∧ Bk W H 33 #[.pointer (some ⟨p, 0, none⟩)] ∧ Bk W (H + 1) 59 cs ∧ KW p w W ∧ ((pre.map (·.1)).flatMap wPr).length ≤ pre.length * 200
theorem PuI.own (p : Nat) (ys : List Nat) (w : World) (H : Nat) (cs : Array Value) (ss us : List Stp) (B : Nat) (h1 : p ≤ w.heap.size) (h2 : w.heap.size ≤ B) : OwnFrom B (PuI p ys w H cs (ss := ss) (us := us)) := by
  intro pre X Y row ⟨a1, a2, a3, a4, a5⟩ hg hr
  exact ⟨WA.own B p (fun (_ : Unit) => ys ++ (pre.map (·.1)).flatMap wPr) () X Y row a1 hg hr, bk_ownP B _ _ _ () X Y row a2 hg hr, bk_ownP B _ _ _ () X Y row a3 hg hr, KW.own (β := Unit) B p w h1 h2 () X Y row a4 hg hr, a5⟩

set_option maxRecDepth 100000 in
set_option maxHeartbeats 4000000 in
theorem put11_any (p : Nat) (xs : List Nat) (c : Cls) (w : World) (hw : WA p xs w) (hs : Sl w p c.sA (c.steps.flatMap Stp.cells)) (hu : Sl w p c.uA (c.comps.flatMap Stp.cells)) (h1 : ∀ s ∈ c.steps, s.Ok w p ∧ FitS s.p) (h2 : ∀ s ∈ c.comps, s.Ok w p ∧ FitS s.p)
    (ha : I64 c.args) (hn : c.steps.length ≤ 4) (hm : c.comps.length ≤ 4) (hnm : c.name.size ≤ 64) (hlen : xs.length + 100000 ≤ 1099511627776) :
    Calls Tryz.prog 24 #[.pointer (some ⟨p, 0, none⟩), c.agg] w fun e w' => e = .returned (.tuple #[]) ∧ WA p (xs ++ wordsC c.p) w' ∧ KW p w w' := by
  have Hwc : Hid (wordsC c.p = wordsT c.name ++ (c.args.toNat :: c.steps.length :: ((c.steps.zip c.comps).flatMap wPr ++ [flagW c.res]))) := Lib.hid (by
    unfold wordsC Cls.p
    simp only [List.length_map]
    rw [wPr_zip])
  have Htl : Hid ((wordsT c.name).length ≤ 9) := Lib.hid (by
    unfold wordsT
    rw [List.length_cons, packed_len]
    have : ((byts c.name).take 64).length ≤ 64 := by rw [List.length_take]; omega
    omega)
  refine (callsIn_wide (n := 3)).1 ?_
  have h3 : 1 ≤ 3 := by omega
  obtain ⟨nm, a, A, ss, sc, U, us, uc, res⟩ := c
  unfold Cls.agg
  simp only at *
  have Hlp := Lib.hid hw.lt
  obtain ⟨n, hln⟩ : ∃ n, ss.length = n := ⟨_, rfl⟩
  obtain ⟨m, hlm⟩ : ∃ m, us.length = m := ⟨_, rfl⟩
  rw [hln] at Hwc
  simp only [hln, hlm] at hn hm ⊢
  have Hs := Lib.hid hs
  have Hu := Lib.hid hu
  have H1 := Lib.hid h1
  have H2 := Lib.hid h2
  have Hln := Lib.hid hln
  have Hlm := Lib.hid hlm
  have f0 : Fr No w ((w.alloc (.cells #[.pointer (some ⟨p, 0, none⟩)] 33)).alloc (.cells #[.string nm, .int .i64 a, .slice A n sc, .slice U m uc, .bool res] 59)) := ((Fr.refl No w).alloc _).alloc _
  have bW : Bk ((w.alloc (.cells #[.pointer (some ⟨p, 0, none⟩)] 33)).alloc (.cells #[.string nm, .int .i64 a, .slice A n sc, .slice U m uc, .bool res] 59)) w.heap.size 33 #[.pointer (some ⟨p, 0, none⟩)] := (Bk.made w _ _).fr ((Fr.refl No _).alloc _) (fun e => e)
  have bC : Bk ((w.alloc (.cells #[.pointer (some ⟨p, 0, none⟩)] 33)).alloc (.cells #[.string nm, .int .i64 a, .slice A n sc, .slice U m uc, .bool res] 59)) (w.heap.size + 1) 59 #[.string nm, .int .i64 a, .slice A n sc, .slice U m uc, .bool res] := by
    have h := Bk.made (w.alloc (.cells #[.pointer (some ⟨p, 0, none⟩)] 33)) 59 #[.string nm, .int .i64 a, .slice A n sc, .slice U m uc, .bool res]
    simpa using h
  have K0 := Lib.hid (KW.quiet (p := p) (Nat.le_of_lt hw.lt) f0)
  have C1 := Lib.hid ((hw.quiet f0).step (fun g h hg => text_any p g xs nm _ h (by omega) (by omega)))
  have HB0 := Lib.hid (And.intro bW bC)
  clear hs hu h1 h2 hw f0 bW bC hln hlm
  refine callsIn_of_wp_marks Tryz.func24 rfl trivial ?_ rfl
  simp only [Tryz.ntmps24, List.size_toArray, List.length_cons, List.length_nil, Nat.reduceAdd, Nat.reduceSub, Array.replicate_succ, Array.replicate_zero, List.push_toArray, List.append_toArray, List.nil_append, List.cons_append]
  gi_wp2_with fail
  refine ⟨trivial, ?_⟩
  gi_at_call 46
  refine (callsIn_wide.2 (C1.out)).mono ?_
  rintro e w1 ⟨rfl, a1, q1⟩
  have b1 := HB0.out.1 |> q1.2.1 _ _ _ (by decide) (by decide)
  have d1 := HB0.out.2 |> q1.2.1 _ _ _ (by decide) (by decide)
  have K1 := Lib.hid (K0.out.trans q1)
  have HB1 := Lib.hid (And.intro b1 d1)
  have x1 := b1.cell 0
  have y11 := d1.cell 1
  have y12 := d1.cell 2
  have y14 := d1.cell 4
  have l10 := b1.lt
  have l11 := d1.lt
  simp at x1 y11 y12 y14
  have C2 := Lib.hid (a1.step (fun g h hg => count_any p g _ a _ h ha.1 ha.2 (by have := Htl.out; unfold wordsT at this; rw [List.length_append]; omega)))
  clear a1 q1 b1 d1 C1
  gi_wp2_with fail
  refine ⟨trivial, ?_⟩
  gi_at_call 23
  refine (callsIn_wide.2 (C2.out)).mono ?_
  rintro e w2 ⟨rfl, a2, q2⟩
  have b2 := HB1.out.1 |> q2.2.1 _ _ _ (by decide) (by decide)
  have d2 := HB1.out.2 |> q2.2.1 _ _ _ (by decide) (by decide)
  have K2 := Lib.hid (K1.out.trans q2)
  have HB2 := Lib.hid (And.intro b2 d2)
  have x2 := b2.cell 0
  have y21 := d2.cell 1
  have y22 := d2.cell 2
  have y24 := d2.cell 4
  have l20 := b2.lt
  have l21 := d2.lt
  simp at x2 y21 y22 y24
  have C3 := Lib.hid (a2.step (fun g h hg => count_any p g _ (n : Int) _ h (by omega) (by omega) (by have := Htl.out; unfold wordsT at this; rw [List.length_append, List.length_append, List.length_singleton]; omega)))
  clear a2 q2 b2 d2 C2 x1 y11 y12 y14 l10 l11
  gi_wp2_with fail
  refine ⟨trivial, ?_⟩
  gi_at_call 23
  refine (callsIn_wide.2 (C3.out)).mono ?_
  rintro e w3 ⟨rfl, a3, q3⟩
  have b3 := HB2.out.1 |> q3.2.1 _ _ _ (by decide) (by decide)
  have d3 := HB2.out.2 |> q3.2.1 _ _ _ (by decide) (by decide)
  have K3 := Lib.hid (K2.out.trans q3)
  have HB3 := Lib.hid (And.intro b3 d3)
  have x3 := b3.cell 0
  have y31 := d3.cell 1
  have y32 := d3.cell 2
  have y34 := d3.cell 4
  have l30 := b3.lt
  have l31 := d3.lt
  simp at x3 y31 y32 y34
  have y30 := d3.cell 0
  have y33 := d3.cell 3
  simp at y30 y33
  have A3 := Lib.hid a3
  clear a3 q3 b3 d3 C3 x2 y21 y22 y24 l20 l21
  gi_wp2_with fail
  refine ⟨trivial, ?_⟩
  gi_at_call 47
  refine (pairs_in Fence.wide _ trivial rfl _ _ _ _ _ _ _ _ _ _).mono ?_
  rintro e w' ⟨rfl, rfl⟩
  gi_wp2_with fail
  obtain ⟨W0, hW0⟩ : ∃ W0, W0 = w3.alloc (.cells #[.string nm, .int .i64 a, .slice A n sc, .slice U m uc, .bool res] 59) := ⟨_, rfl⟩
  have hF0 : Fr No w3 W0 := by rw [hW0]; exact (Fr.refl _ _).alloc _
  have bP : Bk W0 w3.heap.size 59 #[.string nm, .int .i64 a, .slice A n sc, .slice U m uc, .bool res] := by rw [hW0]; exact Bk.made w3 _ _
  have hsz : W0.heap.size = w3.heap.size + 1 := by rw [hW0]; simp
  have hp3 : p ≤ w3.heap.size := Nat.le_of_lt A3.out.lt
  have hw3 : w.heap.size ≤ w3.heap.size := K3.out.2.2.size
  have hKW0 : KW p w W0 := K3.out.trans (KW.quiet hp3 hF0)
  have hA0 := A3.out.quiet hF0
  have hB1 := HB3.out.1.fr hF0 (fun e => e)
  have hB2 := HB3.out.2.fr hF0 (fun e => e)
  obtain ⟨ys, hys⟩ : ∃ ys, Hid (ys = xs ++ ((byts nm).take 64).length :: packed ((byts nm).take 64) ++ [a.toNat] ++ [((n : Nat) : Int).toNat]) := ⟨_, Lib.hid rfl⟩
  rw [← hys.out] at hA0
  have Hyl : Hid (ys.length ≤ xs.length + 20) := Lib.hid (by
    rw [hys.out]
    have := Htl.out
    unfold wordsT at this
    simp only [List.length_append, List.length_singleton]
    omega)
  rw [← hW0]
  clear hW0 y31 y32 y34 y30 y33 x3 l30 l31
  have hsq : SeqStopsK Fence.wide 2 Tryz.prog 76 #[.pointer (some ⟨w3.heap.size, 0, none⟩)] (encZ (ss := ss) (us := us)) (KpC p) (fun zs => zs.map (·.1) = ss.zip us) (fun pre => pre.map (·.1) <+: ss.zip us) (ss.zip us).length W0 := fun lp J Jx W hW hJ _ hY h0 =>
    pairs1_in 2 lp p w3.heap.size nm a A U n m sc uc res ss us W (by omega) (Hs.out.below (hKW0.1.trans (hW.mono (by omega)))) (Hu.out.below (hKW0.1.trans (hW.mono (by omega)))) Hln.out Hlm.out (Nat.le_trans (by omega) hW.size) ((hW.block _ bP.lt).trans bP) (by omega) (by omega) J Jx hJ hY h0
  refine wpIn_rangeFunc_ownH rfl h3 (gf := 76) (lb := #[.pointer (some ⟨w3.heap.size, 0, none⟩)]) rfl trivial (enters_of Tryz.func76 (by kernel_rfl) rfl)
    hsq KpC.trans (KpC.putObj (by omega)) (Below.refl _ _) (fun _ => rfl)
    (PuI p ys w w.heap.size #[.string nm, .int .i64 a, .slice A n sc, .slice U m uc, .bool res])
    (fun _ _ _ => False)
    (PuI.own p ys w w.heap.size #[.string nm, .int .i64 a, .slice A n sc, .slice U m uc, .bool res] ss us _ (Nat.le_of_lt Hlp.out) (by omega))
    (fun _ _ _ _ _ hs _ _ => hs)
    ⟨by simpa using hA0, hB1, hB2, hKW0, by simp⟩
    (fun x a' W => ∃ Bx By, w.heap.size + 1 < Bx ∧ Bx < By ∧ Bk W Bx 56 #[.slice x.1.1.cA x.1.1.code.length x.1.1.cc, .slice x.1.1.fA x.1.1.foot.length x.1.1.fc] ∧ Bk W By 56 #[.slice x.1.2.cA x.1.2.code.length x.1.2.cc, .slice x.1.2.fA x.1.2.foot.length x.1.2.fc] ∧ a' = { tmps := #[.pointer (some ⟨p, 0, none⟩), .agg #[.string nm, .int .i64 a, .slice A n sc, .slice U m uc, .bool res], .pointer (some ⟨w.heap.size, 0, none⟩), .pointer (some ⟨w.heap.size + 1, 0, none⟩), .pointer (some ⟨Bx, 0, none⟩), .pointer (some ⟨By, 0, none⟩), .pointer (some ⟨p, 0, none⟩), .bool false, .pointer (some ⟨p, 0, none⟩), .pointer (some ⟨w.heap.size + 1, 0, none⟩), .string nm, .tuple #[], .pointer (some ⟨p, 0, none⟩), .pointer (some ⟨w.heap.size + 1, 1, none⟩), .int .i64 a, .tuple #[], .pointer (some ⟨p, 0, none⟩), .pointer (some ⟨w.heap.size + 1, 2, none⟩), .slice A n sc, .int .i64 n, .tuple #[], .agg #[.string nm, .int .i64 a, .slice A n sc, .slice U m uc, .bool res], .func (.func 76) #[] #[.pointer (some ⟨w3.heap.size, 0, none⟩)], x.1.1.agg, x.1.2.agg, undef, undef, undef, undef, undef, undef, undef, undef, undef], defers := [] })
    (fun x a' _ X Y row hs hg hr => by
      obtain ⟨Bx, By, a1, a2, a3, a4, a5⟩ := hs
      exact ⟨Bx, By, a1, a2, bk_ownP _ Bx _ _ () X Y row a3 hg hr, bk_ownP _ By _ _ () X Y row a4 hg hr, a5⟩)
    ?assign ?body ?done ?stop
  case assign =>
    rintro lp pre ⟨⟨x, y⟩, hq⟩ W K ⟨hwa, hwb, hcb, hkw, hll⟩ hK
    have hlt := hcb.lt
    have k1 : Fr No W ((W.alloc (.cells #[.slice x.cA x.code.length x.cc, .slice x.fA x.foot.length x.fc] 56)).alloc (.cells #[.slice y.cA y.code.length y.cc, .slice y.fA y.foot.length y.fc] 56)) := ((Fr.refl No W).alloc _).alloc _
    have hx0 : Bk ((W.alloc (.cells #[.slice x.cA x.code.length x.cc, .slice x.fA x.foot.length x.fc] 56)).alloc (.cells #[.slice y.cA y.code.length y.cc, .slice y.fA y.foot.length y.fc] 56)) W.heap.size 56 #[.slice x.cA x.code.length x.cc, .slice x.fA x.foot.length x.fc] := (Bk.made W _ _).fr ((Fr.refl No _).alloc _) (fun e => e)
    have hy0 : Bk ((W.alloc (.cells #[.slice x.cA x.code.length x.cc, .slice x.fA x.foot.length x.fc] 56)).alloc (.cells #[.slice y.cA y.code.length y.cc, .slice y.fA y.foot.length y.fc] 56)) (W.heap.size + 1) 56 #[.slice y.cA y.code.length y.cc, .slice y.fA y.foot.length y.fc] := by
      have := Bk.made (W.alloc (.cells #[.slice x.cA x.code.length x.cc, .slice x.fA x.foot.length x.fc] 56)) 56 #[.slice y.cA y.code.length y.cc, .slice y.fA y.foot.length y.fc]
      rwa [World.size_alloc] at this
    have hpW := Nat.le_of_lt hwa.lt
    unfold encZ Stp.agg
    dsimp only
    gi_wp2
    exact hK _ _ (((KeepsOthers.alloc _ _).trans (KeepsOthers.alloc _ _)).from _) ((KpC.refl _ W).fr0 k1 hpW) ⟨hwa.quiet k1, hwb.fr k1 (fun e => e), hcb.fr k1 (fun e => e), hkw.trans (KW.quiet hpW k1), hll⟩ ⟨W.heap.size, W.heap.size + 1, by omega, by omega, hx0, hy0, rfl⟩
  case body =>
    rintro lp pre ⟨⟨x, y⟩, hq⟩ a' W hl hr ⟨hwa, hwb, hcb, hkw, hll⟩ ⟨Bx, By, a1, a2, hbx, hby, rfl⟩ hlt
    have hxs := H1.out x (List.of_mem_zip hq).1
    have hyu := H2.out y (List.of_mem_zip hq).2
    have hpW := Nat.le_of_lt hwa.lt
    have hzl : (ss.zip us).length ≤ 4 := by rw [List.length_zip, Hln.out, Hlm.out]; omega
    have f1 : Fr No W (W.alloc (.cells #[.slice x.cA x.code.length x.cc, .slice x.fA x.foot.length x.fc, .slice y.cA y.code.length y.cc, .slice y.fA y.foot.length y.fc] 56)) := (Fr.refl _ _).alloc _
    have hbK := Bk.made W 56 #[.slice x.cA x.code.length x.cc, .slice x.fA x.foot.length x.fc, .slice y.cA y.code.length y.cc, .slice y.fA y.foot.length y.fc]
    have D1 := Lib.hid (putSteps_any p (ys ++ (pre.map (·.1)).flatMap wPr) [x, y] (some ⟨W.heap.size, 0, none⟩) 2 2 _ (hwa.quiet f1) (fun V hV => sl_bk (hV.2.1 _ _ _ (by decide) (by decide) hbK) rfl) rfl (by omega) (fun s hs => by
      have hb2 := (hkw.trans (KW.quiet hpW f1)).1
      simp only [List.mem_cons, List.not_mem_nil, or_false] at hs
      rcases hs with rfl | rfl
      · exact ⟨⟨hxs.1.code.below hb2, hxs.1.foot.below hb2⟩, hxs.2⟩
      · exact ⟨⟨hyu.1.code.below hb2, hyu.1.foot.below hb2⟩, hyu.2⟩) (by rw [List.length_append]; have := Hyl.out; omega))
    have HI : Hid (∀ V, WA p (ys ++ (pre.map (·.1)).flatMap wPr ++ [x, y].flatMap wSt) V → KW p (W.alloc (.cells #[.slice x.cA x.code.length x.cc, .slice x.fA x.foot.length x.fc, .slice y.cA y.code.length y.cc, .slice y.fA y.foot.length y.fc] 56)) V → KeepsFrom W0.heap.size W V ∧ KpC p W V ∧ PuI p ys w w.heap.size #[.string nm, .int .i64 a, .slice A n sc, .slice U m uc, .bool res] (pre ++ [⟨(x, y), hq⟩]) V) := Lib.hid (fun V hV hkV => by
      have hk1 : KW p W V := (KW.quiet hpW f1).trans hkV
      refine ⟨hk1.2.2.from _, hk1.pc, ?_, hk1.2.1 _ _ _ (by decide) (by decide) hwb, hk1.2.1 _ _ _ (by decide) (by decide) hcb, hkw.trans hk1, ?_⟩
      · have e1 : ys ++ ((pre ++ [(⟨(x, y), hq⟩ : ZP ss us)]).map (·.1)).flatMap wPr = ys ++ (pre.map (·.1)).flatMap wPr ++ [x, y].flatMap wSt := by simp [wPr]
        rw [e1]
        exact hV
      · have h1 := wSt_len hxs.2
        have h2 := wSt_len hyu.2
        simp only [List.map_append, List.flatMap_append, List.length_append, List.map_cons, List.map_nil, List.flatMap_cons, List.flatMap_nil, wPr, List.length_nil, List.length_singleton]
        omega)
    have x0 : W.cell? ⟨w.heap.size, 0, none⟩ = some (.pointer (some ⟨p, 0, none⟩)) := hwb.cell 0
    have y0 : W.cell? ⟨Bx, 0, none⟩ = some (.slice x.cA x.code.length x.cc) := hbx.cell 0
    have y1 : W.cell? ⟨Bx, 1, none⟩ = some (.slice x.fA x.foot.length x.fc) := hbx.cell 1
    have z0 : W.cell? ⟨By, 0, none⟩ = some (.slice y.cA y.code.length y.cc) := hby.cell 0
    have z1 : W.cell? ⟨By, 1, none⟩ = some (.slice y.fA y.foot.length y.fc) := hby.cell 1
    unfold Stp.agg
    dsimp only
    clear hwa hwb hcb hkw hll hbx hby f1 hbK hl hr hxs hyu
    gi_wp2_with fail
    refine ⟨trivial, ?_⟩
    gi_at_call 48
    refine (callsIn_wide.2 D1.out).mono ?_
    rintro e w4 ⟨rfl, a4, k4⟩
    have HF := Lib.hid (HI.out w4 a4 k4)
    clear x0 y0 y1 z0 z1 D1 HI a4 k4
    gi_wp2
    exact HF.out
  case done =>
    rintro D zs W hD hzs ⟨hwa, hwb, hcb, hkw, hll⟩ hK
    have hlz : zs.length ≤ 4 := by
      have := congrArg List.length hzs
      rw [List.length_map, List.length_zip, Hln.out, Hlm.out] at this
      omega
    have C9 := Lib.hid (hwa.step (fun g h hg => flag_any p g _ res _ h (by rw [List.length_append]; have := Hyl.out; omega)))
    have x0 : W.cell? ⟨w.heap.size, 0, none⟩ = some (.pointer (some ⟨p, 0, none⟩)) := hwb.cell 0
    have y4 : W.cell? ⟨w.heap.size + 1, 4, none⟩ = some (.bool res) := hcb.cell 4
    have HK := Lib.hid hkw
    have HD := Lib.hid hK
    have Hzs := Lib.hid hzs
    clear hwa hwb hcb hkw hll hK hzs
    gi_wp2_with fail
    refine ⟨trivial, ?_⟩
    gi_at_call 49
    refine (callsIn_wide.2 C9.out).mono ?_
    rintro e w9 ⟨rfl, a9, k9⟩
    have hD9 := k9.2.2.same D _ HD.out rfl
    have hA9 : WA p (xs ++ wordsC (Cls.p ⟨nm, a, A, ss, sc, U, us, uc, res⟩)) w9 := by
      have e1 : xs ++ wordsC (Cls.p ⟨nm, a, A, ss, sc, U, us, uc, res⟩) = ys ++ (zs.map (·.1)).flatMap wPr ++ [res.toNat] := by
        rw [Hwc.out, hys.out, Hzs.out]
        cases res <;> simp [wordsT, flagW]
      rw [e1]
      exact a9
    have k99 := HK.out.trans k9
    clear x0 y4 C9 a9 k9 HD HK
    gi_wp2
    refine ⟨by simp, .inl ⟨_, _, rfl, run_takeDeferred hD9, ?_⟩⟩
    exact ⟨_, results_none rfl _ _ _, rfl, hA9.putD hD9 rfl, k99.putD (by omega) (Nat.le_of_lt Hlp.out) hD9 rfl⟩
  case stop =>
    rintro D cd pre W _ _ h _
    exact h.elim
end Go.Proofs.YtbemfomiiikpoaaGreat
