/- The library at arcs: slices.Compact, slices.SortFunc, cmp.Or. -/
import Derived.Laws.EntriesVeiled
import Derived.Test.YtmeimhpllemjfaaGreatMaps
import Derived.Test.YtmeimhpllemjfaaGreatRsg16
import Derived.Test.YtmeimhpllemjfaaGreatIdx9
import Derived.Test.YtmeimhpllemjfaaGreatHand
import Derived.Test.YtmeimhpllemjfaaGreatShl4
import Derived.Shelf.SlSortCmp.NoneTotal
import Derived.Maps.Keyed
import Derived.DeepKeys4
import Derived.Test.YtmeimhpllemjfaaGreatLn14
import Derived.Test.YtmeimhpllemjfaaGreatOf15
import Derived.Test.YtmeimhpllemjfaaGreatCnf14
import Derived.Deep.CutRange
import Derived.WalkMore
import Derived.Test.YtmeimhpllemjfaaGreatDoc16
import Derived.Deep.RegionLawGrows
namespace Go.Proofs.YtmeimhpllemjfaaGreat
open Go.RowKit

theorem eqTr16 (s t : Tr) (w : World) : (Op.equalIn 10000 121 (.agg #[.int .i64 (s.1 : Int), .int .i64 (s.2.1 : Int), .int .i64 (s.2.2 : Int)]) (.agg #[.int .i64 (t.1 : Int), .int .i64 (t.2.1 : Int), .int .i64 (t.2.2 : Int)])).run Tryz.prog w = .ok (decide (s = t)) w := by
 obtain ⟨a, b, m⟩ := s
 obtain ⟨a', b', m'⟩ := t
 have u3 := Tryz.underlying3
 have i3 : ∀ w, (isAgg 3).run Tryz.prog w = .ok false w := fun w => by simp [isAgg, run_underlying Tryz.underlying3]
 have hs : Tryz.prog.underlying 121 = some (.struct (Tryz.prog.fieldsOf 121)) := by kernel_rfl
 rw [run_equalIn_agg w 9999 121 _ _ hs (by kernel_rfl)]
 simp only [Program.fieldsOf, Tryz.underlying121]
 go_simp
 have i1 : ((a : Int) = (a' : Int)) ↔ a = a' := by omega
 have i2 : ((b : Int) = (b' : Int)) ↔ b = b' := by omega
 have i3 : ((m : Int) = (m' : Int)) ↔ m = m' := by omega
 by_cases h1 : a = a' <;> by_cases h2 : b = b' <;> by_cases h3 : m = m' <;> simp [h1, h2, h3, i1, i2, i3]
theorem arcsL_len16 (l : List Tr) : (l.flatMap arcC).length = l.length * 3 := flat_len arcC 3 arcC_len l
theorem flat_set16 (l : List Tr) (k : Nat) (t : Tr) (j : Nat) (u : Value) (h : ((l.set k t).flatMap arcC)[j]? = some u) : (k * 3 ≤ j ∧ (arcC t)[j - k * 3]? = some u) ∨ ((j < k * 3 ∨ k * 3 + (arcC t).length ≤ j) ∧ (l.flatMap arcC)[j]? = some u) := by
 have hl : (arcC t).length = 3 := rfl
 have hj := (List.getElem?_eq_some_iff.1 h).1
 rw [arcsL_len16, List.length_set] at hj
 have hq : j / 3 < l.length := by omega
 have e : j = j / 3 * 3 + j % 3 := by omega
 have h1 := flat_at arcC 3 arcC_len (l.set k t) (j / 3) (j % 3) (by rw [List.length_set]; exact hq) (by omega)
 have h2 := flat_at arcC 3 arcC_len l (j / 3) (j % 3) hq (by omega)
 rw [← e] at h1 h2
 rw [h1] at h
 rw [List.getElem_set] at h
 by_cases ek : k = j / 3
 ·rw [if_pos ek] at h
  refine .inl ⟨by omega, ?_⟩
  rw [← h]
  congr 1
  omega
 ·rw [if_neg ek] at h
  refine .inr ⟨by rw [hl]; omega, ?_⟩
  rw [h2]
  exact h
theorem flat_take16 (l : List Tr) (k : Nat) : (l.take k).flatMap arcC = (l.flatMap arcC).take (k * 3) := by
 induction l generalizing k with
 | nil => simp
 | cons x r ih =>
  cases k with
  | zero => simp
  | succ k =>
   have e : (k + 1) * 3 = (arcC x).length + k * 3 := by show (k + 1) * 3 = 3 + k * 3; omega
   rw [List.take_succ_cons, List.flatMap_cons, List.flatMap_cons, ih, e, List.take_length_add_append]
theorem Rg.setArc {w : World} {g c : Nat} {l : List Tr} (h : Rg w 121 3 g 0 c (l.flatMap arcC)) (hlc : l.length ≤ c) {k : Nat} (hk : k < l.length) (t : Tr) : Rg (w.setCells g (k * 3) (arcC t)) 121 3 g 0 c ((l.set k t).flatMap arcC) := by
 have := h.put (k * 3) (arcC t) ((l.set k t).flatMap arcC) (by have : (arcC t).length = 3 := rfl; omega) (by rw [arcsL_len16, List.length_set]; omega) (fun j u hu => flat_set16 l k t j u hu)
 rwa [Nat.zero_add] at this
theorem Rg.arc {w : World} {g c : Nat} {l : List Tr} (h : Rg w 121 3 g 0 c (l.flatMap arcC)) {k : Nat} (hk : k < l.length) : w.cell? ⟨g, k * 3, none⟩ = some (.int .i64 ((l[k].1 : Nat) : Int)) ∧ w.cell? ⟨g, k * 3 + 1, none⟩ = some (.int .i64 ((l[k].2.1 : Nat) : Int)) ∧ w.cell? ⟨g, k * 3 + 2, none⟩ = some (.int .i64 ((l[k].2.2 : Nat) : Int)) := by
 have h0 := h.cell (j := k * 3 + 0) (u := .int .i64 ((l[k].1 : Nat) : Int)) (by rw [flat_at arcC 3 arcC_len l k 0 hk (by omega)]; rfl)
 have h1 := h.cell (j := k * 3 + 1) (u := .int .i64 ((l[k].2.1 : Nat) : Int)) (by rw [flat_at arcC 3 arcC_len l k 1 hk (by omega)]; rfl)
 have h2 := h.cell (j := k * 3 + 2) (u := .int .i64 ((l[k].2.2 : Nat) : Int)) (by rw [flat_at arcC 3 arcC_len l k 2 hk (by omega)]; rfl)
 rw [Nat.zero_add] at h0 h1 h2
 exact ⟨h0, h1, h2⟩
theorem Rg.drewN {w : World} {t : TypeId} {k g o c : Nat} {xs : List Value} (h : Rg w t k g o c xs) (m : Nat) : Rg (w.drewN m) t k g o c xs := ⟨h.le, h.bk⟩
theorem run_clear_arcs {P : Program} (w : World) (t e ty : TypeId) (z : Value) (n : Nat) (hn : 0 < n) (ht : P.underlying t = some (.slice e)) (hv : ∀ w, (zeroValue e).run P w = .ok z w) (h1 : ∀ v ∈ (Builtin.zeroCells z.cells n).toList, v.oneCell' = true) (b o c : Nat)
  (hc : ∀ j, j < (Builtin.zeroCells z.cells n).toList.length → (w.cell? ⟨b, o + j, none⟩).isSome = true) (hf : ∀ j, j < (Builtin.zeroCells z.cells n).toList.length → w.frozen? ⟨b, o + j, none⟩ = false) :
  (Builtin.clear_ #[t] ty #[.slice (some ⟨b, o, none⟩) n c]).run P w = .ok (.tuple #[]) (w.setCells b o (Builtin.zeroCells z.cells n).toList) := by
 obtain ⟨n, rfl⟩ : ∃ m, n = m + 1 := ⟨n - 1, by omega⟩
 have hst := run_storeCells_cells (P := P) b o (Builtin.zeroCells z.cells (n + 1)).toList 0 w hc hf h1
 simp only [Nat.add_zero] at hst
 simp [Builtin.clear_, run_underlying ht, hv, hst]
theorem zeroArcs16 (n : Nat) : (Builtin.zeroCells (Value.agg #[.int .i64 0, .int .i64 0, .int .i64 0]).cells n).toList.length = n * 3 ∧ ∀ v ∈ (Builtin.zeroCells (Value.agg #[.int .i64 0, .int .i64 0, .int .i64 0]).cells n).toList, v.oneCell' = true := by
 refine ⟨by simp [Builtin.zeroCells, Value.cells], fun v hv => ?_⟩
 simp [Builtin.zeroCells, Value.cells] at hv
 obtain ⟨i, _, rfl⟩ := hv
 rcases (show i % 3 = 0 ∨ i % 3 = 1 ∨ i % 3 = 2 by omega) with e | e | e <;> simp [e, Value.oneCell']

set_option maxRecDepth 100000 in
set_option maxHeartbeats 8000000 in
theorem compact16 (g n c : Nat) (l : List Tr) (w : World) (hR : Rg w 121 3 g 0 c (l.flatMap arcC)) (hn : l.length = n) (h2 : 2 ≤ n) (hnm : n ≤ 1048576) (hnc : n ≤ c) (hcm : c ≤ maxLen) :
  Calls Tryz.prog 123 #[.slice (some ⟨g, 0, none⟩) n c] w fun e w' => e = .returned (.slice (some ⟨g, 0, none⟩) (cpT l n).length c) ∧ Sl w' w'.heap.size (some ⟨g, 0, none⟩) ((cpT l n).flatMap arcC) ∧ Fr (fun k => k = g) w w' := by
 have Hn := Lib.hid hn
 have hc63 : c ≤ 9223372036854775807 := by unfold maxLen at hcm; omega
 have hn2 : ¬ ((n : Int) < 2) := by omega
 have Hall := Lib.hid (fun (k : Nat) (hk : k ≤ n) (h : ∀ j, 1 ≤ j → j < k → trAt l j ≠ trAt l (j - 1)) => cpT_all (l := l) k (by omega) h)
 clear hn hcm
 go_enter Tryz.func123, Tryz.ntmps123
 go_wp2
 go_loopw [3] (fun kv wr => ∃ k : Nat, 1 ≤ k ∧ k ≤ n ∧ kv = .int .i64 (k : Int) ∧ Hid (∀ j, 1 ≤ j → j < k → trAt l j ≠ trAt l (j - 1)) ∧ Hid (Rg wr 121 3 g 0 c (l.flatMap arcC)) ∧ Hid (Fr (fun k => k = g) w wr)) (fun kv _ => n - (intOf kv).toNat)
 case atStart => exact ⟨1, by omega, by omega, rfl, Lib.hid (fun j h1 h2 => by omega), Lib.hid hR, Lib.hid (Fr.refl _ _)⟩
 case round =>
  clear hR
  obtain ⟨k, hk1, hk, rfl, hno, hR, hfr⟩ := hrel
  by_cases hlt : k < n
  ·have hkl : k < l.length := by rw [Hn.out]; exact hlt
   have hkl1 : k - 1 < l.length := by omega
   have hkn : ((k : Nat) : Int) < (n : Int) := by omega
   have hk1n : (0 : Int) ≤ (k : Int) - 1 ∧ (k : Int) - 1 < (n : Int) := by omega
   have hkt : ((k : Int) - 1).toNat = k - 1 := by omega
   obtain ⟨a0, a1, a2⟩ := hR.out.arc hkl
   obtain ⟨b0, b1, b2⟩ := hR.out.arc hkl1
   have q := fun W => eqTr16 l[k] l[k - 1] W
   have e1 : trAt l k = l[k] := trAt_get hkl
   have e2 : trAt l (k - 1) = l[k - 1] := trAt_get hkl1
   by_cases heq : l[k] = l[k - 1]
   ·rw [decide_eq_true heq] at q
    have H1 : Hid (cpT l (k + 1) = l.take k) := Lib.hid (by rw [cpT_old (by omega) (by rw [e1, e2]; exact heq), Hall.out k hk hno.out])
    clear hno e1 e2 heq
    generalize l[k] = s at *
    generalize l[k - 1] = t at *
    have hck : ¬ c = k := by omega
    go_wp2_with fail
    go_quiet (fail)
    have HR := Lib.hid (hR.out.drewN nq)
    have HF := Lib.hid (hfr.out.drewN nq)
    clear hR hfr q a0 a1 a2 b0 b1 b2
    generalize wr.drewN nq = w0 at *
    go_wp2
    go_loopw [3, 5] (fun kv qv wv => ∃ (kk q : Nat) (ys : List Tr), 1 ≤ q ∧ q ≤ n - k ∧ kv = .int .i64 (kk : Int) ∧ qv = .int .i64 (q : Int) ∧ kk < k + q ∧ Hid (kk = (cpT l (k + q)).length) ∧ Hid (ys.length = n ∧ ys.take kk = cpT l (k + q) ∧ ∀ j, k + q - 1 ≤ j → trAt ys j = trAt l j) ∧ Hid (Rg wv 121 3 g 0 c (ys.flatMap arcC)) ∧ Hid (Fr (fun k => k = g) w wv)) (fun _ qv _ => n - (intOf qv).toNat)
    case atStart => exact ⟨k, 1, l, by omega, by omega, rfl, rfl, by omega, Lib.hid (by rw [H1.out, List.length_take, Hn.out]; omega), Lib.hid ⟨Hn.out, H1.out.symm, fun _ _ => rfl⟩, HR, HF⟩
    case round =>
     clear HR HF H1
     obtain ⟨kk, p, ys, hp1, hp, rfl, rfl, hkk, hK, hY, hR, hfr⟩ := hrel
     by_cases hlt2 : p < n - k
     ·have hyl : k + p < ys.length := by rw [hY.out.1]; omega
      have hyl1 : k + (p - 1) < ys.length := by omega
      have hll : k + p < l.length := by rw [Hn.out]; omega
      have hll1 : k + p - 1 < l.length := by omega
      have hpn : ((p : Nat) : Int) < ((n - k : Nat) : Int) := by omega
      have hp1n : (0 : Int) ≤ (p : Int) - 1 ∧ (p : Int) - 1 < ((n - k : Nat) : Int) := by omega
      have hpt : ((p : Int) - 1).toNat = p - 1 := by omega
      obtain ⟨a0, a1, a2⟩ := hR.out.arc hyl
      obtain ⟨b0, b1, b2⟩ := hR.out.arc hyl1
      rw [show (k + p) * 3 = k * 3 + p * 3 by omega] at a0 a1 a2
      rw [show (k + (p - 1)) * 3 = k * 3 + (p - 1) * 3 by omega] at b0 b1 b2
      have q := fun W => eqTr16 ys[k + p] ys[k + (p - 1)] W
      have e1 : trAt l (k + p) = ys[k + p] := by rw [← hY.out.2.2 (k + p) (by omega), trAt_get hyl]
      have e2 : trAt l (k + p - 1) = ys[k + (p - 1)] := by rw [← hY.out.2.2 (k + p - 1) (by omega), show k + p - 1 = k + (p - 1) by omega, trAt_get hyl1]
      by_cases heq : ys[k + p] = ys[k + (p - 1)]
      ·rw [decide_eq_true heq] at q
       have H1 : Hid (cpT l (k + (p + 1)) = cpT l (k + p)) := Lib.hid (cpT_old (k := k + p) (by omega) (by rw [e1, e2]; exact heq))
       have HK2 : Hid (kk = (cpT l (k + (p + 1))).length) := Lib.hid (by rw [H1.out]; exact hK.out)
       have HY2 : Hid (ys.length = n ∧ ys.take kk = cpT l (k + (p + 1)) ∧ ∀ j, k + (p + 1) - 1 ≤ j → trAt ys j = trAt l j) := Lib.hid ⟨hY.out.1, by rw [H1.out]; exact hY.out.2.1, fun j hj => hY.out.2.2 j (by omega)⟩
       clear e1 e2 heq H1 hK hY
       generalize ys[k + p] = s at *
       generalize ys[k + (p - 1)] = t at *
       go_wp2_with fail
       go_quiet (fail)
       go_wp2
       go_roundw
       case rel => exact ⟨kk, p + 1, ys, by omega, by omega, rfl, by go_num, by omega, HK2, HY2, Lib.hid (hR.out.drewN nq), Lib.hid (hfr.out.drewN nq)⟩
       case measure => simp [intOf]; omega
      ·rw [decide_eq_false heq] at q
       have H1 : Hid (cpT l (k + (p + 1)) = cpT l (k + p) ++ [ys[k + p]]) := Lib.hid (by
        have := cpT_new (l := l) (k := k + p) (.inr (by rw [e1, e2]; exact heq))
        rw [e1] at this
        exact this)
       have HK2 : Hid (kk + 1 = (cpT l (k + (p + 1))).length) := Lib.hid (by rw [H1.out, List.length_append, ← hK.out]; rfl)
       have hkl3 : kk < ys.length := by omega
       have hlc : ys.length ≤ c := by rw [hY.out.1]; exact hnc
       have HY2 : Hid ((ys.set kk ys[k + p]).length = n ∧ (ys.set kk ys[k + p]).take (kk + 1) = cpT l (k + (p + 1)) ∧ ∀ j, k + (p + 1) - 1 ≤ j → trAt (ys.set kk ys[k + p]) j = trAt l j) := Lib.hid ⟨by rw [List.length_set]; exact hY.out.1, by
        rw [H1.out, ← hY.out.2.1, List.take_succ_eq_append_getElem (by rw [List.length_set]; exact hkl3), List.getElem_set_self, List.take_set_of_le (Nat.le_refl _)], fun j hj => by
        rw [← hY.out.2.2 j (by omega)]
        unfold trAt
        rw [List.getD_eq_getElem?_getD, List.getD_eq_getElem?_getD, List.getElem?_set_ne (by omega)]⟩
       have HR2 := Lib.hid (fun m => (hR.out.drewN m).setArc hlc hkl3 ys[k + p])
       have HF2 := Lib.hid (fun m => (hfr.out.drewN m).setCells (g := g) (arcC ys[k + p]) (kk * 3) (.inl rfl))
       have HT := Lib.hid (fun j (hj : j < 3) => show (wr.cell? ⟨g, kk * 3 + j, none⟩).isSome = true by
        have := hR.out.there (j := kk * 3 + j) (by omega)
        rwa [Nat.zero_add] at this)
       have HZ := Lib.hid (fun j => hR.out.froz j)
       have hkn2 : ((kk : Nat) : Int) < (n : Int) := by omega
       clear e1 e2 heq H1 hK hY hR hfr
       generalize ys.set kk ys[k + p] = zs at *
       generalize ys[k + p] = s at *
       generalize ys[k + (p - 1)] = t at *
       go_wp2_with fail
       go_quiet (fail)
       have c0 : ((wr.drewN nq).cell? ⟨g, k * 3 + p * 3, none⟩) = _ := a0
       have c1 : ((wr.drewN nq).cell? ⟨g, k * 3 + p * 3 + 1, none⟩) = _ := a1
       have c2 : ((wr.drewN nq).cell? ⟨g, k * 3 + p * 3 + 2, none⟩) = _ := a2
       have HR3 := Lib.hid (HR2.out nq)
       have HF3 := Lib.hid (HF2.out nq)
       obtain ⟨d0, hd0⟩ := Option.isSome_iff_exists.1 (HT.out 0 (by omega))
       obtain ⟨d1, hd1⟩ := Option.isSome_iff_exists.1 (HT.out 1 (by omega))
       obtain ⟨d2, hd2⟩ := Option.isSome_iff_exists.1 (HT.out 2 (by omega))
       have f0 : (wr.drewN nq).cell? ⟨g, kk * 3, none⟩ = some d0 := hd0
       have f1 : (wr.drewN nq).cell? ⟨g, kk * 3 + 1, none⟩ = some d1 := hd1
       have f2 : (wr.drewN nq).cell? ⟨g, kk * 3 + 2, none⟩ = some d2 := hd2
       have z0 : (wr.drewN nq).frozen? ⟨g, kk * 3, none⟩ = false := HZ.out _
       have z1 : (wr.drewN nq).frozen? ⟨g, kk * 3 + 1, none⟩ = false := HZ.out _
       have z2 : (wr.drewN nq).frozen? ⟨g, kk * 3 + 2, none⟩ = false := HZ.out _
       clear a0 a1 a2 b0 b1 b2 q HR2 HF2 HT HZ hd0 hd1 hd2
       generalize wr.drewN nq = wd at *
       obtain ⟨V, hV⟩ : ∃ V, V = wd.setCells g (kk * 3) (arcC s) := ⟨_, rfl⟩
       rw [← hV] at HR3 HF3
       have hwe : ((wd.setCell ⟨g, kk * 3, none⟩ (.int .i64 (s.1 : Int))).setCell ⟨g, kk * 3 + 1, none⟩ (.int .i64 (s.2.1 : Int))).setCell ⟨g, kk * 3 + 2, none⟩ (.int .i64 (s.2.2 : Int)) = V := hV.symm
       clear hV
       go_wp2
       go_roundw
       case rel => exact ⟨kk + 1, p + 1, zs, by omega, by omega, by go_num, by go_num, by omega, HK2, HY2, HR3, HF3⟩
       case measure => simp [intOf]; omega
     ·obtain rfl : p = n - k := by omega
      have hkn0 : k + (n - k) = n := by omega
      rw [hkn0] at hK hY
      have HL : Hid (kk = (cpT l n).length) := hK
      have hkl3 : kk < n := by omega
      obtain ⟨hz1, hz2⟩ := zeroArcs16 (n - kk)
      obtain ⟨zs, hzs⟩ : ∃ zs, zs = (Builtin.zeroCells (Value.agg #[.int .i64 0, .int .i64 0, .int .i64 0]).cells (n - kk)).toList := ⟨_, rfl⟩
      have hcl := fun ty => run_clear_arcs (P := Tryz.prog) wr 118 121 ty (.agg #[.int .i64 0, .int .i64 0, .int .i64 0]) (n - kk) (by omega) Tryz.underlying118 (fun w => Tryz.zeroValue121 w) hz2 g (kk * 3) (c - kk) (fun j hj => by
       rw [hz1] at hj
       have := hR.out.there (j := kk * 3 + j) (by omega)
       rwa [Nat.zero_add] at this) (fun j _ => hR.out.froz _)
      rw [← hzs] at hz1 hz2 hcl
      obtain ⟨V, hV⟩ : ∃ V, V = wr.setCells g (kk * 3) zs := ⟨_, rfl⟩
      have HR3 : Hid (Rg V 121 3 g 0 c ((cpT l n).flatMap arcC)) := Lib.hid (by
       rw [hV, show kk * 3 = 0 + kk * 3 by omega]
       refine hR.out.put (kk * 3) zs _ (by rw [hz1]; omega) (by rw [arcsL_len16, ← HL.out]; omega) (fun j u hu => ?_)
       have hj := (List.getElem?_eq_some_iff.1 hu).1
       rw [arcsL_len16, ← HL.out] at hj
       refine .inr ⟨.inl hj, ?_⟩
       rw [← hY.out.2.1, flat_take16, List.getElem?_take, if_pos hj] at hu
       exact hu)
      have HF3 : Hid (Fr (fun k => k = g) w V) := Lib.hid (by rw [hV]; exact hfr.out.setCells zs (kk * 3) (.inl rfl))
      rw [← hV] at hcl
      have hck2 : ¬ c = kk := by omega
      have hkc : kk ≤ c := by omega
      clear hK hY hR hfr hV hz1 hz2 hzs
      go_wp2
      go_ret
      exact ⟨by rw [← HL.out]; rfl, HR3.out.sl, HF3.out⟩
   ·rw [decide_eq_false heq] at q
    have HNO : Hid (∀ j, 1 ≤ j → j < k + 1 → trAt l j ≠ trAt l (j - 1)) := Lib.hid (fun j h1 h2 => by
     by_cases e : j = k
     ·rw [e, e1, e2]; exact heq
     ·exact hno.out j h1 (by omega))
    clear hno e1 e2 heq
    generalize l[k] = s at *
    generalize l[k - 1] = t at *
    go_wp2_with fail
    go_quiet (fail)
    go_wp2
    go_roundw
    case rel => exact ⟨k + 1, by omega, by omega, by go_num, HNO, Lib.hid (hR.out.drewN nq), Lib.hid (hfr.out.drewN nq)⟩
    case measure => simp [intOf]; omega
  ·obtain rfl : k = n := by omega
   have H1 : Hid (cpT l k = l) := Lib.hid (by rw [Hall.out k (Nat.le_refl _) hno.out, ← Hn.out, List.take_length])
   clear hno
   go_wp2
   go_ret
   exact ⟨by rw [H1.out, Hn.out]; rfl, by rw [H1.out]; exact hR.out.sl, hfr.out⟩
theorem compact0_16 (A : Option Addr) (n c : Nat) (w : World) (h2 : n < 2) : Calls Tryz.prog 123 #[.slice A n c] w fun e w' => e = .returned (.slice A n c) ∧ Fr No w w' := by
 have hn2 : ((n : Int) < 2) := by omega
 go_enter Tryz.func123, Tryz.ntmps123
 go_wp2
 go_ret
 exact ⟨rfl, Fr.refl _ _⟩
end Go.Proofs.YtmeimhpllemjfaaGreat
/- cmp.Or of three, and the order of arcs. -/
namespace Go.Proofs.YtmeimhpllemjfaaGreat
open Go.RowKit Go.Shelf Go.Lib Go.Sort

def orI (a b d : Int) : Int := if a ≠ 0 then a else if b ≠ 0 then b else d
set_option maxRecDepth 100000 in
theorem or16 (g : Nat) (a b d : Int) (w : World) (hb : Bk w g 3 #[.int .i64 a, .int .i64 b, .int .i64 d]) : Calls Tryz.prog 121 #[.slice (some ⟨g, 0, none⟩) 3 3] w fun e w' => e = .returned (.int .i64 (orI a b d)) ∧ w' = w := by
 have x0 := hb.cell 0
 have x1 := hb.cell 1
 have x2 := hb.cell 2
 simp only [List.getElem?_toArray, List.getElem?_cons_zero, List.getElem?_cons_succ] at x0 x1 x2
 obtain ⟨r, hr⟩ : ∃ r, Hid (r = orI a b d) := ⟨_, Lib.hid rfl⟩
 rw [← hr.out]
 clear hb
 have h0 : Hid (a ≠ 0 → r = a) := Lib.hid (fun h => by rw [hr.out, orI, if_pos h])
 have h1 : Hid (a = 0 → b ≠ 0 → r = b) := Lib.hid (fun h h' => by rw [hr.out, orI, if_neg (by simp [h]), if_pos h'])
 have h2 : Hid (a = 0 → b = 0 → r = d) := Lib.hid (fun h h' => by rw [hr.out, orI, if_neg (by simp [h]), if_neg (by simp [h'])])
 clear hr
 go_enter Tryz.func121, Tryz.ntmps121
 go_wp2
 go_loopw [8] (fun iv wr => ∃ j : Nat, j ≤ 3 ∧ iv = .int .i64 (j : Int) ∧ Hid ((1 ≤ j → a = 0) ∧ (2 ≤ j → b = 0) ∧ (3 ≤ j → d = 0)) ∧ wr = w) (fun iv _ => 3 - (intOf iv).toNat)
 case atStart => exact ⟨0, by omega, rfl, Lib.hid ⟨by omega, by omega, by omega⟩, rfl⟩
 case round =>
  obtain ⟨j, hj, rfl, hz, rfl⟩ := hrel
  rcases (show j = 0 ∨ j = 1 ∨ j = 2 ∨ j = 3 by omega) with rfl | rfl | rfl | rfl
  ·by_cases e : a = 0
   ·have HZ : Hid ((1 ≤ 0 + 1 → a = 0) ∧ (2 ≤ 0 + 1 → b = 0) ∧ (3 ≤ 0 + 1 → d = 0)) := Lib.hid ⟨fun _ => e, by omega, by omega⟩
    have q : (a == 0) = true := by simp [e]
    clear hz h0 h1 h2
    go_wp2
    go_roundw
    case rel => exact ⟨0 + 1, by omega, by go_num, HZ, by first | rfl | trivial⟩
    case measure => simp [intOf]
   ·have HR : Hid (r = a) := Lib.hid (h0.out e)
    clear hz h0 h1 h2
    go_wp2
    go_ret
    exact ⟨by rw [HR.out]; rfl, rfl⟩
  ·have ea : a = 0 := hz.out.1 (by omega)
   by_cases e : b = 0
   ·have HZ : Hid ((1 ≤ 1 + 1 → a = 0) ∧ (2 ≤ 1 + 1 → b = 0) ∧ (3 ≤ 1 + 1 → d = 0)) := Lib.hid ⟨fun _ => ea, fun _ => e, by omega⟩
    clear hz h0 h1 h2 ea
    go_wp2
    go_roundw
    case rel => exact ⟨1 + 1, by omega, by go_num, HZ, by first | rfl | trivial⟩
    case measure => simp [intOf]
   ·have HR : Hid (r = b) := Lib.hid (h1.out ea e)
    clear hz h0 h1 h2 ea
    go_wp2
    go_ret
    exact ⟨by rw [HR.out]; rfl, rfl⟩
  ·have ea : a = 0 := hz.out.1 (by omega)
   have eb : b = 0 := hz.out.2.1 (by omega)
   have HR : Hid (r = d) := Lib.hid (h2.out ea eb)
   by_cases e : d = 0
   ·have HZ : Hid ((1 ≤ 2 + 1 → a = 0) ∧ (2 ≤ 2 + 1 → b = 0) ∧ (3 ≤ 2 + 1 → d = 0)) := Lib.hid ⟨fun _ => ea, fun _ => eb, fun _ => e⟩
    clear hz h0 h1 h2 ea eb
    go_wp2
    go_roundw
    case rel => exact ⟨2 + 1, by omega, by go_num, HZ, by first | rfl | trivial⟩
    case measure => simp [intOf]
   ·clear hz h0 h1 h2 ea eb
    go_wp2
    go_ret
    exact ⟨by rw [HR.out]; rfl, rfl⟩
  ·have HR : Hid (r = 0) := Lib.hid (by rw [h2.out (hz.out.1 (by omega)) (hz.out.2.1 (by omega)), hz.out.2.2 (by omega)])
   clear hz h0 h1 h2
   go_wp2
   go_ret
   exact ⟨by rw [HR.out]; rfl, rfl⟩
end Go.Proofs.YtmeimhpllemjfaaGreat
/- The order of arcs, as the sort asks it. -/
namespace Go.Proofs.YtmeimhpllemjfaaGreat
open Go.RowKit Go.Shelf Go.Lib Go.Sort

def cmpT (x y : Tr) : Int := orI (Lib.compareInt (x.1 : Int) (y.1 : Int)) (Lib.compareInt (x.2.1 : Int) (y.2.1 : Int)) (Lib.compareInt (x.2.2 : Int) (y.2.2 : Int))
theorem cmpInt_neg (a b : Int) : Lib.compareInt a b < 0 ↔ a < b := by
 unfold Lib.compareInt
 by_cases h1 : a < b
 ·simp [h1]
 ·by_cases h2 : b < a <;> simp [h1, h2]
theorem cmpInt_zero (a b : Int) : Lib.compareInt a b = 0 ↔ a = b := by
 unfold Lib.compareInt
 by_cases h1 : a < b
 ·simp [h1]; omega
 ·by_cases h2 : b < a
  ·simp [h1, h2]; omega
  ·simp [h1, h2]; omega
theorem ltT16 (x y : Tr) : ltOf cmpT x y = true ↔ LtA x y := by
 have h1 := cmpInt_neg x.1 y.1
 have h2 := cmpInt_neg x.2.1 y.2.1
 have h3 := cmpInt_neg x.2.2 y.2.2
 have z1 := cmpInt_zero x.1 y.1
 have z2 := cmpInt_zero x.2.1 y.2.1
 unfold ltOf cmpT orI LtA
 rw [decide_eq_true_eq]
 by_cases e1 : Lib.compareInt (x.1 : Int) (y.1 : Int) = 0
 ·by_cases e2 : Lib.compareInt (x.2.1 : Int) (y.2.1 : Int) = 0
  ·rw [if_neg (by simp [e1]), if_neg (by simp [e2])]
   omega
  ·rw [if_neg (by simp [e1]), if_pos e2]
   omega
 ·rw [if_pos e1]
  omega
theorem swoT16 : SWO (ltOf cmpT) where
 irrefl x := by
  cases e : ltOf cmpT x x
  ·rfl
  ·exact absurd ((ltT16 x x).1 e) (LtA.irrefl x)
 trans x y z h1 h2 := (ltT16 x z).2 (((ltT16 x y).1 h1).trans ((ltT16 y z).1 h2))
 ntrans x y z h1 h2 := by
  cases e : ltOf cmpT x z
  ·rfl
  ·have h3 := (ltT16 x z).1 e
   have g1 : ¬ LtA x y := fun q => by rw [(ltT16 x y).2 q] at h1; cases h1
   have g2 : ¬ LtA y z := fun q => by rw [(ltT16 y z).2 q] at h2; cases h2
   unfold LtA at *
   omega
set_option maxRecDepth 100000 in
set_option maxHeartbeats 4000000 in
theorem closT16 (x y : Tr) (w : World) : Calls Tryz.prog 120 #[.agg #[.int .i64 ((x.1 : Nat) : Int), .int .i64 ((x.2.1 : Nat) : Int), .int .i64 ((x.2.2 : Nat) : Int)], .agg #[.int .i64 ((y.1 : Nat) : Int), .int .i64 ((y.2.1 : Nat) : Int), .int .i64 ((y.2.2 : Nat) : Int)]] w fun e w' => e = .returned (.int .i64 (cmpT x y)) ∧ ∃ q os', w' = grow (w.drewN q) os' := by
 have hcon := fun a b W' => AnyG.cmp_Compare_int cmpK a b W'
 change ∀ a b W', Calls Tryz.prog 122 _ _ _ at hcon
 obtain ⟨W0, hW0⟩ : ∃ W0, W0 = (w.alloc (.cells #[.int .i64 ((x.1 : Nat) : Int), .int .i64 ((x.2.1 : Nat) : Int), .int .i64 ((x.2.2 : Nat) : Int)] 121)).alloc (.cells #[.int .i64 ((y.1 : Nat) : Int), .int .i64 ((y.2.1 : Nat) : Int), .int .i64 ((y.2.2 : Nat) : Int)] 121) := ⟨_, rfl⟩
 have b0 : Bk W0 w.heap.size 121 #[.int .i64 ((x.1 : Nat) : Int), .int .i64 ((x.2.1 : Nat) : Int), .int .i64 ((x.2.2 : Nat) : Int)] := by rw [hW0]; exact (Bk.made _ _ _).alloc _
 have b1 : Bk W0 (w.heap.size + 1) 121 #[.int .i64 ((y.1 : Nat) : Int), .int .i64 ((y.2.1 : Nat) : Int), .int .i64 ((y.2.2 : Nat) : Int)] := by
  rw [hW0]
  have := Bk.made (w.alloc (.cells #[.int .i64 ((x.1 : Nat) : Int), .int .i64 ((x.2.1 : Nat) : Int), .int .i64 ((x.2.2 : Nat) : Int)] 121)) 121 #[.int .i64 ((y.1 : Nat) : Int), .int .i64 ((y.2.1 : Nat) : Int), .int .i64 ((y.2.2 : Nat) : Int)]
  rwa [World.size_alloc] at this
 have HS := Lib.hid (show (fun V => (V.cell? ⟨w.heap.size, 0, none⟩ = some (.int .i64 ((x.1 : Nat) : Int)) ∧ V.cell? ⟨w.heap.size, 1, none⟩ = some (.int .i64 ((x.2.1 : Nat) : Int)) ∧ V.cell? ⟨w.heap.size, 2, none⟩ = some (.int .i64 ((x.2.2 : Nat) : Int))) ∧ V.cell? ⟨w.heap.size + 1, 0, none⟩ = some (.int .i64 ((y.1 : Nat) : Int)) ∧ V.cell? ⟨w.heap.size + 1, 1, none⟩ = some (.int .i64 ((y.2.1 : Nat) : Int)) ∧ V.cell? ⟨w.heap.size + 1, 2, none⟩ = some (.int .i64 ((y.2.2 : Nat) : Int))) W0.drew from ⟨⟨b0.cell 0, b0.cell 1, b0.cell 2⟩, b1.cell 0, b1.cell 1, b1.cell 2⟩)
 obtain ⟨r1, hr1⟩ : ∃ r, Hid (r = Lib.compareInt (x.1 : Int) (y.1 : Int)) := ⟨_, Lib.hid rfl⟩
 obtain ⟨r2, hr2⟩ : ∃ r, Hid (r = Lib.compareInt (x.2.1 : Int) (y.2.1 : Int)) := ⟨_, Lib.hid rfl⟩
 obtain ⟨r3, hr3⟩ : ∃ r, Hid (r = Lib.compareInt (x.2.2 : Int) (y.2.2 : Int)) := ⟨_, Lib.hid rfl⟩
 have HSA := Lib.hid (show (fun V => (V.cell? ⟨w.heap.size, 0, none⟩ = some (.int .i64 ((x.1 : Nat) : Int)) ∧ V.cell? ⟨w.heap.size, 1, none⟩ = some (.int .i64 ((x.2.1 : Nat) : Int)) ∧ V.cell? ⟨w.heap.size, 2, none⟩ = some (.int .i64 ((x.2.2 : Nat) : Int))) ∧ V.cell? ⟨w.heap.size + 1, 0, none⟩ = some (.int .i64 ((y.1 : Nat) : Int)) ∧ V.cell? ⟨w.heap.size + 1, 1, none⟩ = some (.int .i64 ((y.2.1 : Nat) : Int)) ∧ V.cell? ⟨w.heap.size + 1, 2, none⟩ = some (.int .i64 ((y.2.2 : Nat) : Int))) (W0.drew.alloc (.cells #[.int .i64 (Lib.compareInt (x.1 : Int) (y.1 : Int)), .int .i64 (Lib.compareInt (x.2.1 : Int) (y.2.1 : Int)), .int .i64 (Lib.compareInt (x.2.2 : Int) (y.2.2 : Int))] 3)) from by
  have f : Fr No W0 (W0.drew.alloc (.cells #[.int .i64 (Lib.compareInt (x.1 : Int) (y.1 : Int)), .int .i64 (Lib.compareInt (x.2.1 : Int) (y.2.1 : Int)), .int .i64 (Lib.compareInt (x.2.2 : Int) (y.2.2 : Int))] 3)) := ((Fr.refl No W0).drew).alloc _
  exact ⟨⟨(b0.fr f (fun e => e)).cell 0, (b0.fr f (fun e => e)).cell 1, (b0.fr f (fun e => e)).cell 2⟩, (b1.fr f (fun e => e)).cell 0, (b1.fr f (fun e => e)).cell 1, (b1.fr f (fun e => e)).cell 2⟩)
 have HOr := Lib.hid (or16 W0.heap.size (Lib.compareInt (x.1 : Int) (y.1 : Int)) (Lib.compareInt (x.2.1 : Int) (y.2.1 : Int)) (Lib.compareInt (x.2.2 : Int) (y.2.2 : Int)) (W0.drew.alloc (.cells #[.int .i64 (Lib.compareInt (x.1 : Int) (y.1 : Int)), .int .i64 (Lib.compareInt (x.2.1 : Int) (y.2.1 : Int)), .int .i64 (Lib.compareInt (x.2.2 : Int) (y.2.2 : Int))] 3)) (Bk.made W0.drew _ _))
 have HG : Hid (∃ q os', (W0.drew.alloc (.cells #[.int .i64 (Lib.compareInt (x.1 : Int) (y.1 : Int)), .int .i64 (Lib.compareInt (x.2.1 : Int) (y.2.1 : Int)), .int .i64 (Lib.compareInt (x.2.2 : Int) (y.2.2 : Int))] 3)) = grow (w.drewN q) os') := Lib.hid (by
  rw [hW0]
  exact ⟨1, #[_, _, _], by rw [alloc_eq_grow]; rfl⟩)
 have hwe := hW0.symm
 clear b0 b1 hW0 hr1 hr2 hr3 r1 r2 r3
 go_enter Tryz.func120, Tryz.ntmps120
 go_wp2_with fail
 refine wp_region_held_drew (S := fun V => (V.cell? ⟨w.heap.size, 0, none⟩ = some (.int .i64 ((x.1 : Nat) : Int)) ∧ V.cell? ⟨w.heap.size, 1, none⟩ = some (.int .i64 ((x.2.1 : Nat) : Int)) ∧ V.cell? ⟨w.heap.size, 2, none⟩ = some (.int .i64 ((x.2.2 : Nat) : Int))) ∧ V.cell? ⟨w.heap.size + 1, 0, none⟩ = some (.int .i64 ((y.1 : Nat) : Int)) ∧ V.cell? ⟨w.heap.size + 1, 1, none⟩ = some (.int .i64 ((y.2.1 : Nat) : Int)) ∧ V.cell? ⟨w.heap.size + 1, 2, none⟩ = some (.int .i64 ((y.2.2 : Nat) : Int))) (by kernel_rfl) (HS.out) (fun hHeld => ?_)
 refine any_u 5 (.pointer (some ⟨w.heap.size, 0, none⟩)) (i := 0) rfl rfl ?_
 simp only [Act.put, szA, szB, szC]
 refine any_u 6 (.int .i64 ((x.1 : Nat) : Int)) (i := 1) rfl rfl ?_
 simp only [Act.put, szA, szB, szC]
 refine any_u 7 (.pointer (some ⟨w.heap.size + 1, 0, none⟩)) (i := 2) rfl rfl ?_
 simp only [Act.put, szA, szB, szC]
 refine any_u 8 (.int .i64 ((y.1 : Nat) : Int)) (i := 3) rfl rfl ?_
 simp only [Act.put, szA, szB, szC]
 refine any_u 10 (.pointer (some ⟨w.heap.size, 1, none⟩)) (i := 5) rfl rfl ?_
 simp only [Act.put, szA, szB, szC]
 refine any_u 11 (.int .i64 ((x.2.1 : Nat) : Int)) (i := 6) rfl rfl ?_
 simp only [Act.put, szA, szB, szC]
 refine any_u 12 (.pointer (some ⟨w.heap.size + 1, 1, none⟩)) (i := 7) rfl rfl ?_
 simp only [Act.put, szA, szB, szC]
 refine any_u 13 (.int .i64 ((y.2.1 : Nat) : Int)) (i := 8) rfl rfl ?_
 simp only [Act.put, szA, szB, szC]
 refine any_u 15 (.pointer (some ⟨w.heap.size, 2, none⟩)) (i := 10) rfl rfl ?_
 simp only [Act.put, szA, szB, szC]
 refine any_u 16 (.int .i64 ((x.2.2 : Nat) : Int)) (i := 11) rfl rfl ?_
 simp only [Act.put, szA, szB, szC]
 refine any_u 17 (.pointer (some ⟨w.heap.size + 1, 2, none⟩)) (i := 12) rfl rfl ?_
 simp only [Act.put, szA, szB, szC]
 refine any_u 18 (.int .i64 ((y.2.2 : Nat) : Int)) (i := 13) rfl rfl ?_
 simp only [Act.put, szA, szB, szC]
 refine wpAnyH_ready (rs := [4]) (by kernel_rfl) (by simp) ?_
 refine AllReadyH.cons rfl (fun K' hK => ?_) AllReadyH.nil
 go_simp
 go_at_call 122
 refine (hcon _ _ _).mono ?_
 rintro e' w' ⟨rfl, rfl⟩
 refine hK.out _ _ HS.out (fun hHeld => ?_)
 clear hK
 try simp only [Act.put, szA, szB, szC]
 refine wpAnyH_ready (rs := [9]) (by kernel_rfl) (by simp) ?_
 refine AllReadyH.cons rfl (fun K' hK => ?_) AllReadyH.nil
 go_simp
 go_at_call 122
 refine (hcon _ _ _).mono ?_
 rintro e' w' ⟨rfl, rfl⟩
 refine hK.out _ _ HS.out (fun hHeld => ?_)
 clear hK
 try simp only [Act.put, szA, szB, szC]
 refine wpAnyH_ready (rs := [14]) (by kernel_rfl) (by simp) ?_
 refine AllReadyH.cons rfl (fun K' hK => ?_) AllReadyH.nil
 go_simp
 go_at_call 122
 refine (hcon _ _ _).mono ?_
 rintro e' w' ⟨rfl, rfl⟩
 refine hK.out _ _ HS.out (fun hHeld => ?_)
 clear hK
 try simp only [Act.put, szA, szB, szC]
 refine wpAnyH_ready (rs := [15]) (by kernel_rfl) (by simp) ?_
 refine AllReadyH.cons rfl (fun K' hK => ?_) AllReadyH.nil
 go_simp
 refine hK.out _ _ HSA.out (fun hHeld => ?_)
 clear hK
 try simp only [Act.put, szA, szB, szC]
 refine wpAnyH_ready (rs := [16]) (by kernel_rfl) (by simp) ?_
 refine AllReadyH.cons rfl (fun K' hK => ?_) AllReadyH.nil
 go_simp
 go_at_call 121
 refine (HOr.out).mono ?_
 rintro e' w' ⟨rfl, rfl⟩
 refine hK.out _ _ HSA.out (fun hHeld => ?_)
 clear hK
 try simp only [Act.put, szA, szB, szC]
 refine any_u 4 (.int .i64 (orI (Lib.compareInt (x.1 : Int) (y.1 : Int)) (Lib.compareInt (x.2.1 : Int) (y.2.1 : Int)) (Lib.compareInt (x.2.2 : Int) (y.2.2 : Int)))) (i := 17) rfl rfl ?_
 simp only [Act.put, szA, szB, szC]
 refine wpAnyH_done (by kernel_rfl) ?_ _
 clear hHeld
 go_wp2
 go_ret
 exact ⟨rfl, HG.out⟩
end Go.Proofs.YtmeimhpllemjfaaGreat
/- Arcs, put in order by the library. -/
namespace Go.Proofs.YtmeimhpllemjfaaGreat
open Go.RowKit Go.Shelf Go.Lib Go.Sort

theorem laysT16 (blk off size : Nat) (w : World) : CmpLays Tryz.prog 120 #[] arcC 3 cmpT blk off size w :=
 fun _ _ _ _ x y => closT16 x y _
theorem holdsT_of {w : World} {B g n c : Nat} {l : List Tr} (h : w.ownsRow B 121 3 (.slice (some ⟨g, 0, none⟩) n c) n (l.flatMap arcC)) (hn : l.length = n) : HoldsK arcC 3 w g 0 l.toArray := by
 intro j hj
 rw [size_flatK] at hj
 have hjl : j < l.length * 3 := by simpa using hj
 rw [get_flatK _ _ _ _ hj]
 have hi : j / 3 < l.length := by omega
 have hcell : w.cell? ⟨g, j, none⟩ = (l.flatMap arcC)[j]? := h.cellAt _ (by omega)
 have hfz : w.frozen? ⟨g, j, none⟩ = false := by
  rcases h.2 with ⟨hv, _⟩ | ⟨g', cap', cur, hv, _, hgg, _⟩
  ·cases hv
  ·obtain ⟨rfl, -⟩ : g = g' ∧ True := by simp at hv; exact ⟨hv.1, trivial⟩
   exact Bk.frozen (t := 121) hgg _
 have e : (⟨g, 0 + j, none⟩ : Addr) = ⟨g, j, none⟩ := by simp
 rw [e]
 refine ⟨?_, hfz⟩
 rw [hcell]
 have el : l.toArray[j / 3]! = l[j / 3] := by simp [hi]
 rw [el]
 have h1 := flat_at arcC 3 arcC_len l (j / 3) (j % 3) hi (by omega)
 rw [show j / 3 * 3 + j % 3 = j by omega] at h1
 rw [h1]
 have hl : j % 3 < (arcC l[j / 3]).length := by show j % 3 < 3; omega
 rw [List.getElem?_eq_getElem hl]
 show _ = some (arcC l[j / 3])[j % 3]!
 rw [getElem!_pos (arcC l[j / 3]) (j % 3) hl]
theorem own_sortT {w : World} {B g n c m : Nat} {l d : List Tr} (os : Array Obj) (h : w.ownsRow B 121 3 (.slice (some ⟨g, 0, none⟩) n c) n (l.flatMap arcC)) (hd : d.length = n) : (sortWorldK arcC 3 w g 0 m d.toArray os).ownsRow B 121 3 (.slice (some ⟨g, 0, none⟩) n c) n (d.flatMap arcC) := by
 rcases h.2 with ⟨hv, _⟩ | ⟨g', cap', cur, hv, hB, hgg, h1, h2, h3, h4⟩
 ·cases hv
 ·obtain ⟨rfl, rfl⟩ : g = g' ∧ c = cap' := by simp at hv; exact hv
  have hlt : g < w.heap.size := (Array.getElem?_eq_some_iff.1 hgg).1
  refine ⟨by rw [arcsL_len16, hd], .inr ⟨g, c, putCells id 0 (Go.Sort.flatK arcC 3 d.toArray) cur, rfl, hB, ?_, h1, h2, by unfold putCells; rw [Array.size_mapIdx]; exact h3, ?_⟩⟩
  ·unfold sortWorldK
   rw [heap_grow_old _ _ (by rw [size_putRowK]; exact hlt)]
   unfold putRowK putRow mapBlock
   show (w.heap.modify g _)[g]? = _
   rw [Array.getElem?_modify, if_pos rfl, hgg]
   rfl
  ·apply List.ext_getElem?
   intro j
   by_cases hj : j < n * 3
   ·rw [List.getElem?_take, if_pos hj]
    have hF : j < (Go.Sort.flatK arcC 3 d.toArray).size := by rw [size_flatK]; simp; omega
    have hc : j < cur.size := by rw [h3]; omega
    have e1 : (putCells id 0 (Go.Sort.flatK arcC 3 d.toArray) cur).toList[j]? = some (Go.Sort.flatK arcC 3 d.toArray)[j]! := by
     rw [Array.getElem?_toList]
     unfold putCells
     rw [Array.getElem?_mapIdx, Array.getElem?_eq_getElem hc, Option.map_some, if_pos ⟨Nat.zero_le _, by omega⟩, Nat.sub_zero]
     rfl
    rw [e1, get_flatK _ _ _ _ (by rw [size_flatK] at hF; exact hF)]
    have hi : j / 3 < d.length := by omega
    have el : d.toArray[j / 3]! = d[j / 3] := by simp [hi]
    rw [el]
    have h5 := flat_at arcC 3 arcC_len d (j / 3) (j % 3) hi (by omega)
    rw [show j / 3 * 3 + j % 3 = j by omega] at h5
    rw [h5]
    have hl : j % 3 < (arcC d[j / 3]).length := by show j % 3 < 3; omega
    rw [List.getElem?_eq_getElem hl]
    show some (arcC d[j / 3])[j % 3]! = _
    rw [getElem!_pos (arcC d[j / 3]) (j % 3) hl]
   ·rw [List.getElem?_take, if_neg hj, List.getElem?_eq_none (by rw [arcsL_len16]; omega)]
theorem fr_sortT (w : World) (g n : Nat) (d : Array Tr) (os : Array Obj) : Fr (fun k => k = g) w (sortWorldK arcC 3 w g 0 n d os) := by
 refine ⟨⟨?_, ?_, ?_⟩, size_sortWorldK_c arcC 3 w g 0 n d os, fun i hi hne => ?_⟩
 ·rfl
 ·rfl
 ·rfl
 ·unfold sortWorldK
  rw [heap_grow_old _ _ (by rw [size_putRowK]; exact hi)]
  unfold putRowK putRow
  show (w.heap.modify g _)[i]? = w.heap[i]?
  rw [Array.getElem?_modify, if_neg (fun e => hne e.symm)]
set_option maxHeartbeats 1000000 in
theorem tSort16 (A : Option Addr) (n c B : Nat) (l : List Tr) (w : World) (h : w.ownsRow B 121 3 (.slice A n c) n (l.flatMap arcC)) (hn : l.length = n) (hle : n ≤ 4194304) :
  Calls Tryz.prog 119 #[.slice A n c, .func (.func 120) #[] #[]] w fun e w' => e = .returned (.tuple #[]) ∧
   ∃ d : List Tr, d.length = n ∧ d.Perm l ∧ (∀ i j (hi : i < d.length) (hj : j < d.length), i < j → ¬ LtA d[j] d[i]) ∧ w'.ownsRow B 121 3 (.slice A n c) n (d.flatMap arcC) ∧ Fr (fun k => B ≤ k) w w' := by
 rcases Nat.eq_zero_or_pos n with h0 | h0
 ·subst h0
  obtain rfl := List.eq_nil_of_length_eq_zero hn
  have q := AnyF.slices_SortFunc_none { sortR with } A c (.func (.func 120) #[] #[]) w
  change Calls Tryz.prog 119 _ _ _ at q
  refine q.mono ?_
  rintro e w' ⟨rfl, rfl⟩
  exact ⟨rfl, [], rfl, List.Perm.refl _, fun i j hi => by simp at hi, h, Fr.refl _ _⟩
 ·obtain ⟨g, cap, hv, hBg, hlt⟩ := h.form h0
  obtain ⟨rfl, rfl⟩ : A = some ⟨g, 0, none⟩ ∧ c = cap := by injection hv with h1 h2 h3; exact ⟨h1, h3⟩
  have eg : ∀ args w, (callFunc 120 args).run Tryz.prog w = .ok (.enter 120 args) w := enters_of Tryz.func120 (by kernel_rfl) rfl
  have hH := holdsT_of h hn
  have hsz : l.toArray.size = n := by simp [hn]
  have q := AnyQ.slices_SortFunc sortR 3 Tryz.isAgg121 Tryz.sizeOf121 arcC arcC_len (fun x v hv => by simp [arcC] at hv; rcases hv with rfl | rfl | rfl <;> rfl) cmpT swoT16 120 #[] g 0 c l.toArray w eg (laysT16 g 0 _ w) hH hlt (by rw [hsz]; omega)
  rw [hsz] at q
  change Calls Tryz.prog 119 _ _ _ at q
  refine q.mono ?_
  rintro e w' ⟨rfl, d', m, os, hp, hs, rfl⟩
  have hd : d'.size = n := by rw [hp.1, hsz]
  have ht : d'.toList.toArray = d' := by simp
  refine ⟨rfl, d'.toList, by simp [hd], ?_, ?_, by have := own_sortT (m := m) os h (d := d'.toList) (by simp [hd]); rwa [ht] at this, (fr_sortT w g m d' os).weak (fun k _ e => by rw [e]; exact hBg)⟩
  ·have h3 := hp.2.2
   rw [← hd] at h3
   have e1 : (d'.extract 0 d'.size) = d' := by simp
   have e2 : (l.toArray.extract 0 d'.size) = l.toArray := by rw [hd, ← hsz]; simp
   rw [e1, e2] at h3
   exact h3
  ·intro i j hi hj hij hlt2
   have h4 := hs i j (Nat.zero_le _) hij (by simp at hj; omega)
   simp at hi hj
   rw [getElem!_pos d' i (by omega), getElem!_pos d' j (by omega)] at h4
   simp at hlt2
   rw [(ltT16 _ _).2 hlt2] at h4
   cases h4
end Go.Proofs.YtmeimhpllemjfaaGreat
/- Package rsg: the ends of units, asked once of each node and class: a map whose keys are pairs. -/
namespace Go.Proofs.YtmeimhpllemjfaaGreat
open Go.RowKit Go.Maps Go.WideMaps

def prK (i d : Int) : Value := .agg #[.int .i64 i, .int .i64 d]
def wf64 (i : Int) : Prop := (Lit.int .i64 i).wf = true
theorem wf64_of {i : Int} (h0 : -9223372036854775808 ≤ i) (h1 : i ≤ 9223372036854775807) : wf64 i := by
 have e1 : IntKind.i64.min = -9223372036854775808 := by decide
 have e2 : IntKind.i64.max = 9223372036854775807 := by decide
 unfold wf64
 simp only [Lit.wf, e1, e2, Bool.and_eq_true, decide_eq_true_eq]
 omega
theorem key16 {i d : Int} (hi : wf64 i) (hd : wf64 d) : ∃ kl, Go.keyOf Tryz.prog 203 (prK i d) = some kl := by
 have hk : Tryz.prog.keyType 203 = true := by kernel_rfl
 have h2 : Tryz.prog.cellsOf 203 = 2 := by kernel_rfl
 have h1 : Tryz.prog.cellsOf 3 = 1 := by kernel_rfl
 have hs : 1 ≤ Tryz.prog.types.size := of_decide_eq_true (by kernel_rfl)
 have hl : ∀ m, Tryz.prog.keyLits (m + 2) 203 [.int .i64 i, .int .i64 d] = some [.int .i64 i, .int .i64 d] := fun m => by
  unfold wf64 at hi hd
  simp [Program.keyLits, Tryz.underlying203, Tryz.underlying3, h1, h2, hi, hd, List.range_succ]
 have hf : (prK i d).formed Tryz.prog 203 = true := by simp [prK, Value.formed, Tryz.underlying203, h2]
 have hm : Tryz.prog.types.size + 1 = (Tryz.prog.types.size - 1) + 2 := by omega
 refine ⟨.string (keyBytes [.int .i64 i, .int .i64 d]), ?_⟩
 unfold Go.keyOf
 rw [Tryz.underlying203]
 dsimp only
 rw [hk, hf, hm, show (prK i d).cells.toList = [.int .i64 i, .int .i64 d] from rfl, hl]
 rfl
theorem keyed16 : Keyed Tryz.prog 203 :=
 Keyed.of_law (deep_law_laid (P := Tryz.prog) (by kernel_rfl) (m := 2) (by omega) (of_decide_eq_true (by kernel_rfl)) (by kernel_rfl) (by rw [Tryz.underlying203]))
theorem map_t16 : Tryz.prog.underlying 202 = some (.map 203 3) := Tryz.underlying202
theorem zero_t16 (w : World) : (zeroValue 3).run Tryz.prog w = .ok (.int .i64 0) w := Tryz.zeroValue3 w
def KM (w : World) (m c : Nat) (E : Int → Int → Int) : Prop :=
 ∃ D, w.ownsMap Tryz.prog 203 heldR m c D ∧ ∀ (i d : Int) kl, Go.keyOf Tryz.prog 203 (prK i d) = some kl → Maps.has D kl = true → ∀ z, D.atKey kl z = .held (.int .i64 (E i d))
section
variable {w w' : World} {m c : Nat} {E : Int → Int → Int}
theorem KM.lt (h : KM w m c E) : m < w.heap.size := by
 obtain ⟨D, ho, _⟩ := h
 exact ho.lt
theorem KM.block (h : KM w m c E) (e : w'.heap[m]? = w.heap[m]?) : KM w' m c E := by
 obtain ⟨D, ho, hd⟩ := h
 exact ⟨D, own_block ho e, hd⟩
theorem KM.mono (h : KM w m c E) {c' : Nat} (hc : c ≤ c') : KM w m c' E := by
 obtain ⟨D, ho, hd⟩ := h
 exact ⟨D, ho.mono hc, hd⟩
theorem KM.fr {S : Nat → Prop} (h : KM w m c E) (hf : Fr S w w') (hs : ¬ S m) : KM w' m c E := h.block (hf.block m h.lt hs)
theorem KM.apart {g' : Nat} {t' : TypeId} {cs' : Array Value} (h : KM w m c E) (h' : Bk w g' t' cs') : m ≠ g' := by
 rintro rfl
 obtain ⟨D, ⟨es, clock, hb, _⟩, _⟩ := h
 have := hb.symm.trans h'
 cases this
theorem KM.made (w : World) (E : Int → Int → Int) : KM (w.alloc (.map #[] 0)) w.heap.size 0 E := ⟨.map [], World.ownsMap_made w _ _ heldR, fun _ _ _ _ h => by cases h⟩
theorem KM.store (h : KM w m c E) {i d : Int} (hi : wf64 i) (hd : wf64 d) (hc : c ≤ 1048576) :
  ∃ w', (Instr.mapUpdate 202 (.map (some m)) (.agg #[.int .i64 i, .int .i64 d]) (.int .i64 (E i d))).run Tryz.prog w = .ok () w' ∧ KM w' m (c + 1) E ∧ Fr (fun x => x = m) w w' := by
 obtain ⟨D, ho, hD⟩ := h
 obtain ⟨kl, hk⟩ := key16 hi hd
 have hmx : (1048576 : Nat) < maxLen := by decide
 obtain ⟨w', hrun, ho', hturn⟩ := ho.store (val := .int .i64 (E i d)) keyed16 map_t16 (by omega) hk rfl
 refine ⟨w', hrun, ⟨_, ho', fun i' d' kl' hk' hh z => ?_⟩, (Fr.refl _ w).grown hturn.grown (fun j e => .inl (by cases e; rfl))⟩
 by_cases e : kl' = kl
 ·subst e
  have := keyed16.inj hk hk'
  unfold prK at this
  simp at this
  obtain ⟨rfl, rfl⟩ := this
  exact Maps.atKey_put_same ho.isMap (keyed16.key hk) _ z
 ·rw [Maps.has_put_other e] at hh
  rw [Maps.atKey_put_other e]
  exact hD i' d' kl' hk' hh z
theorem KM.look (h : KM w m c E) {i d : Int} (hi : wf64 i) (hd : wf64 d) :
  ∃ (v : Value) (ok : Bool), (Instr.lookup 202 (.map (some m)) (.agg #[.int .i64 i, .int .i64 d]) true).run Tryz.prog w = .ok (.tuple #[v, .bool ok]) w ∧ (ok = true → v = .int .i64 (E i d)) := by
 obtain ⟨D, ho, hD⟩ := h
 obtain ⟨kl, hk⟩ := key16 hi hd
 obtain ⟨v, ps, hrun, hv⟩ := ho.look_ok keyed16 map_t16 (zero_t16 w) (zd := .held (.int .i64 0)) (zp := []) rfl hk
 refine ⟨v, Maps.has D kl, hrun, fun e => ?_⟩
 have h1 := hD i d kl hk e (.held (.int .i64 0))
 have h3 : DataW.held v = D.atKey kl (.held (.int .i64 0)) := by
  unfold heldR at hv
  exact (Prod.mk.inj (Option.some.inj hv)).1
 have h2 := h3.trans h1
 exact DataW.held.inj h2
end

set_option maxRecDepth 100000 in
set_option maxHeartbeats 2000000 in
theorem kept1_1 (bF bK m c p2 p3 : Nat) (E : Int → Int → Int) (i d : Int) (w : World) (hi : wf64 i) (hd : wf64 d) (hc : c ≤ 1048576)
  (hF : Bk w bF 142 #[.func (.func 148) #[] #[.pointer (some ⟨p2, 0, none⟩), .pointer (some ⟨p3, 0, none⟩)]])
  (hK : Bk w bK 202 #[.map (some m)]) (hM : KM w m c E)
  (hE : Calls Tryz.prog 148 #[.int .i64 i, .int .i64 d, .pointer (some ⟨p2, 0, none⟩), .pointer (some ⟨p3, 0, none⟩)] w fun e w' => e = .returned (.int .i64 (E i d)) ∧ Fr No w w') :
  Calls Tryz.prog 169 #[.int .i64 i, .int .i64 d, .pointer (some ⟨bK, 0, none⟩), .pointer (some ⟨bF, 0, none⟩)] w fun e w' => e = .returned (.int .i64 (E i d)) ∧ KM w' m (c + 1) E ∧ Fr (fun x => x = m) w w' := by
 obtain ⟨v, ok, hlk, hv⟩ := hM.look hi hd
 have x0 := hF.cell 0
 have x1 := hK.cell 0
 simp only [List.getElem?_toArray, List.getElem?_cons_zero] at x0 x1
 have HE := Lib.hid hE
 have HM := Lib.hid hM
 have HS := Lib.hid (fun W (h : Fr No w W) => show ∃ w', (Instr.mapUpdate 202 (.map (some m)) (.agg #[.int .i64 i, .int .i64 d]) (.int .i64 (E i d))).run Tryz.prog W = .ok () w' ∧ KM w' m (c + 1) E ∧ Fr (fun x => x = m) w w' by
  obtain ⟨w', h1, h2, h3⟩ := (hM.fr h (fun e => e)).store hi hd hc
  exact ⟨w', h1, h2, (h.weak (fun _ _ e => e.elim)).trans' h3 (fun _ _ e => e)⟩)
 have HKc := Lib.hid (fun W (h : Fr No w W) => show W.cell? ⟨bK, 0, none⟩ = some (.map (some m)) from (hK.fr h (fun e => e)).cell 0)
 have Hv := Lib.hid hv
 generalize E i d = r at *
 clear hE hM hF hK hv hi hd
 cases ok
 ·clear Hv HM
  go_enter Tryz.func169, Tryz.ntmps169
  go_wp2_with fail
  refine HE.out.mono ?_
  rintro e w1 ⟨rfl, f1⟩
  have y1 := HKc.out w1 f1
  obtain ⟨w2, hup, h2, h3⟩ := HS.out w1 f1
  have H2 := Lib.hid h2
  have H3 := Lib.hid h3
  clear HS HKc f1 HE x0 x1 hlk h2 h3
  go_wp2
  go_ret
  exact ⟨rfl, H2.out, H3.out⟩
 ·obtain rfl := Hv.out rfl
  clear Hv HE HS HKc
  go_enter Tryz.func169, Tryz.ntmps169
  go_wp2
  go_ret
  exact ⟨rfl, HM.out.mono (by omega), (Fr.refl _ _)⟩
theorem kept_1 (p2 p3 : Nat) (E : Int → Int → Int) (w : World) :
  Calls Tryz.prog 147 #[.func (.func 148) #[] #[.pointer (some ⟨p2, 0, none⟩), .pointer (some ⟨p3, 0, none⟩)]] w fun e w' => ∃ bK bF m, e = .returned (.func (.func 169) #[] #[.pointer (some ⟨bK, 0, none⟩), .pointer (some ⟨bF, 0, none⟩)]) ∧
   Bk w' bF 142 #[.func (.func 148) #[] #[.pointer (some ⟨p2, 0, none⟩), .pointer (some ⟨p3, 0, none⟩)]] ∧ Bk w' bK 202 #[.map (some m)] ∧ KM w' m 0 E ∧ Fr No w w' ∧ w.heap.size ≤ m := by
 have hmm := @run_makeMap Tryz.prog
 have hmf : ∀ (fn : Fn) (first cap : Array Value) (w : World), (Instr.makeFunc fn first cap).run Tryz.prog w = .ok (.func fn first cap) w := fun _ _ _ _ => rfl
 go_enter Tryz.func147, Tryz.ntmps147
 go_wp2
 go_ret
 have b0 := Bk.made w 142 #[.func (.func 148) #[] #[.pointer (some ⟨p2, 0, none⟩), .pointer (some ⟨p3, 0, none⟩)]]
 have b1 := KM.made (w.alloc (.cells #[.func (.func 148) #[] #[.pointer (some ⟨p2, 0, none⟩), .pointer (some ⟨p3, 0, none⟩)]] 142)) E
 have b2 := Bk.made ((w.alloc (.cells #[.func (.func 148) #[] #[.pointer (some ⟨p2, 0, none⟩), .pointer (some ⟨p3, 0, none⟩)]] 142)).alloc (.map #[] 0)) 202 #[.map (some (w.heap.size + 1))]
 simp only [World.size_alloc] at b0 b1 b2
 exact ⟨w.heap.size + 1 + 1, w.heap.size, w.heap.size + 1, rfl, (b0.alloc _).alloc _, b2, b1.fr ((Fr.refl No _).alloc _) (fun e => e), ((((Fr.refl No w).alloc _).alloc _).alloc _), by omega⟩

set_option maxRecDepth 100000 in
set_option maxHeartbeats 2000000 in
theorem kept1_2 (bF bK m c p2 p3 : Nat) (E : Int → Int → Int) (i d : Int) (w : World) (hi : wf64 i) (hd : wf64 d) (hc : c ≤ 1048576)
  (hF : Bk w bF 142 #[.func (.func 149) #[] #[.pointer (some ⟨p2, 0, none⟩), .pointer (some ⟨p3, 0, none⟩)]])
  (hK : Bk w bK 202 #[.map (some m)]) (hM : KM w m c E)
  (hE : Calls Tryz.prog 149 #[.int .i64 i, .int .i64 d, .pointer (some ⟨p2, 0, none⟩), .pointer (some ⟨p3, 0, none⟩)] w fun e w' => e = .returned (.int .i64 (E i d)) ∧ Fr No w w') :
  Calls Tryz.prog 169 #[.int .i64 i, .int .i64 d, .pointer (some ⟨bK, 0, none⟩), .pointer (some ⟨bF, 0, none⟩)] w fun e w' => e = .returned (.int .i64 (E i d)) ∧ KM w' m (c + 1) E ∧ Fr (fun x => x = m) w w' := by
 obtain ⟨v, ok, hlk, hv⟩ := hM.look hi hd
 have x0 := hF.cell 0
 have x1 := hK.cell 0
 simp only [List.getElem?_toArray, List.getElem?_cons_zero] at x0 x1
 have HE := Lib.hid hE
 have HM := Lib.hid hM
 have HS := Lib.hid (fun W (h : Fr No w W) => show ∃ w', (Instr.mapUpdate 202 (.map (some m)) (.agg #[.int .i64 i, .int .i64 d]) (.int .i64 (E i d))).run Tryz.prog W = .ok () w' ∧ KM w' m (c + 1) E ∧ Fr (fun x => x = m) w w' by
  obtain ⟨w', h1, h2, h3⟩ := (hM.fr h (fun e => e)).store hi hd hc
  exact ⟨w', h1, h2, (h.weak (fun _ _ e => e.elim)).trans' h3 (fun _ _ e => e)⟩)
 have HKc := Lib.hid (fun W (h : Fr No w W) => show W.cell? ⟨bK, 0, none⟩ = some (.map (some m)) from (hK.fr h (fun e => e)).cell 0)
 have Hv := Lib.hid hv
 generalize E i d = r at *
 clear hE hM hF hK hv hi hd
 cases ok
 ·clear Hv HM
  go_enter Tryz.func169, Tryz.ntmps169
  go_wp2_with fail
  refine HE.out.mono ?_
  rintro e w1 ⟨rfl, f1⟩
  have y1 := HKc.out w1 f1
  obtain ⟨w2, hup, h2, h3⟩ := HS.out w1 f1
  have H2 := Lib.hid h2
  have H3 := Lib.hid h3
  clear HS HKc f1 HE x0 x1 hlk h2 h3
  go_wp2
  go_ret
  exact ⟨rfl, H2.out, H3.out⟩
 ·obtain rfl := Hv.out rfl
  clear Hv HE HS HKc
  go_enter Tryz.func169, Tryz.ntmps169
  go_wp2
  go_ret
  exact ⟨rfl, HM.out.mono (by omega), (Fr.refl _ _)⟩
theorem kept_2 (p2 p3 : Nat) (E : Int → Int → Int) (w : World) :
  Calls Tryz.prog 147 #[.func (.func 149) #[] #[.pointer (some ⟨p2, 0, none⟩), .pointer (some ⟨p3, 0, none⟩)]] w fun e w' => ∃ bK bF m, e = .returned (.func (.func 169) #[] #[.pointer (some ⟨bK, 0, none⟩), .pointer (some ⟨bF, 0, none⟩)]) ∧
   Bk w' bF 142 #[.func (.func 149) #[] #[.pointer (some ⟨p2, 0, none⟩), .pointer (some ⟨p3, 0, none⟩)]] ∧ Bk w' bK 202 #[.map (some m)] ∧ KM w' m 0 E ∧ Fr No w w' ∧ w.heap.size ≤ m := by
 have hmm := @run_makeMap Tryz.prog
 have hmf : ∀ (fn : Fn) (first cap : Array Value) (w : World), (Instr.makeFunc fn first cap).run Tryz.prog w = .ok (.func fn first cap) w := fun _ _ _ _ => rfl
 go_enter Tryz.func147, Tryz.ntmps147
 go_wp2
 go_ret
 have b0 := Bk.made w 142 #[.func (.func 149) #[] #[.pointer (some ⟨p2, 0, none⟩), .pointer (some ⟨p3, 0, none⟩)]]
 have b1 := KM.made (w.alloc (.cells #[.func (.func 149) #[] #[.pointer (some ⟨p2, 0, none⟩), .pointer (some ⟨p3, 0, none⟩)]] 142)) E
 have b2 := Bk.made ((w.alloc (.cells #[.func (.func 149) #[] #[.pointer (some ⟨p2, 0, none⟩), .pointer (some ⟨p3, 0, none⟩)]] 142)).alloc (.map #[] 0)) 202 #[.map (some (w.heap.size + 1))]
 simp only [World.size_alloc] at b0 b1 b2
 exact ⟨w.heap.size + 1 + 1, w.heap.size, w.heap.size + 1, rfl, (b0.alloc _).alloc _, b2, b1.fr ((Fr.refl No _).alloc _) (fun e => e), ((((Fr.refl No w).alloc _).alloc _).alloc _), by omega⟩

theorem acr1_any (x : Ctl) (h : List Ndl) (A : Option Addr) (n c p2 p3 : Nat) (i d : Int) (w : World) (hb2 : Bk w p2 26 x.arr) (hb3 : Bk w p3 27 #[.slice A n c]) (hx : Clss w x.cA x.cls) (hB : x.Big) (hh : Nds w A h) (hN : h.length = n) (hNm : n ≤ 1048576) (hNc : n ≤ c) (hf : Nds.Few h) :
  Calls Tryz.prog 148 #[.int .i64 i, .int .i64 d, .pointer (some ⟨p2, 0, none⟩), .pointer (some ⟨p3, 0, none⟩)] w fun e w' => e = .returned (.int .i64 (firstP (qU x.p (ndsOf h) i d) n)) ∧ Fr No w w' := by
 have HC := Lib.hid (first_any x h A n c i d w hx hB hh hN hNm hNc hf)
 generalize firstP (qU x.p (ndsOf h) i d) n = r at *
 have x1 := hb3.cell 0
 simp only [List.getElem?_toArray, List.getElem?_cons_zero] at x1
 unfold Ctl.agg at HC
 obtain ⟨Z, hZ⟩ : ∃ Z, Z = x.arr := ⟨_, rfl⟩
 rw [← hZ] at HC hb2
 rw [Ctl.arr_eq] at hZ
 have HL : Hid (LdO w 26 ⟨p2, 0, none⟩ (.agg Z)) := Lib.hid (ld_cat hZ hb2)
 clear hx hB hh hN hNm hNc hf hb2 hb3 hZ
 go_enter Tryz.func148, Tryz.ntmps148
 go_wp2_with (first
  | ((with_reducible refine wpl_ld ?_ ?_ HL.out ?_); (· rfl); (· rfl); simp only [Act.put, szA, szB, szC]))
 refine HC.out.mono ?_
 rintro e w1 ⟨rfl, f1⟩
 go_wp2
 go_ret
 exact ⟨rfl, f1⟩
theorem acr2_any (x : Ctl) (h : List Ndl) (A : Option Addr) (n c p2 p3 : Nat) (i d : Int) (w : World) (hb2 : Bk w p2 26 x.arr) (hb3 : Bk w p3 27 #[.slice A n c]) (hx : Clss w x.cA x.cls) (hB : x.Big) (hh : Nds w A h) (hN : h.length = n) (hNm : n ≤ 1048576) (hNc : n ≤ c) (hf : Nds.Few h) :
  Calls Tryz.prog 149 #[.int .i64 i, .int .i64 d, .pointer (some ⟨p2, 0, none⟩), .pointer (some ⟨p3, 0, none⟩)] w fun e w' => e = .returned (.int .i64 (lastP (qU x.p (ndsOf h) i d) n)) ∧ Fr No w w' := by
 have HC := Lib.hid (last_any x h A n c i d w hx hB hh hN hNm hNc hf)
 generalize lastP (qU x.p (ndsOf h) i d) n = r at *
 have x1 := hb3.cell 0
 simp only [List.getElem?_toArray, List.getElem?_cons_zero] at x1
 unfold Ctl.agg at HC
 obtain ⟨Z, hZ⟩ : ∃ Z, Z = x.arr := ⟨_, rfl⟩
 rw [← hZ] at HC hb2
 rw [Ctl.arr_eq] at hZ
 have HL : Hid (LdO w 26 ⟨p2, 0, none⟩ (.agg Z)) := Lib.hid (ld_cat hZ hb2)
 clear hx hB hh hN hNm hNc hf hb2 hb3 hZ
 go_enter Tryz.func149, Tryz.ntmps149
 go_wp2_with (first
  | ((with_reducible refine wpl_ld ?_ ?_ HL.out ?_); (· rfl); (· rfl); simp only [Act.put, szA, szB, szC]))
 refine HC.out.mono ?_
 rintro e w1 ⟨rfl, f1⟩
 go_wp2
 go_ret
 exact ⟨rfl, f1⟩
end Go.Proofs.YtmeimhpllemjfaaGreat
/- Package rsg: the arcs from each node to the next one of its saga. -/
namespace Go.Proofs.YtmeimhpllemjfaaGreat
open Go.RowKit

theorem info_arc16p : (Tryz.prog.info? 121).map (fun i => (i.zero, i.size, i.bytes)) = some (some (.agg #[.int .i64 0, .int .i64 0, .int .i64 0]), 3, 24) := by kernel_rfl
set_option maxRecDepth 100000 in
set_option maxHeartbeats 2000000 in
theorem own1_any (a b : Ndl) (q : Nat) (w : World) (hq : Bk w q 37 a.arr) :
  Calls Tryz.prog 146 #[b.agg, .pointer (some ⟨q, 0, none⟩)] w (Has w (decide (b.n.saga = a.n.saga))) := by
 unfold Ndl.agg
 unfold Ndl.arr at *
 generalize a.n.saga = sa at *
 generalize a.n.cls = ca at *
 generalize a.n.step = ta at *
 generalize a.n.back = ka at *
 generalize a.n.rd.length = na at *
 generalize a.n.wt.length = ma at *
 generalize a.rA = Ra at *
 generalize a.rc = rca at *
 generalize a.wA = Va at *
 generalize a.wc = wca at *
 generalize b.n.saga = sb at *
 generalize b.n.cls = cb at *
 generalize b.n.step = tb at *
 generalize b.n.back = kb at *
 generalize b.n.rd.length = nb at *
 generalize b.n.wt.length = mb at *
 generalize b.rA = Rb at *
 generalize b.rc = rcb at *
 generalize b.wA = Vb at *
 generalize b.wc = wcb at *
 obtain ⟨V, hV⟩ : ∃ V, V = w.alloc (.cells #[.int .i64 sb, .int .i64 cb, .int .i64 tb, .bool kb, .slice Rb nb rcb, .slice Vb mb wcb] 37) := ⟨_, rfl⟩
 have f0 : Fr No w V := by rw [hV]; exact (Fr.refl _ _).alloc _
 have bB : Bk V w.heap.size 37 #[.int .i64 sb, .int .i64 cb, .int .i64 tb, .bool kb, .slice Rb nb rcb, .slice Vb mb wcb] := by rw [hV]; exact Bk.made _ _ _
 have y1 := bB.cell 0
 have y2 := (hq.fr f0 (fun e => e)).cell 0
 simp only [List.getElem?_toArray, List.getElem?_cons_zero] at y1 y2
 have HF0 := Lib.hid f0
 have hwe := hV.symm
 have Hr : Hid ((sb == sa) = decide (sb = sa)) := Lib.hid rfl
 clear hq bB f0 hV
 go_enter Tryz.func146, Tryz.ntmps146
 go_wp2
 go_ret
 exact ⟨by first | rfl | (rw [← Hr.out]), HF0.out⟩
set_option maxHeartbeats 2000000 in
theorem idxO16 (l : List Ndl) (A : Option Addr) (n c : Nat) (q : Nat) (p : Nat → Bool) (w : World) (hsl : Sl w w.heap.size A (l.flatMap Ndl.cells)) (hn : l.length = n) (hnm : n ≤ 1099511627776)
  (hf : ∀ (x : BX l) W, Below w.heap.size w W → Calls Tryz.prog 146 #[(l[x.1]'x.2).agg, .pointer (some ⟨q, 0, none⟩)] W (Has W (p x.1))) :
  Calls Tryz.prog 66 #[.slice A n c, .func (.func 146) #[] #[.pointer (some ⟨q, 0, none⟩)]] w fun e w' => e = .returned (.int .i64 (firstP p n)) ∧ Fr No w w' := by
 have Hf := Lib.hid hf
 have Hn := Lib.hid hn
 have Hsl := Lib.hid hsl
 clear hf hn hsl
 go_enter Tryz.func66, Tryz.ntmps66
 go_wp2
 go_loopw [8] (fun i wr => ∃ k : Nat, k ≤ n ∧ i = .int .i64 (k : Int) ∧ Hid (∀ j, j < k → p j = false) ∧ Fr No w wr) (fun i _ => n - (intOf i).toNat)
 case atStart => exact ⟨0, Nat.zero_le _, rfl, Lib.hid (fun j hj => by omega), Fr.refl _ _⟩
 case round =>
  obtain ⟨k, hk, rfl, hpre, hfr⟩ := hrel
  by_cases hlt : k < n
  ·have hkl : k < l.length := by rw [Hn.out]; exact hlt
   obtain ⟨ad, rfl, hab, c0, c1, c2, c3, c4, c5⟩ := (Hsl.out.since hfr).nd (k := k) hkl
   have hx := Lib.hid (Hf.out ⟨k, hkl⟩ wr hfr.below0)
   have Hst : Hid (p k = false → ∀ j, j < k + 1 → p j = false) := Lib.hid (fun e j hj => by
    by_cases h : j = k
    ·rw [h]; exact e
    ·exact hpre.out j (by omega))
   have Hfd : Hid (p k = true → firstP p n = (k : Int)) := Lib.hid (fun e => firstP_at hlt e hpre.out)
   dsimp only at hx
   unfold Ndl.agg Ndl.arr at hx
   generalize p k = b at *
   generalize l[k] = a at *
   generalize a.n.saga = sa at *
   generalize a.n.cls = ca at *
   generalize a.n.step = ta at *
   generalize a.n.back = ka at *
   generalize a.n.rd.length = na at *
   generalize a.n.wt.length = ma at *
   generalize a.rA = Ra at *
   generalize a.rc = rca at *
   generalize a.wA = Va at *
   generalize a.wc = wca at *
   clear hpre
   cases b
   ·go_wp2_with fail
    refine (hx.out).mono ?_
    rintro e w1 ⟨rfl, hf1⟩
    go_wp2
    go_roundw
    case rel => exact ⟨k + 1, by omega, by go_num, Lib.hid (Hst.out (by first | rfl | trivial)), hfr.trans' hf1 (fun _ _ h => h)⟩
    case measure => simp [intOf]; omega
   ·go_wp2_with fail
    refine (hx.out).mono ?_
    rintro e w1 ⟨rfl, hf1⟩
    go_wp2
    go_ret
    exact ⟨by rw [Hfd.out (by first | rfl | trivial)]; rfl, hfr.trans' hf1 (fun _ _ h => h)⟩
  ·obtain rfl : k = n := by omega
   have HE : Hid (firstP p k = -1) := Lib.hid (firstP_none hpre.out)
   clear hpre
   go_wp2
   go_ret
   exact ⟨by rw [HE.out]; rfl, hfr⟩
theorem arcs_snoc16 (l : List Tr) (t : Tr) : (l ++ [t]).flatMap arcC = l.flatMap arcC ++ arcC t := by simp
theorem ndsOf_ndAt (h : List Ndl) {i : Nat} (hi : i < h.length) : ndAt (ndsOf h) i = h[i].n := ndsOf_at hi
theorem drop_flat16 (h : List Ndl) (i : Nat) : (h.drop i).flatMap Ndl.cells = (h.flatMap Ndl.cells).drop (i * 6) := by
 induction h generalizing i with
 | nil => simp
 | cons x r ih =>
  cases i with
  | zero => simp
  | succ i =>
   have e : (i + 1) * 6 = x.cells.length + i * 6 := by show (i + 1) * 6 = 6 + i * 6; omega
   rw [List.drop_succ_cons, ih, List.flatMap_cons, e, List.drop_length_add_append]
theorem nextAt16 (h : List Ndl) (A : Option Addr) (n c i q : Nat) (w : World) (hs : Nds w A h) (hn : h.length = n) (hnm : n ≤ 1048576) (hnc : n ≤ c) (hi : i < h.length) (hq : Bk w q 37 (h[i]'hi).arr) (cc : Nat) :
  Calls Tryz.prog 66 #[.slice (if c = i + 1 then A else A.map (·.add ((i + 1) * 6))) (n - (i + 1)) cc, .func (.func 146) #[] #[.pointer (some ⟨q, 0, none⟩)]] w fun e w' => e = .returned (.int .i64 (nextO (ndsOf h) i)) ∧ Fr No w w' := by
 have hlen : (ndsOf h).length = n := by rw [ndsOf_len]; exact hn
 have hsd := hs.sl.drop (k := i + 1) (n := n) (cap := c) (sz := 6) (by rw [flat_len Ndl.cells 6 Ndl.cells_len, hn]) (by omega) hnc
 rw [← drop_flat16] at hsd
 have e : nextO (ndsOf h) i = firstP (fun k => decide ((ndAt (ndsOf h) (i + 1 + k)).saga = (ndAt (ndsOf h) i).saga)) (n - (i + 1)) := by
  unfold nextO
  rw [hlen]
 rw [e]
 refine idxO16 (h.drop (i + 1)) _ (n - (i + 1)) _ q _ w hsd (by rw [List.length_drop, hn]) (by omega) (fun x W hW => ?_)
 obtain ⟨k, hk⟩ := x
 have hk2 : i + 1 + k < h.length := by rw [List.length_drop] at hk; omega
 have e1 : (h.drop (i + 1))[k] = h[i + 1 + k] := by rw [List.getElem_drop]
 dsimp only
 rw [e1, ndsOf_ndAt h hk2, ndsOf_ndAt h hi]
 exact own1_any h[i] h[i + 1 + k] q W (hq.fr (Fr.ofBelow hW No) (fun e => e))
set_option maxRecDepth 100000 in
set_option maxHeartbeats 4000000 in
theorem own16 (h : List Ndl) (A : Option Addr) (n c : Nat) (w : World) (hs : Nds w A h) (hn : h.length = n) (hnm : n ≤ 1048576) (hnc : n ≤ c) :
  Calls Tryz.prog 117 #[.slice A n c] w fun e w' => ∃ L lc t, e = .returned (.slice L t lc) ∧ t = (ownT (ndsOf h) n).length ∧ w'.ownsRow w.heap.size 121 3 (.slice L t lc) t ((ownT (ndsOf h) n).flatMap arcC) ∧ Fr No w w' := by
 have Hnx := Lib.hid (fun (i q : Nat) (hi : i < h.length) W (hW : Fr No w W) (hq : Bk W q 37 h[i].arr) cc => nextAt16 h A n c i q W (hs.since hW) hn hnm hnc hi hq cc)
 have Hnd := Lib.hid (fun (k : Nat) (hk : k < h.length) W (hW : Fr No w W) => (hs.since hW).sl.nd hk)
 have Hn := Lib.hid hn
 have Hlen : Hid ((ndsOf h).length = n) := Lib.hid (by rw [ndsOf_len]; exact hn)
 have Hstep := Lib.hid (fun (i : Nat) => show ownT (ndsOf h) (i + 1) = ownT (ndsOf h) i ++ (if 0 ≤ nextO (ndsOf h) i then [(i, i + 1 + (nextO (ndsOf h) i).toNat, 1)] else []) from rfl)
 have Hle := Lib.hid (fun (i : Nat) (hi : i ≤ n) => show (ownT (ndsOf h) i).length ≤ i by
  induction i with
  | zero => simp [ownT]
  | succ i ih =>
   have := ih (by omega)
   rw [ownT, List.length_append]
   split
   ·simp; omega
   ·simp; omega)
 have Hpos := Lib.hid (fun (i : Nat) (hi : 0 ≤ nextO (ndsOf h) i) => show nextO (ndsOf h) i < (n : Int) by
  obtain ⟨k, h1, h2, _⟩ := firstP_nat hi
  have h3 : nextO (ndsOf h) i = (k : Int) := h1
  rw [ndsOf_len, hn] at h2
  omega)
 clear hs hn
 go_enter Tryz.func117, Tryz.ntmps117
 have hmf : ∀ (fn : Fn) (first cap : Array Value) (w : World), (Instr.makeFunc fn first cap).run Tryz.prog w = .ok (.func fn first cap) w := fun _ _ _ _ => rfl
 go_wp2
 go_loopw [3, 10] (fun lv iv wr => ∃ (i : Nat) (L : Option Addr) (lc t : Nat), i ≤ n ∧ lv = .slice L t lc ∧ iv = .int .i64 (i : Int) ∧ Hid (t = (ownT (ndsOf h) i).length) ∧ Hid (wr.ownsRow w.heap.size 121 3 (.slice L t lc) t ((ownT (ndsOf h) i).flatMap arcC)) ∧ Hid (Fr No w wr)) (fun _ iv _ => n - (intOf iv).toNat)
 case atStart => exact ⟨0, none, 0, 0, Nat.zero_le _, rfl, rfl, Lib.hid rfl, Lib.hid (World.ownsRow_nil _ _ _ _), Lib.hid (Fr.refl _ _)⟩
 case round =>
  obtain ⟨i, L, lc, t, hi, rfl, rfl, hT, hO, hfr⟩ := hrel
  by_cases hlt : i < n
  ·have hil : i < h.length := by rw [Hn.out]; exact hlt
   have hin : ((i : Nat) : Int) < (n : Int) := by omega
   obtain ⟨ad, rfl, hab, a0, a1, a2, a3, a4, a5⟩ := Hnd.out i hil wr hfr.out
   have ht2 : t ≤ i := by rw [hT.out]; exact Hle.out i hi
   obtain ⟨W1, hW1⟩ : ∃ W1, W1 = wr.alloc (.cells #[.int .i64 h[i].n.saga, .int .i64 h[i].n.cls, .int .i64 h[i].n.step, .bool h[i].n.back, .slice h[i].rA h[i].n.rd.length h[i].rc, .slice h[i].wA h[i].n.wt.length h[i].wc] 37) := ⟨_, rfl⟩
   have f1 : Fr No wr W1 := by rw [hW1]; exact (Fr.refl _ _).alloc _
   have F1 : Hid (Fr No w W1) := Lib.hid (hfr.out.trans' f1 (fun _ _ e => e))
   have bx : Bk W1 wr.heap.size 37 h[i].arr := by rw [hW1]; exact Bk.made _ _ _
   have hC1 := Lib.hid (fun cc => Hnx.out i wr.heap.size hil W1 F1.out bx cc)
   have HO1 := Lib.hid (own_fr hO.out f1 (fun _ _ e => e))
   have hst := Hstep.out i
   have hps := Hpos.out i
   obtain ⟨r, hr⟩ : ∃ r, r = nextO (ndsOf h) i := ⟨_, rfl⟩
   rw [← hr] at hC1 hst hps
   have hwe := hW1.symm
   have hi1 : ((i : Nat) : Int) + 1 ≤ (n : Int) := by omega
   have hin1 : ((i : Int) + 1).toNat = i + 1 := by omega
   clear hW1 f1 bx hO hfr Hnx Hnd Hstep Hpos hr
   generalize h[i] = y at *
   by_cases h0 : 0 ≤ r
   ·have hb := hps h0
    rw [if_pos h0] at hst
    have Hst := Lib.hid hst
    have d0 : decide (0 ≤ r) = true := decide_eq_true h0
    obtain ⟨k, rfl⟩ := Int.eq_ofNat_of_zero_le h0
    rw [Int.toNat_natCast] at Hst
    clear hst hps h0
    obtain ⟨hc1, -⟩ | ⟨hc1, -⟩ : ((c = i + 1) = True ∧ True) ∨ ((c = i + 1) = False ∧ True) := by
     by_cases e : c = i + 1
     ·exact .inl ⟨eq_true e, trivial⟩
     ·exact .inr ⟨eq_false e, trivial⟩
    all_goals
     simp only [hc1, if_true, if_false] at hC1
     go_wp2_with fail
     refine (hC1.out _).mono ?_
     rintro e w2 ⟨rfl, f2⟩
     have F2 := Lib.hid (F1.out.trans' f2 (fun _ _ e => e))
     have HO2 := Lib.hid (own_fr HO1.out f2 (fun _ _ e => e))
     have hbase := F2.out.size
     clear f2 hC1 HO1 F1
     go_wp2_with (at_builtin; refine wpList_append_elem rfl _ _ _ rfl w.heap.size 121 (.agg #[.int .i64 0, .int .i64 0, .int .i64 0]) 3 24 Tryz.underlying118 info_arc16p rfl (by omega) (.slice L t lc) t _ #[.int .i64 (i : Int), .int .i64 ((i + 1 + k : Nat) : Int), .int .i64 1] rfl (by intro u hu; simp at hu; rcases hu with rfl | rfl | rfl <;> rfl) rfl w2.heap.size rfl rfl HO2.out (by unfold maxLen; omega) (by omega) hbase ?r2)
     case r2 =>
      intro A1 c1 w1 hown1 hf1 hg1
      have HO3 : Hid (w1.ownsRow w.heap.size 121 3 (.slice A1 (t + 1) c1) (t + 1) ((ownT (ndsOf h) (i + 1)).flatMap arcC)) := Lib.hid (by rw [Hst.out, arcs_snoc16]; exact hown1)
      have HT2 : Hid (t + 1 = (ownT (ndsOf h) (i + 1)).length) := Lib.hid (by rw [Hst.out, List.length_append, ← hT.out]; rfl)
      have HF2 := Lib.hid (F2.out.trans' hf1 (fun k hk e => by have := HO2.out.lt k e; omega))
      clear hown1 hf1 hg1 HO2 F2 hT Hst
      go_wp2
      go_roundw
      case rel => exact ⟨i + 1, A1, c1, t + 1, by omega, rfl, by go_num, HT2, HO3, HF2⟩
      case measure => simp [intOf]; omega
   ·rw [if_neg h0, List.append_nil] at hst
    have Hst := Lib.hid hst
    have d0 : decide (0 ≤ r) = false := decide_eq_false h0
    clear hst hps
    obtain ⟨hc1, -⟩ | ⟨hc1, -⟩ : ((c = i + 1) = True ∧ True) ∨ ((c = i + 1) = False ∧ True) := by
     by_cases e : c = i + 1
     ·exact .inl ⟨eq_true e, trivial⟩
     ·exact .inr ⟨eq_false e, trivial⟩
    all_goals
     simp only [hc1, if_true, if_false] at hC1
     go_wp2_with fail
     refine (hC1.out _).mono ?_
     rintro e w2 ⟨rfl, f2⟩
     have F2 := Lib.hid (F1.out.trans' f2 (fun _ _ e => e))
     have HO2 := Lib.hid (own_fr HO1.out f2 (fun _ _ e => e))
     clear f2 hC1 HO1 F1
     go_wp2
     go_roundw
     case rel => exact ⟨i + 1, L, lc, t, by omega, rfl, by go_num, Lib.hid (by rw [Hst.out]; exact hT.out), Lib.hid (by rw [Hst.out]; exact HO2.out), F2⟩
     case measure => simp [intOf]; omega
  ·obtain rfl : i = n := by omega
   clear Hnx Hnd Hstep Hpos Hle
   go_wp2
   go_ret
   exact ⟨L, lc, t, rfl, hT.out, hO.out, hfr.out⟩
end Go.Proofs.YtmeimhpllemjfaaGreat
/- Package rsg: the arcs that there are since a node depends on one of another saga. -/
namespace Go.Proofs.YtmeimhpllemjfaaGreat
open Go.RowKit

theorem own_noMap16 {w : World} {base size n m c : Nat} {e : TypeId} {v : Value} {xs : List Value} {E : Int → Int → Int} (h : w.ownsRow base e size v n xs) (hm : KM w m c E) : v.ownBlock ≠ some m := by
 rcases h.2 with ⟨rfl, _⟩ | ⟨g, cap, cur, rfl, _, hb, _⟩
 ·simp [Value.ownBlock]
 ·intro e
  simp only [Value.ownBlock, Option.some.injEq] at e
  exact hm.apart (t' := _) (show Bk w g _ cur from hb) e.symm
theorem own_frM {w W : World} {base size n m c : Nat} {e : TypeId} {v : Value} {xs : List Value} {E : Int → Int → Int} (h : w.ownsRow base e size v n xs) (hm : KM w m c E) (hf : Fr (fun x => x = m) w W) : W.ownsRow base e size v n xs :=
 own_fr h hf (fun k hk e => own_noMap16 h hm (by rw [hk, e]))
theorem Own15.frM {w W : World} {B c m d : Nat} {A : Option Addr} {ls : List IL} {E : Int → Int → Int} (h : Own15 w B A c ls) (hm : KM w m d E) (hf : Fr (fun x => x = m) w W) : Own15 W B A c ls :=
 ⟨own_frM h.row hm hf, fun x hx => own_frM (h.all x hx) hm hf⟩
theorem Own15.frA {w W : World} {B base n c : Nat} {A : Option Addr} {v : Value} {xs : List Value} {ls : List IL} (h : Own15 w B A c ls) (ho : w.ownsRow base 121 3 v n xs) (hf : Fr (fun k => v.ownBlock = some k) w W) : Own15 W B A c ls :=
 ⟨own_fr h.row hf (fun k hk e => own_types h.row ho (by decide) hk e), fun x hx => own_fr (h.all x hx) hf (fun k hk e => own_types (h.all x hx) ho (by decide) hk e)⟩
structure AcS (w : World) (Z : Array Value) (A : Option Addr) (n c b1 f1 m1 b2 f2 m2 : Nat) (E1 E2 : Int → Int → Int) (cc : Nat) (V : World) : Prop where
 bz : Bk V w.heap.size 26 Z
 bh : Bk V (w.heap.size + 1) 27 #[.slice A n c]
 g1 : Bk V f1 142 #[.func (.func 148) #[] #[.pointer (some ⟨w.heap.size, 0, none⟩), .pointer (some ⟨w.heap.size + 1, 0, none⟩)]]
 k1 : Bk V b1 202 #[.map (some m1)]
 g2 : Bk V f2 142 #[.func (.func 149) #[] #[.pointer (some ⟨w.heap.size, 0, none⟩), .pointer (some ⟨w.heap.size + 1, 0, none⟩)]]
 k2 : Bk V b2 202 #[.map (some m2)]
 s1 : KM V m1 cc E1
 s2 : KM V m2 cc E2
 ne : m1 ≠ m2
 n1 : w.heap.size ≤ m1
 n2 : w.heap.size ≤ m2
 fr : Fr No w V
section
variable {w : World} {Z : Array Value} {A : Option Addr} {n c b1 f1 m1 b2 f2 m2 : Nat} {E1 E2 : Int → Int → Int} {cc : Nat} {V U : World}
theorem AcS.since (h : AcS w Z A n c b1 f1 m1 b2 f2 m2 E1 E2 cc V) (hf : Fr No V U) : AcS w Z A n c b1 f1 m1 b2 f2 m2 E1 E2 cc U :=
 ⟨h.bz.fr hf (fun e => e), h.bh.fr hf (fun e => e), h.g1.fr hf (fun e => e), h.k1.fr hf (fun e => e), h.g2.fr hf (fun e => e), h.k2.fr hf (fun e => e), h.s1.fr hf (fun e => e), h.s2.fr hf (fun e => e), h.ne, h.n1, h.n2, h.fr.trans' hf (fun _ _ e => e)⟩
theorem AcS.step1 (h : AcS w Z A n c b1 f1 m1 b2 f2 m2 E1 E2 cc V) (hf : Fr (fun x => x = m1) V U) (hk : KM U m1 (cc + 1) E1) : AcS w Z A n c b1 f1 m1 b2 f2 m2 E1 E2 (cc + 1) U :=
 ⟨h.bz.fr hf (fun e => h.s1.apart h.bz e.symm), h.bh.fr hf (fun e => h.s1.apart h.bh e.symm), h.g1.fr hf (fun e => h.s1.apart h.g1 e.symm), h.k1.fr hf (fun e => h.s1.apart h.k1 e.symm), h.g2.fr hf (fun e => h.s1.apart h.g2 e.symm), h.k2.fr hf (fun e => h.s1.apart h.k2 e.symm), hk, (h.s2.fr hf (fun e => h.ne e.symm)).mono (Nat.le_succ _), h.ne, h.n1, h.n2, h.fr.trans' hf (fun i hi e => by have := h.n1; omega)⟩
theorem AcS.step2 (h : AcS w Z A n c b1 f1 m1 b2 f2 m2 E1 E2 cc V) (hf : Fr (fun x => x = m2) V U) (hk : KM U m2 (cc + 1) E2) : AcS w Z A n c b1 f1 m1 b2 f2 m2 E1 E2 (cc + 1) U :=
 ⟨h.bz.fr hf (fun e => h.s2.apart h.bz e.symm), h.bh.fr hf (fun e => h.s2.apart h.bh e.symm), h.g1.fr hf (fun e => h.s2.apart h.g1 e.symm), h.k1.fr hf (fun e => h.s2.apart h.k1 e.symm), h.g2.fr hf (fun e => h.s2.apart h.g2 e.symm), h.k2.fr hf (fun e => h.s2.apart h.k2 e.symm), (h.s1.fr hf (fun e => h.ne e)).mono (Nat.le_succ _), hk, h.ne, h.n1, h.n2, h.fr.trans' hf (fun i hi e => by have := h.n2; omega)⟩
theorem AcS.app (h : AcS w Z A n c b1 f1 m1 b2 f2 m2 E1 E2 cc V) {v : Value} {k : Nat} {xs : List Value} (ho : V.ownsRow w.heap.size 121 3 v k xs) (hf : Fr (fun k => v.ownBlock = some k) V U) : AcS w Z A n c b1 f1 m1 b2 f2 m2 E1 E2 cc U :=
 ⟨h.bz.fr hf (own_apart ho h.bz (by decide)), h.bh.fr hf (own_apart ho h.bh (by decide)), h.g1.fr hf (own_apart ho h.g1 (by decide)), h.k1.fr hf (own_apart ho h.k1 (by decide)), h.g2.fr hf (own_apart ho h.g2 (by decide)), h.k2.fr hf (own_apart ho h.k2 (by decide)), h.s1.fr hf (own_noMap16 ho h.s1), h.s2.fr hf (own_noMap16 ho h.s2), h.ne, h.n1, h.n2, h.fr.trans' hf (fun i hi e => by have := ho.lt i e; omega)⟩
end
def eF (x : PCt) (h : List Nd) (n : Nat) (i d : Int) : Int := firstP (qU x h i d) n
def eL (x : PCt) (h : List Nd) (n : Nat) (i d : Int) : Int := lastP (qU x h i d) n
section
variable (x : Ctl) (h : List Ndl) (A : Option Addr) (n c : Nat) (w : World) (hx : Clss w x.cA x.cls) (hB : x.Big) (hs : Nds w A h) (hn : h.length = n) (hnm : n ≤ 1048576) (hnc : n ≤ c) (hf : Nds.Few h)
include hx hB hs hn hnm hnc hf
theorem askF16 {b1 f1 m1 b2 f2 m2 cc : Nat} {V : World} (hA : AcS w x.arr A n c b1 f1 m1 b2 f2 m2 (eF x.p (ndsOf h) n) (eL x.p (ndsOf h) n) cc V) (hc : cc ≤ 1048576) {i d : Int} (hi : wf64 i) (hd : wf64 d) :
  Calls Tryz.prog 169 #[.int .i64 i, .int .i64 d, .pointer (some ⟨b1, 0, none⟩), .pointer (some ⟨f1, 0, none⟩)] V fun e w' => e = .returned (.int .i64 (eF x.p (ndsOf h) n i d)) ∧ AcS w x.arr A n c b1 f1 m1 b2 f2 m2 (eF x.p (ndsOf h) n) (eL x.p (ndsOf h) n) (cc + 1) w' ∧ KM V m1 cc (eF x.p (ndsOf h) n) ∧ Fr (fun x => x = m1) V w' := by
 refine (kept1_1 f1 b1 m1 cc w.heap.size (w.heap.size + 1) (eF x.p (ndsOf h) n) i d V hi hd hc hA.g1 hA.k1 hA.s1 (acr1_any x h A n c w.heap.size (w.heap.size + 1) i d V hA.bz hA.bh (hx.since hA.fr) hB (hs.since hA.fr) hn hnm hnc hf)).mono ?_
 rintro e w' ⟨q1, q2, q3⟩
 exact ⟨q1, hA.step1 q3 q2, hA.s1, q3⟩
theorem askL16 {b1 f1 m1 b2 f2 m2 cc : Nat} {V : World} (hA : AcS w x.arr A n c b1 f1 m1 b2 f2 m2 (eF x.p (ndsOf h) n) (eL x.p (ndsOf h) n) cc V) (hc : cc ≤ 1048576) {i d : Int} (hi : wf64 i) (hd : wf64 d) :
  Calls Tryz.prog 169 #[.int .i64 i, .int .i64 d, .pointer (some ⟨b2, 0, none⟩), .pointer (some ⟨f2, 0, none⟩)] V fun e w' => e = .returned (.int .i64 (eL x.p (ndsOf h) n i d)) ∧ AcS w x.arr A n c b1 f1 m1 b2 f2 m2 (eF x.p (ndsOf h) n) (eL x.p (ndsOf h) n) (cc + 1) w' ∧ KM V m2 cc (eL x.p (ndsOf h) n) ∧ Fr (fun x => x = m2) V w' := by
 refine (kept1_2 f2 b2 m2 cc w.heap.size (w.heap.size + 1) (eL x.p (ndsOf h) n) i d V hi hd hc hA.g2 hA.k2 hA.s2 (acr2_any x h A n c w.heap.size (w.heap.size + 1) i d V hA.bz hA.bh (hx.since hA.fr) hB (hs.since hA.fr) hn hnm hnc hf)).mono ?_
 rintro e w' ⟨q1, q2, q3⟩
 exact ⟨q1, hA.step2 q3 q2, hA.s2, q3⟩
end
theorem uGood16 {x : PCt} {h : List Nd} (hm : mayH x h = true) {k j : Nat} (hk : k < h.length) (hj : j < h.length) : uGood x h (k : Int) (ndAt h j).cls = true := by
 unfold uGood
 rw [decide_eq_true (by omega), hm]
 have pa := selfOk_parts (ndOk_self (mayH_at hm hj))
 have ha1 := pa.2.1
 rw [ha1]
 rfl
theorem eL16 {x : PCt} {h : List Nd} (hm : mayH x h = true) {k j : Nat} (hk : k < h.length) (hj : j < h.length) : eL x h h.length (k : Int) (ndAt h j).cls = (((lastU x h k (ndAt h j).cls).toNat : Nat) : Int) := by
 have h1 := lastU_nat (x := x) hk (ndAt h j).cls
 have e : qU x h (k : Int) (ndAt h j).cls = fun m => inN x h k m (ndAt h j).cls := by
  funext m
  unfold qU
  rw [uGood16 hm hk hj, Bool.true_and, Int.toNat_natCast]
 unfold eL
 rw [e]
 show lastU x h k (ndAt h j).cls = _
 omega
theorem eF16 {x : PCt} {h : List Nd} (hm : mayH x h = true) {k j : Nat} (hk : k < h.length) (hj : j < h.length) : eF x h h.length (k : Int) (ndAt h j).cls = (((firstU x h k (ndAt h j).cls).toNat : Nat) : Int) := by
 have h1 := firstU_nat (x := x) hk (ndAt h j).cls
 have e : qU x h (k : Int) (ndAt h j).cls = fun m => inN x h k m (ndAt h j).cls := by
  funext m
  unfold qU
  rw [uGood16 hm hk hj, Bool.true_and, Int.toNat_natCast]
 unfold eF
 rw [e]
 show firstU x h k (ndAt h j).cls = _
 omega
theorem wp_arcs16 {w : World} {o : Oper} {a : Act} {K : Act → World → Prop} {Q : Exit → Act → World → Prop} (s x : Operand) (d : Tmp) (hd : o.dst = some d)
  (ho : o.op = .call { callee := .builtin .append, args := #[s, x], argTypes := #[118, 118] })
  (base : Nat) (A : Option Addr) (n c : Nat) (xs : List Tr) (hs : a.eval s = .slice A n c) (B : Nat) (A2 : Option Addr) (m c2 : Nat) (ys : List Tr) (hx : a.eval x = .slice A2 m c2) (hm : ys.length = m) (hr : Sl w B A2 (ys.flatMap arcC))
  (hown : w.ownsRow base 121 3 (.slice A n c) n (xs.flatMap arcC)) (hlen : n + m ≤ 1048576) (hbase : base ≤ w.heap.size)
  (h : ∀ A' c' w', w'.ownsRow base 121 3 (.slice A' (n + m) c') (n + m) ((xs ++ ys).flatMap arcC) → Fr (fun k => (Value.slice A n c).ownBlock = some k) w w' → K (a.put (some d) (.slice A' (n + m) c')) w') :
  Oper.wp Tryz.prog o a w K Q := by
 rw [← hd] at h
 obtain ⟨i, hi, hz, hz1, hz2⟩ := info_parts info_arc16p
 refine wp_append_src w s x _ ho base 121 i _ 3 24 Tryz.underlying118 hi hz hz1 hz2 rfl (by omega) (.slice A n c) n (xs.flatMap arcC) hs hown B A2 m c2 (ys.flatMap arcC) hx (by rw [show (ys.flatMap arcC).length = ys.length * 3 from flat_len _ 3 arcC_len ys, hm]) hr (arcs_one ys) (by unfold maxLen; omega) (by omega) hbase ?_
 intro v' w' q1 q2 q3
 obtain ⟨A', c', rfl, -, -, -⟩ := own_shape q1
 rw [show xs.flatMap arcC ++ ys.flatMap arcC = (xs ++ ys).flatMap arcC from (List.flatMap_append).symm] at q1
 exact h A' c' w' q1 ((Fr.refl _ w).grown q2 (fun k hk => .inl hk))

set_option maxRecDepth 100000 in
set_option maxHeartbeats 8000000 in
theorem across16 (x : Ctl) (h : List Ndl) (A : Option Addr) (n c : Nat) (w : World) (hx : Clss w x.cA x.cls) (hB : x.Big) (hs : Nds w A h) (hn : h.length = n) (hn24 : n ≤ 24) (hnc : n ≤ c) (hf : Nds.Few h) (hm : mayH x.p (ndsOf h) = true) :
  Calls Tryz.prog 118 #[x.agg, .slice A n c] w fun e w' => ∃ L lc t, e = .returned (.slice L t lc) ∧ t = (acrT x.p (ndsOf h) n).length ∧ t ≤ 1800 ∧ w'.ownsRow w.heap.size 121 3 (.slice L t lc) t ((acrT x.p (ndsOf h) n).flatMap arcC) ∧ Fr No w w' := by
 have hlen : (ndsOf h).length = n := by rw [ndsOf_len]; exact hn
 have HK1 := Lib.hid (fun (W : World) => kept_1 w.heap.size (w.heap.size + 1) (eF x.p (ndsOf h) n) W)
 have HK2 := Lib.hid (fun (W : World) => kept_2 w.heap.size (w.heap.size + 1) (eL x.p (ndsOf h) n) W)
 have HOf := Lib.hid (fun W (hW : Fr No w W) => of15 h A n c W (hs.since hW) hn (by omega) hnc (fun a b ha hb V hV => conflictU_any h[a] h[b] V (((hs.since hW).all _ (List.getElem_mem ha)).since hV) (((hs.since hW).all _ (List.getElem_mem hb)).since hV) (hf.all _ (List.getElem_mem ha)).1 (hf.all _ (List.getElem_mem ha)).2 (hf.all _ (List.getElem_mem hb)).1 (hf.all _ (List.getElem_mem hb)).2))
 have Hnd := Lib.hid (fun (k : Nat) (hk : k < h.length) W (hW : Fr No w W) => (hs.since hW).sl.nd hk)
 have HaF := Lib.hid (fun (b1 f1 m1 b2 f2 m2 cc : Nat) V (hA : AcS w x.arr A n c b1 f1 m1 b2 f2 m2 (eF x.p (ndsOf h) n) (eL x.p (ndsOf h) n) cc V) (hc : cc ≤ 1048576) (k j : Nat) (hk : k < h.length) (hj : j < h.length) => show Calls Tryz.prog 169 #[.int .i64 (k : Int), .int .i64 h[j].n.cls, .pointer (some ⟨b1, 0, none⟩), .pointer (some ⟨f1, 0, none⟩)] V fun e w' => e = .returned (.int .i64 (((firstU x.p (ndsOf h) k h[j].n.cls).toNat : Nat) : Int)) ∧ AcS w x.arr A n c b1 f1 m1 b2 f2 m2 (eF x.p (ndsOf h) n) (eL x.p (ndsOf h) n) (cc + 1) w' ∧ KM V m1 cc (eF x.p (ndsOf h) n) ∧ Fr (fun x => x = m1) V w' by
  have e := eF16 hm (k := k) (j := j) (by omega) (by omega)
  have pa := selfOk_parts (ndOk_self (mayH_at hm (i := j) (by omega)))
  have hcl := pa.2.1
  rw [ndsOf_at hj] at e hcl
  rw [has_eq, decide_eq_true_eq] at hcl
  rw [hlen] at e
  rw [← e]
  exact askF16 x h A n c w hx hB hs hn (by omega) hnc hf hA hc (wf64_of (by omega) (by omega)) (wf64_of (by omega) (by have := (nice_of_ok (mayH_cat hm)).few.n; omega)))
 have HaL := Lib.hid (fun (b1 f1 m1 b2 f2 m2 cc : Nat) V (hA : AcS w x.arr A n c b1 f1 m1 b2 f2 m2 (eF x.p (ndsOf h) n) (eL x.p (ndsOf h) n) cc V) (hc : cc ≤ 1048576) (k j : Nat) (hk : k < h.length) (hj : j < h.length) => show Calls Tryz.prog 169 #[.int .i64 (k : Int), .int .i64 h[j].n.cls, .pointer (some ⟨b2, 0, none⟩), .pointer (some ⟨f2, 0, none⟩)] V fun e w' => e = .returned (.int .i64 (((lastU x.p (ndsOf h) k h[j].n.cls).toNat : Nat) : Int)) ∧ AcS w x.arr A n c b1 f1 m1 b2 f2 m2 (eF x.p (ndsOf h) n) (eL x.p (ndsOf h) n) (cc + 1) w' ∧ KM V m2 cc (eL x.p (ndsOf h) n) ∧ Fr (fun x => x = m2) V w' by
  have e := eL16 hm (k := k) (j := j) (by omega) (by omega)
  have pa := selfOk_parts (ndOk_self (mayH_at hm (i := j) (by omega)))
  have hcl := pa.2.1
  rw [ndsOf_at hj] at e hcl
  rw [has_eq, decide_eq_true_eq] at hcl
  rw [hlen] at e
  rw [← e]
  exact askL16 x h A n c w hx hB hs hn (by omega) hnc hf hA hc (wf64_of (by omega) (by omega)) (wf64_of (by omega) (by have := (nice_of_ok (mayH_cat hm)).few.n; omega)))
 have Hn := Lib.hid hn
 have Hpair := Lib.hid (fun (b a : Nat) (hb : b < h.length) (ha : a < h.length) => show pairT x.p (ndsOf h) b a = if h[a].n.saga = h[b].n.saga then [] else [(a, b, 2), ((lastU x.p (ndsOf h) a h[b].n.cls).toNat, b, 3), (a, (firstU x.p (ndsOf h) b h[a].n.cls).toNat, 4)] by
  unfold pairT
  rw [ndsOf_at ha, ndsOf_at hb])
 have Hacr := Lib.hid (fun (b : Nat) => show acrT x.p (ndsOf h) (b + 1) = acrT x.p (ndsOf h) b ++ (depL (ndsOf h) b).flatMap (pairT x.p (ndsOf h) b) from rfl)
 have Hdl := Lib.hid (fun (b : Nat) => depL_len (ndsOf h) b)
 have Hdlt := Lib.hid (fun (b j : Nat) (hj : j < (depL (ndsOf h) b).length) => show (depL (ndsOf h) b)[j] < h.length by
  have := depB_lt (depL_mem.1 (List.getElem_mem hj))
  omega)
 clear hm
 unfold Ctl.agg
 obtain ⟨Z, hZ⟩ : ∃ Z, Z = x.arr := ⟨_, rfl⟩
 simp only [← hZ] at HaF HaL ⊢
 obtain ⟨W0, hW0⟩ : ∃ W0, W0 = (w.alloc (.cells Z 26)).alloc (.cells #[.slice A n c] 27) := ⟨_, rfl⟩
 have HF0 : Hid (Fr No w W0) := Lib.hid (by rw [hW0]; exact ((Fr.refl _ _).alloc _).alloc _)
 have HBZ : Hid (Bk W0 w.heap.size 26 Z) := Lib.hid (by rw [hW0]; exact (Bk.made w _ _).alloc _)
 have HBH : Hid (Bk W0 (w.heap.size + 1) 27 #[.slice A n c]) := Lib.hid (by
  rw [hW0]
  have := Bk.made (w.alloc (.cells Z 26)) 27 #[.slice A n c]
  rwa [World.size_alloc] at this)
 have hwe := hW0.symm
 have hmf : ∀ (fn : Fn) (first cap : Array Value) (w : World), (Instr.makeFunc fn first cap).run Tryz.prog w = .ok (.func fn first cap) w := fun _ _ _ _ => rfl
 generalize eF x.p (ndsOf h) n = E1 at *
 generalize eL x.p (ndsOf h) n = E2 at *
 generalize x.p = xp at *
 generalize ndsOf h = hp at *
 clear hZ hW0 hx hB hs hn hf
 go_enter Tryz.func118, Tryz.ntmps118
 go_wp2_with fail
 refine (HK1.out _).mono ?_
 rintro e w1 ⟨b1, f1, m1, rfl, q1, q2, q3, g1, hm1⟩
 have HB1 := Lib.hid (And.intro q1 (And.intro q2 q3))
 have HG1 := Lib.hid g1
 have hsz1 := g1.size
 have hm1lt := q3.lt
 clear q1 q2 q3 g1 HK1 hwe
 go_wp2_with fail
 refine (HK2.out _).mono ?_
 rintro e w2 ⟨b2, f2, m2, rfl, q1, q2, q3, g2, hm2⟩
 have HA : Hid (AcS w Z A n c b1 f1 m1 b2 f2 m2 E1 E2 0 w2) := Lib.hid ⟨(HBZ.out.fr HG1.out (fun e => e)).fr g2 (fun e => e), (HBH.out.fr HG1.out (fun e => e)).fr g2 (fun e => e), HB1.out.1.fr g2 (fun e => e), HB1.out.2.1.fr g2 (fun e => e), q1, q2, HB1.out.2.2.fr g2 (fun e => e), q3, by omega, by have := HF0.out.size; omega, by have := HF0.out.size; omega, (HF0.out.trans' HG1.out (fun _ _ e => e)).trans' g2 (fun _ _ e => e)⟩
 have x3 : w2.cell? ⟨w.heap.size + 1, 0, none⟩ = some (.slice A n c) := HA.out.bh.cell 0
 clear q1 q2 q3 g2 HK2 HB1 HG1 HBZ HBH HF0 hm1lt hsz1 hm1 hm2
 go_wp2_with fail
 refine (HOf.out _ HA.out.fr).mono ?_
 rintro e w3 ⟨AL, ls, lcL, rfl, hI3, hO3, f3⟩
 have HA3 := Lib.hid (HA.out.since f3)
 have HI3 := Lib.hid hI3
 have HLs := Lib.hid hO3.len
 have HLa := Lib.hid (fun (b : Nat) (hb : b < ls.length) => hO3.at hb)
 obtain ⟨nl, hnl⟩ : ∃ k, ls.length = k := ⟨_, rfl⟩
 have Hnl := Lib.hid hnl
 have Hnn : Hid (nl = n) := Lib.hid (by rw [← hnl, HLs.out]; exact hlen)
 clear hI3 hO3 f3 HA HOf HLs x3 hlen
 rw [hnl]
 clear hnl
 obtain rfl := Hnn.out
 clear Hnn
 go_wp2
 go_loopw [7, 19] (fun lv iv wr => ∃ (b : Nat) (L : Option Addr) (lc t cc : Nat), b ≤ nl ∧ lv = .slice L t lc ∧ iv = .int .i64 (b : Int) ∧ t ≤ 72 * b ∧ cc ≤ 48 * b ∧ Hid (t = (acrT xp hp b).length) ∧ Hid (wr.ownsRow w.heap.size 121 3 (.slice L t lc) t ((acrT xp hp b).flatMap arcC)) ∧ Hid (AcS w Z A nl c b1 f1 m1 b2 f2 m2 E1 E2 cc wr) ∧ Hid (Own15 wr w2.heap.size AL lcL ls)) (fun _ iv _ => nl - (intOf iv).toNat)
 case atStart => exact ⟨0, none, 0, 0, 0, Nat.zero_le _, rfl, rfl, by omega, by omega, Lib.hid rfl, Lib.hid (World.ownsRow_nil _ _ _ _), HA3, HI3⟩
 case round =>
  clear HA3 HI3
  obtain ⟨b, L, lc, t, cc, hb, rfl, rfl, ht, hcc0, hT, hO, hA, hI⟩ := hrel
  by_cases hlt : b < nl
  ·have hbl : b < h.length := by rw [Hn.out]; exact hlt
   have hbls : b < ls.length := by rw [Hnl.out]; exact hlt
   have hbn : ((b : Nat) : Int) < (nl : Int) := by omega
   obtain ⟨al, rfl, hal, e0⟩ := hI.out.ils.sl.il hbls
   have hla := HLa.out b hbls
   have hdl := Hdl.out b
   have HSt := Hacr.out b
   have HI2 := Lib.hid (fun W (hW : Own15 W w2.heap.size (some al) lcL ls) => show Sl W W.heap.size ls[b].A (nums (depL hp b)) by
    have := hW.ils.all _ (List.getElem_mem hbls)
    rwa [hla] at this)
   rw [hla] at e0
   clear hla hal
   generalize ls[b].A = A2 at *
   generalize ls[b].c = c2 at *
   obtain ⟨ll, hll⟩ : ∃ k, (depL hp b).length = k := ⟨_, rfl⟩
   rw [hll] at e0 hdl
   have Hll := Lib.hid hll
   have HST := Lib.hid HSt
   clear hll HSt
   go_wp2
   go_loopw [7, 26] (fun lv jv wv => ∃ (j : Nat) (L : Option Addr) (lc t cc : Nat), j ≤ ll ∧ lv = .slice L t lc ∧ jv = .int .i64 (j : Int) ∧ t ≤ 72 * b + 3 * j ∧ cc ≤ 48 * b + 2 * j ∧ Hid (t = (acrT xp hp b ++ ((depL hp b).take j).flatMap (pairT xp hp b)).length) ∧ Hid (wv.ownsRow w.heap.size 121 3 (.slice L t lc) t ((acrT xp hp b ++ ((depL hp b).take j).flatMap (pairT xp hp b)).flatMap arcC)) ∧ Hid (AcS w Z A nl c b1 f1 m1 b2 f2 m2 E1 E2 cc wv) ∧ Hid (Own15 wv w2.heap.size (some al) lcL ls)) (fun _ jv _ => ll - (intOf jv).toNat)
   case atStart => exact ⟨0, L, lc, t, cc, Nat.zero_le _, rfl, rfl, by omega, by omega, Lib.hid (by simpa using hT.out), Lib.hid (by simpa using hO.out), hA, hI⟩
   case round =>
    clear hT hO hA hI e0 ht hcc0
    obtain ⟨j, L, lc, t, cc, hj, rfl, rfl, ht, hcc0, hT, hO, hA, hI⟩ := hrel
    by_cases hjl : j < ll
    ·have hjl2 : j < (depL hp b).length := by rw [Hll.out]; exact hjl
     have hjn : ((j : Nat) : Int) < (ll : Int) := by omega
     obtain ⟨ae, rfl, hae, a0⟩ := (HI2.out wr hI.out).num hjl2
     have hal := Hdlt.out b j hjl2
     have haln : (depL hp b)[j] < nl := by rw [← Hn.out]; exact hal
     have hst : (depL hp b).take (j + 1) = (depL hp b).take j ++ [(depL hp b)[j]] := List.take_succ_eq_append_getElem hjl2
     generalize (depL hp b)[j] = a at *
     have han : ((a : Nat) : Int) < (nl : Int) := by omega
     have x3 : wr.cell? ⟨w.heap.size + 1, 0, none⟩ = some (.slice A nl c) := hA.out.bh.cell 0
     obtain ⟨ad, rfl, -, s0, -⟩ := Hnd.out a hal wr hA.out.fr
     obtain ⟨ad', had, -, s1, -⟩ := Hnd.out b hbl wr hA.out.fr
     obtain rfl : ad = ad' := by injection had
     clear had
     have hp0 := Hpair.out b a hbl hal
     by_cases heq : h[a].n.saga = h[b].n.saga
     ·rw [if_pos heq] at hp0
      have Hst2 : Hid (acrT xp hp b ++ ((depL hp b).take (j + 1)).flatMap (pairT xp hp b) = acrT xp hp b ++ ((depL hp b).take j).flatMap (pairT xp hp b)) := Lib.hid (by rw [hst, List.flatMap_append, List.flatMap_singleton, hp0, List.append_nil])
      have HT2 : Hid (t = (acrT xp hp b ++ ((depL hp b).take (j + 1)).flatMap (pairT xp hp b)).length) := Lib.hid (by rw [Hst2.out]; exact hT.out)
      have d1 : (h[a].n.saga == h[b].n.saga) = true := by simp [heq]
      have HO2 := Lib.hid (fun (W : World) (hW : W.ownsRow w.heap.size 121 3 (.slice L t lc) t ((acrT xp hp b ++ ((depL hp b).take j).flatMap (pairT xp hp b)).flatMap arcC)) => show W.ownsRow w.heap.size 121 3 (.slice L t lc) t ((acrT xp hp b ++ ((depL hp b).take (j + 1)).flatMap (pairT xp hp b)).flatMap arcC) by rw [Hst2.out]; exact hW)
      clear hst hp0 Hst2 hT heq
      generalize h[a].n.saga = sa at *
      generalize h[b].n.saga = sb at *
      go_wp2_with fail
      go_quiet (fail)
      have HOd := Lib.hid (HO2.out _ (own_fr hO.out ((Fr.refl No wr).drewN nq) (fun _ _ e => e)))
      have HAd := Lib.hid (hA.out.since ((Fr.refl No wr).drewN nq))
      have HId := Lib.hid (hI.out.fr ((Fr.refl No wr).drewN nq))
      clear hO hA hI HO2
      go_wp2
      go_roundw
      case rel => exact ⟨j + 1, L, lc, t, cc, by omega, rfl, by go_num, by omega, by omega, HT2, HOd, HAd, HId⟩
      case measure => simp [intOf]; omega
     ·rw [if_neg heq] at hp0
      have d1 : (h[a].n.saga == h[b].n.saga) = false := by simpa using heq
      have HH := Lib.hid (fun V cc (hV : AcS w Z (some ad) nl c b1 f1 m1 b2 f2 m2 E1 E2 cc V) => show V.cell? ⟨w.heap.size + 1, 0, none⟩ = some (.slice (some ad) nl c) ∧ V.cell? ⟨(ad.add (b * 6)).block, (ad.add (b * 6)).off + 1, none⟩ = some (.int .i64 h[b].n.cls) ∧ V.cell? ⟨(ad.add (a * 6)).block, (ad.add (a * 6)).off + 1, none⟩ = some (.int .i64 h[a].n.cls) by
       obtain ⟨ad1, e1, -, -, q1, -⟩ := Hnd.out a hal V hV.fr
       obtain ⟨ad2, e2, -, -, q2, -⟩ := Hnd.out b hbl V hV.fr
       injection e1 with e1
       injection e2 with e2
       subst e1
       subst e2
       exact ⟨hV.bh.cell 0, q2, q1⟩)
      have HcL := Lib.hid (fun V cc (hV : AcS w Z (some ad) nl c b1 f1 m1 b2 f2 m2 E1 E2 cc V) (hc : cc ≤ 1048576) => HaL.out b1 f1 m1 b2 f2 m2 cc V hV hc a b hal hbl)
      have HcF := Lib.hid (fun V cc (hV : AcS w Z (some ad) nl c b1 f1 m1 b2 f2 m2 E1 E2 cc V) (hc : cc ≤ 1048576) => HaF.out b1 f1 m1 b2 f2 m2 cc V hV hc b a hbl hal)
      generalize (lastU xp hp a h[b].n.cls).toNat = l2 at *
      generalize (firstU xp hp b h[a].n.cls).toNat = l1 at *
      have Hst : Hid (acrT xp hp b ++ ((depL hp b).take (j + 1)).flatMap (pairT xp hp b) = (acrT xp hp b ++ ((depL hp b).take j).flatMap (pairT xp hp b)) ++ [(a, b, 2), (l2, b, 3), (a, l1, 4)]) := Lib.hid (by rw [hst, List.flatMap_append, List.flatMap_singleton, hp0, List.append_assoc])
      clear hst hp0 heq
      generalize h[a].n.saga = sa at *
      generalize h[b].n.saga = sb at *
      generalize h[a].n.cls = ca at *
      generalize h[b].n.cls = cb at *
      have hcc : cc ≤ 1048576 := by omega
      go_wp2_with fail
      go_quiet (fail)
      have HA0 := Lib.hid (hA.out.since (((Fr.refl No wr).drewN nq).drew))
      have HO0 := Lib.hid (show ((wr.drewN nq).drew).ownsRow w.heap.size 121 3 (.slice L t lc) t ((acrT xp hp b ++ ((depL hp b).take j).flatMap (pairT xp hp b)).flatMap arcC) from own_fr hO.out (((Fr.refl No wr).drewN nq).drew) (fun _ _ e => e))
      have HI0 := Lib.hid (hI.out.fr (((Fr.refl No wr).drewN nq).drew))
      clear hA hO hI a0 x3 s0 s1 d1 hae
      generalize wr.drewN nq = wd at *
      go_wp2_with fail
      refine wp_region_held_drew (S := fun V => V.cell? ⟨w.heap.size + 1, 0, none⟩ = some (.slice (some ad) nl c) ∧ V.cell? ⟨(ad.add (b * 6)).block, (ad.add (b * 6)).off + 1, none⟩ = some (.int .i64 cb) ∧ V.cell? ⟨(ad.add (a * 6)).block, (ad.add (a * 6)).off + 1, none⟩ = some (.int .i64 ca)) (by kernel_rfl) (HH.out _ _ HA0.out) (fun hHeld => ?_)
      refine any_u 41 (.slice L t lc) (i := 0) rfl rfl ?_
      simp only [Act.put, szA, szB, szC]
      refine any_u 42 (.int .i64 ((a : Nat) : Int)) (i := 1) rfl rfl ?_
      simp only [Act.put, szA, szB, szC]
      refine any_u 43 (.int .i64 ((b : Nat) : Int)) (i := 2) rfl rfl ?_
      simp only [Act.put, szA, szB, szC]
      refine any_u 44 (.agg #[.int .i64 ((a : Nat) : Int), .int .i64 ((b : Nat) : Int), .int .i64 2]) (i := 3) rfl rfl ?_
      simp only [Act.put, szA, szB, szC]
      refine any_u 45 (.func (.func 169) #[] #[.pointer (some ⟨b2, 0, none⟩), .pointer (some ⟨f2, 0, none⟩)]) (i := 4) rfl rfl ?_
      simp only [Act.put, szA, szB, szC]
      refine any_u 46 (.int .i64 ((a : Nat) : Int)) (i := 5) rfl rfl ?_
      simp only [Act.put, szA, szB, szC]
      refine any_u 47 (.slice (some ad) nl c) (i := 6) rfl rfl ?_
      simp only [Act.put, szA, szB, szC]
      refine any_u 48 (.int .i64 ((b : Nat) : Int)) (i := 7) rfl rfl ?_
      simp only [Act.put, szA, szB, szC]
      refine any_u 49 (.pointer (some (ad.add (b * 6)))) (i := 8) rfl rfl ?_
      simp only [Act.put, szA, szB, szC]
      refine any_u 50 (.pointer (some ⟨(ad.add (b * 6)).block, (ad.add (b * 6)).off + 1, none⟩)) (i := 9) rfl rfl ?_
      simp only [Act.put, szA, szB, szC]
      refine any_u 51 (.int .i64 cb) (i := 10) rfl rfl ?_
      simp only [Act.put, szA, szB, szC]
      refine any_u 53 (.int .i64 ((b : Nat) : Int)) (i := 12) rfl rfl ?_
      simp only [Act.put, szA, szB, szC]
      refine any_u 55 (.int .i64 ((a : Nat) : Int)) (i := 14) rfl rfl ?_
      simp only [Act.put, szA, szB, szC]
      refine any_u 56 (.func (.func 169) #[] #[.pointer (some ⟨b1, 0, none⟩), .pointer (some ⟨f1, 0, none⟩)]) (i := 15) rfl rfl ?_
      simp only [Act.put, szA, szB, szC]
      refine any_u 57 (.int .i64 ((b : Nat) : Int)) (i := 16) rfl rfl ?_
      simp only [Act.put, szA, szB, szC]
      refine any_u 58 (.slice (some ad) nl c) (i := 17) rfl rfl ?_
      simp only [Act.put, szA, szB, szC]
      refine any_u 59 (.int .i64 ((a : Nat) : Int)) (i := 18) rfl rfl ?_
      simp only [Act.put, szA, szB, szC]
      refine any_u 60 (.pointer (some (ad.add (a * 6)))) (i := 19) rfl rfl ?_
      simp only [Act.put, szA, szB, szC]
      refine any_u 61 (.pointer (some ⟨(ad.add (a * 6)).block, (ad.add (a * 6)).off + 1, none⟩)) (i := 20) rfl rfl ?_
      simp only [Act.put, szA, szB, szC]
      refine any_u 62 (.int .i64 ca) (i := 21) rfl rfl ?_
      simp only [Act.put, szA, szB, szC]
      refine wpAnyH_ready (rs := [11]) (by kernel_rfl) (by simp) ?_
      refine AllReadyH.cons rfl (fun K' hK => ?_) AllReadyH.nil
      go_simp
      go_at_call 169
      refine (HcL.out _ _ HA0.out hcc).mono ?_
      rintro e' V1 ⟨rfl, a1, km1, g1⟩
      have HA1 := Lib.hid a1
      have HO1 := Lib.hid (own_frM HO0.out km1 g1)
      have HI1 := Lib.hid (HI0.out.frM km1 g1)
      clear a1 km1 g1
      refine hK.out _ _ (HH.out _ _ HA1.out) (fun hHeld => ?_)
      clear hK
      try simp only [Act.put, szA, szB, szC]
      refine any_u 54 (.agg #[.int .i64 ((l2 : Nat) : Int), .int .i64 ((b : Nat) : Int), .int .i64 3]) (i := 13) rfl rfl ?_
      simp only [Act.put, szA, szB, szC]
      refine wpAnyH_ready (rs := [22]) (by kernel_rfl) (by simp) ?_
      refine AllReadyH.cons rfl (fun K' hK => ?_) AllReadyH.nil
      go_simp
      go_at_call 169
      refine (HcF.out _ _ HA1.out (by omega)).mono ?_
      rintro e' V2 ⟨rfl, a2, km2, g2⟩
      have HA2 := Lib.hid a2
      have HO2 := Lib.hid (own_frM HO1.out km2 g2)
      have HI2 := Lib.hid (HI1.out.frM km2 g2)
      clear a2 km2 g2 HO1 HI1 HA1
      refine hK.out _ _ (HH.out _ _ HA2.out) (fun hHeld => ?_)
      clear hK
      try simp only [Act.put, szA, szB, szC]
      refine any_u 64 (.agg #[.int .i64 ((a : Nat) : Int), .int .i64 ((l1 : Nat) : Int), .int .i64 4]) (i := 23) rfl rfl ?_
      simp only [Act.put, szA, szB, szC]
      refine wpAnyH_ready (rs := [24]) (by kernel_rfl) (by simp) ?_
      refine AllReadyH.cons rfl (fun K' hK => ?_) AllReadyH.nil
      go_simp
      have f3 : Fr No V2 (V2.alloc (.cells #[.int .i64 ((a : Nat) : Int), .int .i64 ((b : Nat) : Int), .int .i64 2, .int .i64 ((l2 : Nat) : Int), .int .i64 ((b : Nat) : Int), .int .i64 3, .int .i64 ((a : Nat) : Int), .int .i64 ((l1 : Nat) : Int), .int .i64 4] 121)) := (Fr.refl No V2).alloc _
      have HA3 := Lib.hid (HA2.out.since f3)
      have HO3 := Lib.hid (own_fr HO2.out f3 (fun _ _ e => e))
      have HI3 := Lib.hid (HI2.out.fr f3)
      have HS3 : Hid (Sl (V2.alloc (.cells #[.int .i64 ((a : Nat) : Int), .int .i64 ((b : Nat) : Int), .int .i64 2, .int .i64 ((l2 : Nat) : Int), .int .i64 ((b : Nat) : Int), .int .i64 3, .int .i64 ((a : Nat) : Int), .int .i64 ((l1 : Nat) : Int), .int .i64 4] 121)) (V2.heap.size + 1) (some ⟨V2.heap.size, 0, none⟩) ([(a, b, 2), (l2, b, 3), (a, l1, 4)].flatMap arcC)) := Lib.hid (Sl.made V2 _ _)
      clear f3 HA2 HO2 HI2
      refine hK.out _ _ (HH.out _ _ HA3.out) (fun hHeld => ?_)
      clear hK
      try simp only [Act.put, szA, szB, szC]
      refine wpAnyH_ready (rs := [25]) (by kernel_rfl) (by simp) ?_
      refine AllReadyH.cons rfl (fun K' hK => ?_) AllReadyH.nil
      refine wp_arcs16 _ _ _ rfl rfl w.heap.size L t lc (acrT xp hp b ++ ((depL hp b).take j).flatMap (pairT xp hp b)) rfl _ (some ⟨V2.heap.size, 0, none⟩) 3 3 [(a, b, 2), (l2, b, 3), (a, l1, 4)] rfl rfl HS3.out HO3.out (by omega) HA3.out.fr.size ?_
      intro L4 c4 V4 o4 f4
      have HA4 := Lib.hid (HA3.out.app HO3.out f4)
      have HI4 := Lib.hid (HI3.out.frA HO3.out f4)
      have HO4 : Hid (V4.ownsRow w.heap.size 121 3 (.slice L4 (t + 3) c4) (t + 3) ((acrT xp hp b ++ ((depL hp b).take (j + 1)).flatMap (pairT xp hp b)).flatMap arcC)) := Lib.hid (by rw [Hst.out]; exact o4)
      have HT4 : Hid (t + 3 = (acrT xp hp b ++ ((depL hp b).take (j + 1)).flatMap (pairT xp hp b)).length) := Lib.hid (by rw [Hst.out, List.length_append, ← hT.out]; rfl)
      clear o4 f4 HA3 HO3 HI3 HS3
      refine hK.out _ _ (HH.out _ _ HA4.out) (fun hHeld => ?_)
      clear hK
      try simp only [Act.put, szA, szB, szC]
      refine any_u 7 (.slice L4 (t + 3) c4) (i := 26) rfl rfl ?_
      simp only [Act.put, szA, szB, szC]
      refine wpAnyH_done (by kernel_rfl) ?_ _
      clear hHeld
      go_wp2
      go_roundw
      case rel => exact ⟨j + 1, L4, c4, t + 3, cc + 1 + 1, by omega, rfl, by go_num, by omega, by omega, HT4, HO4, HA4, HI4⟩
      case measure => simp [intOf]; omega
    ·obtain rfl : j = ll := by omega
     have HE : Hid (acrT xp hp b ++ ((depL hp b).take j).flatMap (pairT xp hp b) = acrT xp hp (b + 1)) := Lib.hid (by rw [HST.out, ← Hll.out, List.take_length])
     rw [HE.out] at hT hO
     clear HE
     go_wp2
     go_roundw
     case rel => exact ⟨b + 1, L, lc, t, cc, by omega, rfl, by go_num, by omega, by omega, hT, hO, hA, hI⟩
     case measure => simp [intOf]; omega
  ·obtain rfl : b = nl := by omega
   go_wp2
   go_ret
   exact ⟨L, lc, t, rfl, hT.out, by omega, hO.out, hA.out.fr⟩
end Go.Proofs.YtmeimhpllemjfaaGreat
/- Package rsg: which node is told next; who leads to itself. -/
namespace Go.Proofs.YtmeimhpllemjfaaGreat
open Go.RowKit

theorem noFlags16 {w : World} {T n : Nat} {t : TypeId} {s : Nat → Bool} (hT : Bk w T t (flags n s)) {ad : Addr} {u : Value} (hc : w.cell? ad = some u) (hu : ∀ b, u ≠ .bool b) : ad.block ≠ T := by
 intro e
 unfold World.cell? at hc
 rw [e, show w.heap[T]? = _ from hT] at hc
 simp only at hc
 split at hc
 ·cases hc
 ·have hlt := (Array.getElem?_eq_some_iff.1 hc).1
  rw [flags_size] at hlt
  rw [flags_at n s _ hlt] at hc
  injection hc with hc
  exact hu _ hc.symm
theorem Sl.frFlags16 {w W : World} {T n : Nat} {t : TypeId} {s : Nat → Bool} {A : Option Addr} {xs : List Value} (h : Sl w w.heap.size A xs) (hT : Bk w T t (flags n s)) (hf : Fr (fun x => x = T) w W) (hx : ∀ u ∈ xs, ∀ b, u ≠ .bool b) : Sl W W.heap.size A xs := by
 refine (h.fr hf (Nat.le_refl _) (fun ad hA hne => ?_)).more hf.size
 obtain ⟨u, r, rfl⟩ : ∃ u r, xs = u :: r := by
  cases xs with
  | nil => exact absurd rfl hne
  | cons u r => exact ⟨u, r, rfl⟩
 obtain ⟨ad', e, _, hc⟩ := h.at (k := 0) (by simp)
 rw [hA] at e
 injection e with e
 subst e
 have := noFlags16 hT hc (hx _ (by simp))
 rwa [block_add] at this
theorem Ils.frFlags16 {w W : World} {T n : Nat} {t : TypeId} {s : Nat → Bool} {A : Option Addr} {ls : List IL} (h : Ils w A ls) (hT : Bk w T t (flags n s)) (hf : Fr (fun x => x = T) w W) : Ils W A ls :=
 ⟨h.sl.frFlags16 hT hf (fun u hu b e => by obtain ⟨x, _, rfl⟩ := List.mem_map.1 hu; cases e), fun x hx => (h.all x hx).frFlags16 hT hf (fun u hu b e => by unfold nums at hu; obtain ⟨k, _, rfl⟩ := List.mem_map.1 hu; cases e)⟩
structure Led (w : World) (A : Option Addr) (n : Nat) (a : Nat → Nat → Bool) (ls : List IL) : Prop where
 ils : Ils w A ls
 len : ls.length = n
 n24 : n ≤ 1048576
 few : ∀ i (hi : i < ls.length), ls[i].l.length ≤ 1048576
 mem : ∀ i (hi : i < ls.length) k, k ∈ ls[i].l ↔ a k i = true
 lt : ∀ k i, a k i = true → k < n
theorem Led.since {w W : World} {A : Option Addr} {n : Nat} {a : Nat → Nat → Bool} {ls : List IL} (h : Led w A n a ls) (hf : Fr No w W) : Led W A n a ls := ⟨h.ils.since hf, h.len, h.n24, h.few, h.mem, h.lt⟩
theorem Led.frFlags {w W : World} {A : Option Addr} {n T m : Nat} {a : Nat → Nat → Bool} {ls : List IL} {t : TypeId} {s : Nat → Bool} (h : Led w A n a ls) (hT : Bk w T t (flags m s)) (hf : Fr (fun x => x = T) w W) : Led W A n a ls := ⟨h.ils.frFlags16 hT hf, h.len, h.n24, h.few, h.mem, h.lt⟩
theorem all_stop16 {l : List Nat} {t : Nat → Bool} {j : Nat} (hj : j < l.length) (h : t l[j] = false) : l.all t = false := by
 cases e : l.all t
 ·rfl
 ·rw [List.all_eq_true] at e
  rw [e _ (List.getElem_mem hj)] at h
  cases h
theorem all_take16 {l : List Nat} {t : Nat → Bool} {j : Nat} (hj : j < l.length) (h : (l.take j).all t = true) (ht : t l[j] = true) : (l.take (j + 1)).all t = true := by
 rw [List.take_succ_eq_append_getElem hj, List.all_append, h]
 simp [ht]

set_option maxRecDepth 100000 in
set_option maxHeartbeats 4000000 in
theorem ready16 (a : Nat → Nat → Bool) (n c T : Nat) (A : Option Addr) (ls : List IL) (t : Nat → Bool) (w : World) (hL : Led w A n a ls) (hT : Bk w T 4 (flags n t)) :
  Calls Tryz.prog 79 #[.slice A n c, .slice (some ⟨T, 0, none⟩) n n] w fun e w' => e = .returned (.int .i64 (firstP (rdyL a n t) n)) ∧ Fr No w w' := by
 have hnm := hL.n24
 have Hn := Lib.hid hL.len
 have Hil := Lib.hid (fun (i : Nat) (hi : i < ls.length) W (h : Fr No w W) => (hL.ils.since h).sl.il hi)
 have Hnum := Lib.hid (fun (i : Nat) (hi : i < ls.length) (j : Nat) (hj : j < ls[i].l.length) W (h : Fr No w W) => ((hL.ils.since h).all _ (List.getElem_mem hi)).num hj)
 have Hfew := Lib.hid hL.few
 have HT := Lib.hid (fun (i : Nat) (hi : i < n) W (h : Fr No w W) => show W.cell? ⟨T, i, none⟩ = some (.bool (t i)) by rw [(hT.fr h (fun e => e)).cell, flags_at n t i hi])
 have HR := Lib.hid (fun (i : Nat) (hi : i < ls.length) => rdyL_list (n := n) (t := t) (hL.mem i hi) (fun k hk => hL.lt k i hk))
 have Hlt := Lib.hid (fun (i : Nat) (hi : i < ls.length) (j : Nat) (hj : j < ls[i].l.length) => show ls[i].l[j] < n from hL.lt _ i ((hL.mem i hi _).1 (List.getElem_mem hj)))
 have Hfd := Lib.hid (fun (k : Nat) (hk : k < n) (h : rdyL a n t k = true) (hp : ∀ j, j < k → rdyL a n t j = false) => show firstP (rdyL a n t) n = (k : Int) from firstP_at hk h hp)
 have Hno := Lib.hid (fun (hp : ∀ j, j < n → rdyL a n t j = false) => show firstP (rdyL a n t) n = -1 from firstP_none hp)
 generalize rdyL a n t = r at *
 clear hL hT
 go_enter Tryz.func79, Tryz.ntmps79
 go_wp2
 go_step3
 go_wp2
 go_step3
 go_wp2
 go_loopw [11] (fun iv wr => ∃ i : Nat, i ≤ n ∧ iv = .int .i64 (i : Int) ∧ Hid (∀ j, j < i → r j = false) ∧ Hid (Fr No w wr)) (fun iv _ => n - (intOf iv).toNat)
 case atStart => exact ⟨0, Nat.zero_le _, rfl, Lib.hid (fun j hj => by omega), Lib.hid (Fr.refl _ _)⟩
 case round =>
  obtain ⟨i, hi, rfl, hpre, hfr⟩ := hrel
  by_cases hlt : i < n
  ·have hil : i < ls.length := by rw [Hn.out]; exact hlt
   have hin : ((i : Nat) : Int) < (n : Int) := by omega
   obtain ⟨ad, rfl, hab, c0⟩ := Hil.out i hil wr hfr.out
   have x1 := HT.out i hlt wr hfr.out
   have hr := HR.out i hil
   have Hst : Hid (r i = false → ∀ j, j < i + 1 → r j = false) := Lib.hid (fun e j hj => by
    by_cases h : j = i
    ·rw [h]; exact e
    ·exact hpre.out j (by omega))
   have Hf2 : Hid (r i = true → firstP r n = (i : Int)) := Lib.hid (fun e => Hfd.out i hlt e hpre.out)
   have hnumi := Lib.hid (fun j hj W h => Hnum.out i hil j hj W h)
   have hlti := Lib.hid (fun j hj => Hlt.out i hil j hj)
   have hfewi := Hfew.out i hil
   clear hpre Hfd
   generalize r i = ri at *
   cases ht : t i
   ·rw [ht] at x1 hr
    simp only [Bool.not_false, Bool.true_and] at hr
    have Hr := Lib.hid hr
    clear hr ht
    obtain ⟨l, hl⟩ : ∃ l, l = ls[i].l := ⟨_, rfl⟩
    obtain ⟨A2, hA2⟩ : ∃ x, x = ls[i].A := ⟨_, rfl⟩
    obtain ⟨c2, hc2⟩ : ∃ x, x = ls[i].c := ⟨_, rfl⟩
    simp only [← hl, ← hA2, ← hc2] at *
    clear hl hA2 hc2
    obtain ⟨ll, hll⟩ : ∃ x, l.length = x := ⟨_, rfl⟩
    rw [hll] at hfewi c0
    have Hll := Lib.hid hll
    clear hll
    go_wp2
    go_loopw [22] (fun jv wv => ∃ j : Nat, j ≤ ll ∧ jv = .int .i64 (j : Int) ∧ Hid ((l.take j).all t = true) ∧ Hid (Fr No w wv)) (fun jv _ => ll - (intOf jv).toNat)
    case atStart => exact ⟨0, Nat.zero_le _, rfl, Lib.hid (by simp), hfr⟩
    case round =>
     clear hfr c0 x1
     obtain ⟨j, hj, rfl, hal, hfr⟩ := hrel
     by_cases hjl : j < ll
     ·have hjl2 : j < l.length := by rw [Hll.out]; exact hjl
      have hjn : ((j : Nat) : Int) < (ll : Int) := by omega
      obtain ⟨ae, rfl, hae, a0⟩ := hnumi.out j hjl2 wr hfr.out
      have x2 := HT.out l[j] (hlti.out j hjl2) wr hfr.out
      have hkn := hlti.out j hjl2
      have hkn2 : ((l[j] : Nat) : Int) < (n : Int) := by omega
      have Hnx := Lib.hid (fun (e : t l[j] = true) => all_take16 hjl2 hal.out e)
      have Hsp := Lib.hid (fun (e : t l[j] = false) => show ri = false by rw [Hr.out]; exact all_stop16 hjl2 e)
      clear hal hnumi hlti Hr
      generalize l[j] = k at *
      cases htk : t k
      ·rw [htk] at x2
       have HS := Lib.hid (Hst.out (Hsp.out htk))
       clear Hnx Hsp htk Hst Hf2
       go_wp2
       try rw [Exit.noGoto_ret]
       go_roundw
       case rel => exact ⟨i + 1, by omega, by go_num, HS, hfr⟩
       case measure => simp [intOf]; omega
      ·rw [htk] at x2
       have HS := Lib.hid (Hnx.out htk)
       clear Hnx Hsp htk
       go_wp2
       try rw [Exit.noGoto_ret]
       go_roundw
       case rel => exact ⟨j + 1, by omega, by go_num, HS, hfr⟩
       case measure => simp [intOf]; omega
     ·obtain rfl : j = ll := by omega
      have HE := Lib.hid (Hf2.out (by rw [Hr.out, ← hal.out, ← Hll.out, List.take_length]))
      clear hal Hr Hst Hf2 hnumi hlti
      go_wp2
      try rw [Exit.noGoto_ret]
      go_ret
      exact ⟨by rw [HE.out]; rfl, hfr.out⟩
   ·rw [ht] at x1 hr
    have HS := Lib.hid (Hst.out (by rw [hr]; rfl))
    clear hr ht Hst Hf2
    go_wp2
    try rw [Exit.noGoto_ret]
    go_roundw
    case rel => exact ⟨i + 1, by omega, by go_num, HS, hfr⟩
    case measure => simp [intOf]; omega
  ·obtain rfl : i = n := by omega
   have HE := Lib.hid (Hno.out hpre.out)
   clear hpre Hfd Hno
   go_wp2
   try rw [Exit.noGoto_ret]
   go_ret
   exact ⟨by rw [HE.out]; rfl, hfr.out⟩
end Go.Proofs.YtmeimhpllemjfaaGreat
/- Package rsg: its arcs, and what it makes of them. -/
namespace Go.Proofs.YtmeimhpllemjfaaGreat
open Go.RowKit

theorem ownT_len (h : List Nd) : ∀ i, (ownT h i).length ≤ i
 | 0 => Nat.le_refl _
 | i + 1 => by
  have := ownT_len h i
  rw [ownT, List.length_append]
  split
  ·simp; omega
  ·simp; omega
theorem gath_told {x : PCt} {h : List Nd} {n m : Nat} {d : List Tr} (hn : h.length = n) (hp : d.Perm (ownT h n ++ acrT x h n)) (hd : d.length = m) (hs : ∀ i j (hi : i < d.length) (hj : j < d.length), i < j → ¬ LtA d[j] d[i]) : cpT d m = arcsL x h := by
 subst hn
 rw [← hd]
 exact told_arcs hs (fun t => hp.mem_iff.trans (gath_mem x h t))
theorem compactAll16 (A : Option Addr) (n c B : Nat) (d : List Tr) (w : World) (h : w.ownsRow B 121 3 (.slice A n c) n (d.flatMap arcC)) (hd : d.length = n) (hn : n ≤ 1048576) :
  Calls Tryz.prog 123 #[.slice A n c] w fun e w' => ∃ L lc, e = .returned (.slice L (cpT d n).length lc) ∧ Sl w' w'.heap.size L ((cpT d n).flatMap arcC) ∧ Fr (fun k => B ≤ k) w w' := by
 rcases Nat.lt_or_ge n 2 with h2 | h2
 ·refine (compact0_16 A n c w h2).mono ?_
  rintro e w' ⟨rfl, f⟩
  have e : cpT d n = d := by
   rw [cpT_all n (by omega) (fun j h1 h3 => by omega), ← hd, List.take_length]
  rw [e, hd]
  exact ⟨A, c, rfl, (Sl.ofOwn h).since f, f.weak (fun _ _ e => e.elim)⟩
 ·obtain ⟨g, rfl, hB, hnc, hcm, hR⟩ := Rg.ofOwn h (by omega)
  refine (compact16 g n c d w hR hd h2 hn hnc hcm).mono ?_
  rintro e w' ⟨rfl, hS, f⟩
  exact ⟨_, c, rfl, hS, f.weak (fun k _ e => by rw [e]; exact hB)⟩
set_option maxRecDepth 100000 in
set_option maxHeartbeats 8000000 in
theorem arcs16 (x : Ctl) (h : List Ndl) (A : Option Addr) (n c : Nat) (w : World) (hI : In16 x h A n c w) : Calls Tryz.prog 104 #[x.agg, .slice A n c] w fun e w' => ∃ L lc, e = .returned (.slice L (arcH x.p (ndsOf h)).length lc) ∧ Sl w' w'.heap.size L ((arcH x.p (ndsOf h)).flatMap arcC) ∧ Fr No w w' := by
 obtain ⟨hx, hs, hn, hn24, hnc, hB, hf⟩ := hI
 have hlen : (ndsOf h).length = n := by rw [ndsOf_len]; exact hn
 have HM := Lib.hid (fun W (hW : Fr No w W) => mayU_any x h A n c W (hx.since hW) hB (hs.since hW) hn (by omega) hnc hf)
 have HO := Lib.hid (fun W (hW : Fr No w W) => own16 h A n c W (hs.since hW) hn (by omega) hnc)
 have HA := Lib.hid (fun (hm : mayH x.p (ndsOf h) = true) W (hW : Fr No w W) => across16 x h A n c W (hx.since hW) hB (hs.since hW) hn hn24 hnc hf hm)
 have HG := Lib.hid (fun (m : Nat) (d : List Tr) => gath_told (x := x.p) (h := ndsOf h) (n := n) (m := m) (d := d) hlen)
 have HL1 := ownT_len (ndsOf h) n
 have Hr0 : Hid (mayH x.p (ndsOf h) = false → arcH x.p (ndsOf h) = []) := Lib.hid (fun e => by unfold arcH; rw [e]; rfl)
 have Hr1 : Hid (mayH x.p (ndsOf h) = true → arcH x.p (ndsOf h) = arcsL x.p (ndsOf h)) := Lib.hid (fun e => by unfold arcH; rw [if_pos e])
 unfold Ctl.agg at HM HA ⊢
 obtain ⟨Z, hZ⟩ : ∃ Z, Z = x.arr := ⟨_, rfl⟩
 rw [← hZ] at HM HA ⊢
 rw [Ctl.arr_eq] at hZ
 obtain ⟨W0, hW0⟩ : ∃ W0, W0 = w.alloc (.cells Z 26) := ⟨_, rfl⟩
 have bZ : Bk W0 w.heap.size 26 Z := by rw [hW0]; exact Bk.made w _ _
 have HF0 : Hid (Fr No w W0) := Lib.hid (by rw [hW0]; exact (Fr.refl _ _).alloc _)
 have HLd := Lib.hid (fun V (hV : Fr No W0 V) => show LdO V 26 ⟨w.heap.size, 0, none⟩ (.agg Z) from ld_cat hZ (bZ.fr hV (fun e => e)))
 have HL := Lib.hid (HLd.out W0 (Fr.refl _ _))
 have hwe := hW0.symm
 generalize arcH x.p (ndsOf h) = R at *
 generalize arcsL x.p (ndsOf h) = R1 at *
 generalize mayH x.p (ndsOf h) = b at *
 generalize ownT (ndsOf h) n = o1 at *
 generalize acrT x.p (ndsOf h) n = o2 at *
 clear hZ hW0 bZ hx hs hn hB hf hlen
 go_enter Tryz.func104, Tryz.ntmps104
 go_wp2_with (first
  | ((with_reducible refine wpl_ld ?_ ?_ HL.out ?_); (· rfl); (· rfl); simp only [Act.put, szA, szB, szC]))
 refine (HM.out _ HF0.out).mono ?_
 rintro e w1 ⟨rfl, f1⟩
 have F01 := Lib.hid f1
 have F1 := Lib.hid (HF0.out.trans' f1 (fun _ _ e => e))
 clear f1 HM hwe HL
 cases b
 ·have HR := Lib.hid (Hr0.out rfl)
  clear Hr0 Hr1 HA HO HG HLd
  go_wp2
  go_ret
  exact ⟨none, 0, by rw [HR.out]; rfl, by rw [HR.out]; exact Sl.nil _ _ _, F1.out⟩
 ·have HR := Lib.hid (Hr1.out rfl)
  have HA1 := Lib.hid (HA.out rfl)
  clear Hr0 Hr1 HA
  go_wp2_with fail
  refine wp_region_held_drew (S := fun V => LdO V 26 ⟨w.heap.size, 0, none⟩ (.agg Z)) (by kernel_rfl) (HLd.out _ (F01.out.drew)) (fun hHeld => ?_)
  refine any_u 10 (.slice A n c) (i := 0) rfl rfl ?_
  simp only [Act.put, szA, szB, szC]
  refine any_tk 12 (.agg Z) (i := 2) rfl rfl (by kernel_rfl) (fun _ _ _ h => h) (by rfl) (by intro w hSw; exact exec_ld rfl hSw) (by assumption) ?_
  simp only [Act.put, szA, szB, szC]
  refine any_u 13 (.slice A n c) (i := 3) rfl rfl ?_
  simp only [Act.put, szA, szB, szC]
  refine wpAnyH_ready (rs := [1]) (by kernel_rfl) (by simp) ?_
  refine AllReadyH.cons rfl (fun K' hK => ?_) AllReadyH.nil
  go_simp
  go_at_call 117
  refine (HO.out _ F1.out.drew).mono ?_
  rintro e' V1 ⟨L1, c1, t1, rfl, ht1, o3, f2⟩
  have Ht1 := Lib.hid ht1
  have ht1n : t1 ≤ n := by omega
  clear ht1
  have FO1 : Fr No w1 V1 := ((Fr.refl No w1).drew).trans' f2 (fun _ _ e => e)
  refine hK.out _ _ (HLd.out _ (F01.out.trans' FO1 (fun _ _ e => e))) (fun hHeld => ?_)
  clear hK
  try simp only [Act.put, szA, szB, szC]
  refine wpAnyH_ready (rs := [4]) (by kernel_rfl) (by simp) ?_
  refine AllReadyH.cons rfl (fun K' hK => ?_) AllReadyH.nil
  go_simp
  go_at_call 118
  refine (HA1.out _ (F1.out.trans' FO1 (fun _ _ e => e))).mono ?_
  rintro e' V2 ⟨L2, c2, t2, rfl, ht2, ht2m, o4, f3⟩
  have Ht2 := Lib.hid ht2
  clear ht2
  have FO2 : Fr No w1 V2 := FO1.trans' f3 (fun _ _ e => e)
  have o3' := own_fr o3 f3 (fun _ _ e => e)
  have hSl := Sl.ofOwn o4
  refine hK.out _ _ (HLd.out _ (F01.out.trans' FO2 (fun _ _ e => e))) (fun hHeld => ?_)
  clear hK
  try simp only [Act.put, szA, szB, szC]
  refine wpAnyH_ready (rs := [5]) (by kernel_rfl) (by simp) ?_
  refine AllReadyH.cons rfl (fun K' hK => ?_) AllReadyH.nil
  refine wp_arcs16 _ _ _ rfl rfl w1.heap.size L1 t1 c1 o1 rfl _ L2 t2 c2 o2 rfl Ht2.out.symm hSl o3' (by omega) FO2.size ?_
  intro L5 c5 V5 o5 f5
  have FO5 : Fr No w1 V5 := FO2.trans' f5 (fun i hi e => absurd hi (Nat.not_lt.2 (o3'.lt i e).1))
  refine hK.out _ _ (HLd.out _ (F01.out.trans' FO5 (fun _ _ e => e))) (fun hHeld => ?_)
  clear hK
  try simp only [Act.put, szA, szB, szC]
  refine any_u 5 (.slice L5 (t1 + t2) c5) (i := 6) rfl rfl ?_
  simp only [Act.put, szA, szB, szC]
  refine wpAnyH_done (by kernel_rfl) ?_ _
  clear hHeld
  clear o3 o3' o4 hSl FO1 FO2 f2 f3
  have HRow := Lib.hid o5
  have HF5 := Lib.hid FO5
  clear o5 f5 FO5
  have hbase := HF5.out.size
  have hm5 : t1 + t2 ≤ 1048576 := by omega
  have HS5 := Lib.hid (tSort16 L5 (t1 + t2) c5 w1.heap.size (o1 ++ o2) V5 HRow.out (by rw [List.length_append, ← Ht1.out, ← Ht2.out]) (by omega))
  clear HRow
  go_wp2_with fail
  refine (HS5.out).mono ?_
  rintro e V6 ⟨rfl, d, hd, hp, hs, o6, f6⟩
  have HF6 := Lib.hid (HF5.out.trans' f6 (fun i hi e => by omega))
  have HE := Lib.hid (HG.out (t1 + t2) d hp hd hs)
  have HC6 := Lib.hid (compactAll16 L5 (t1 + t2) c5 w1.heap.size d V6 o6 hd hm5)
  clear HS5 o6 f6 hp hd hs
  go_wp2_with fail
  refine (HC6.out).mono ?_
  rintro e V7 ⟨L7, c7, rfl, hS7, f7⟩
  have HF7 := Lib.hid (HF6.out.trans' f7 (fun i hi e => by omega))
  rw [HE.out, ← HR.out] at hS7 ⊢
  have HS7 := Lib.hid hS7
  clear hS7 f7 HC6
  go_wp2
  go_ret
  exact ⟨L7, c7, rfl, HS7.out, F1.out.trans' HF7.out (fun _ _ e => e)⟩
end Go.Proofs.YtmeimhpllemjfaaGreat
/- sources -/
/- Package rsg: from which nodes arcs lead to each. -/
namespace Go.Proofs.YtmeimhpllemjfaaGreat
open Go.RowKit

theorem run_make_lists16 (n : Nat) (hn : n ≤ 1048576) (w : World) : (Instr.makeSlice 63 (.int .i64 n) (.int .i64 n)).run Tryz.prog w = .ok (.slice (some ⟨w.heap.size, 0, none⟩) n n) (w.alloc (.cells ((List.replicate n (⟨none, [], 0⟩ : IL)).map IL.cell).toArray 28)) := by
 have e : ((List.replicate n (⟨none, [], 0⟩ : IL)).map IL.cell).toArray = madeCells #[.slice none 0 0] n := by
  refine Array.ext (by rw [size_madeCells]; simp) fun j h1 h2 => ?_
  simp [madeCells, IL.cell, Nat.mod_one]
 rw [e]
 exact run_make_row' (P := Tryz.prog) _ _ _ _ Tryz.underlying63 info_il15 rfl .i64 .i64 n (by omega) (by omega) w
structure Into (w : World) (B G : Nat) (ls : List IL) : Prop where
 rows : Bk w G 28 (ls.map IL.cell).toArray
 all : ∀ i (hi : i < ls.length), w.ownsRow B 3 1 ls[i].cell ls[i].l.length (nums ls[i].l)
 apart : ∀ i j (hi : i < ls.length) (hj : j < ls.length) b, i ≠ j → ls[i].cell.ownBlock = some b → ls[j].cell.ownBlock ≠ some b
theorem Into.fr {w W : World} {B G : Nat} {ls : List IL} (h : Into w B G ls) (hf : Fr No w W) : Into W B G ls :=
 ⟨h.rows.fr hf (fun e => e), fun i hi => own_fr (h.all i hi) hf (fun _ _ e => e), h.apart⟩
theorem Into.ils {w : World} {B G : Nat} {ls : List IL} (h : Into w B G ls) : Ils w (some ⟨G, 0, none⟩) ls := by
 refine ⟨fun _ => ⟨_, rfl, h.rows.lt, fun j u hu => ?_⟩, fun x hx => ?_⟩
 ·have e : (⟨G, 0, none⟩ : Addr).add j = ⟨G, j, none⟩ := by cases j <;> simp [Addr.add]
  rw [e, h.rows.cell, ← hu]
  simp
 ·obtain ⟨i, hi, rfl⟩ := List.getElem_of_mem hx
  exact Sl.ofOwn (h.all i hi)
theorem Into.put {w W : World} {B G : Nat} {ls : List IL} (h : Into w B G ls) {b : Nat} (hb : b < ls.length) {x : IL} (hx : W.ownsRow B 3 1 x.cell x.l.length (nums x.l)) (hg : w.grownBy W ls[b].cell.ownBlock) (hq : x.cell.ownBlock = ls[b].cell.ownBlock ∨ x.cell.ownBlock = some w.heap.size) :
  Into (W.setCell ⟨G, b, none⟩ x.cell) B G (ls.set b x) := by
 have hf : Fr (fun k => ls[b].cell.ownBlock = some k) w W := (Fr.refl _ w).grown hg (fun k hk => .inl hk)
 have hG : Bk W G 28 (ls.map IL.cell).toArray := h.rows.fr hf (own_apart (h.all b hb) h.rows (by decide))
 have hS : Fr (fun k => k = G) W (W.setCell ⟨G, b, none⟩ x.cell) := (Fr.refl (fun k => k = G) W).setCell (p := ⟨G, b, none⟩) (.inl rfl) _
 refine ⟨?_, fun i hi => ?_, fun i j hi hj c hij h1 h2 => ?_⟩
 ·have := hG.put b x.cell
  rwa [show (ls.map IL.cell).toArray.setIfInBounds b x.cell = ((ls.set b x).map IL.cell).toArray by simp [List.map_set]] at this
 ·rw [List.length_set] at hi
  by_cases e : b = i
  ·subst e
   rw [List.getElem_set_self]
   exact own_fr hx hS (fun k hk e => own_apart hx hG (by decide) (by rw [hk, e]))
  ·rw [List.getElem_set_ne e]
   have h3 := own_fr (h.all i hi) hf (fun k hk e2 => h.apart b i hb hi k e e2 hk)
   exact own_fr h3 hS (fun k hk e => own_apart h3 hG (by decide) (by rw [hk, e]))
 ·rw [List.length_set] at hi hj
  have old : ∀ k (hk : k < ls.length), b ≠ k → ls[k].cell.ownBlock = some c → x.cell.ownBlock = some c → False := fun k hk e h3 h4 => by
   rcases hq with q | q
   ·rw [q] at h4
    exact h.apart b k hb hk c e h4 h3
   ·have h5 := (h.all k hk).lt c h3
    rw [q] at h4
    injection h4 with h4
    omega
  by_cases ei : b = i
  ·subst ei
   rw [List.getElem_set_self] at h1
   rw [List.getElem_set_ne hij] at h2
   exact old j hj hij h2 h1
  ·rw [List.getElem_set_ne ei] at h1
   by_cases ej : b = j
   ·subst ej
    rw [List.getElem_set_self] at h2
    exact old i hi ei h1 h2
   ·rw [List.getElem_set_ne ej] at h2
    exact h.apart i j hi hj c hij h1 h2
def IntoL (al : List Tr) (j : Nat) (ls : List IL) : Prop := ∀ i (hi : i < ls.length), ls[i].l = intoT al j i
theorem IntoL.step {al : List Tr} {j : Nat} {ls : List IL} (h : IntoL al j ls) (hj : j < al.length) {b : Nat} (hb : b < ls.length) (he : al[j].2.1 = b) {A : Option Addr} {c : Nat} : IntoL al (j + 1) (ls.set b ⟨A, ls[b].l ++ [al[j].1], c⟩) := fun i hi => by
 rw [List.length_set] at hi
 rw [intoT_step hj]
 by_cases e : b = i
 ·subst e
  rw [List.getElem_set_self, if_pos he, ← h _ hb]
 ·rw [List.getElem_set_ne e, if_neg (by rw [he]; exact e), List.append_nil, ← h _ hi]
theorem noLists16 {w : World} {G : Nat} {t : TypeId} {ls : List IL} (hT : Bk w G t (ls.map IL.cell).toArray) {ad : Addr} {u : Value} (hc : w.cell? ad = some u) (hu : ∀ a m c, u ≠ .slice a m c) : ad.block ≠ G := by
 intro e
 unfold World.cell? at hc
 rw [e, show w.heap[G]? = _ from hT] at hc
 simp only at hc
 split at hc
 ·cases hc
 ·rw [List.getElem?_toArray, List.getElem?_map] at hc
  obtain ⟨x, _, rfl⟩ := Option.map_eq_some_iff.1 hc
  exact hu _ _ _ rfl
theorem wp_num16 {w : World} {o : Oper} {a : Act} {K : Act → World → Prop} {Q : Exit → Act → World → Prop} (s x : Operand) (d : Tmp) (hd : o.dst = some d)
  (ho : o.op = .call { callee := .builtin .append, args := #[s, x], argTypes := #[28, 28] })
  (base : Nat) (A : Option Addr) (n c : Nat) (xs : List Nat) (hs : a.eval s = .slice A n c) (H : Nat) (k : Nat) (hx : a.eval x = .slice (some ⟨H, 0, none⟩) 1 1) (hr : Bk w H 3 #[.int .i64 (k : Int)])
  (hown : w.ownsRow base 3 1 (.slice A n c) n (nums xs)) (hlen : n + 1 ≤ 1048576) (hbase : base ≤ w.heap.size)
  (h : ∀ A' c' w', w'.ownsRow base 3 1 (.slice A' (n + 1) c') (n + 1) (nums (xs ++ [k])) → w.grownBy w' (Value.slice A n c).ownBlock → ((Value.slice A' (n + 1) c').ownBlock = (Value.slice A n c).ownBlock ∨ (Value.slice A' (n + 1) c').ownBlock = some w.heap.size) → K (a.put (some d) (.slice A' (n + 1) c')) w') :
  Oper.wp Tryz.prog o a w K Q := by
 rw [← hd] at h
 have hinf : (Tryz.prog.info? 3).map (fun i => (i.zero, i.size, i.bytes)) = some (some (.int .i64 0), 1, 8) := by kernel_rfl
 obtain ⟨i, hi, hz, hz1, hz2⟩ := info_parts hinf
 have hsl : Sl w w.heap.size (some ⟨H, 0, none⟩) (nums [k]) := fun _ => ⟨_, rfl, hr.lt, fun j u hu => by
  have hj := (List.getElem?_eq_some_iff.1 hu).1
  have : j = 0 := by simp [nums] at hj; omega
  subst this
  have h0 := hr.cell 0
  simp [Addr.add]
  rw [h0]
  simpa [nums] using hu⟩
 refine wp_append_src w s x _ ho base 3 i _ 1 8 Tryz.underlying28 hi hz hz1 hz2 rfl (by omega) (.slice A n c) n (nums xs) hs hown w.heap.size (some ⟨H, 0, none⟩) 1 1 (nums [k]) hx rfl hsl (by intro u hu; simp [nums] at hu; subst hu; rfl) (by unfold maxLen; omega) (by omega) hbase ?_
 intro v' w' q1 q2 q3
 obtain ⟨A', c', rfl, -, -, -⟩ := own_shape q1
 rw [show nums xs ++ nums [k] = nums (xs ++ [k]) by simp [nums]] at q1
 exact h A' c' w' q1 q2 q3
set_option maxRecDepth 100000 in
set_option maxHeartbeats 8000000 in
theorem sources16 (x : Ctl) (h : List Ndl) (A : Option Addr) (n c : Nat) (w : World) (hI : In16 x h A n c w) (hm : mayH x.p (ndsOf h) = true) : Calls Tryz.prog 78 #[x.agg, .slice A n c] w fun e w' => ∃ G ls, e = .returned (.tuple #[.slice (some ⟨G, 0, none⟩) n n, .bool true]) ∧ Led w' (some ⟨G, 0, none⟩) n (arcA x.p (ndsOf h)) ls ∧ Fr No w w' := by
 have HArc := Lib.hid (fun W (hW : Fr No w W) => arcs16 x h A n c W ⟨hI.cl.since hW, hI.nd.since hW, hI.len, hI.n24, hI.nc, hI.big, hI.few⟩)
 obtain ⟨hx, hs, hn, hn24, hnc, hB, hf⟩ := hI
 have hlen : (ndsOf h).length = n := by rw [ndsOf_len]; exact hn
 have HM := Lib.hid (fun W (hW : Fr No w W) => mayU_any x h A n c W (hx.since hW) hB (hs.since hW) hn (by omega) hnc hf)
 have hr1 : arcH x.p (ndsOf h) = arcsL x.p (ndsOf h) := by unfold arcH; rw [if_pos hm]
 rw [hm] at HM
 rw [hr1] at HArc
 have HLt := Lib.hid (fun (j : Nat) (hj : j < (arcsL x.p (ndsOf h)).length) => show (arcsL x.p (ndsOf h))[j].1 < n ∧ (arcsL x.p (ndsOf h))[j].2.1 < n by
  have := arcs_lt (List.getElem_mem hj)
  omega)
 have HFin := Lib.hid (fun (G : Nat) (ls : List IL) W (hl : ls.length = n) (hi : Ils W (some ⟨G, 0, none⟩) ls) (hL : IntoL (arcsL x.p (ndsOf h)) (arcsL x.p (ndsOf h)).length ls) => show Led W (some ⟨G, 0, none⟩) n (arcA x.p (ndsOf h)) ls from ⟨hi, hl, by omega, fun i hi => by
   have := intoT_len (arcsL x.p (ndsOf h)) (arcsL x.p (ndsOf h)).length i
   have := arcs_small16 x.p (ndsOf h) (by omega)
   rw [hL i hi]
   omega, fun i hi k => by rw [hL i hi]; exact into_mem, fun k i e => by have := arcA_lt k i e; omega⟩)
 have hsm := arcs_small16 x.p (ndsOf h) (by omega)
 unfold Ctl.agg at HM HArc ⊢
 obtain ⟨Z, hZ⟩ : ∃ Z, Z = x.arr := ⟨_, rfl⟩
 rw [← hZ] at HM HArc ⊢
 rw [Ctl.arr_eq] at hZ
 obtain ⟨W0, hW0⟩ : ∃ W0, W0 = w.alloc (.cells Z 26) := ⟨_, rfl⟩
 have bZ : Bk W0 w.heap.size 26 Z := by rw [hW0]; exact Bk.made w _ _
 have HF0 : Hid (Fr No w W0) := Lib.hid (by rw [hW0]; exact (Fr.refl _ _).alloc _)
 have HLd := Lib.hid (fun V (hV : Fr No W0 V) => show LdO V 26 ⟨w.heap.size, 0, none⟩ (.agg Z) from ld_cat hZ (bZ.fr hV (fun e => e)))
 have HL := Lib.hid (HLd.out W0 (Fr.refl _ _))
 have hwe := hW0.symm
 generalize arcsL x.p (ndsOf h) = al at *
 clear hZ hW0 bZ hx hs hn hB hf hlen hm hr1
 go_enter Tryz.func78, Tryz.ntmps78
 go_wp2_with (first
  | ((with_reducible refine wpl_ld ?_ ?_ HL.out ?_); (· rfl); (· rfl); simp only [Act.put, szA, szB, szC]))
 refine (HM.out _ HF0.out).mono ?_
 rintro e w1 ⟨rfl, f1⟩
 have F01 := Lib.hid f1
 have F1 := Lib.hid (HF0.out.trans' f1 (fun _ _ e => e))
 clear f1 HM hwe HL
 obtain ⟨G, hG⟩ : ∃ G, G = w1.heap.size := ⟨_, rfl⟩
 obtain ⟨W2, hW2⟩ : ∃ W2, W2 = w1.alloc (.cells ((List.replicate n (⟨none, [], 0⟩ : IL)).map IL.cell).toArray 28) := ⟨_, rfl⟩
 have HG := Lib.hid (show Bk W2 G 28 ((List.replicate n (⟨none, [], 0⟩ : IL)).map IL.cell).toArray by rw [hW2, hG]; exact Bk.made w1 _ _)
 have f2 : Fr No w1 W2 := by rw [hW2]; exact (Fr.refl _ _).alloc _
 have F02 := Lib.hid (F01.out.trans' f2 (fun _ _ e => e))
 have F2 := Lib.hid (F1.out.trans' f2 (fun _ _ e => e))
 have hGw : w.heap.size ≤ G := by rw [hG]; exact F1.out.size
 have hwe2 := hW2.symm
 have hmk := run_make_lists16 n (by omega) w1
 rw [← hG, hwe2] at hmk
 have HL2 := Lib.hid (HLd.out W2 F02.out)
 clear hW2 f2 F1 F01 hwe2 hG
 go_wp2_with (first
  | ((with_reducible refine wpl_ld ?_ ?_ HL2.out ?_); (· rfl); (· rfl); simp only [Act.put, szA, szB, szC]))
 refine (HArc.out _ F2.out).mono ?_
 rintro e w4 ⟨LA, lcA, rfl, hS4, f4⟩
 have hG4 := HG.out.fr f4 (fun e => e)
 have HI4 : Hid (Into w4 w4.heap.size G (List.replicate n (⟨none, [], 0⟩ : IL))) := Lib.hid ⟨hG4, fun i hi => by
  rw [List.getElem_replicate]
  exact World.ownsRow_nil _ _ _ _, fun i j hi hj b hij h1 => by
  rw [List.getElem_replicate] at h1
  simp [IL.cell, Value.ownBlock] at h1⟩
 have HF4 := Lib.hid (F2.out.trans' f4 (fun _ _ e => e))
 have HSl := Lib.hid (fun W (hW : Fr (fun k => k = G) w4 W) => show Sl W W.heap.size LA (al.flatMap arcC) from (hS4.fr hW (Nat.le_refl _) (fun ad hA hne => by
  obtain ⟨t, r, hal⟩ : ∃ t r, al = t :: r := by
   cases al with
   | nil => exact absurd rfl hne
   | cons t r => exact ⟨t, r, rfl⟩
  obtain ⟨ad', e, _, hc, _⟩ := hS4.arc (k := 0) (by rw [hal]; simp)
  rw [hA] at e
  injection e with e
  subst e
  have := noLists16 hG4 hc (fun a m c e => by cases e)
  rwa [block_add] at this)).more hW.size)
 have hn48 : n ≤ 1048576 := by omega
 obtain ⟨na, hna⟩ : ∃ k, al.length = k := ⟨_, rfl⟩
 rw [hna] at hsm
 have Hna := Lib.hid hna
 clear hS4 f4 hG4 HL2 hmk HArc HG F2 F02 HLd
 rw [hna]
 clear hna
 go_wp2
 go_loopw [20] (fun iv wr => ∃ (j : Nat) (ls : List IL), j ≤ na ∧ iv = .int .i64 (j : Int) ∧ ls.length = n ∧ Hid (IntoL al j ls) ∧ Hid (Into wr w4.heap.size G ls) ∧ Hid (Fr (fun k => k = G) w4 wr)) (fun iv _ => na - (intOf iv).toNat)
 case atStart => exact ⟨0, _, Nat.zero_le _, rfl, by simp, Lib.hid (fun i hi => by simp [intoT]), HI4, Lib.hid (Fr.refl _ _)⟩
 case round =>
  clear HI4
  obtain ⟨j, ls, hj, rfl, hls, hIL, hI, hfr⟩ := hrel
  by_cases hjl : j < na
  ·have hjl2 : j < al.length := by rw [Hna.out]; exact hjl
   have hjn : ((j : Nat) : Int) < (na : Int) := by omega
   obtain ⟨ad, rfl, hab, a0, a1, a2⟩ := (HSl.out wr hfr.out).arc hjl2
   obtain ⟨hl1, hl2⟩ := HLt.out j hjl2
   have Hst := Lib.hid (fun (A : Option Addr) (c : Nat) (b : Nat) (hb : b < ls.length) (he : al[j].2.1 = b) => hIL.out.step hjl2 hb he (A := A) (c := c))
   generalize al[j] = tr at *
   obtain ⟨fa, tb, kd⟩ := tr
   dsimp only at a0 a1 a2 hl1 hl2 Hst
   have hto : tb < ls.length := by omega
   have HST := Lib.hid (fun (A : Option Addr) (c : Nat) => Hst.out A c tb hto rfl)
   have hton : ((tb : Nat) : Int) < (n : Int) := by omega
   obtain ⟨q, hq⟩ : ∃ q, q = wr.heap.size := ⟨_, rfl⟩
   obtain ⟨W5, hW5⟩ : ∃ W5, W5 = wr.alloc (.cells #[.int .i64 (fa : Int), .int .i64 (tb : Int), .int .i64 (kd : Int)] 121) := ⟨_, rfl⟩
   have f5 : Fr No wr W5 := by rw [hW5]; exact (Fr.refl _ _).alloc _
   have b5 : Bk W5 q 121 #[.int .i64 (fa : Int), .int .i64 (tb : Int), .int .i64 (kd : Int)] := by rw [hW5, hq]; exact Bk.made _ _ _
   have HB5 := Lib.hid b5
   have HI5 := Lib.hid (hI.out.fr (f5.drew))
   have HF5 := Lib.hid (hfr.out.trans' f5.drew (fun _ _ e => e.elim))
   have hwe5 := hW5.symm
   have Hq := Lib.hid hq
   have hdl := intoT_len al j tb
   have hll : ls[tb].l.length ≤ j := by rw [hIL.out tb hto]; exact hdl
   clear Hst hIL hI hfr b5 f5 hW5 hq
   go_wp2_with fail
   rw [← Hq.out]
   refine wp_region_held_drew (S := fun V => V.cell? ⟨q, 0, none⟩ = some (.int .i64 (fa : Int)) ∧ V.cell? ⟨q, 1, none⟩ = some (.int .i64 (tb : Int))) (by kernel_rfl) (⟨HB5.out.cell 0, HB5.out.cell 1⟩) (fun hHeld => ?_)
   refine any_u 24 (.slice (some ⟨G, 0, none⟩) n n) (i := 0) rfl rfl ?_
   simp only [Act.put, szA, szB, szC]
   refine any_u 25 (.pointer (some ⟨q, 1, none⟩)) (i := 1) rfl rfl ?_
   simp only [Act.put, szA, szB, szC]
   refine any_u 26 (.int .i64 ((tb : Nat) : Int)) (i := 2) rfl rfl ?_
   simp only [Act.put, szA, szB, szC]
   refine any_u 27 (.slice (some ⟨G, 0, none⟩) n n) (i := 3) rfl rfl ?_
   simp only [Act.put, szA, szB, szC]
   refine any_u 28 (.pointer (some ⟨q, 1, none⟩)) (i := 4) rfl rfl ?_
   simp only [Act.put, szA, szB, szC]
   refine any_u 29 (.int .i64 ((tb : Nat) : Int)) (i := 5) rfl rfl ?_
   simp only [Act.put, szA, szB, szC]
   refine any_u 30 (.pointer (some ⟨G, tb, none⟩)) (i := 6) rfl rfl ?_
   simp only [Act.put, szA, szB, szC]
   refine any_u 32 (.pointer (some ⟨q, 0, none⟩)) (i := 8) rfl rfl ?_
   simp only [Act.put, szA, szB, szC]
   refine any_u 33 (.int .i64 ((fa : Nat) : Int)) (i := 9) rfl rfl ?_
   simp only [Act.put, szA, szB, szC]
   refine wpAnyH_ready (rs := [7, 10]) (by kernel_rfl) (by simp) ?_
   refine AllReadyH.cons rfl (fun K' hK => ?_) (AllReadyH.cons rfl (fun K' hK => ?_) AllReadyH.nil)
   ·have c1 : World.cell? W5.drew ⟨G, tb, none⟩ = some (.slice ls[tb].A ls[tb].l.length ls[tb].c) := by rw [HI5.out.rows.cell]; simp [hto, IL.cell]
    go_simp
    refine hK.out _ _ ⟨HB5.out.drew.cell 0, HB5.out.drew.cell 1⟩ (fun hHeld => ?_)
    clear hK
    try simp only [Act.put, szA, szB, szC]
    refine wpAnyH_ready (rs := [10]) (by kernel_rfl) (by simp) ?_
    refine AllReadyH.cons rfl (fun K' hK => ?_) AllReadyH.nil
    go_simp
    have fA1 : Fr No W5.drew (World.alloc W5.drew (.cells #[.int .i64 (fa : Int)] 3)) := (Fr.refl No _).alloc _
    have bA1 := HB5.out.drew.fr fA1 (fun e => e)
    have iA1 := HI5.out.fr fA1
    have oA1 : Bk (World.alloc W5.drew (.cells #[.int .i64 (fa : Int)] 3)) (World.heap W5.drew).size 3 #[.int .i64 (fa : Int)] := Bk.made _ _ _
    have FA1 := HF5.out.trans' fA1 (fun _ _ e => e.elim)
    refine hK.out _ _ ⟨bA1.cell 0, bA1.cell 1⟩ (fun hHeld => ?_)
    clear hK
    try simp only [Act.put, szA, szB, szC]
    refine wpAnyH_ready (rs := [11]) (by kernel_rfl) (by simp) ?_
    refine AllReadyH.cons rfl (fun K' hK => ?_) AllReadyH.nil
    refine wp_num16 _ _ _ rfl rfl w4.heap.size ls[tb].A ls[tb].l.length ls[tb].c ls[tb].l rfl _ fa rfl oA1 (iA1.all tb hto) (by omega) FA1.size ?_
    intro A8 c8' V8 o8 g8 q8
    have f8 : Fr (fun k => (Value.slice ls[tb].A ls[tb].l.length ls[tb].c).ownBlock = some k) _ V8 := (Fr.refl _ _).grown g8 (fun k hk => .inl hk)
    have b8 : Bk V8 q 121 #[.int .i64 (fa : Int), .int .i64 (tb : Int), .int .i64 (kd : Int)] := bA1.fr f8 (own_apart (iA1.all tb hto) bA1 (by decide))
    have r8 : Bk V8 G 28 (ls.map IL.cell).toArray := iA1.rows.fr f8 (own_apart (iA1.all tb hto) iA1.rows (by decide))
    have p8 := iA1.put hto (x := ⟨A8, ls[tb].l ++ [fa], c8'⟩) (by rw [show (⟨A8, ls[tb].l ++ [fa], c8'⟩ : IL).l.length = ls[tb].l.length + 1 by simp]; unfold IL.cell; rw [List.length_append]; exact o8) g8 (by unfold IL.cell; rw [List.length_append]; exact q8)
    have F8 : Fr (fun k => k = G) w4 V8 := FA1.trans' f8 (fun i hi e => by have := ((iA1.all tb hto).lt i e).1; omega)
    refine hK.out _ _ ⟨b8.cell 0, b8.cell 1⟩ (fun hHeld => ?_)
    clear hK
    try simp only [Act.put, szA, szB, szC]
    refine any_u 36 (.pointer (some ⟨G, tb, none⟩)) (i := 12) rfl rfl ?_
    simp only [Act.put, szA, szB, szC]
    refine wpAnyH_ready (rs := [13]) (by kernel_rfl) (by simp) ?_
    refine AllReadyH.cons rfl (fun K' hK => ?_) AllReadyH.nil
    have c8 : V8.cell? ⟨G, tb, none⟩ = some (.slice ls[tb].A ls[tb].l.length ls[tb].c) := by rw [r8.cell]; simp [hto, IL.cell]
    have z8 := r8.frozen tb
    go_simp
    have hqG : q ≠ G := fun e => by
     have := b8.apart r8 (by decide)
     exact this e
    have b9 := b8.setCell_other (i := tb) hqG (.slice A8 (ls[tb].l.length + 1) c8')
    have HP9 := Lib.hid p8
    have HF9 : Hid (Fr (fun k => k = G) w4 (V8.setCell ⟨G, tb, none⟩ (.slice A8 (ls[tb].l.length + 1) c8'))) := Lib.hid (F8.setCell (.inl rfl) _)
    have HIL9 := Lib.hid (HST.out A8 c8')
    refine hK.out _ _ ⟨b9.cell 0, b9.cell 1⟩ (fun hHeld => ?_)
    clear hK
    try simp only [Act.put, szA, szB, szC]
    refine wpAnyH_done (by kernel_rfl) ?_ _
    clear hHeld
    go_wp2
    go_roundw
    case rel => exact ⟨j + 1, ls.set tb ⟨A8, ls[tb].l ++ [fa], c8'⟩, by omega, by go_num, by rw [List.length_set]; exact hls, HIL9, by
     have e9 := HP9.out
     unfold IL.cell at e9
     rw [List.length_append] at e9
     exact Lib.hid e9, HF9⟩
    case measure => simp [intOf]; omega
   ·go_simp
    have fA2 : Fr No W5.drew (World.alloc W5.drew (.cells #[.int .i64 (fa : Int)] 3)) := (Fr.refl No _).alloc _
    have bA2 := HB5.out.drew.fr fA2 (fun e => e)
    have iA2 := HI5.out.fr fA2
    have oA2 : Bk (World.alloc W5.drew (.cells #[.int .i64 (fa : Int)] 3)) (World.heap W5.drew).size 3 #[.int .i64 (fa : Int)] := Bk.made _ _ _
    have FA2 := HF5.out.trans' fA2 (fun _ _ e => e.elim)
    refine hK.out _ _ ⟨bA2.cell 0, bA2.cell 1⟩ (fun hHeld => ?_)
    clear hK
    try simp only [Act.put, szA, szB, szC]
    refine wpAnyH_ready (rs := [7]) (by kernel_rfl) (by simp) ?_
    refine AllReadyH.cons rfl (fun K' hK => ?_) AllReadyH.nil
    have c2 : World.cell? (W5.drew.alloc (.cells #[.int .i64 (fa : Int)] 3)) ⟨G, tb, none⟩ = some (.slice ls[tb].A ls[tb].l.length ls[tb].c) := by rw [iA2.rows.cell]; simp [hto, IL.cell]
    have c2n : World.cell? (W5.alloc (.cells #[.int .i64 (fa : Int)] 3)) ⟨G, tb, none⟩ = some (.slice ls[tb].A ls[tb].l.length ls[tb].c) := c2
    go_simp
    refine hK.out _ _ ⟨bA2.cell 0, bA2.cell 1⟩ (fun hHeld => ?_)
    clear hK
    try simp only [Act.put, szA, szB, szC]
    refine wpAnyH_ready (rs := [11]) (by kernel_rfl) (by simp) ?_
    refine AllReadyH.cons rfl (fun K' hK => ?_) AllReadyH.nil
    refine wp_num16 _ _ _ rfl rfl w4.heap.size ls[tb].A ls[tb].l.length ls[tb].c ls[tb].l rfl _ fa rfl oA2 (iA2.all tb hto) (by omega) FA2.size ?_
    intro A8 c8' V8 o8 g8 q8
    have f8 : Fr (fun k => (Value.slice ls[tb].A ls[tb].l.length ls[tb].c).ownBlock = some k) _ V8 := (Fr.refl _ _).grown g8 (fun k hk => .inl hk)
    have b8 : Bk V8 q 121 #[.int .i64 (fa : Int), .int .i64 (tb : Int), .int .i64 (kd : Int)] := bA2.fr f8 (own_apart (iA2.all tb hto) bA2 (by decide))
    have r8 : Bk V8 G 28 (ls.map IL.cell).toArray := iA2.rows.fr f8 (own_apart (iA2.all tb hto) iA2.rows (by decide))
    have p8 := iA2.put hto (x := ⟨A8, ls[tb].l ++ [fa], c8'⟩) (by rw [show (⟨A8, ls[tb].l ++ [fa], c8'⟩ : IL).l.length = ls[tb].l.length + 1 by simp]; unfold IL.cell; rw [List.length_append]; exact o8) g8 (by unfold IL.cell; rw [List.length_append]; exact q8)
    have F8 : Fr (fun k => k = G) w4 V8 := FA2.trans' f8 (fun i hi e => by have := ((iA2.all tb hto).lt i e).1; omega)
    refine hK.out _ _ ⟨b8.cell 0, b8.cell 1⟩ (fun hHeld => ?_)
    clear hK
    try simp only [Act.put, szA, szB, szC]
    refine any_u 36 (.pointer (some ⟨G, tb, none⟩)) (i := 12) rfl rfl ?_
    simp only [Act.put, szA, szB, szC]
    refine wpAnyH_ready (rs := [13]) (by kernel_rfl) (by simp) ?_
    refine AllReadyH.cons rfl (fun K' hK => ?_) AllReadyH.nil
    have c8 : V8.cell? ⟨G, tb, none⟩ = some (.slice ls[tb].A ls[tb].l.length ls[tb].c) := by rw [r8.cell]; simp [hto, IL.cell]
    have z8 := r8.frozen tb
    go_simp
    have hqG : q ≠ G := fun e => by
     have := b8.apart r8 (by decide)
     exact this e
    have b9 := b8.setCell_other (i := tb) hqG (.slice A8 (ls[tb].l.length + 1) c8')
    have HP9 := Lib.hid p8
    have HF9 : Hid (Fr (fun k => k = G) w4 (V8.setCell ⟨G, tb, none⟩ (.slice A8 (ls[tb].l.length + 1) c8'))) := Lib.hid (F8.setCell (.inl rfl) _)
    have HIL9 := Lib.hid (HST.out A8 c8')
    refine hK.out _ _ ⟨b9.cell 0, b9.cell 1⟩ (fun hHeld => ?_)
    clear hK
    try simp only [Act.put, szA, szB, szC]
    refine wpAnyH_done (by kernel_rfl) ?_ _
    clear hHeld
    go_wp2
    go_roundw
    case rel => exact ⟨j + 1, ls.set tb ⟨A8, ls[tb].l ++ [fa], c8'⟩, by omega, by go_num, by rw [List.length_set]; exact hls, HIL9, by
     have e9 := HP9.out
     unfold IL.cell at e9
     rw [List.length_append] at e9
     exact Lib.hid e9, HF9⟩
    case measure => simp [intOf]; omega
  ·obtain rfl : j = na := by omega
   rw [← Hna.out] at hIL
   have HL := Lib.hid (HFin.out G ls wr hls hI.out.ils hIL.out)
   have HF := Lib.hid (HF4.out.trans' hfr.out (fun i hi e => by omega))
   clear hIL hI hfr HFin HSl HLt
   go_wp2
   refine bodyPost_ret (results_tmp2 rfl _ _ _) rfl ?_
   exact ⟨G, ls, rfl, HL.out, HF.out⟩
end Go.Proofs.YtmeimhpllemjfaaGreat
/- order -/
/- Package rsg: the order of a history. -/
namespace Go.Proofs.YtmeimhpllemjfaaGreat
open Go.RowKit

theorem In16.since {x : Ctl} {h : List Ndl} {A : Option Addr} {n c : Nat} {w W : World} (hI : In16 x h A n c w) (hW : Fr No w W) : In16 x h A n c W := ⟨hI.cl.since hW, hI.nd.since hW, hI.len, hI.n24, hI.nc, hI.big, hI.few⟩
set_option maxRecDepth 100000 in
set_option maxHeartbeats 2000000 in
theorem sourcesN16 (x : Ctl) (h : List Ndl) (A : Option Addr) (n c : Nat) (w : World) (hI : In16 x h A n c w) (hm : mayH x.p (ndsOf h) = false) : Calls Tryz.prog 78 #[x.agg, .slice A n c] w fun e w' => e = .returned (.tuple #[.slice none 0 0, .bool false]) ∧ Fr No w w' := by
 obtain ⟨hx, hs, hn, hn24, hnc, hB, hf⟩ := hI
 have HM := Lib.hid (fun W (hW : Fr No w W) => mayU_any x h A n c W (hx.since hW) hB (hs.since hW) hn (by omega) hnc hf)
 rw [hm] at HM
 unfold Ctl.agg at HM ⊢
 obtain ⟨Z, hZ⟩ : ∃ Z, Z = x.arr := ⟨_, rfl⟩
 rw [← hZ] at HM ⊢
 rw [Ctl.arr_eq] at hZ
 obtain ⟨W0, hW0⟩ : ∃ W0, W0 = w.alloc (.cells Z 26) := ⟨_, rfl⟩
 have bZ : Bk W0 w.heap.size 26 Z := by rw [hW0]; exact Bk.made w _ _
 have HF0 : Hid (Fr No w W0) := Lib.hid (by rw [hW0]; exact (Fr.refl _ _).alloc _)
 have HL := Lib.hid (show LdO W0 26 ⟨w.heap.size, 0, none⟩ (.agg Z) from ld_cat hZ bZ)
 have hwe := hW0.symm
 clear hZ hW0 bZ
 clear hx hs hn hB hf hm
 go_enter Tryz.func78, Tryz.ntmps78
 go_wp2_with (first
  | ((with_reducible refine wpl_ld ?_ ?_ HL.out ?_); (· rfl); (· rfl); simp only [Act.put, szA, szB, szC]))
 refine (HM.out _ HF0.out).mono ?_
 rintro e w1 ⟨rfl, f1⟩
 have F1 := Lib.hid (HF0.out.trans' f1 (fun _ _ e => e))
 clear f1 HM hwe HL
 go_wp2
 refine bodyPost_ret (results_tmp2 rfl _ _ _) rfl ?_
 exact ⟨rfl, F1.out⟩
theorem flags_told16 (n : Nat) (t : List Nat) (i : Nat) : (flags n fun k => decide (k ∈ t)).setIfInBounds i (.bool true) = flags n fun k => decide (k ∈ t ++ [i]) := by
 rw [flags_put]
 refine flags_congr n _ _ (fun k _ => ?_)
 by_cases e : k = i
 ·subst e
  rw [upd_same]
  simp
 ·rw [upd_other _ _ _ _ e]
  simp [e]
theorem info_int16p : (Tryz.prog.info? 3).map (fun i => (i.zero, i.size, i.bytes)) = some (some (.int .i64 0), 1, 8) := by kernel_rfl
theorem nums_one16 (l : List Nat) (k : Nat) : nums (l ++ [k]) = nums l ++ [.int .i64 (k : Int)] := by simp [nums]
theorem ord_step16 {a : Nat → Nat → Bool} {n j : Nat} {e : Nat} (hg : Greedy a n (ordT a n j)) (he : firstP (rdyL a n fun k => decide (k ∈ ordT a n j)) n = (e : Int)) : e < n ∧ Greedy a n (ordT a n j ++ [e]) ∧ ordT a n j ++ [e] = ordT a n (j + 1) := by
 rw [rdyL_is] at he
 obtain ⟨k, h1, h2, h3, _⟩ := firstP_nat (p := readyB a n (ordT a n j)) (n := n) (by omega)
 obtain rfl : k = e := by omega
 have h4 : nextR a n (ordT a n j) = (k : Int) := he
 exact ⟨h2, hg.more h2 h3, by rw [ordT, h4, Int.toNat_natCast]⟩
set_option maxRecDepth 100000 in
set_option maxHeartbeats 8000000 in
theorem order16 (x : Ctl) (h : List Ndl) (A : Option Addr) (n c : Nat) (w : World) (hI : In16 x h A n c w) : Calls Tryz.prog 56 #[x.agg, .slice A n c] w fun e w' => ∃ L lc, e = .returned (.tuple #[.slice L (ordH x.p (ndsOf h)).length lc, .bool (goodH x.p (ndsOf h))]) ∧ Sl w' w'.heap.size L (nums (ordH x.p (ndsOf h))) ∧ Fr No w w' := by
 have HSn := Lib.hid (fun (hm : mayH x.p (ndsOf h) = false) W (hW : Fr No w W) => sourcesN16 x h A n c W (hI.since hW) hm)
 have HSy := Lib.hid (fun (hm : mayH x.p (ndsOf h) = true) W (hW : Fr No w W) => sources16 x h A n c W (hI.since hW) hm)
 have hn24 := hI.n24
 have hlen : (ndsOf h).length = n := by rw [ndsOf_len]; exact hI.len
 have Hbad := Lib.hid (fun (hm : mayH x.p (ndsOf h) = false) => show goodH x.p (ndsOf h) = false ∧ ordH x.p (ndsOf h) = [] by
  have e : goodH x.p (ndsOf h) = false := by unfold goodH; rw [hm]; rfl
  exact ⟨e, by unfold ordH; rw [e]; rfl⟩)
 have Hstk := Lib.hid (fun (j : Nat) (hj : j < n) (hg : Greedy (arcA x.p (ndsOf h)) n (ordT (arcA x.p (ndsOf h)) n j)) (he : firstP (rdyL (arcA x.p (ndsOf h)) n fun k => decide (k ∈ ordT (arcA x.p (ndsOf h)) n j)) n < 0) => show goodH x.p (ndsOf h) = false ∧ ordH x.p (ndsOf h) = [] by
  rw [rdyL_is] at he
  have hno := firstP_neg he
  have h1 : freeB x.p (ndsOf h) = false := free_stuck (t := ordT (arcA x.p (ndsOf h)) n j) (by rw [hlen]; exact hg) (by rw [ordT_len, hlen]; exact hj) (by rw [hlen]; exact hno)
  have e : goodH x.p (ndsOf h) = false := by unfold goodH; rw [h1, Bool.and_false]
  exact ⟨e, by unfold ordH; rw [e]; rfl⟩)
 have Hall := Lib.hid (fun (hm : mayH x.p (ndsOf h) = true) (hg : Greedy (arcA x.p (ndsOf h)) n (ordT (arcA x.p (ndsOf h)) n n)) => show goodH x.p (ndsOf h) = true ∧ ordH x.p (ndsOf h) = ordT (arcA x.p (ndsOf h)) n n by
  have h1 : freeB x.p (ndsOf h) = true := free_all (t := ordT (arcA x.p (ndsOf h)) n n) (by rw [hlen]; exact hg) (by rw [ordT_len, hlen]; exact Nat.le_refl _)
  have e : goodH x.p (ndsOf h) = true := by unfold goodH; rw [h1, hm]; rfl
  refine ⟨e, ?_⟩
  unfold ordH
  rw [if_pos e, ord_arcs h1 (Nat.le_refl _), hlen])
 have HOs := Lib.hid (fun (j e : Nat) (hg : Greedy (arcA x.p (ndsOf h)) n (ordT (arcA x.p (ndsOf h)) n j)) he => ord_step16 (e := e) hg he)
 generalize goodH x.p (ndsOf h) = gb at *
 generalize ordH x.p (ndsOf h) = R at *
 generalize mayH x.p (ndsOf h) = mb at *
 generalize arcA x.p (ndsOf h) = a at *
 clear hI hlen
 unfold Ctl.agg at HSn HSy ⊢
 obtain ⟨Z, hZ⟩ : ∃ Z, Z = x.arr := ⟨_, rfl⟩
 rw [← hZ] at HSn HSy ⊢
 rw [Ctl.arr_eq] at hZ
 obtain ⟨W0, hW0⟩ : ∃ W0, W0 = w.alloc (.cells Z 26) := ⟨_, rfl⟩
 have bZ : Bk W0 w.heap.size 26 Z := by rw [hW0]; exact Bk.made w _ _
 have HF0 : Hid (Fr No w W0) := Lib.hid (by rw [hW0]; exact (Fr.refl _ _).alloc _)
 have HL := Lib.hid (show LdO W0 26 ⟨w.heap.size, 0, none⟩ (.agg Z) from ld_cat hZ bZ)
 have hwe := hW0.symm
 clear hZ hW0 bZ
 have hmk := run_make_flags15 n (by omega)
 go_enter Tryz.func56, Tryz.ntmps56
 cases mb
 ·have HB := Lib.hid (Hbad.out rfl)
  have HS := Lib.hid (HSn.out rfl)
  clear HSn HSy Hbad Hstk Hall HOs
  go_wp2_with (first
  | ((with_reducible refine wpl_ld ?_ ?_ HL.out ?_); (· rfl); (· rfl); simp only [Act.put, szA, szB, szC]))
  refine (HS.out _ HF0.out).mono ?_
  rintro e w1 ⟨rfl, f1⟩
  have F1 := Lib.hid (HF0.out.trans' f1 (fun _ _ e => e))
  clear f1 HS hwe HL hmk
  go_wp2
  refine bodyPost_ret (results_tmp2 rfl _ _ _) rfl ?_
  exact ⟨none, 0, by rw [HB.out.1, HB.out.2]; rfl, by rw [HB.out.2]; exact Sl.nil _ _ _, F1.out⟩
 ·have HA := Lib.hid (Hall.out rfl)
  have HS := Lib.hid (HSy.out rfl)
  clear HSn HSy Hbad Hall
  go_wp2_with (first
  | ((with_reducible refine wpl_ld ?_ ?_ HL.out ?_); (· rfl); (· rfl); simp only [Act.put, szA, szB, szC]))
  refine (HS.out _ HF0.out).mono ?_
  rintro e w1 ⟨G, ls, rfl, hLd, f1⟩
  have F1 := Lib.hid (HF0.out.trans' f1 (fun _ _ e => e))
  obtain ⟨T, hT⟩ : ∃ T, T = w1.heap.size := ⟨_, rfl⟩
  obtain ⟨W2, hW2⟩ : ∃ W2, W2 = w1.alloc (.cells (flags n fun _ => false) 4) := ⟨_, rfl⟩
  have f2 : Fr No w1 W2 := by rw [hW2]; exact (Fr.refl _ _).alloc _
  have HT2 : Hid (Bk W2 T 4 (flags n fun k => decide (k ∈ ordT a n 0))) := Lib.hid (by
   rw [hW2, hT, show (flags n fun k => decide (k ∈ ordT a n 0)) = flags n fun _ => false from flags_congr n _ _ (fun k _ => by simp [ordT])]
   exact Bk.made w1 _ _)
  have HLed2 := Lib.hid (hLd.since f2)
  have HF2 := Lib.hid (F1.out.trans' f2 (fun _ _ e => e))
  have hTs : w.heap.size ≤ T := by rw [hT]; exact F1.out.size
  have HLw := Lib.hid (fun W (hW : Fr (fun k => k = T) W2 W) => HLed2.out.frFlags HT2.out hW)
  have hwe2 := hW2.symm
  have hmk2 := hmk w1
  rw [← hT, hwe2] at hmk2
  clear f1 HS hwe HL hmk hLd F1 f2 hW2 hT hwe2 HLed2
  go_wp2
  go_loopw [8, 24] (fun lv iv wr => ∃ (j : Nat) (L : Option Addr) (lc : Nat), j ≤ n ∧ lv = .slice L j lc ∧ iv = .int .i64 (j : Int) ∧ Hid (Greedy a n (ordT a n j)) ∧ Hid (wr.ownsRow W2.heap.size 3 1 (.slice L j lc) j (nums (ordT a n j))) ∧ Hid (Bk wr T 4 (flags n fun k => decide (k ∈ ordT a n j))) ∧ Hid (Fr (fun k => k = T) W2 wr)) (fun _ iv _ => n - (intOf iv).toNat)
  case atStart => exact ⟨0, none, 0, Nat.zero_le _, rfl, rfl, Lib.hid .nil, Lib.hid (World.ownsRow_nil _ _ _ _), HT2, Lib.hid (Fr.refl _ _)⟩
  case round =>
   clear HT2 hmk2
   obtain ⟨j, L, lc, hj, rfl, rfl, hg, hO, hT, hfr⟩ := hrel
   by_cases hlt : j < n
   ·have hjn : ((j : Nat) : Int) < (n : Int) := by omega
    have HRd := Lib.hid (ready16 a n n T (some ⟨G, 0, none⟩) ls (fun k => decide (k ∈ ordT a n j)) wr (HLw.out wr hfr.out) hT.out)
    have Hs1 := Lib.hid (fun he => Hstk.out j hlt hg.out he)
    have Hs2 := Lib.hid (fun e he => HOs.out j e hg.out he)
    generalize firstP (rdyL a n fun k => decide (k ∈ ordT a n j)) n = r at *
    clear hg
    go_wp2_with fail
    refine (HRd.out).mono ?_
    rintro e w3 ⟨rfl, f3⟩
    have HT3 := Lib.hid (hT.out.fr f3 (fun e => e))
    have HO3 := Lib.hid (own_fr hO.out f3 (fun _ _ e => e))
    have HF3 := Lib.hid (hfr.out.trans' f3 (fun _ _ e => e.elim))
    clear hT hO hfr f3 HRd
    by_cases hr : r < 0
    ·have HB := Lib.hid (Hs1.out hr)
     have d0 : decide (r < 0) = true := decide_eq_true hr
     have HFw := Lib.hid (HF2.out.trans' HF3.out (fun i hi e => by omega))
     clear hr Hs1 Hs2 HT3 HO3 HF3
     go_wp2
     refine bodyPost_ret (results_tmp2 rfl _ _ _) rfl ?_
     exact ⟨none, 0, by rw [HB.out.1, HB.out.2]; rfl, by rw [HB.out.2]; exact Sl.nil _ _ _, HFw.out⟩
    ·obtain ⟨e, rfl⟩ := Int.eq_ofNat_of_zero_le (show 0 ≤ r by omega)
     obtain ⟨hen, hg2, ho2⟩ := Hs2.out e rfl
     have d0 : decide (((e : Nat) : Int) < 0) = false := decide_eq_false hr
     have hei : ((e : Nat) : Int) < (n : Int) := by omega
     have x0 : w3.cell? ⟨T, e, none⟩ = some (.bool (decide (e ∈ ordT a n j))) := by rw [HT3.out.cell, flags_at n _ e hen]
     have z0 := HT3.out.frozen e
     obtain ⟨V, hV⟩ : ∃ V, V = w3.setCell ⟨T, e, none⟩ (.bool true) := ⟨_, rfl⟩
     have HTV : Hid (Bk V T 4 (flags n fun k => decide (k ∈ ordT a n (j + 1)))) := Lib.hid (by
      have := HT3.out.put e (.bool true)
      rw [flags_told16, ho2] at this
      rw [hV]
      exact this)
     have hSV : Fr (fun k => k = T) w3 V := by rw [hV]; exact (Fr.refl (fun k => k = T) w3).setCell (p := ⟨T, e, none⟩) (.inl rfl) _
     have HOV := Lib.hid (own_fr HO3.out hSV (fun k hk e => own_apart HO3.out HT3.out (by decide) (by rw [hk, e])))
     have HFV := Lib.hid (HF3.out.trans' hSV (fun _ _ e => e))
     rw [ho2] at hg2
     have HG2 := Lib.hid hg2
     have Ho2 := Lib.hid ho2
     have hwe3 := hV.symm
     have hbase := HFV.out.size
     clear hr Hs1 Hs2 HT3 HO3 HF3 hV hSV hg2 ho2
     generalize decide (e ∈ ordT a n j) = eb at *
     go_wp2_with (at_builtin; refine wpList_append_elem rfl _ _ _ rfl W2.heap.size 3 (.int .i64 0) 1 8 Tryz.underlying28 info_int16p rfl (by omega) (.slice L j lc) j _ #[.int .i64 (e : Int)] rfl (by intro u hu; simp at hu; subst hu; rfl) rfl V.heap.size rfl rfl HOV.out (by unfold maxLen; omega) (by omega) hbase ?r2)
     case r2 =>
      intro A1 c1 w4 hown1 hf1 hg1
      have HO4 : Hid (w4.ownsRow W2.heap.size 3 1 (.slice A1 (j + 1) c1) (j + 1) (nums (ordT a n (j + 1)))) := Lib.hid (by rw [← Ho2.out, nums_one16]; exact hown1)
      have HT4 := Lib.hid (HTV.out.fr hf1 (own_apart HOV.out HTV.out (by decide)))
      have HF4 := Lib.hid (HFV.out.trans' hf1 (fun k hk e => by have := (HOV.out.lt k e).1; omega))
      clear hown1 hf1 hg1 HOV HTV HFV Ho2 x0 z0 hwe3
      go_wp2
      go_roundw
      case rel => exact ⟨j + 1, A1, c1, by omega, rfl, by go_num, HG2, HO4, HT4, HF4⟩
      case measure => simp [intOf]; omega
   ·obtain rfl : j = n := by omega
    have HB := Lib.hid (HA.out hg.out)
    have HFw := Lib.hid (HF2.out.trans' hfr.out (fun i hi e => by omega))
    have HSl := Lib.hid (Sl.ofOwn hO.out)
    have hol := ordT_len a j j
    have Hol := Lib.hid hol
    clear hg hO hT hfr Hstk HOs HLw hol
    go_wp2
    refine bodyPost_ret (results_tmp2 rfl _ _ _) rfl ?_
    exact ⟨L, lc, by rw [HB.out.1, HB.out.2, Hol.out]; rfl, by rw [HB.out.2]; exact HSl.out, HFw.out⟩
end Go.Proofs.YtmeimhpllemjfaaGreat
/- turns -/
/- Package rsg: who leads to itself. -/
namespace Go.Proofs.YtmeimhpllemjfaaGreat
open Go.RowKit

end Go.Proofs.YtmeimhpllemjfaaGreat
/- the contracts -/
/- Package rsg: its functions, as the laws ask them. -/
namespace Go.Proofs.YtmeimhpllemjfaaGreat
open Go.RowKit

set_option maxRecDepth 100000 in
theorem orderOf16 (x : Ctl) (h : List Ndl) (A : Option Addr) (n c : Nat) (w : World) (hI : In16 x h A n c w) : Calls Tryz.prog 38 #[x.agg, .slice A n c] w fun e w' => ∃ L lc, e = .returned (.slice L (ordH x.p (ndsOf h)).length lc) ∧ Sl w' w'.heap.size L (nums (ordH x.p (ndsOf h))) ∧ Fr No w w' := by
 have HS := Lib.hid (fun W (hW : Fr No w W) => order16 x h A n c W (hI.since hW))
 generalize goodH x.p (ndsOf h) = b at *
 generalize ordH x.p (ndsOf h) = R at *
 clear hI
 unfold Ctl.agg at HS ⊢
 obtain ⟨Z, hZ⟩ : ∃ Z, Z = x.arr := ⟨_, rfl⟩
 rw [← hZ] at HS ⊢
 rw [Ctl.arr_eq] at hZ
 obtain ⟨W0, hW0⟩ : ∃ W0, W0 = w.alloc (.cells Z 26) := ⟨_, rfl⟩
 have bZ : Bk W0 w.heap.size 26 Z := by rw [hW0]; exact Bk.made w _ _
 have HF0 : Hid (Fr No w W0) := Lib.hid (by rw [hW0]; exact (Fr.refl _ _).alloc _)
 have HL := Lib.hid (show LdO W0 26 ⟨w.heap.size, 0, none⟩ (.agg Z) from ld_cat hZ bZ)
 have hwe := hW0.symm
 clear hZ hW0 bZ
 go_enter Tryz.func38, Tryz.ntmps38
 go_wp2_with (first
  | ((with_reducible refine wpl_ld ?_ ?_ HL.out ?_); (· rfl); (· rfl); simp only [Act.put, szA, szB, szC]))
 refine (HS.out _ HF0.out).mono ?_
 rintro e w1 ⟨L, lc, rfl, hS, f1⟩
 have F1 := Lib.hid (HF0.out.trans' f1 (fun _ _ e => e))
 have HS1 := Lib.hid hS
 clear f1 HS hwe HL hS
 go_wp2
 go_ret
 exact ⟨L, lc, rfl, HS1.out, F1.out⟩
end Go.Proofs.YtmeimhpllemjfaaGreat
