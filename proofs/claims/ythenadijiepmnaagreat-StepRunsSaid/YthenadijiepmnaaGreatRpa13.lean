/- The document's own map of keys: of pairs, its pairs, changes made. -/
import Derived.Test.YthenadijiepmnaaGreatMpc13
import Derived.Test.YthenadijiepmnaaGreatWlo12
import Derived.Test.YthenadijiepmnaaGreatOfs5
import Derived.Test.YthenadijiepmnaaGreatRgt5
namespace Go.Proofs.YthenadijiepmnaaGreat
open Go.RowKit

theorem zero_list : Tryz.zeroCells76.toList = ((List.range 1000).map fun _ => Value.bool false) ++ ((List.range 1000).map fun _ => Value.int .i64 0) := by kernel_rfl
theorem zero_cells : Tryz.zeroCells76 = mcells (fun _ => false) (fun _ => 0) := by
  refine Array.ext' (zero_list.trans ?_)
  unfold mcells flags valsC
  rw [Array.toList_append]
theorem zero_map : ∃ Z : Array Value, Z = mcells (fun _ => false) (fun _ => 0) ∧ ∀ W, (zeroValue 76).run Tryz.prog W = .ok (.agg Z) W := ⟨_, zero_cells, Tryz.zeroValue76⟩
/-- The document's map at g says m. -/
def RM (w : World) (g : Nat) (m : Mp) : Prop := ∃ b v, Bk w g 76 (mcells b v) ∧ Mpv m b v
section
variable {w w' : World} {g : Nat} {m : Mp}
theorem RM.fr {S : Nat → Prop} (h : RM w g m) (hf : Fr S w w') (hs : ¬ S g) : RM w' g m := by
  obtain ⟨b, v, h1, h2⟩ := h
  exact ⟨b, v, h1.fr hf hs, h2⟩
theorem RM.lt (h : RM w g m) : g < w.heap.size := by
  obtain ⟨b, v, h1, h2⟩ := h
  exact h1.lt
theorem Bk.mis {b : Nat → Bool} {v : Nat → Int} (h : Bk w g 76 (mcells b v)) {k : Nat} (hk : k < 1000) : w.cell? ⟨g, k, none⟩ = some (.bool (b k)) := by rw [h.cell, mcells_is _ _ hk]
theorem Bk.mv {b : Nat → Bool} {v : Nat → Int} (h : Bk w g 76 (mcells b v)) {k : Nat} (hk : k < 1000) : w.cell? ⟨g, 1000 + k, none⟩ = some (.int .i64 (v k)) := by rw [h.cell, mcells_v _ _ hk]
end
set_option maxRecDepth 100000 in
set_option maxHeartbeats 4000000 in
theorem refOf13_any (l : List (Int × Int)) (A : Option Addr) (n c : Nat) (w : World) (hl : Sl w w.heap.size A (prs2 l)) (hn : l.length = n) (hle : n ≤ 1048576) :
    Calls Tryz.prog 11 #[.slice A n c] w fun e w' => ∃ g, e = .returned (.pointer (some ⟨g, 0, none⟩)) ∧ RM w' g (mapOf l) ∧ w.heap.size ≤ g ∧ Fr No w w' := by
  obtain ⟨Z, hZ, hz⟩ := zero_map
  obtain ⟨g, hg⟩ : ∃ g, w.heap.size = g := ⟨_, rfl⟩
  have hb := Bk.made w 76 Z
  have f0 : Fr No w (w.alloc (.cells Z 76)) := (Fr.refl _ _).alloc _
  rw [hg] at hb
  obtain ⟨W0, hW0⟩ : ∃ W0, w.alloc (.cells Z 76) = W0 := ⟨_, rfl⟩
  rw [hW0] at hb f0
  have H0 : Hid (RM W0 g (mapOf (l.take 0))) := Lib.hid ⟨_, _, by rw [← hZ]; exact hb, Mpv.start⟩
  have HF0 := Lib.hid f0
  have Hn := Lib.hid hn
  have Hsl := Lib.hid hl
  have Hg := Lib.hid hg
  clear hb f0 hl hn hZ
  go_enter Tryz.func11, Tryz.ntmps11
  go_wp2
  go_loopw [4] (fun iv wr => ∃ j : Nat, j ≤ n ∧ iv = .int .i64 j ∧ Hid (RM wr g (mapOf (l.take j))) ∧ Hid (Fr No w wr)) (fun i _ => n - (intOf i).toNat)
  case atStart => exact ⟨0, Nat.zero_le _, rfl, H0, HF0⟩
  case round =>
    clear H0 HF0 hW0 hz
    obtain ⟨j, hj, rfl, HR, hfr⟩ := hrel
    by_cases hlt : j < n
    · have hjl : j < l.length := by rw [Hn.out]; exact hlt
      obtain ⟨ad, rfl, hab, x0, x1⟩ := (Hsl.out.fr hfr.out (Nat.le_refl _) (fun _ _ _ e => e)).pair2 hjl
      have Hmp := Lib.hid (mapOf_take hjl)
      generalize l[j] = p at *
      obtain ⟨k, v⟩ := p
      unfold putM at Hmp
      simp only at x0 x1 Hmp
      by_cases hk : 0 ≤ k ∧ k ≤ 999
      · obtain ⟨k, rfl⟩ : ∃ n : Nat, k = n := ⟨k.toNat, (Int.toNat_of_nonneg hk.1).symm⟩
        rw [if_pos hk] at Hmp
        simp only [Int.toNat_natCast] at Hmp
        obtain ⟨b, u, hb, hm⟩ := HR.out
        have hk1 : k < 1000 := by omega
        have y0 := (hb.fr (S := No) ((Fr.refl No wr).drew) (fun e => e)).mis hk1
        have y1 := (hb.fr (S := No) ((Fr.refl No wr).drew).drew (fun e => e)).mv hk1
        have z0 := (hb.fr (S := No) ((Fr.refl No wr).drew) (fun e => e)).frozen k
        have z1 := (hb.fr (S := No) ((Fr.refl No wr).drew).drew (fun e => e)).frozen (1000 + k)
        have w0 : (wr.drew).cell? (ad.add (j * 2)) = some (.int .i64 (k : Int)) := x0
        have w1 : (wr.drew).drew.cell? (ad.add (j * 2)) = some (.int .i64 (k : Int)) := x0
        have w2 : (wr.drew).drew.cell? ⟨(ad.add (j * 2)).block, (ad.add (j * 2)).off + 1, none⟩ = some (.int .i64 v) := x1
        have hne : ¬ (ad.add (j * 2)).block = g := by
          have h1 : (ad.add (j * 2)).block = ad.block := block_add _ _
          have := Hg.out
          omega
        have hb1 := hb.put k (.bool true)
        rw [mcells_putB _ _ hk1] at hb1
        have hfs : Fr (fun i => i = g) wr (wr.setCell ⟨g, k, none⟩ (.bool true)) := (Fr.refl (fun i => i = g) wr).setCell (p := ⟨g, k, none⟩) (.inl rfl) _
        have hbl : (ad.add (j * 2)).block < wr.heap.size := by have h1 : (ad.add (j * 2)).block = ad.block := block_add _ _; have h2 := hfr.out.size; omega
        have t0 : ((wr.setCell ⟨g, k, none⟩ (.bool true)).drew.drew).cell? (ad.add (j * 2)) = some (.int .i64 (k : Int)) := (hfs.cell hbl hne).trans x0
        have t1 : ((wr.setCell ⟨g, k, none⟩ (.bool true)).drew.drew).cell? ⟨(ad.add (j * 2)).block, (ad.add (j * 2)).off + 1, none⟩ = some (.int .i64 v) := (hfs.cell (p := ⟨(ad.add (j * 2)).block, (ad.add (j * 2)).off + 1, none⟩) hbl hne).trans x1
        have t2 : ((wr.setCell ⟨g, k, none⟩ (.bool true)).drew.drew).cell? ⟨g, 1000 + k, none⟩ = some (.int .i64 (u k)) := hb1.mv hk1
        have t3 : ((wr.setCell ⟨g, k, none⟩ (.bool true)).drew.drew).frozen? ⟨g, 1000 + k, none⟩ = false := hb1.frozen (1000 + k)
        have hb2 := hb1.put (1000 + k) (.int .i64 v)
        rw [mcells_putV _ _ hk1] at hb2
        have HR2 := Lib.hid (show RM (((wr.setCell ⟨g, k, none⟩ (.bool true)).setCell ⟨g, 1000 + k, none⟩ (.int .i64 v)).drew.drew) g (mapOf (l.take (j + 1))) from ⟨_, _, hb2.fr (S := No) ((Fr.refl No _).drew.drew) (fun e => e), by rw [Hmp.out]; exact hm.put k v⟩)
        have HF2 := Lib.hid (((hfr.out.setCell (p := ⟨g, k, none⟩) (.inr (by show w.heap.size ≤ g; have := Hg.out; omega)) (.bool true)).setCell (p := ⟨g, 1000 + k, none⟩) (.inr (by show w.heap.size ≤ g; have := Hg.out; omega)) (.int .i64 v)).drew.drew)
        have q1 : (0 : Int) ≤ (k : Int) := hk.1
        have q2 : (k : Int) < 1000 := by omega
        have q3 : (k : Int) ≤ 999 := hk.2
        clear hb hm hb1 hb2 HR hfr Hmp hk hfs hbl hne y1 z1 w1 w2
        go_wp2_with fail
        go_region
        all_goals
          go_wp2_with fail
          go_region
          all_goals
            go_wp2
            go_roundw
            case rel => exact ⟨j + 1, by omega, by go_num, HR2, HF2⟩
            case measure => simp [intOf]; omega
      · rw [if_neg hk] at Hmp
        have HR2 : Hid (RM wr g (mapOf (l.take (j + 1)))) := Lib.hid (by rw [Hmp.out]; exact HR.out)
        clear Hmp HR
        by_cases h0 : 0 ≤ k
        · have h9 : ¬ k ≤ 999 := fun h => hk ⟨h0, h⟩
          clear hk
          go_wp2
          go_roundw
          case rel => exact ⟨j + 1, by omega, by go_num, HR2, hfr⟩
          case measure => simp [intOf]; omega
        · clear hk
          go_wp2
          go_roundw
          case rel => exact ⟨j + 1, by omega, by go_num, HR2, hfr⟩
          case measure => simp [intOf]; omega
    · obtain rfl : j = n := by omega
      have h1 := HR.out
      rw [List.take_of_length_le (by rw [Hn.out]; exact Nat.le_refl _)] at h1
      have HR1 := Lib.hid h1
      clear h1 HR
      go_wp2
      go_ret
      exact ⟨g, rfl, HR1.out, by have := Hg.out; omega, hfr.out⟩
end Go.Proofs.YthenadijiepmnaaGreat
/- The document's own map of keys: its pairs; changes made. -/
namespace Go.Proofs.YthenadijiepmnaaGreat
open Go.RowKit

theorem info_pair13 : (Tryz.prog.info? 54).map (fun i => (i.zero, i.size, i.bytes)) = some (some (.agg #[.int .i64 0, .int .i64 0]), 2, 16) := by kernel_rfl
theorem prs_snoc13 (l : List (Nat × Int)) (k : Nat) (v : Int) : prs (l ++ [(k, v)]) = prs l ++ [.int .i64 (k : Int), .int .i64 v] := by simp [prs, prC]
/-- A map's pairs. -/
def pairsM (m : Mp) : List (Nat × Int) := pairsTo m 1000
set_option maxRecDepth 100000 in
set_option maxHeartbeats 4000000 in
theorem refPairs13_any (g : Nat) (m : Mp) (w : World) (h : RM w g m) :
    Calls Tryz.prog 17 #[.pointer (some ⟨g, 0, none⟩)] w fun e w' => ∃ A c, e = .returned (.slice A (pairsM m).length c) ∧ Sl w' w'.heap.size A (prs (pairsM m)) ∧ Fr No w w' := by
  obtain ⟨b, v, hb, hm⟩ := h
  have Hb := Lib.hid (fun W (h : Fr No w W) => hb.fr h (fun e => e))
  have Hm := Lib.hid hm
  have hgl := hb.lt
  clear hb hm
  go_enter Tryz.func17, Tryz.ntmps17
  go_wp2
  go_loopw [3, 4] (fun ov kv wr => ∃ (j n : Nat) (A : Option Addr) (c : Nat), j ≤ 1000 ∧ kv = .int .i64 j ∧ ov = .slice A n c ∧ n ≤ j ∧ Hid (n = (pairsTo m j).length) ∧ wr.ownsRow w.heap.size 54 2 (.slice A n c) n (prs (pairsTo m j)) ∧ Fr No w wr) (fun _ k _ => 1000 - (intOf k).toNat)
  case atStart => exact ⟨0, 0, none, 0, by omega, rfl, rfl, Nat.le_refl _, Lib.hid rfl, World.ownsRow_nil _ _ _ _, Fr.refl _ _⟩
  case round =>
    obtain ⟨j, n, A, c, hj, rfl, rfl, hnj, Hn, hown, hfr⟩ := hrel
    by_cases hlt : j < 1000
    · have x0 := (Hb.out wr hfr).mis hlt
      have x1 := (Hb.out wr hfr).mv hlt
      have e1 := Hm.out.is hlt
      have e2 := Hm.out.val hlt
      have q1 : (0 : Int) ≤ (j : Int) := by omega
      have q2 : (j : Int) < 1000 := by omega
      cases hbj : b j
      · rw [hbj] at x0 e1
        have Hp : Hid (pairsTo m (j + 1) = pairsTo m j) := Lib.hid (by rw [pairsTo, e1]; simp)
        have HO := Lib.hid hown
        clear hown e1 e2 x1
        go_wp2
        go_roundw
        case rel => exact ⟨j + 1, n, A, c, by omega, by go_num, rfl, by omega, Lib.hid (by rw [Hp.out]; exact Hn.out), by rw [Hp.out]; exact HO.out, hfr⟩
        case measure => simp [intOf]; omega
      · rw [hbj] at x0 e1 e2
        rw [if_pos rfl] at e2
        have Hp : Hid (pairsTo m (j + 1) = pairsTo m j ++ [(j, v j)]) := Lib.hid (by rw [pairsTo, e1, e2]; simp)
        have Hl : Hid (n + 1 = (pairsTo m (j + 1)).length) := Lib.hid (by rw [Hp.out, List.length_append, ← Hn.out]; rfl)
        have Hps : Hid (prs (pairsTo m (j + 1)) = prs (pairsTo m j) ++ [.int .i64 (j : Int), .int .i64 (v j)]) := Lib.hid (by rw [Hp.out, prs_snoc13])
        have hsz := hfr.size
        generalize prs (pairsTo m j) = xs at *
        generalize v j = vj at *
        clear e1 e2
        go_wp2_with (at_builtin; refine wpList_append_elem rfl _ _ _ rfl w.heap.size 54 (.agg #[.int .i64 0, .int .i64 0]) 2 16 Tryz.underlying28 info_pair13 rfl (by omega) (.slice A n c) n xs #[.int .i64 (j : Int), .int .i64 vj] rfl (by intro u hu; simp at hu; rcases hu with rfl | rfl <;> rfl) rfl wr.heap.size rfl rfl hown (by unfold maxLen; omega) (by omega) hfr.size ?r2)
        case r2 =>
          intro A1 c1 w1 hown1 hf1 hg1
          go_wp2
          go_roundw
          case rel => exact ⟨j + 1, n + 1, A1, c1, by omega, by go_num, rfl, by omega, Hl, by rw [Hps.out]; exact hown1, hfr.trans' hf1 (fun k hk e => by have := (hown.lt k e).1; omega)⟩
          case measure => simp [intOf]; omega
    · have Hj : Hid (pairsTo m j = pairsM m) := Lib.hid (by unfold pairsM; rw [show j = 1000 by omega])
      rw [Hj.out] at hown
      have Hn' : Hid (n = (pairsM m).length) := Lib.hid (by rw [Hn.out, Hj.out])
      clear Hn
      go_wp2
      go_ret
      exact ⟨A, c, by rw [← Hn'.out]; rfl, Sl.ofOwn hown, hfr⟩
theorem Sl.chg2 {w : World} {B : Nat} {A : Option Addr} {l : List Chg} (h : Sl w B A (l.flatMap Chg.cells)) {k : Nat} (hk : k < l.length) :
    ∃ ad, A = some ad ∧ ad.block < B ∧ w.cell? (ad.add (k * 3)) = some (.int .i64 l[k].key) ∧ w.cell? ⟨(ad.add (k * 3)).block, (ad.add (k * 3)).off + 1, none⟩ = some (.bool l[k].gone) ∧
      w.cell? ⟨(ad.add (k * 3)).block, (ad.add (k * 3)).off + 2, none⟩ = some (.int .i64 l[k].value) := h.chg hk
set_option maxRecDepth 100000 in
set_option maxHeartbeats 4000000 in
theorem refApply13_any (g : Nat) (m : Mp) (l : List Chg) (A : Option Addr) (n c : Nat) (w : World) (h : RM w g m) (hl : Sl w w.heap.size A (l.flatMap Chg.cells)) (hap : ∀ ad, A = some ad → l ≠ [] → ad.block ≠ g) (hn : l.length = n) (hle : n ≤ 1048576) :
    Calls Tryz.prog 19 #[.pointer (some ⟨g, 0, none⟩), .slice A n c] w fun e w' => e = .returned (.tuple #[]) ∧ RM w' g (applyM m l) ∧ Fr (fun k => k = g) w w' := by
  have Hsl := Lib.hid (fun W (hW : Fr (fun k => k = g) w W) => hl.fr hW (Nat.le_refl _) (fun ad e hne e2 => hap ad e (fun e3 => hne (by rw [e3]; rfl)) e2))
  have Hn := Lib.hid hn
  have H0 : Hid (RM w g (applyM m (l.take 0))) := Lib.hid h
  have Hap := Lib.hid hap
  clear hl hn h hap
  go_enter Tryz.func19, Tryz.ntmps19
  go_wp2
  go_loopw [4] (fun iv wr => ∃ j : Nat, j ≤ n ∧ iv = .int .i64 j ∧ Hid (RM wr g (applyM m (l.take j))) ∧ Hid (Fr (fun k => k = g) w wr)) (fun i _ => n - (intOf i).toNat)
  case atStart => exact ⟨0, Nat.zero_le _, rfl, H0, Lib.hid (Fr.refl _ _)⟩
  case round =>
    clear H0
    obtain ⟨j, hj, rfl, HR, hfr⟩ := hrel
    by_cases hlt : j < n
    · have hjl : j < l.length := by rw [Hn.out]; exact hlt
      obtain ⟨ad, rfl, hab, x0, x1, x2⟩ := (Hsl.out _ hfr.out).chg2 hjl
      have hne : ¬ (ad.add (j * 3)).block = g := by
        rw [show (ad.add (j * 3)).block = ad.block from block_add _ _]
        exact Hap.out ad rfl (fun e => by rw [e] at hjl; simp at hjl)
      have hbl : (ad.add (j * 3)).block < wr.heap.size := by have h1 : (ad.add (j * 3)).block = ad.block := block_add _ _; have h2 := hfr.out.size; omega
      have Hmp := Lib.hid (applyM_take m hjl)
      generalize l[j] = p at *
      obtain ⟨k, gn, v⟩ := p
      unfold chgM at Hmp
      simp only at x0 x1 x2 Hmp
      by_cases hk : 0 ≤ k ∧ k ≤ 999
      · obtain ⟨k, rfl⟩ : ∃ n : Nat, k = n := ⟨k.toNat, (Int.toNat_of_nonneg hk.1).symm⟩
        rw [if_pos hk] at Hmp
        simp only [Int.toNat_natCast] at Hmp
        obtain ⟨b, u, hb, hm⟩ := HR.out
        have hk1 : k < 1000 := by omega
        have q1 : (0 : Int) ≤ (k : Int) := hk.1
        have q2 : (k : Int) < 1000 := by omega
        have q3 : (k : Int) ≤ 999 := hk.2
        have q4 : ¬ (k : Int) < 0 := by omega
        have y0 := (hb.fr (S := No) ((Fr.refl No wr).drew) (fun e => e)).mis hk1
        have z0 := (hb.fr (S := No) ((Fr.refl No wr).drew) (fun e => e)).frozen k
        have w0 : (wr.drew).cell? (ad.add (j * 3)) = some (.int .i64 (k : Int)) := x0
        have w1 : (wr.drew).cell? ⟨(ad.add (j * 3)).block, (ad.add (j * 3)).off + 1, none⟩ = some (.bool gn) := x1
        have hfs : ∀ bb, Fr (fun i => i = g) wr (wr.setCell ⟨g, k, none⟩ (.bool bb)) := fun bb => (Fr.refl (fun i => i = g) wr).setCell (p := ⟨g, k, none⟩) (.inl rfl) _
        cases gn
        · simp only [Bool.false_eq_true, if_false] at Hmp
          have hb1 := hb.put k (.bool true)
          rw [mcells_putB _ _ hk1] at hb1
          have t1 : ((wr.setCell ⟨g, k, none⟩ (.bool true)).drew).cell? ⟨(ad.add (j * 3)).block, (ad.add (j * 3)).off + 1, none⟩ = some (.bool false) := ((hfs true).cell (p := ⟨(ad.add (j * 3)).block, (ad.add (j * 3)).off + 1, none⟩) hbl hne).trans x1
          have t0 : ((wr.setCell ⟨g, k, none⟩ (.bool true)).drew.drew).cell? (ad.add (j * 3)) = some (.int .i64 (k : Int)) := ((hfs true).cell hbl hne).trans x0
          have t2 : ((wr.setCell ⟨g, k, none⟩ (.bool true)).drew.drew).cell? ⟨(ad.add (j * 3)).block, (ad.add (j * 3)).off + 2, none⟩ = some (.int .i64 v) := ((hfs true).cell (p := ⟨(ad.add (j * 3)).block, (ad.add (j * 3)).off + 2, none⟩) hbl hne).trans x2
          have t3 : ((wr.setCell ⟨g, k, none⟩ (.bool true)).drew.drew).cell? ⟨g, 1000 + k, none⟩ = some (.int .i64 (u k)) := hb1.mv hk1
          have t4 : ((wr.setCell ⟨g, k, none⟩ (.bool true)).drew.drew).frozen? ⟨g, 1000 + k, none⟩ = false := hb1.frozen (1000 + k)
          have hb2 := hb1.put (1000 + k) (.int .i64 v)
          rw [mcells_putV _ _ hk1] at hb2
          have HR2 := Lib.hid (show RM (((wr.setCell ⟨g, k, none⟩ (.bool true)).setCell ⟨g, 1000 + k, none⟩ (.int .i64 v)).drew.drew) g (applyM m (l.take (j + 1))) from ⟨_, _, hb2.fr (S := No) ((Fr.refl No _).drew.drew) (fun e => e), by rw [Hmp.out]; exact hm.put k v⟩)
          have HF2 := Lib.hid (((hfr.out.setCell (p := ⟨g, k, none⟩) (.inl rfl) (.bool true)).setCell (p := ⟨g, 1000 + k, none⟩) (.inl rfl) (.int .i64 v)).drew.drew)
          clear hb hm hb1 hb2 HR hfr Hmp hk hfs hbl hne
          go_wp2_with fail
          go_region
          all_goals
            go_wp2_with fail
            go_region
            all_goals
              go_wp2
              go_roundw
              case rel => exact ⟨j + 1, by omega, by go_num, HR2, HF2⟩
              case measure => simp [intOf]; omega
        · simp only [if_true] at Hmp
          have hb1 := hb.put k (.bool false)
          rw [mcells_putB _ _ hk1] at hb1
          have t1 : ((wr.setCell ⟨g, k, none⟩ (.bool false)).drew).cell? ⟨(ad.add (j * 3)).block, (ad.add (j * 3)).off + 1, none⟩ = some (.bool true) := ((hfs false).cell (p := ⟨(ad.add (j * 3)).block, (ad.add (j * 3)).off + 1, none⟩) hbl hne).trans x1
          have HR2 := Lib.hid (show RM ((wr.setCell ⟨g, k, none⟩ (.bool false)).drew) g (applyM m (l.take (j + 1))) from ⟨_, _, hb1.fr (S := No) ((Fr.refl No _).drew) (fun e => e), by rw [Hmp.out]; exact hm.out k⟩)
          have HF2 := Lib.hid ((hfr.out.setCell (p := ⟨g, k, none⟩) (.inl rfl) (.bool false)).drew)
          clear hb hm hb1 HR hfr Hmp hk hfs hbl hne
          go_wp2_with fail
          go_region
          all_goals
            go_wp2
            go_roundw
            case rel => exact ⟨j + 1, by omega, by go_num, HR2, HF2⟩
            case measure => simp [intOf]; omega
      · rw [if_neg hk] at Hmp
        have HR2 : Hid (RM wr g (applyM m (l.take (j + 1)))) := Lib.hid (by rw [Hmp.out]; exact HR.out)
        clear Hmp HR
        by_cases h0 : k < 0
        · clear hk
          go_wp2
          go_roundw
          case rel => exact ⟨j + 1, by omega, by go_num, HR2, hfr⟩
          case measure => simp [intOf]; omega
        · have h9 : 999 < k := by omega
          clear hk
          go_wp2
          go_roundw
          case rel => exact ⟨j + 1, by omega, by go_num, HR2, hfr⟩
          case measure => simp [intOf]; omega
    · obtain rfl : j = n := by omega
      have h1 := HR.out
      rw [List.take_of_length_le (by rw [Hn.out]; exact Nat.le_refl _)] at h1
      have HR1 := Lib.hid h1
      clear h1 HR
      go_wp2
      go_end0
      exact ⟨rfl, HR1.out, hfr.out⟩
end Go.Proofs.YthenadijiepmnaaGreat
