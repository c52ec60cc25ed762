/- The document's own: from which node a way leads to which. -/
import Derived.Test.YtmeimhpllemjfaaGreatRsg16
import Derived.Test.YtmeimhpllemjfaaGreatRof15
import Derived.Test.YtmeimhpllemjfaaGreatWls12
import Derived.Test.YtmeimhpllemjfaaGreatPts12
namespace Go.Proofs.YtmeimhpllemjfaaGreat
open Go.RowKit

def arcT (l : List (Nat × Nat × Nat)) (j a b : Nat) : Bool := (l.take j).any fun t => decide (t.1 = a ∧ t.2.1 = b)
theorem arcT_step {l : List (Nat × Nat × Nat)} {j : Nat} (hj : j < l.length) (a b : Nat) : arcT l (j + 1) a b = (arcT l j a b || decide (l[j].1 = a ∧ l[j].2.1 = b)) := by
  unfold arcT
  rw [List.take_succ_eq_append_getElem hj, List.any_append]
  simp
set_option maxRecDepth 100000 in
set_option maxHeartbeats 16000000 in
theorem refWays16_any (x : Ctl) (A : Option Addr) (n c : Nat) (w : World) (l : List (Nat × Nat × Nat)) (hnm : n ≤ 1048576) (hll : l.length ≤ 1048576) (hlt : ∀ t ∈ l, t.1 < n ∧ t.2.1 < n)
    (harc : ∀ W, Fr No w W → Calls Tryz.prog 77 #[x.agg, .slice A n c] W fun e w' => ∃ L lc, e = .returned (.slice L l.length lc) ∧ w'.ownsRow W.heap.size 121 3 (.slice L l.length lc) l.length (l.flatMap arcC) ∧ Fr No W w') :
    Calls Tryz.prog 55 #[x.agg, .slice A n c] w fun e w' => ∃ G g, e = .returned (.slice (some ⟨G, 0, none⟩) n n) ∧ MatB w' w.heap.size 73 4 G n n g (wsh (fun a b => l.any fun t => decide (t.1 = a ∧ t.2.1 = b)) n) ∧ Fr No w w' := by
  have hmr := run_make_rows n hnm
  have hmf := run_make_flags15 n hnm
  have hne : (73 : Nat) ≠ 4 := by decide
  have hne3 : (121 : Nat) ≠ 4 := by decide
  have hne4 : (121 : Nat) ≠ 73 := by decide
  have HC := Lib.hid harc
  have Hlt := Lib.hid (fun (k : Nat) (hk : k < l.length) => hlt _ (List.getElem_mem hk))
  have Hst := Lib.hid (fun (k : Nat) (hk : k < l.length) a b => arcT_step hk a b)
  obtain ⟨d, hd⟩ : ∃ d : Nat → Nat → Bool, d = fun a b => l.any fun t => decide (t.1 = a ∧ t.2.1 = b) := ⟨_, rfl⟩
  rw [← hd]
  have Hfin := Lib.hid (fun a b => show arcT l l.length a b = d a b by rw [hd]; unfold arcT; rw [List.take_length])
  have HWy := Lib.hid (fun (j k : Nat) (hj : j < n) (hk : k < n) => show wsh d n j k = wsh d n j k from rfl)
  clear harc hlt hd
  unfold Ctl.agg at *
  obtain ⟨Z, hZ⟩ : ∃ Z, Z = x.arr := ⟨_, rfl⟩
  rw [← hZ] at HC ⊢
  rw [Ctl.arr_eq] at hZ
  obtain ⟨W0, hW0⟩ : ∃ W0, W0 = w.alloc (.cells Z 26) := ⟨_, rfl⟩
  have bZ : Bk W0 w.heap.size 26 Z := by rw [hW0]; exact Bk.made w _ _
  have HF0 : Hid (Fr No w W0) := Lib.hid (by rw [hW0]; exact (Fr.refl _ _).alloc _)
  have hsz0 : W0.heap.size = w.heap.size + 1 := by rw [hW0]; simp
  have HLd : Hid (∀ V, Fr No W0 V → LdO V 26 ⟨w.heap.size, 0, none⟩ (.agg Z)) := Lib.hid (fun V h => ld_cat hZ (bZ.fr h (fun e => e)))
  have hwe := hW0.symm
  clear hZ hW0 bZ
  obtain ⟨ll, hll2⟩ : ∃ m, l.length = m := ⟨_, rfl⟩
  have Hll := Lib.hid hll2
  rw [hll2] at HC hll Hfin
  clear hll2
  go_enter Tryz.func55, Tryz.ntmps55
  go_wp2
  obtain ⟨G, hGe⟩ : ∃ G, W0.heap.size = G := ⟨_, rfl⟩
  obtain ⟨W1, hW1⟩ : ∃ W1, W1 = W0.alloc (.cells (rowsA n 0 fun _ => 0) 73) := ⟨_, rfl⟩
  have hM1 : Hid (MatB W1 G 73 4 G n 0 (fun _ => 0) fun _ _ => false) := Lib.hid (by
    rw [hW1, ← hGe]
    exact MatB.start W0 W0.heap.size _ _ n (Nat.le_refl _))
  have HF1 : Hid (Fr No W0 W1) := Lib.hid (by rw [hW1]; exact (Fr.refl _ _).alloc _)
  have HG : Hid (w.heap.size ≤ G) := Lib.hid (by omega)
  have HG0 : Hid (W0.heap.size = G) := Lib.hid hGe
  have hsw : w.heap.size + 1 = G := by omega
  rw [← hW1]
  try rw [hsw]
  clear hW1 hmr hwe hGe hsz0
  go_loopw [7] (fun iv wr => ∃ (i : Nat) (g : Nat → Nat), i ≤ n ∧ iv = .int .i64 (i : Int) ∧ Hid (MatB wr G 73 4 G n i g fun _ _ => false) ∧ Hid (Fr No W0 wr)) (fun iv _ => n - (intOf iv).toNat)
  case atStart => exact ⟨0, _, Nat.zero_le _, rfl, hM1, HF1⟩
  case round =>
    obtain ⟨i, g, hi, rfl, hM, hfr⟩ := hrel
    by_cases hlt : i < n
    · have hin : ((i : Nat) : Int) < (n : Int) := by omega
      obtain ⟨q, hq⟩ : ∃ q, wr.heap.size = q := ⟨_, rfl⟩
      obtain ⟨W2, hW2⟩ : ∃ W2, W2 = wr.alloc (.cells (flags n fun _ => false) 4) := ⟨_, rfl⟩
      have f2 : Fr No wr W2 := by rw [hW2]; exact (Fr.refl _ _).alloc _
      have hM2 := hM.out.since f2
      have bq : Bk W2 q 4 (flags n fun _ => false) := by
        rw [hW2, ← hq]
        exact Bk.made _ _ _
      have x0 : W2.cell? ⟨G, i, none⟩ = some (.slice none 0 0) := by rw [hM2.rows.cell i, rowsA_at g hlt, if_neg (by omega)]
      have x1 := hM2.rows.frozen i
      obtain ⟨W3, hW3⟩ : ∃ W3, W3 = W2.setCell ⟨G, i, none⟩ (.slice (some ⟨q, 0, none⟩) n n) := ⟨_, rfl⟩
      have hBw : G ≤ wr.heap.size := by have := hfr.out.size; have := HG0.out; omega
      have hM3 : Hid (MatB W3 G 73 4 G n (i + 1) (updN g i q) fun _ _ => false) := Lib.hid (by
        rw [hW3]
        exact hM.out.more hne q f2 bq (by omega) hBw (fun j hj k _ => rfl))
      have HF3 : Hid (Fr No W0 W3) := Lib.hid (by rw [hW3]; exact (hfr.out.trans' f2 (fun _ _ e => e)).setCell (.inr (by have := HG0.out; show W0.heap.size ≤ G; omega)) _)
      have hwe2 := hW2.symm
      have hwe3 := hW3.symm
      generalize updN g i q = g' at *
      clear hM hM2 bq f2 hW2 hW3 hBw
      go_wp2
      clear x0 x1 hwe2 hwe3 hq
      go_roundw
      case rel => exact ⟨i + 1, g', by omega, by go_num, hM3, HF3⟩
      case measure => simp [intOf]; omega
    · obtain rfl : i = n := by omega
      clear hmf hM1
      have hld := Lib.hid (HLd.out _ hfr.out)
      have C1 := Lib.hid (HC.out _ (HF0.out.trans' hfr.out (fun _ _ e => e)))
      go_wp2_with (first
        | ((with_reducible refine wpl_ld ?_ ?_ hld.out ?_); (· rfl); (· rfl); simp only [Act.put, szA, szB, szC]))
      refine (C1.out).mono ?_
      rintro e w5 ⟨L, lc, rfl, hown, f5⟩
      have F5 : Hid (Fr No w w5) := Lib.hid ((HF0.out.trans' hfr.out (fun _ _ e => e)).trans' f5 (fun _ _ e => e))
      have hM5 : Hid (MatB w5 G 73 4 G i i g (arcT l 0)) := Lib.hid ((hM.out.since f5).congr (fun j k _ _ => by simp [arcT]))
      have HO5 := Lib.hid (own_base hown (show w.heap.size ≤ wr.heap.size from (HF0.out.trans' hfr.out (fun _ _ e => e)).size))
      clear hown f5 hM hfr C1 hld HC HLd HF0 HF1
      go_wp2
      go_loopw [9] (fun jv wx => ∃ j : Nat, j ≤ ll ∧ jv = .int .i64 (j : Int) ∧ Hid (MatB wx G 73 4 G i i g (arcT l j)) ∧ Hid (wx.ownsRow w.heap.size 121 3 (.slice L ll lc) ll (l.flatMap arcC)) ∧ Hid (Fr No w wx)) (fun jv _ => ll - (intOf jv).toNat)
      case atStart => exact ⟨0, Nat.zero_le _, rfl, hM5, HO5, F5⟩
      case round =>
        obtain ⟨j, hj, rfl, hMj, hO, hfj⟩ := hrel
        by_cases hjl : j < ll
        · have hjl2 : j < l.length := by rw [Hll.out]; exact hjl
          have hji : ((j : Nat) : Int) < (ll : Int) := by omega
          obtain ⟨ad, rfl, hab, a0, a1, a2⟩ := (Sl.ofOwn hO.out).arc hjl2
          have hab2 := Hlt.out j hjl2
          have hs := Lib.hid (fun a b => Hst.out j hjl2 a b)
          generalize l[j].1 = a at *
          generalize l[j].2.1 = b at *
          have han : ((a : Nat) : Int) < (i : Int) := by omega
          have hbn : ((b : Nat) : Int) < (i : Int) := by omega
          have r1 := hMj.out.cellR hab2.1 (Nat.le_refl i)
          have b3 := hMj.out.cellB (k := b) hab2.1 hab2.2
          have b4 := (hMj.out.row a hab2.1).frozen b
          have hput : Hid (∀ V, Fr No wr V → MatB (V.setCell ⟨g a, b, none⟩ (.bool true)) G 73 4 G i i g (arcT l (j + 1))) := Lib.hid (fun V hV => ((hMj.out.since hV).put hne hab2.1 true).congr (fun j' k' _ _ => by
            rw [hs.out]
            by_cases q1 : j' = a
            · subst q1
              rw [if_pos rfl]
              unfold upd
              by_cases q2 : k' = b
              · subst q2
                simp
              · rw [if_neg q2, decide_eq_false (fun e => q2 e.2.symm), Bool.or_false]
            · rw [if_neg q1, decide_eq_false (fun e => q1 e.1.symm), Bool.or_false]))
          have hga := hMj.out.new.2 a hab2.1
          have hown2 : Hid (∀ V, Fr No wr V → (V.setCell ⟨g a, b, none⟩ (.bool true)).ownsRow w.heap.size 121 3 (.slice (some ad) ll lc) ll (l.flatMap arcC)) := Lib.hid (fun V hV => own_fr (own_fr hO.out hV (fun _ _ e => e)) ((Fr.refl (fun k => k = g a) V).setCell (p := ⟨g a, b, none⟩) (.inl rfl) _) (fun k hk e => own_apart (own_fr hO.out hV (fun _ _ e => e)) ((hMj.out.since hV).row a hab2.1) hne3 (by rw [hk, e])))
          have hF6 : Hid (∀ V, Fr No wr V → Fr No w (V.setCell ⟨g a, b, none⟩ (.bool true))) := Lib.hid (fun V hV => (hfj.out.trans' hV (fun _ _ e => e)).setCell (.inr (by have := HG.out; show w.heap.size ≤ g a; omega)) _)
          clear hs hMj hO hfj
          generalize g a = ga at *
          generalize arcT l j a b = z at *
          go_wp2_with fail
          go_region
          have HM7 := Lib.hid ((hput.out wr (Fr.refl _ _)).since ((Fr.refl No _).drew))
          have HO7 := Lib.hid (own_fr (hown2.out wr (Fr.refl _ _)) ((Fr.refl No _).drew) (fun _ _ e => e))
          have HF7 := Lib.hid ((hF6.out wr (Fr.refl _ _)).drew)
          clear hput hown2 hF6
          go_wp2
          go_roundw
          case rel => exact ⟨j + 1, by omega, by go_num, HM7, HO7, HF7⟩
          case measure => simp [intOf]; omega
        · obtain rfl : j = ll := by omega
          have hM0 : Hid (MatB wr G 73 4 G i i g (wsh d 0)) := Lib.hid (hMj.out.congr (fun j k' _ _ => Hfin.out j k'))
          have hfr := hfj
          clear hMj hO hfj Hfin Hst Hlt Hll hM5 HO5 F5
          go_wp2
          go_loopw [10] (fun mv wx => ∃ m : Nat, m ≤ i ∧ mv = .int .i64 (m : Int) ∧ Hid (MatB wx G 73 4 G i i g (wsh d m)) ∧ Hid (Fr No w wx)) (fun mv _ => i - (intOf mv).toNat)
          case atStart => exact ⟨0, Nat.zero_le _, rfl, hM0, hfr⟩
          case round =>
            obtain ⟨m, hm, rfl, hMm, hfm⟩ := hrel
            by_cases hmn : m < i
            · have hmi : ((m : Nat) : Int) < (i : Int) := by omega
              have hM1 : Hid (MatB wr G 73 4 G i i g (curW d m 0 0)) := Lib.hid (hMm.out.congr (fun j k' _ _ => (curW_zero d m j k').symm))
              clear hMm
              go_wp2
              go_loopw [11] (fun av wx => ∃ a : Nat, a ≤ i ∧ av = .int .i64 (a : Int) ∧ Hid (MatB wx G 73 4 G i i g (curW d m a 0)) ∧ Hid (Fr No w wx)) (fun av _ => i - (intOf av).toNat)
              case atStart => exact ⟨0, Nat.zero_le _, rfl, hM1, hfm⟩
              case round =>
                obtain ⟨a, ha, rfl, hMa, hfa⟩ := hrel
                by_cases han : a < i
                · have hai : ((a : Nat) : Int) < (i : Int) := by omega
                  go_wp2
                  go_loopw [12] (fun kv wx => ∃ k : Nat, k ≤ i ∧ kv = .int .i64 (k : Int) ∧ Hid (MatB wx G 73 4 G i i g (curW d m a k)) ∧ Hid (Fr No w wx)) (fun kv _ => i - (intOf kv).toNat)
                  case atStart => exact ⟨0, Nat.zero_le _, rfl, hMa, hfa⟩
                  case round =>
                    obtain ⟨k, hk, rfl, hMk, hfk⟩ := hrel
                    by_cases hkn : k < i
                    · have hki : ((k : Nat) : Int) < (i : Int) := by omega
                      have r1 := hMk.out.cellR han (Nat.le_refl i)
                      have r2 := hMk.out.cellR hmn (Nat.le_refl i)
                      have b1 := hMk.out.cellB (k := m) han hmn
                      have b2 := hMk.out.cellB (k := k) hmn hkn
                      have b3 := hMk.out.cellB (k := k) han hkn
                      have b4 := (hMk.out.row a han).frozen k
                      rw [curW_lft] at b1
                      rw [curW_rgt] at b2
                      have Hst := Lib.hid (fun j k' => curW_step d m a k j k')
                      obtain ⟨u, hu⟩ : ∃ u, wsh d m a m = u := ⟨_, rfl⟩
                      obtain ⟨v, hv⟩ : ∃ v, wsh d m m k = v := ⟨_, rfl⟩
                      rw [hu] at b1 Hst
                      rw [hv] at b2 Hst
                      have hno : Hid ((u && v) = false → MatB wr G 73 4 G i i g (curW d m a (k + 1))) := Lib.hid (fun e => hMk.out.congr (fun j k' _ _ => by
                        rw [Hst.out]
                        split
                        · next q => obtain ⟨rfl, rfl⟩ := q; rw [e, Bool.or_false]
                        · rfl))
                      have hyes : Hid ((u && v) = true → MatB (wr.setCell ⟨g a, k, none⟩ (.bool true)) G 73 4 G i i g (curW d m a (k + 1))) := Lib.hid (fun e => (hMk.out.put hne han true).congr (fun j k' _ _ => by
                        rw [Hst.out]
                        by_cases q1 : j = a
                        · rw [if_pos q1]
                          unfold upd
                          by_cases q2 : k' = k
                          · rw [if_pos q2, if_pos ⟨q1, q2⟩, e, Bool.or_true]
                          · rw [if_neg q2, if_neg (fun q => q2 q.2), q1]
                        · rw [if_neg q1, if_neg (fun q => q1 q.1)]))
                      have hFy : Hid (Fr No w (wr.setCell ⟨g a, k, none⟩ (.bool true))) := Lib.hid (hfk.out.setCell (.inr (by have := hMk.out.new.2 a han; have := HG.out; show w.heap.size ≤ g a; omega)) _)
                      clear hu hv Hst hMk
                      generalize curW d m a k a k = z at *
                      generalize g a = ga at *
                      generalize g m = gm at *
                      cases u
                      · go_wp2
                        go_roundw
                        case rel => exact ⟨k + 1, by omega, by go_num, Lib.hid (hno.out rfl), hfk⟩
                        case measure => simp [intOf]; omega
                      · cases v
                        · go_wp2
                          go_roundw
                          case rel => exact ⟨k + 1, by omega, by go_num, Lib.hid (hno.out rfl), hfk⟩
                          case measure => simp [intOf]; omega
                        · go_wp2
                          go_roundw
                          case rel => exact ⟨k + 1, by omega, by go_num, Lib.hid (hyes.out rfl), hFy⟩
                          case measure => simp [intOf]; omega
                    · obtain rfl : k = i := by omega
                      have hM2 : Hid (MatB wr G 73 4 G k k g (curW d m (a + 1) 0)) := Lib.hid (hMk.out.congr (fun j k' _ hk' => curW_row d hk'))
                      clear hMk
                      go_wp2
                      go_roundw
                      case rel => exact ⟨a + 1, by omega, by go_num, hM2, hfk⟩
                      case measure => simp [intOf]; omega
                · obtain rfl : a = i := by omega
                  have hM2 : Hid (MatB wr G 73 4 G a a g (wsh d (m + 1))) := Lib.hid (hMa.out.congr (fun j k' hj _ => curW_end d hj))
                  clear hMa
                  go_wp2
                  go_roundw
                  case rel => exact ⟨m + 1, by omega, by go_num, hM2, hfa⟩
                  case measure => simp [intOf]; omega
            · obtain rfl : m = i := by omega
              go_wp2
              go_ret
              exact ⟨G, g, rfl, hMm.out.weak HG.out, hfm.out⟩
end Go.Proofs.YtmeimhpllemjfaaGreat
/- The document's own: the nodes from which a way leads to themselves; is a graph good? -/
namespace Go.Proofs.YtmeimhpllemjfaaGreat
open Go.RowKit

def cycT (f : Nat → Nat → Bool) (i : Nat) : List Nat := (List.range i).filter fun k => f k k
theorem cycT_step (f : Nat → Nat → Bool) (i : Nat) : cycT f (i + 1) = cycT f i ++ (if f i i = true then [i] else []) := by
  unfold cycT
  rw [List.range_succ, List.filter_append]
  congr 1
  by_cases e : f i i = true
  · simp [e]
  · simp [e]
set_option maxRecDepth 100000 in
set_option maxHeartbeats 8000000 in
theorem refCycle16_any (x : Ctl) (A : Option Addr) (n c : Nat) (w : World) (f : Nat → Nat → Bool) (hnm : n ≤ 1048576)
    (hway : ∀ W, Fr No w W → Calls Tryz.prog 55 #[x.agg, .slice A n c] W fun e w' => ∃ G g, e = .returned (.slice (some ⟨G, 0, none⟩) n n) ∧ MatB w' W.heap.size 73 4 G n n g f ∧ Fr No W w') :
    Calls Tryz.prog 36 #[x.agg, .slice A n c] w fun e w' => ∃ L lc, e = .returned (.slice L (cycT f n).length lc) ∧ w'.ownsRow w.heap.size 3 1 (.slice L (cycT f n).length lc) (cycT f n).length (nums (cycT f n)) ∧ Fr No w w' := by
  have hne5 : (3 : Nat) ≠ 4 := by decide
  have hne6 : (3 : Nat) ≠ 73 := by decide
  have HC := Lib.hid hway
  have Hst := Lib.hid (fun i => cycT_step f i)
  have Hle := Lib.hid (fun i => show (cycT f i).length ≤ i from Nat.le_trans (List.length_filter_le _ _) (by simp))
  obtain ⟨i0, hi0, hz0, hz1, hz2⟩ := info_parts info_int16
  clear hway
  unfold Ctl.agg at *
  obtain ⟨Z, hZ⟩ : ∃ Z, Z = x.arr := ⟨_, rfl⟩
  rw [← hZ] at HC ⊢
  rw [Ctl.arr_eq] at hZ
  obtain ⟨W0, hW0⟩ : ∃ W0, W0 = w.alloc (.cells Z 26) := ⟨_, rfl⟩
  have bZ : Bk W0 w.heap.size 26 Z := by rw [hW0]; exact Bk.made w _ _
  have HF0 : Hid (Fr No w W0) := Lib.hid (by rw [hW0]; exact (Fr.refl _ _).alloc _)
  have hld : Hid (LdO W0 26 ⟨w.heap.size, 0, none⟩ (.agg Z)) := Lib.hid (ld_cat hZ bZ)
  have hwe := hW0.symm
  clear hZ hW0 bZ
  go_enter Tryz.func36, Tryz.ntmps36
  go_wp2_with (first
    | ((with_reducible refine wpl_ld ?_ ?_ hld.out ?_); (· rfl); (· rfl); simp only [Act.put, szA, szB, szC]))
  refine (HC.out _ HF0.out).mono ?_
  rintro e w1 ⟨G, g, rfl, hM, f1⟩
  have F1 := Lib.hid (HF0.out.trans' f1 (fun _ _ e => e))
  have HM := Lib.hid (hM.weak HF0.out.size)
  clear hM f1 HC HF0 hld hwe
  go_wp2
  go_loopw [6, 7] (fun lv iv wr => ∃ (i : Nat) (L : Option Addr) (lc : Nat), i ≤ n ∧ lv = .slice L (cycT f i).length lc ∧ iv = .int .i64 (i : Int) ∧ Hid (wr.ownsRow w.heap.size 3 1 (.slice L (cycT f i).length lc) (cycT f i).length (nums (cycT f i))) ∧ Hid (MatB wr w.heap.size 73 4 G n n g f) ∧ Hid (Fr No w wr)) (fun _ iv _ => n - (intOf iv).toNat)
  case atStart => exact ⟨0, none, 0, Nat.zero_le _, rfl, rfl, Lib.hid (World.ownsRow_nil _ _ _ _), HM, F1⟩
  case round =>
    obtain ⟨i, L, lc, hi, rfl, rfl, hO, hMr, hfr⟩ := hrel
    by_cases hlt : i < n
    · have hin : ((i : Nat) : Int) < (n : Int) := by omega
      have r1 := hMr.out.cellR hlt (Nat.le_refl n)
      have b1 := hMr.out.cellB (k := i) hlt hlt
      have hst := Hst.out i
      have hle := Hle.out i
      obtain ⟨m, hm⟩ : ∃ m, (cycT f i).length = m := ⟨_, rfl⟩
      rw [hm] at hO hle ⊢
      have HM1 := Lib.hid (fun V (S : Nat → Prop) (hV : Fr S wr V) (h1 : ¬ S G) (h2 : ∀ j, j < n → ¬ S (g j)) => hMr.out.fr hV h1 h2)
      have HapG : Hid ((Value.slice L m lc).ownBlock ≠ some G) := Lib.hid (own_apart hO.out hMr.out.rows hne6)
      have Hapg := Lib.hid (fun (j : Nat) (hj : j < n) => own_apart hO.out (hMr.out.row j hj) hne5)
      have hbase := hfr.out.size
      clear hMr
      generalize g i = gi at *
      obtain ⟨b, hb⟩ : ∃ b, f i i = b := ⟨_, rfl⟩
      rw [hb] at b1 hst
      cases b
      · have he : cycT f (i + 1) = cycT f i := by rw [hst]; simp
        have HO2 : Hid (wr.ownsRow w.heap.size 3 1 (.slice L (cycT f (i + 1)).length lc) (cycT f (i + 1)).length (nums (cycT f (i + 1)))) := Lib.hid (by rw [he, hm]; exact hO.out)
        have HL2 : Hid (m = (cycT f (i + 1)).length) := Lib.hid (by rw [he, hm])
        have HM2 := Lib.hid (HM1.out wr No (Fr.refl _ _) (fun e => e) (fun _ _ e => e))
        clear hst hO HM1 HapG Hapg he
        go_wp2
        go_roundw
        case rel => exact ⟨i + 1, L, lc, by omega, by rw [← HL2.out], by go_num, HO2, HM2, hfr⟩
        case measure => simp [intOf]; omega
      · have he : cycT f (i + 1) = cycT f i ++ [i] := by rw [hst]; simp
        have Hhe := Lib.hid he
        clear hst he
        go_wp2_with (at_builtin; refine wpList_append_src _ rfl _ _ 28 rfl w.heap.size 3 i0 _ 1 8 Tryz.underlying28 hi0 hz0 hz1 hz2 rfl (by decide) (.slice L m lc) m (nums (cycT f i)) rfl (hO.out.alloc _) (wr.heap.size + 1) (some ⟨wr.heap.size, 0, none⟩) 1 1 [.int .i64 (i : Int)] rfl rfl (Sl.made wr _ #[.int .i64 (i : Int)]) (by intro u hu; simp at hu; subst hu; rfl) (by unfold maxLen; omega) (by omega) (by simp; omega) ?_
                     intro v' w5 q1 q2 q3
                     obtain ⟨A', c', rfl, -, -, -⟩ := own_shape q1
                     have f5 : Fr (fun k => (Value.slice L m lc).ownBlock = some k) wr w5 := ((Fr.refl _ wr).alloc _).grown q2 (fun k hk => .inl hk)
                     have HO2 : Hid (w5.ownsRow w.heap.size 3 1 (.slice A' (cycT f (i + 1)).length c') (cycT f (i + 1)).length (nums (cycT f (i + 1)))) := Lib.hid (by rw [Hhe.out, nums_snoc, List.length_append, hm]; exact q1)
                     have HL2 : Hid (m + 1 = (cycT f (i + 1)).length) := Lib.hid (by rw [Hhe.out, List.length_append, hm]; rfl)
                     have HM2 := Lib.hid (HM1.out w5 _ f5 (fun e => HapG.out e) (fun j hj e => Hapg.out j hj e))
                     have HF5 : Hid (Fr No w w5) := Lib.hid (hfr.out.trans' f5 (fun k hk e => by have := (hO.out.lt k e).1; omega))
                     clear q1 q2 q3 f5 hO HM1 HapG Hapg)
        go_roundw
        case rel => exact ⟨i + 1, A', c', by omega, by rw [← HL2.out], by go_num, HO2, HM2, HF5⟩
        case measure => simp [intOf]; omega
    · obtain rfl : i = n := by omega
      go_wp2
      go_ret
      exact ⟨L, lc, rfl, hO.out, hfr.out⟩
end Go.Proofs.YtmeimhpllemjfaaGreat
/- The document's own: is a history's graph good? -/
namespace Go.Proofs.YtmeimhpllemjfaaGreat
open Go.RowKit

set_option maxRecDepth 100000 in
set_option maxHeartbeats 8000000 in
theorem refGood16_any (x : Ctl) (A : Option Addr) (n c : Nat) (w : World) (mh : Bool) (l : List Nat)
    (hmay : ∀ W, Fr No w W → Calls Tryz.prog 9 #[x.agg, .slice A n c] W (Has W mh))
    (hcyc : mh = true → ∀ W, Fr No w W → Calls Tryz.prog 36 #[x.agg, .slice A n c] W fun e w' => ∃ L lc, e = .returned (.slice L l.length lc) ∧ w'.ownsRow W.heap.size 3 1 (.slice L l.length lc) l.length (nums l) ∧ Fr No W w') :
    Calls Tryz.prog 15 #[x.agg, .slice A n c] w (Has w (mh && decide (l.length = 0))) := by
  have HM := Lib.hid hmay
  have HC := Lib.hid hcyc
  obtain ⟨m, hm⟩ : ∃ m, l.length = m := ⟨_, rfl⟩
  rw [hm] at HC ⊢
  clear hmay hcyc hm
  unfold Ctl.agg at *
  obtain ⟨Z, hZ⟩ : ∃ Z, Z = x.arr := ⟨_, rfl⟩
  rw [← hZ] at HM HC ⊢
  rw [Ctl.arr_eq] at hZ
  obtain ⟨W0, hW0⟩ : ∃ W0, W0 = w.alloc (.cells Z 26) := ⟨_, rfl⟩
  have bZ : Bk W0 w.heap.size 26 Z := by rw [hW0]; exact Bk.made w _ _
  have HF0 : Hid (Fr No w W0) := Lib.hid (by rw [hW0]; exact (Fr.refl _ _).alloc _)
  have HLd : Hid (∀ V, Fr No W0 V → LdO V 26 ⟨w.heap.size, 0, none⟩ (.agg Z)) := Lib.hid (fun V h => ld_cat hZ (bZ.fr h (fun e => e)))
  have hwe := hW0.symm
  have hld := Lib.hid (HLd.out _ (Fr.refl _ _))
  clear hZ hW0 bZ
  go_enter Tryz.func15, Tryz.ntmps15
  go_wp2_with (first
    | ((with_reducible refine wpl_ld ?_ ?_ hld.out ?_); (· rfl); (· rfl); simp only [Act.put, szA, szB, szC]))
  refine (HM.out _ HF0.out).mono ?_
  rintro e w1 ⟨rfl, f1⟩
  have F1 := Lib.hid (HF0.out.trans' f1 (fun _ _ e => e))
  have hld2 := Lib.hid (HLd.out _ f1)
  clear HM hld hwe HLd f1
  cases mh
  · clear HC hld2
    go_wp2
    go_ret
    exact ⟨rfl, F1.out⟩
  · have C1 := Lib.hid (HC.out rfl _ F1.out)
    clear HC
    go_wp2_with (first
      | ((with_reducible refine wpl_ldg ?_ ?_ hld2.out ?_); (· rfl); (· rfl); simp only [Act.put, szA, szB, szC]))
    refine (C1.out).mono ?_
    rintro e w2 ⟨L, lc, rfl, -, f2⟩
    have F2 := Lib.hid (F1.out.trans' f2 (fun _ _ e => e))
    clear f2 C1 hld2
    by_cases h0 : m = 0
    · have d1 : ((m : Int) == 0) = true := by simp [h0]
      have d2 : decide (m = 0) = true := decide_eq_true h0
      have HD := Lib.hid d2
      subst h0
      go_wp2
      go_ret
      exact ⟨rfl, F2.out⟩
    · have d1 : ((m : Int) == 0) = false := by rw [beq_eq_false_iff_ne]; omega
      have HD := Lib.hid (decide_eq_false h0)
      have d3 : decide (m = 0) = false := decide_eq_false h0
      clear h0
      go_wp2
      go_ret
      exact ⟨by rw [HD.out]; rfl, F2.out⟩
end Go.Proofs.YtmeimhpllemjfaaGreat
/- The document's own: the order of a good history. -/
namespace Go.Proofs.YtmeimhpllemjfaaGreat
open Go.RowKit

end Go.Proofs.YtmeimhpllemjfaaGreat
