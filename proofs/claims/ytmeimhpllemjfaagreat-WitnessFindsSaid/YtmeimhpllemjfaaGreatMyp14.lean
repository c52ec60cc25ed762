/- Package cat: which breakpoints a catalogue has, whatever stands in its numbers. -/
import Derived.Test.YtmeimhpllemjfaaGreatPts12
import Derived.Test.YtmeimhpllemjfaaGreatMyp12
namespace Go.Proofs.YtmeimhpllemjfaaGreat
open Go.RowKit

attribute [local go_sem] Oper.semAt_some

def andM (b m : Int) : Int := IntKind.i64.wrap ((BitVec.ofInt 64 b &&& BitVec.ofInt 64 m).toNat)
theorem andM_in (b : Int) {L : Nat} (hL : L ≤ 4) : 0 ≤ andM b (mskL L) ∧ andM b (mskL L) ≤ mskL L := by
  have h : L = 0 ∨ L = 1 ∨ L = 2 ∨ L = 3 ∨ L = 4 := by omega
  have hk : ∀ x m : BitVec 64, (x &&& m).toNat ≤ m.toNat := fun x m => by rw [BitVec.toNat_and]; exact Nat.and_le_right
  have hw : ∀ k : Nat, k ≤ 7 → IntKind.i64.wrap (k : Int) = (k : Int) := fun k hk => by
    have h : k = 0 ∨ k = 1 ∨ k = 2 ∨ k = 3 ∨ k = 4 ∨ k = 5 ∨ k = 6 ∨ k = 7 := by omega
    rcases h with rfl | rfl | rfl | rfl | rfl | rfl | rfl | rfl <;> decide
  have key : ∀ m : Nat, m ≤ 7 → (BitVec.ofInt 64 (m : Int)).toNat = m → 0 ≤ andM b (m : Int) ∧ andM b (m : Int) ≤ (m : Int) := fun m h7 hm => by
    have h1 := hk (BitVec.ofInt 64 b) (BitVec.ofInt 64 (m : Int))
    rw [hm] at h1
    unfold andM
    rw [hw _ (by omega)]
    omega
  rcases h with rfl | rfl | rfl | rfl | rfl
  · exact key 0 (by omega) (by decide)
  · exact key 0 (by omega) (by decide)
  · exact key 1 (by omega) (by decide)
  · exact key 3 (by omega) (by decide)
  · exact key 7 (by omega) (by decide)
theorem andM_eq {b : Int} {L : Nat} (hL : L ≤ 4) (h0 : 0 ≤ b) (h1 : b ≤ mskL L) : andM b (mskL L) = b := by
  have h : L = 0 ∨ L = 1 ∨ L = 2 ∨ L = 3 ∨ L = 4 := by omega
  have h7 := mskL_le hL
  have hb : b = 0 ∨ b = 1 ∨ b = 2 ∨ b = 3 ∨ b = 4 ∨ b = 5 ∨ b = 6 ∨ b = 7 := by omega
  rcases h with rfl | rfl | rfl | rfl | rfl <;> rcases hb with rfl | rfl | rfl | rfl | rfl | rfl | rfl | rfl <;> first | rfl | (exfalso; revert h1; decide)
structure Ctl.Slim (x : Ctl) : Prop where
  n : x.cls.length ≤ 4
  st : ∀ c ∈ x.cls, c.steps.length ≤ 4
def Ctl.ptA (x : Ctl) (j : Nat) : Int := andM (x.b j) (mskL (x.p.at (j / 4)).steps.length)
def Ctl.ptb (x : Ctl) (j : Nat) : Int := if j / 4 < x.cls.length ∧ j % 4 < x.cls.length then x.ptA j else 0
theorem Ctl.ptA_at (x : Ctl) {c d : Nat} (hc : c < x.cls.length) (hd : d < 4) : x.ptA (c * 4 + d) = andM (x.b (c * 4 + d)) (mskL x.cls[c].steps.length) := by
  unfold Ctl.ptA
  rw [show (c * 4 + d) / 4 = c by omega, pct_at x hc]
  simp [Cls.p]
theorem Ctl.ptb_same {x : Ctl} (h : x.Slim) : sameBr x.b x.ptb = (List.range 16).all (brOkAt x.p) := by
  unfold sameBr
  have hj : ∀ j, j < 16 → (x.b j == x.ptb j) = brOkAt x.p j := fun j hj => by
    have hb : x.p.b = x.b := rfl
    unfold brOkAt Ctl.ptb
    rw [hb]
    by_cases hin : j / 4 < x.cls.length ∧ j % 4 < x.cls.length
    · rw [if_pos hin, Ctl.most_at x hin.1 hin.2]
      have h4 := h.st _ (List.getElem_mem hin.1)
      have e := Ctl.ptA_at x hin.1 (d := j % 4) (by omega)
      rw [show j / 4 * 4 + j % 4 = j by omega] at e
      rw [e]
      have h1 := andM_in (x.b j) h4
      by_cases ht : 0 ≤ x.b j ∧ x.b j < mskL x.cls[j / 4].steps.length + 1
      · rw [decide_eq_true ht, andM_eq h4 ht.1 (by omega)]
        simp
      · rw [decide_eq_false ht]
        simp only [beq_eq_false_iff_ne, ne_eq]
        intro q
        rw [q] at ht
        exact ht ⟨h1.1, by omega⟩
    · rw [if_neg hin, Ctl.most_not x hin]
      by_cases hz : x.b j = 0
      · rw [hz]
        rfl
      · rw [decide_eq_false (by omega)]
        simpa using hz
  rw [Bool.eq_iff_iff, List.all_eq_true, List.all_eq_true]
  exact ⟨fun q j hm => by rw [← hj j (List.mem_range.1 hm)]; exact q j hm, fun q j hm => by rw [hj j (List.mem_range.1 hm)]; exact q j hm⟩

set_option maxRecDepth 100000 in
set_option maxHeartbeats 4000000 in
theorem pts14_any (x : Ctl) (H c d : Nat) (W : World) (hB : Bk W H 26 x.arr) (hx : Clss W x.cA x.cls) (hF : x.Slim) (hc : c < x.cls.length) (hd : d < x.cls.length) :
    Calls Tryz.prog 99 #[.int .i64 (c : Int), .int .i64 (d : Int), .pointer (some ⟨H, 0, none⟩)] W fun e W' => e = .returned (.int .i64 (andM (x.b (c * 4 + d)) (mskL x.cls[c].steps.length))) ∧ Fr No W W' := by
  have h4 := hF.st _ (List.getElem_mem hc)
  have hn := hF.n
  have hand : bits BinOp.and IntKind.i64 (x.b (c * 4 + d)) (mskL x.cls[c].steps.length) = andM (x.b (c * 4 + d)) (mskL x.cls[c].steps.length) := rfl
  have HA := Lib.hid (fun V (h : Fr No W V) => all_any x.cls[c] V h4)
  have hB' := hB
  obtain ⟨cA, cls, cc, b⟩ := x
  unfold Ctl.arr at hB hB'
  simp only at *
  obtain ⟨ad, e1, hab, c0, c1, c2, c3, c4⟩ := hx.sl.cls (k := c) hc
  obtain ⟨n, hnn⟩ : ∃ n, n = cls.length := ⟨_, rfl⟩
  rw [← hnn] at hn hc hd hB
  have x0 : W.cell? ⟨H, 0, none⟩ = some (.slice cA n cc) := hB.cell 0
  have x1 := bk_br2 hB (c := c) (d := d) (by omega) (by omega)
  have l0 := hB.lt
  unfold Cls.agg at HA
  generalize cls[c].steps.length = L at *
  generalize cls[c].comps.length = M at *
  generalize cls[c].name = nm at *
  generalize cls[c].args = ar at *
  generalize cls[c].sA = sA at *
  generalize cls[c].sc = sc at *
  generalize cls[c].uA = uA at *
  generalize cls[c].uc = uc at *
  generalize cls[c].res = re at *
  generalize b (c * 4 + d) = v at *
  have ic4 : ((c : Nat) : Int) < 4 := by omega
  have id4 : ((d : Nat) : Int) < 4 := by omega
  have icn : ((c : Nat) : Int) < (n : Int) := by omega
  generalize andM v (mskL L) = u at *
  clear hx hB hB' h4 hF hnn
  subst e1
  go_enter Tryz.func99, Tryz.ntmps99
  go_wp2_with fail
  first | go_region_with (first
    | (go_at_call 100
       refine (HA.out _ (by first | exact Fr.refl _ _ | exact (Fr.refl _ _).drew)).mono ?_
       rintro e w1 ⟨rfl, f1⟩
       have y1 : w1.cell? ⟨H, 1 + c * 4 + d, none⟩ = some (.int .i64 v) := (f1.cell (p := ⟨H, 1 + c * 4 + d, none⟩) l0 (fun e => e)).trans x1
       have F1 := ((Fr.refl No W).drew).then0 f1 (fun _ h => h.elim))) | fail
  all_goals
    go_wp2
    go_ret
    exact ⟨rfl, F1⟩

set_option maxRecDepth 100000 in
set_option maxHeartbeats 2000000 in
theorem points14_any (x : Ctl) (w : World) (hx : Clss w x.cA x.cls) (hF : x.Slim) : Calls Tryz.prog 73 #[x.agg] w fun e w' => e = .returned (.agg (br16 x.ptb)) ∧ Fr No w w' := by
  unfold Ctl.agg
  obtain ⟨Z, hZ⟩ : ∃ Z, Z = x.arr := ⟨_, rfl⟩
  obtain ⟨W0, hW0⟩ : ∃ W0, W0 = (w.alloc (.cells Z 26)).alloc (.cells (br16 fun _ => 0) 24) := ⟨_, rfl⟩
  have f0 : Fr No w W0 := by rw [hW0]; exact ((Fr.refl _ _).alloc _).alloc _
  have bZ : Bk W0 w.heap.size 26 Z := by rw [hW0]; exact (Bk.made w _ _).fr ((Fr.refl No _).alloc _) (fun e => e)
  have bR : Bk W0 (w.heap.size + 1) 24 (br16 fun _ => 0) := by
    have h := Bk.made (w.alloc (.cells Z 26)) 24 (br16 fun _ => 0)
    rw [World.size_alloc] at h
    rw [hW0]
    exact h
  rw [← hZ]
  have hZ2 := hZ
  rw [Ctl.arr_eq] at hZ2
  have hld := Lib.hid (ld_cat hZ2 bZ)
  have CE := each_pts Z x.cA x.cls.length x.cc x.b hZ2 hF.n ⟨w.heap.size, 0, none⟩ W0 (fun (_ : Unit) W => Fr No W0 W) No (fun _ i => x.ptA (i / x.cls.length * 4 + i % x.cls.length)) (fun s _ => s) () (fun _ h => h.elim) (Fr.refl _ _)
    (fun _ W W' h h2 => h.trans' h2 (fun i hi e => by have e : W0.heap.size ≤ i := e; omega))
    (fun _ i W hi hf hr => by
      have hn := hF.n
      have hn0 : 0 < x.cls.length := by
        rcases Nat.eq_zero_or_pos x.cls.length with e | e
        · rw [e] at hi
          omega
        · exact e
      have i1 : i / x.cls.length < x.cls.length := Nat.div_lt_of_lt_mul hi
      have i2 : i % x.cls.length < x.cls.length := Nat.mod_lt _ hn0
      refine (pts14_any x w.heap.size _ _ W ?_ ((hx.since f0).since hr) hF i1 i2).mono (fun e W' h => ⟨h.1.trans (by rw [Ctl.ptA_at x i1 (by have := hF.n; omega)]), hr.trans' h.2 (fun _ _ e => e), h.2⟩)
      rw [← hZ]
      exact bZ.fr hr (fun e => e))
  have hbr : br16 (stE (fun (_ : Unit) i => x.ptA (i / x.cls.length * 4 + i % x.cls.length)) (fun s _ => s) x.cls.length () (List.range (x.cls.length * x.cls.length))).2 = br16 x.ptb := by
    refine br16_congr (fun j hj => ?_)
    rw [stE_at x.ptA hF.n]
    rfl
  rw [hbr] at CE
  have HE := Lib.hid CE
  have HF := Lib.hid f0
  have HR := Lib.hid bR
  unfold br16 at hW0
  have hwe := hW0.symm
  generalize x.ptb = b at *
  clear hZ hZ2 hW0 bZ bR f0 CE hbr hF hx
  go_enter Tryz.func73, Tryz.ntmps73
  go_wp2_with (first
    | ((with_reducible refine wpl_ld ?_ ?_ hld.out ?_); (· rfl); (· rfl); simp only [Act.put, szA, szB, szC]))
  refine (HE.out).mono ?_
  rintro e w1 ⟨rfl, -, f1⟩
  have b1 := HR.out.fr f1 (fun e => e)
  have hst := Lib.hid (st_br (b' := b) b1)
  obtain ⟨W2, hW2⟩ : ∃ W2, Hid (W2 = w1.setRow (w.heap.size + 1) (br16 b)) := ⟨_, Lib.hid rfl⟩
  have HL := Lib.hid (ld_br (show Bk W2 (w.heap.size + 1) 24 (br16 b) by rw [hW2.out]; exact bk_row12 b1 _))
  have HF2 : Hid (Fr No w W2) := Lib.hid (by rw [hW2.out]; exact fr_row12 (HF.out.trans' f1 (fun _ _ e => e)) (.inr (by omega)) _)
  rw [← hW2.out] at hst
  clear f1 b1 hwe hld
  go_wp2_with (first
    | ((with_reducible refine wpl_st ?_ ?_ ?_ hst.out ?_); (· rfl); (· rfl); (· rfl); simp only [Act.put]))
  exact bodyPost_ret (cell_result Tryz.results73 HL.out rfl) rfl ⟨rfl, HF2.out⟩
end Go.Proofs.YtmeimhpllemjfaaGreat
/- Package cat: May, of any catalogue that is not great. -/
namespace Go.Proofs.YtmeimhpllemjfaaGreat
open Go.RowKit

structure Ctl.Big (x : Ctl) : Prop where
  n : x.cls.length ≤ 1048576
  cls : ∀ c ∈ x.cls, c.Few
theorem slim_of (x : Ctl) (h4 : x.cls.length ≤ 4) (h : (List.range x.cls.length).all (clOkAt x.p) = true) : x.Slim := by
  refine ⟨h4, fun c hc => ?_⟩
  obtain ⟨i, hi, rfl⟩ := List.getElem_of_mem hc
  have := range_all_at h hi
  unfold clOkAt at this
  rw [pct_at x hi] at this
  simp only [Bool.and_eq_true] at this
  exact (few_of_ok12 this.1).2
theorem big_ok (x : Ctl) : x.p.ok = (decide (1 ≤ x.cls.length ∧ x.cls.length ≤ 4) && ((List.range x.cls.length).all (clOkAt x.p) && sameBr x.b x.ptb)) := by
  have e1 : x.p.cs.length = x.cls.length := by simp [Ctl.p]
  unfold PCt.ok
  rw [e1]
  cases h1 : decide (1 ≤ x.cls.length ∧ x.cls.length ≤ 4)
  · rfl
  · cases h2 : (List.range x.cls.length).all (clOkAt x.p)
    · rfl
    · rw [Ctl.ptb_same (slim_of x (of_decide_eq_true h1).2 h2)]

set_option maxRecDepth 100000 in
set_option maxHeartbeats 8000000 in
theorem may14_any (x : Ctl) (w : World) (hx : Clss w x.cA x.cls) (hF : x.Big) : Calls Tryz.prog 51 #[x.agg] w (Has w x.p.ok) := by
  have HX := Lib.hid (fun W (h : Fr No w W) => hx.since h)
  have HP := Lib.hid (fun W (h : Fr No w W) (hs : x.Slim) => points14_any x W (hx.since h) hs)
  have Hn1 : x.cls.length ≤ 1099511627776 := by have := hF.n; omega
  have HFd := Lib.hid (fun nm W (h : Fr No w W) => find_any x nm W (hx.since h) Hn1)
  have HM := Lib.hid (fun W (h : Fr No w W) (i : Nat) (hi : i < x.cls.length) => may11_any x.cls[i] W ((hx.since h).all _ (List.getElem_mem hi)) (hF.cls _ (List.getElem_mem hi)))
  have hnB := hF.n
  have Hr : Hid (x.p.ok = (decide (1 ≤ x.cls.length ∧ x.cls.length ≤ 4) && ((List.range x.cls.length).all (clOkAt x.p) && sameBr x.b x.ptb))) := Lib.hid (big_ok x)
  have HSl := Lib.hid (fun (h4 : x.cls.length ≤ 4) (h : (List.range x.cls.length).all (clOkAt x.p) = true) => slim_of x h4 h)
  have HEq := Lib.hid (fun W => eqBr12 x.b x.ptb W)
  generalize sameBr x.b x.ptb = q at *
  have HOk := Lib.hid (fun i (hi : i < x.cls.length) => clOkAt_eq x hi)
  have HAt := Lib.hid (fun i (hi : i < x.cls.length) r (h : At12 x.cls x.cls[i].name r) => at12_same hi h)
  generalize x.p.ok = res at *
  generalize clOkAt x.p = ck at *
  unfold Ctl.agg at HP HFd ⊢
  obtain ⟨Z, hZ⟩ : ∃ Z, Z = x.arr := ⟨_, rfl⟩
  rw [← hZ] at HP HFd ⊢
  rw [Ctl.arr_eq] at hZ
  have bZ := Bk.made w 26 Z
  have f0 : Fr No w (w.alloc (.cells Z 26)) := (Fr.refl _ _).alloc _
  have HLd : Hid (∀ W, Fr No (w.alloc (.cells Z 26)) W → LdO W 26 ⟨w.heap.size, 0, none⟩ (.agg Z) ∧ LdO W 24 ⟨w.heap.size, 1, none⟩ (.agg (br16 x.b)) ∧ W.cell? ⟨w.heap.size, 0, none⟩ = some (.slice x.cA x.cls.length x.cc)) := Lib.hid (fun W h =>
    ⟨ld_cat hZ (bZ.fr h (fun e => e)), ld_br1 hZ (bZ.fr h (fun e => e)), by rw [(bZ.fr h (fun e => e)).cell, hZ]; rfl⟩)
  have HF0 := Lib.hid f0
  have hlt0 : w.heap.size < (w.alloc (.cells Z 26)).heap.size := bZ.lt
  generalize x.ptb = pb at *
  have HP2 := Lib.hid (fun W (h : Fr No w W) (h4 : x.cls.length ≤ 4) (ha : (List.range x.cls.length).all ck = true) => HP.out W h (HSl.out h4 ha))
  clear hx hF Hn1 hZ bZ HSl HP
  obtain ⟨cA, cls, cc, b⟩ := x
  simp only at *
  obtain ⟨n, hn⟩ : ∃ n, cls.length = n := ⟨_, rfl⟩
  have Hcn := Lib.hid hn
  rw [hn] at hnB
  rw [hn] at Hr HLd HP2
  obtain ⟨W0, hW0⟩ : ∃ W0, W0 = w.alloc (.cells Z 26) := ⟨_, rfl⟩
  rw [← hW0] at HLd HF0 hlt0 f0
  have hwe := hW0.symm
  have x0 := (HLd.out W0 (Fr.refl _ _)).2.2
  clear hn f0 hW0
  by_cases hn5 : 4 < n
  · have hf : res = false := by rw [Hr.out, decide_eq_false (by omega)]; rfl
    have hn4' : 4 < (n : Int) := by omega
    have hn1' : ¬ ((n : Int) < 1) := by omega
    rw [hf]
    go_enter Tryz.func51, Tryz.ntmps51
    go_wp2
    go_ret
    exact ⟨rfl, HF0.out⟩
  have hn4 : n ≤ 4 := by omega
  by_cases hn1 : 1 ≤ n
  · have hn1' : ¬ ((n : Int) < 1) := by omega
    have hn4' : ¬ (4 < (n : Int)) := by omega
    go_enter Tryz.func51, Tryz.ntmps51
    go_wp2
    clear hwe x0
    go_loopw [18] (fun i wr => ∃ k : Nat, k ≤ n ∧ i = .int .i64 k ∧ Hid ((List.range k).all ck = true) ∧ Fr No W0 wr) (fun i _ => n - (intOf i).toNat)
    case atStart => exact ⟨0, Nat.zero_le _, rfl, Lib.hid rfl, Fr.refl _ _⟩
    case round =>
      obtain ⟨k, hk, rfl, hpre, hfr⟩ := hrel
      by_cases hlt : k < n
      · have hkl : k < cls.length := by rw [Hcn.out]; exact hlt
        obtain ⟨ad, rfl, hab, c0, c1, c2, c3, c4⟩ := (HX.out _ (HF0.out.trans' hfr (fun _ _ e => e))).sl.cls (k := k) hkl
        have hM := Lib.hid (fun W (h : Fr No w W) => HM.out W h k hkl)
        have hFd := Lib.hid (fun W (h : Fr No w W) => HFd.out cls[k].name W h)
        have hAt := Lib.hid (fun r h => HAt.out k hkl r h)
        have Hck : Hid ((List.range (k + 1)).all ck = (cls[k].p.ok && !((cls.take k).any (nameB cls[k].name)))) := Lib.hid (by rw [range_all_snoc, hpre.out, HOk.out k hkl]; rfl)
        have Hbad : Hid (ck k = false → res = false) := Lib.hid (fun h => by rw [Hr.out, range_all_not ck hlt h, Bool.false_and, Bool.and_false])
        have Hckk := Lib.hid (HOk.out k hkl)
        unfold Cls.agg at hM
        generalize cls[k].p.ok = o1 at *
        obtain ⟨o2, ho2⟩ : ∃ o2, Hid (o2 = (cls.take k).any (nameB cls[k].name)) := ⟨_, Lib.hid rfl⟩
        rw [← ho2.out] at hAt Hck Hckk
        obtain ⟨P12, hP12⟩ : ∃ P : Int → Prop, P = At12 cls cls[k].name := ⟨_, rfl⟩
        rw [← hP12] at hFd hAt
        clear hP12 ho2
        generalize cls[k].steps.length = L at *
        generalize cls[k].comps.length = M at *
        generalize cls[k].name = cn at *
        generalize cls[k].args = ar at *
        generalize cls[k].sA = sA at *
        generalize cls[k].sc = sc at *
        generalize cls[k].uA = uA at *
        generalize cls[k].uc = uc at *
        generalize cls[k].res = re at *
        have bC := Bk.made wr 49 #[.string cn, .int .i64 ar, .slice sA L sc, .slice uA M uc, .bool re]
        have f1 : Fr No W0 (wr.alloc (.cells #[.string cn, .int .i64 ar, .slice sA L sc, .slice uA M uc, .bool re] 49)) := hfr.alloc _
        have F1 := Lib.hid f1
        have BC := Lib.hid bC
        have HMk := Lib.hid (hM.out _ (HF0.out.trans' f1 (fun _ _ e => e)))
        clear hpre bC f1 hM HM HFd HAt HOk
        cases o1
        · go_wp2_with fail
          refine (HMk.out).mono ?_
          rintro e w2 ⟨rfl, f2⟩
          go_wp2
          go_ret
          exact ⟨by rw [Hbad.out (by rw [Hckk.out]; rfl)]; rfl, (HF0.out.trans' F1.out (fun _ _ e => e)).trans' f2 (fun _ _ e => e)⟩
        · go_wp2_with fail
          refine (HMk.out).mono ?_
          rintro e w2 ⟨rfl, f2⟩
          have F2 := Lib.hid (F1.out.trans' f2 (fun _ _ e => e))
          have hld := Lib.hid (HLd.out w2 F2.out).1
          have y0 := (BC.out.fr f2 (fun e => e)).cell 0
          simp at y0
          have HFk := Lib.hid (hFd.out _ (HF0.out.trans' F2.out (fun _ _ e => e)))
          clear f2 HMk
          go_wp2_with (first
            | ((with_reducible refine wpl_ldg ?_ ?_ hld.out ?_); (· rfl); (· rfl); simp only [Act.put, szA, szB, szC]))
          refine (HFk.out).mono ?_
          rintro e w3 ⟨r, rfl, hr, f3⟩
          have hd := hAt.out r hr
          have F3 := Lib.hid (F2.out.trans' f3 (fun _ _ e => e))
          clear hr f3 HFk hAt hld
          cases o2
          · have hd2 : (r != (k : Int)) = false := by simpa using hd
            clear hd
            go_wp2
            go_roundw
            case rel => exact ⟨k + 1, by omega, by go_num, Lib.hid (by rw [Hck.out]; rfl), F3.out⟩
            case measure => simp [intOf]; omega
          · have hd2 : (r != (k : Int)) = true := by simpa using hd
            clear hd
            go_wp2
            go_ret
            exact ⟨by rw [Hbad.out (by rw [Hckk.out]; rfl)]; rfl, HF0.out.trans' F3.out (fun _ _ e => e)⟩
      · obtain rfl : k = n := by omega
        have ht : res = q := by rw [Hr.out, hpre.out, decide_eq_true (And.intro hn1 hn4)]; rfl
        have HPD := Lib.hid (HP2.out _ ((HF0.out.trans' hfr (fun _ _ e => e)).drew) hn4 hpre.out)
        have HLD := Lib.hid (fun W (h : Fr No W0 W) => And.intro (HLd.out W h).2.1 (HLd.out W h).1)
        have Hfr := Lib.hid (hfr.drew)
        clear hpre
        go_wp2_with fail
        refine wp_region_held_drew (S := fun W => LdO W 24 ⟨w.heap.size, 1, none⟩ (.agg (br16 b)) ∧ LdO W 26 ⟨w.heap.size, 0, none⟩ (.agg Z)) (by kernel_rfl) (HLD.out _ Hfr.out) (fun hHeld => ?_)
        refine any_u 35 (.pointer (some ⟨w.heap.size, 1, none⟩)) (i := 0) rfl rfl ?_
        simp only [Act.put, szA, szB, szC]
        refine any_tk 36 (.agg (br16 b)) (i := 1) rfl rfl (by kernel_rfl) (fun _ _ _ h => h) (by rfl) (by intro w hSw; exact exec_ld rfl hSw.1) (by assumption) ?_
        simp only [Act.put, szA, szB, szC]
        refine any_tk 37 (.agg Z) (i := 2) rfl rfl (by kernel_rfl) (fun _ _ _ h => h) (by rfl) (by intro w hSw; exact exec_ld rfl hSw.2) (by assumption) ?_
        simp only [Act.put, szA, szB, szC]
        refine wpAnyH_ready (rs := [3]) (by kernel_rfl) (by simp) ?_
        refine AllReadyH.cons rfl (fun K' hK => ?_) AllReadyH.nil
        go_simp
        go_at_call 73
        refine (HPD.out).mono ?_
        rintro e' w4 ⟨rfl, f4⟩
        have F4 := Lib.hid (Hfr.out.trans' f4 (fun _ _ e => e))
        dsimp only
        refine hK.out _ _ (HLD.out _ F4.out) (fun hHeld => ?_)
        clear hK
        try simp only [Act.put, szA, szB, szC]
        refine any_tk 39 (.bool q) (i := 4) rfl rfl (by kernel_rfl) (fun _ _ _ h => h) (by rfl) (by intro w hSw; go_simp; rw [HEq.out]; rfl) (by assumption) ?_
        simp only [Act.put, szA, szB, szC]
        refine any_u 2 (.bool q) (i := 5) rfl rfl ?_
        simp only [Act.put, szA, szB, szC]
        refine wpAnyH_done (by kernel_rfl) ?_ _
        clear hHeld
        go_wp2
        go_ret
        exact ⟨by rw [ht]; rfl, HF0.out.trans' F4.out (fun _ _ e => e)⟩
  · obtain rfl : n = 0 := by omega
    have hf : res = false := by rw [Hr.out]; rfl
    rw [hf]
    have hF1 := Lib.hid (HF0.out)
    go_enter Tryz.func51, Tryz.ntmps51
    go_wp2
    go_ret
    exact ⟨rfl, HF0.out⟩
end Go.Proofs.YtmeimhpllemjfaaGreat
