/- Package cat: the first class of a name. -/
import Derived.Test.YtmeimhpllemjfaaGreatCtp12
import Derived.Test.YtmeimhpllemjfaaGreatIdx9
import Derived.Test.YtmeimhpllemjfaaGreatPts12
import Derived.Test.YtmeimhpllemjfaaGreatMy11
import Derived.Test.YtmeimhpllemjfaaGreatHand
namespace Go.Proofs.YtmeimhpllemjfaaGreat
open Go.RowKit

def nameB (nm : ByteArray) (c : Cls) : Bool := c.name.toList == nm.toList
set_option maxHeartbeats 1000000 in
theorem find1_any (c : Cls) (nm : ByteArray) (q : Nat) (w : World) (hq : Bk w q 9 #[.string nm]) : Calls Tryz.prog 97 #[c.agg, .pointer (some ⟨q, 0, none⟩)] w (Has w (nameB nm c)) := by
 obtain ⟨cn, a, A, ss, sc, U, us, uc, res⟩ := c
 unfold Cls.agg nameB
 simp only
 generalize us.length = m at *
 generalize ss.length = L at *
 have f0 : Fr No w (w.alloc (.cells #[.string cn, .int .i64 a, .slice A L sc, .slice U m uc, .bool res] 49)) := (Fr.refl _ _).alloc _
 have x0 := (hq.fr f0 (fun e => e)).cell 0
 simp at x0
 obtain ⟨r, hr⟩ : ∃ r, (cn.toList == nm.toList) = r := ⟨_, rfl⟩
 rw [hr]
 go_enter Tryz.func97, Tryz.ntmps97
 go_wp2
 go_ret
 exact ⟨by first | (rw [hr]; rfl) | rfl, f0⟩
def At12 (l : List Cls) (nm : ByteArray) (r : Int) : Prop := (r = -1 ∧ l.any (nameB nm) = false) ∨ ∃ k : Nat, ∃ h : k < l.length, r = (k : Int) ∧ nameB nm l[k] = true ∧ (l.take k).any (nameB nm) = false
set_option maxHeartbeats 1000000 in
theorem idxCls_any (l : List Cls) (A : Option Addr) (n c : Nat) (nm : ByteArray) (q : Nat) (w : World) (hsl : Sl w w.heap.size A (l.flatMap Cls.cells)) (hn : l.length = n) (hnm : n ≤ 1099511627776) (hq : Bk w q 9 #[.string nm]) :
  Calls Tryz.prog 96 #[.slice A n c, .func (.func 97) #[] #[.pointer (some ⟨q, 0, none⟩)]] w fun e w' => ∃ r, e = .returned (.int .i64 r) ∧ At12 l nm r ∧ Fr No w w' := by
 have Hq := Lib.hid hq
 have Hn := Lib.hid hn
 have Hsl := Lib.hid hsl
 clear hq hn hsl
 go_enter Tryz.func96, Tryz.ntmps96
 go_wp2
 go_loopw [8] (fun i wr => ∃ k : Nat, k ≤ n ∧ i = .int .i64 k ∧ Hid ((l.take k).any (nameB nm) = false) ∧ Fr No w wr) (fun i _ => n - (intOf i).toNat)
 case atStart => exact ⟨0, Nat.zero_le _, rfl, Lib.hid (by simp), Fr.refl _ _⟩
 case round =>
  obtain ⟨k, hk, rfl, hpre, hfr⟩ := hrel
  by_cases hlt : k < n
  ·have hkl : k < l.length := by rw [Hn.out]; exact hlt
   obtain ⟨ad, rfl, hab, c0, c1, c2, c3, c4⟩ := (Hsl.out.since hfr).cls (k := k) hkl
   have hx := Lib.hid (find1_any l[k] nm q wr (Hq.out.fr hfr (fun e => e)))
   have Hst := Lib.hid (any_step (nameB nm) l k hkl hpre.out)
   unfold Cls.agg at hx
   have Hfd : Hid (nameB nm l[k] = true → At12 l nm (k : Int)) := Lib.hid (fun h => .inr ⟨k, hkl, rfl, h, hpre.out⟩)
   generalize nameB nm l[k] = b at *
   generalize l[k].steps.length = L at *
   generalize l[k].comps.length = M at *
   generalize l[k].name = cn at *
   generalize l[k].args = ar at *
   generalize l[k].sA = sA at *
   generalize l[k].sc = sc at *
   generalize l[k].uA = uA at *
   generalize l[k].uc = uc at *
   generalize l[k].res = re at *
   cases b
   ·go_wp2_with fail
    refine (hx.out).mono ?_
    rintro e w1 ⟨rfl, hf1⟩
    go_wp2
    go_roundw
    case rel => exact ⟨k + 1, by omega, by go_num, Lib.hid Hst.out, hfr.trans' hf1 (fun _ _ h => h)⟩
    case measure => simp [intOf]; omega
   ·go_wp2_with fail
    refine (hx.out).mono ?_
    rintro e w1 ⟨rfl, hf1⟩
    go_wp2
    go_ret
    exact ⟨k, rfl, Hfd.out (by first | rfl | trivial), hfr.trans' hf1 (fun _ _ h => h)⟩
  ·obtain rfl : k = n := by omega
   go_wp2
   go_ret
   refine ⟨-1, rfl, .inl ⟨rfl, ?_⟩, hfr⟩
   have h1 := hpre.out
   rwa [List.take_of_length_le (by rw [Hn.out]; exact Nat.le_refl _)] at h1
set_option maxHeartbeats 1000000 in
theorem find_any (x : Ctl) (nm : ByteArray) (w : World) (hx : Clss w x.cA x.cls) (hn : x.cls.length ≤ 1099511627776) :
  Calls Tryz.prog 72 #[x.agg, .string nm] w fun e w' => ∃ r, e = .returned (.int .i64 r) ∧ At12 x.cls nm r ∧ Fr No w w' := by
 unfold Ctl.agg
 obtain ⟨Z, hZ⟩ : ∃ Z, Z = x.arr := ⟨_, rfl⟩
 rw [← hZ]
 obtain ⟨W0, hW0⟩ : ∃ W0, W0 = (w.alloc (.cells Z 26)).alloc (.cells #[.string nm] 9) := ⟨_, rfl⟩
 have f0 : Fr No w W0 := by rw [hW0]; exact ((Fr.refl _ _).alloc _).alloc _
 have bZ : Bk W0 w.heap.size 26 Z := by rw [hW0]; exact (Bk.made w _ _).fr ((Fr.refl No _).alloc _) (fun e => e)
 have bN : Bk W0 (w.heap.size + 1) 9 #[.string nm] := by
  have h := Bk.made (w.alloc (.cells Z 26)) 9 #[.string nm]
  rw [World.size_alloc] at h
  rw [hW0]
  exact h
 have x0 : W0.cell? ⟨w.heap.size, 0, none⟩ = some (.slice x.cA x.cls.length x.cc) := by rw [bZ.cell, hZ]; rfl
 have HC := Lib.hid (idxCls_any x.cls x.cA x.cls.length x.cc nm (w.heap.size + 1) W0 (hx.since f0).sl rfl hn bN)
 have HF := Lib.hid f0
 have hwe := hW0.symm
 generalize x.cls.length = n at *
 clear hx hZ hW0 bZ bN f0
 go_enter Tryz.func72, Tryz.ntmps72
 go_wp2_with fail
 refine (HC.out).mono ?_
 rintro e w1 ⟨r, rfl, ha, f1⟩
 go_wp2
 go_ret
 exact ⟨r, rfl, ha, HF.out.trans' f1 (fun _ _ e => e)⟩
end Go.Proofs.YtmeimhpllemjfaaGreat
/- Package cat: May. -/
namespace Go.Proofs.YtmeimhpllemjfaaGreat
open Go.RowKit

structure Ctl.Nice (x : Ctl) : Prop where
 few : x.Few
 cls : ∀ c ∈ x.cls, c.Few
theorem clOkAt_eq (x : Ctl) {i : Nat} (hi : i < x.cls.length) : clOkAt x.p i = (x.cls[i].p.ok && !((x.cls.take i).any (nameB x.cls[i].name))) := by
 unfold clOkAt
 rw [pct_at x hi]
 congr 1
 have h : ∀ j, j ≤ i → (List.range j).all (fun k => !((x.p.at k).name.toList == x.cls[i].p.name.toList)) = !((x.cls.take j).any (nameB x.cls[i].name)) := by
  intro j hj
  induction j with
  | zero => simp
  | succ j ih =>
   have hjl : j < x.cls.length := by omega
   rw [range_all_snoc, ih (by omega), List.take_succ_eq_append_getElem hjl, List.any_append, pct_at x hjl]
   simp [nameB, Cls.p]
 exact h i (Nat.le_refl _)
theorem at12_same {l : List Cls} {i : Nat} (hi : i < l.length) {r : Int} (h : At12 l l[i].name r) : decide (r = (i : Int)) = !((l.take i).any (nameB l[i].name)) := by
 have hself : nameB l[i].name l[i] = true := by simp [nameB]
 rcases h with ⟨rfl, h⟩ | ⟨k, hk, rfl, h1, h2⟩
 ·rw [List.any_eq_false] at h
  exact absurd hself (h _ (List.getElem_mem hi))
 ·have hki : k ≤ i := by
   rcases Nat.lt_or_ge i k with hlt | hge
   ·exfalso
    rw [List.any_eq_false] at h2
    refine h2 l[i] ?_ hself
    have h3 : i < (l.take k).length := by rw [List.length_take]; omega
    have h4 := List.getElem_mem h3
    rwa [List.getElem_take] at h4
   ·exact hge
  rcases Nat.lt_or_ge k i with hlt | hge
  ·have h3 : (l.take i).any (nameB l[i].name) = true := by
    rw [List.any_eq_true]
    have h5 : k < (l.take i).length := by rw [List.length_take]; omega
    refine ⟨l[k], ?_, h1⟩
    have h4 := List.getElem_mem h5
    rwa [List.getElem_take] at h4
   rw [h3, decide_eq_false (by omega)]
   rfl
  ·obtain rfl : k = i := by omega
   rw [h2, decide_eq_true rfl]
   rfl
end Go.Proofs.YtmeimhpllemjfaaGreat
/- A catalogue that may be is nice; the example's parts. -/
namespace Go.Proofs.YtmeimhpllemjfaaGreat
open Go.RowKit

theorem pairF12 {n : Int} {q : (List Ins × List Fsp) × (List Ins × List Fsp)} (h : pairOk n q = true) : (q.1.1.length ≤ 8 ∧ q.1.2.length ≤ 4) ∧ (q.2.1.length ≤ 8 ∧ q.2.2.length ≤ 4) := by
 unfold pairOk compOk at h
 simp only [Bool.and_eq_true, Bool.or_eq_true, decide_eq_true_eq] at h
 obtain ⟨h1, h2, h3, h4, -⟩ := h
 have hp : ∀ {l : List Ins}, progOk l n = true → l.length ≤ 8 := by
  intro l hl
  unfold progOk at hl
  simp only [Bool.and_eq_true, decide_eq_true_eq] at hl
  exact hl.2.1.2
 have hf : ∀ {l : List Fsp}, footOk l n = true → l.length ≤ 4 := by
  intro l hl
  unfold footOk at hl
  simp only [Bool.and_eq_true, decide_eq_true_eq] at hl
  exact hl.2.1
 refine ⟨⟨hp h1, hf h2⟩, ?_, hf h3⟩
 rcases h4 with h4 | h4
 ·omega
 ·exact hp h4
theorem zipA12 {l m : List Stp} (h : m.length = l.length) {s : Stp} (hs : s ∈ l) : ∃ u, (s, u) ∈ l.zip m := by
 obtain ⟨i, hi, rfl⟩ := List.getElem_of_mem hs
 have h2 : i < (l.zip m).length := by rw [List.length_zip]; omega
 exact ⟨m[i], by have := List.getElem_mem h2; rwa [List.getElem_zip] at this⟩
theorem zipB12 {l m : List Stp} (h : m.length = l.length) {s : Stp} (hs : s ∈ m) : ∃ u, (u, s) ∈ l.zip m := by
 obtain ⟨i, hi, rfl⟩ := List.getElem_of_mem hs
 have h2 : i < (l.zip m).length := by rw [List.length_zip]; omega
 exact ⟨l[i], by have := List.getElem_mem h2; rwa [List.getElem_zip] at this⟩
theorem few_of_ok12 {c : Cls} (h : c.p.ok = true) : c.Few ∧ c.steps.length ≤ 4 := by
 unfold PC.ok Cls.p at h
 simp only [Bool.and_eq_true, decide_eq_true_eq, List.length_map] at h
 obtain ⟨-, -, h3, h4, h5⟩ := h
 have hall : ∀ q ∈ c.steps.zip c.comps, (q.1.code.length ≤ 8 ∧ q.1.foot.length ≤ 4) ∧ (q.2.code.length ≤ 8 ∧ q.2.foot.length ≤ 4) := fun q hq => by
  have h6 : (q.1.p, q.2.p) ∈ (c.steps.map Stp.p).zip (c.comps.map Stp.p) := by
   rw [List.zip_map]
   exact List.mem_map.2 ⟨q, hq, rfl⟩
  rw [List.all_eq_true] at h5
  exact pairF12 (h5 _ h6)
 refine ⟨⟨by omega, by omega, fun s hs => ?_, fun s hs => ?_⟩, h3.2⟩
 ·obtain ⟨u, hu⟩ := zipA12 h4 hs
  have h6 := (hall _ hu).1
  simp only at h6
  omega
 ·obtain ⟨u, hu⟩ := zipB12 h4 hs
  have h6 := (hall _ hu).2
  simp only at h6
  omega
theorem nice_of_ok {z : Ctl} (h : z.p.ok = true) : z.Nice := by
 have e1 : z.p.cs.length = z.cls.length := by simp [Ctl.p]
 unfold PCt.ok at h
 simp only [Bool.and_eq_true, decide_eq_true_eq] at h
 obtain ⟨h1, h2, h3⟩ := h
 rw [e1] at h1 h2
 have hc : ∀ c ∈ z.cls, c.p.ok = true := fun c hc => by
  obtain ⟨i, hi, rfl⟩ := List.getElem_of_mem hc
  have := range_all_at h2 hi
  unfold clOkAt at this
  rw [pct_at z hi] at this
  simp only [Bool.and_eq_true] at this
  exact this.1
 exact ⟨⟨h1.2, fun c hc' => (few_of_ok12 (hc c hc')).2, fun j hj => by
  have := range_all_at h3 hj
  unfold brOkAt at this
  exact of_decide_eq_true this⟩, fun c hc' => (few_of_ok12 (hc c hc')).1⟩
def exI : Ins := ⟨5, 0, 0, 0, 0, 0, 0, 0, 0⟩
def exS (H : Nat) : Stp := ⟨some ⟨H, 0, none⟩, [exI], 1, none, [], 0⟩
def exZ : Stp := ⟨none, [], 0, none, [], 0⟩
theorem sl_bk12 {V : World} {g : Nat} {t : TypeId} {cs : Array Value} (h : Bk V g t cs) {xs : List Value} (hx : xs = cs.toList) : Sl V V.heap.size (some ⟨g, 0, none⟩) xs := by
 intro _
 refine ⟨_, rfl, h.lt, fun j u hu => ?_⟩
 rw [hx, Array.getElem?_toList] at hu
 have e : (⟨g, 0, none⟩ : Addr).add j = ⟨g, j, none⟩ := by cases j <;> simp [Addr.add]
 rw [e, h.cell]
 exact hu
theorem bkm12 {w : World} {k : Nat} {t : TypeId} {cs : Array Value} (h : k = w.heap.size) : Bk (w.alloc (.cells cs t)) k t cs := by
 subst h
 exact Bk.made w t cs
theorem bka12 {w : World} {k : Nat} {t : TypeId} {cs : Array Value} (h : Bk w k t cs) (o : Obj) : Bk (w.alloc o) k t cs := h.fr ((Fr.refl No w).alloc o) (fun e => e)
theorem bkd12 {w : World} {k : Nat} {t : TypeId} {cs : Array Value} (h : Bk w k t cs) : Bk w.drew k t cs := h
def iA : Array Value := #[.int .i64 5, .int .i64 0, .int .i64 0, .int .i64 0, .int .i64 0, .int .i64 0, .int .i64 0, .int .i64 0, .int .i64 0]
end Go.Proofs.YtmeimhpllemjfaaGreat
