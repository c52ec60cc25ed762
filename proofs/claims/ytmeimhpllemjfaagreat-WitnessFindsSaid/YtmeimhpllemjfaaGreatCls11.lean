/- Which footprints may be, as the document has it; sets that lie inside one another; footprints that are the same. -/
import Derived.Test.YtmeimhpllemjfaaGreatRgt10
import Derived.Test.YtmeimhpllemjfaaGreatMay9
import Derived.Test.YtmeimhpllemjfaaGreatRef4
import Derived.Deep.QuietTactic
import Derived.BigQuiet
import Derived.Laws.StructEq
namespace Go.Proofs.YtmeimhpllemjfaaGreat
open Go.RowKit

set_option maxHeartbeats 1000000 in
theorem refMay10_any (l : List Fsp) (n : Int) (A : Option Addr) (m c : Nat) (w : World) (hsl : Sl w w.heap.size A (l.flatMap Fsp.cells)) (hm : l.length = m) :
  Calls Tryz.prog 59 #[.slice A m c, .int .i64 n] w (Has w (footOk l n)) := by
 have Hm := Lib.hid hm
 have Hsl := Lib.hid hsl
 have Hno : Hid (¬ ((0 ≤ n ∧ n ≤ 3) ∧ m ≤ 4) → footOk l n = false) := Lib.hid (by
  intro h
  rw [Bool.eq_false_iff]
  intro e
  unfold footOk at e
  simp only [Bool.and_eq_true, decide_eq_true_eq, hm] at e
  exact h ⟨e.1, e.2.1⟩)
 clear hm hsl
 by_cases h0 : n < 0
 ·have d0 : decide (n < 0) = true := by simpa using h0
  have Hb : Hid (footOk l n = false) := Lib.hid (Hno.out (by omega))
  go_enter Tryz.func59, Tryz.ntmps59
  go_wp2
  go_ret
  exact ⟨by rw [Hb.out]; rfl, Fr.refl _ _⟩
 have d0 : decide (n < 0) = false := by simpa using h0
 by_cases h3 : 3 < n
 ·have d3 : decide (3 < n) = true := by simpa using h3
  have Hb : Hid (footOk l n = false) := Lib.hid (Hno.out (by omega))
  go_enter Tryz.func59, Tryz.ntmps59
  go_wp2
  go_ret
  exact ⟨by rw [Hb.out]; rfl, Fr.refl _ _⟩
 have d3 : decide (3 < n) = false := by simpa using h3
 by_cases h8 : 4 < m
 ·have d8 : decide (4 < (m : Int)) = true := by simp; omega
  have Hb : Hid (footOk l n = false) := Lib.hid (Hno.out (by omega))
  go_enter Tryz.func59, Tryz.ntmps59
  go_wp2
  go_ret
  exact ⟨by rw [Hb.out]; rfl, Fr.refl _ _⟩
 have d8 : decide (4 < (m : Int)) = false := by simp; omega
 have HC := Lib.hid (fun (x y : Int) W => refMayKey_any (x, y) n W)
 have Hall : Hid (footOk l n = l.all fun f => fspOk f n) := Lib.hid (by
  have e1 : decide (0 ≤ n ∧ n ≤ 3) = true := by simp; omega
  have e2 : decide (l.length ≤ 4) = true := by rw [Hm.out]; simp; omega
  rw [footOk, e1, e2]
  rfl)
 go_enter Tryz.func59, Tryz.ntmps59
 go_wp2
 go_loopw [5] (fun i wr => ∃ k : Nat, k ≤ m ∧ i = .int .i64 k ∧ Hid ((l.take k).all (fun f => fspOk f n) = true) ∧ Fr No w wr) (fun i _ => m - (intOf i).toNat)
 case atStart => exact ⟨0, Nat.zero_le _, rfl, Lib.hid (by simp), Fr.refl _ _⟩
 case round =>
  obtain ⟨k, hk, rfl, hpre, hfr⟩ := hrel
  by_cases hlt : k < m
  ·have hkl : k < l.length := by rw [Hm.out]; exact hlt
   obtain ⟨ad, rfl, hab, c0, c1, c2, c3, c4⟩ := (Hsl.out.since hfr).fsp (k := k) hkl
   have Hs : Hid (l.take (k + 1) = l.take k ++ [l[k]]) := Lib.hid (List.take_succ_eq_append_getElem hkl)
   have Hf : Hid (fspOk l[k] n = false → footOk l n = false) := Lib.hid (by
    intro h
    rw [Hall.out, Bool.eq_false_iff]
    intro e
    rw [List.all_eq_true] at e
    rw [e _ (List.getElem_mem hkl)] at h
    cases h)
   have HDm : Hid (fspOk l[k] n = (keyOk l[k].la l[k].lb n && keyOk l[k].ha l[k].hb n)) := Lib.hid rfl
   generalize l[k] = x at *
   obtain ⟨la, lb, ha, hb, wt⟩ := x
   dsimp only at c0 c1 c2 c3 c4 HDm
   have hx := HC.out la lb
   have hy := HC.out ha hb
   simp only [kcell] at hx hy
   cases hr1 : keyOk la lb n
   ·have Hbad : Hid (footOk l n = false) := Lib.hid (Hf.out (by rw [HDm.out, hr1]; rfl))
    rw [hr1] at hx
    clear hr1
    go_wp2_with fail
    refine (hx _).mono ?_
    rintro e w1 ⟨rfl, hf1⟩
    go_wp2
    go_ret
    exact ⟨by rw [Hbad.out]; rfl, hfr.then0 hf1 (fun _ h => h.elim)⟩
   ·rw [hr1] at hx
    go_wp2_with fail
    refine (hx _).mono ?_
    rintro e w1 ⟨rfl, hf1⟩
    have hz1 := hfr.then0 hf1 (fun _ h => h.elim)
    have k2 := (hf1.cell (p := ⟨(ad.add (k * 5)).block, (ad.add (k * 5)).off + 2, none⟩) (by rw [block_add]; exact hab) (fun e => e)).trans c2
    have k3 := (hf1.cell (p := ⟨(ad.add (k * 5)).block, (ad.add (k * 5)).off + 3, none⟩) (by rw [block_add]; exact hab) (fun e => e)).trans c3
    have Hr1 := Lib.hid hr1
    clear hr1 c0 c1 c2 c3 c4
    cases hr2 : keyOk ha hb n
    ·have Hbad : Hid (footOk l n = false) := Lib.hid (Hf.out (by rw [HDm.out, Hr1.out, hr2]; rfl))
     rw [hr2] at hy
     clear hr2
     go_wp2_with fail
     refine (hy _).mono ?_
     rintro e w2 ⟨rfl, hf2⟩
     go_wp2
     go_ret
     exact ⟨by rw [Hbad.out]; rfl, hz1.then0 hf2 (fun _ h => h.elim)⟩
    ·have Hg : Hid (fspOk ⟨la, lb, ha, hb, wt⟩ n = true) := Lib.hid (by rw [HDm.out, Hr1.out, hr2]; rfl)
     rw [hr2] at hy
     clear hr2
     go_wp2_with fail
     refine (hy _).mono ?_
     rintro e w2 ⟨rfl, hf2⟩
     go_wp2
     go_roundw
     case rel =>
      refine ⟨k + 1, by omega, by go_num, Lib.hid ?_, hz1.then0 hf2 (fun _ h => h.elim)⟩
      rw [Hs.out, List.all_append, hpre.out]
      simp [Hg.out]
     case measure => simp [intOf]; omega
  ·obtain rfl : k = m := by omega
   have Hr : Hid (footOk l n = true) := Lib.hid (by
    have h1 := hpre.out
    rw [List.take_of_length_le (by rw [Hm.out]; exact Nat.le_refl _)] at h1
    rw [Hall.out, h1])
   go_wp2
   go_ret
   exact ⟨by rw [Hr.out]; rfl, hfr⟩

end Go.Proofs.YtmeimhpllemjfaaGreat
/- Whether two programs, and two footprints, are the same, as the document has it. -/
namespace Go.Proofs.YtmeimhpllemjfaaGreat
open Go.RowKit

end Go.Proofs.YtmeimhpllemjfaaGreat
/- Classes: as they lie there, and purely. -/
namespace Go.Proofs.YtmeimhpllemjfaaGreat
open Go.RowKit

structure Stp where
 cA : Option Addr
 code : List Ins
 cc : Nat
 fA : Option Addr
 foot : List Fsp
 fc : Nat
def Stp.cells (s : Stp) : List Value := [.slice s.cA s.code.length s.cc, .slice s.fA s.foot.length s.fc]
theorem Stp.cells_len (s : Stp) : s.cells.length = 2 := rfl
def Stp.agg (s : Stp) : Value := .agg #[.slice s.cA s.code.length s.cc, .slice s.fA s.foot.length s.fc]
structure Stp.Ok (w : World) (B : Nat) (s : Stp) : Prop where
 code : Sl w B s.cA (s.code.flatMap Ins.cells)
 foot : Sl w B s.fA (s.foot.flatMap Fsp.cells)
structure Stp.I (s : Stp) : Prop where
 ci : ∀ i ∈ s.code, i.I
 fi : ∀ f ∈ s.foot, f.I
theorem Stp.Ok.since {w W : World} {s : Stp} (h : s.Ok w w.heap.size) (hf : Fr No w W) : s.Ok W W.heap.size := ⟨h.code.since hf, h.foot.since hf⟩
structure Sts (w : World) (A : Option Addr) (l : List Stp) : Prop where
 sl : Sl w w.heap.size A (l.flatMap Stp.cells)
 all : ∀ s ∈ l, s.Ok w w.heap.size
theorem Sts.since {w W : World} {A : Option Addr} {l : List Stp} (h : Sts w A l) (hf : Fr No w W) : Sts W A l := ⟨h.sl.since hf, fun s hs => (h.all s hs).since hf⟩
theorem Sl.stp {w : World} {B : Nat} {A : Option Addr} {l : List Stp} (h : Sl w B A (l.flatMap Stp.cells)) {k : Nat} (hk : k < l.length) :
  ∃ ad, A = some ad ∧ ad.block < B ∧ w.cell? (ad.add (k * 2)) = some (.slice l[k].cA l[k].code.length l[k].cc) ∧ w.cell? ⟨(ad.add (k * 2)).block, (ad.add (k * 2)).off + 1, none⟩ = some (.slice l[k].fA l[k].foot.length l[k].fc) := by
 obtain ⟨ad, e, hb, hc⟩ := h.row 2 Stp.cells_len hk (by omega)
 exact ⟨ad, e, hb, hc 0 _ rfl, hc 1 _ rfl⟩
def Stp.p (s : Stp) : List Ins × List Fsp := (s.code, s.foot)
structure Cls where
 name : ByteArray
 args : Int
 sA : Option Addr
 steps : List Stp
 sc : Nat
 uA : Option Addr
 comps : List Stp
 uc : Nat
 res : Bool
def Cls.cells (c : Cls) : List Value := [.string c.name, .int .i64 c.args, .slice c.sA c.steps.length c.sc, .slice c.uA c.comps.length c.uc, .bool c.res]
theorem Cls.cells_len (c : Cls) : c.cells.length = 5 := rfl
def Cls.agg (c : Cls) : Value := .agg #[.string c.name, .int .i64 c.args, .slice c.sA c.steps.length c.sc, .slice c.uA c.comps.length c.uc, .bool c.res]
structure Cls.Ok (w : World) (c : Cls) : Prop where
 steps : Sts w c.sA c.steps
 comps : Sts w c.uA c.comps
theorem Cls.Ok.since {w W : World} {c : Cls} (h : c.Ok w) (hf : Fr No w W) : c.Ok W := ⟨h.steps.since hf, h.comps.since hf⟩
structure PC where
 name : ByteArray
 args : Int
 steps : List (List Ins × List Fsp)
 comps : List (List Ins × List Fsp)
 res : Bool
def Cls.p (c : Cls) : PC := ⟨c.name, c.args, c.steps.map Stp.p, c.comps.map Stp.p, c.res⟩
def compOk (c : List Ins) (n : Int) : Bool := (decide (c.length = 0) || progOk c n) && c.all fun i => decide (i.op < 6)
def pairOk (n : Int) (q : (List Ins × List Fsp) × (List Ins × List Fsp)) : Bool := progOk q.1.1 n && (footOk q.1.2 n && (footOk q.2.2 n && compOk q.2.1 n))
def PC.ok (c : PC) : Bool := decide (1 ≤ c.name.size ∧ c.name.size ≤ 16) && (decide (0 ≤ c.args ∧ c.args ≤ 3) && (decide (1 ≤ c.steps.length ∧ c.steps.length ≤ 4) && (decide (c.comps.length = c.steps.length) && (c.steps.zip c.comps).all (pairOk c.args))))
end Go.Proofs.YtmeimhpllemjfaaGreat
