/- Catalogues, purely: when one may be, when two are the same; a bit of a number. -/
import Derived.Test.YtmeimhpllemjfaaGreatCls11
import Derived.WalkKit
import Derived.ChangeKeysEq
import Derived.Laws.StructEq
namespace Go.Proofs.YtmeimhpllemjfaaGreat
open Go.RowKit

def PC.nil : PC := ⟨⟨#[]⟩, 0, [], [], false⟩
structure PCt where
 cs : List PC
 b : Nat → Int
def PCt.at (x : PCt) (i : Nat) : PC := x.cs.getD i PC.nil
def PCt.most (x : PCt) (c d : Nat) : Int := if c < x.cs.length ∧ d < x.cs.length then ((2 ^ ((x.at c).steps.length - 1) : Nat) : Int) else 1
def clOkAt (x : PCt) (i : Nat) : Bool := (x.at i).ok && (List.range i).all fun k => !((x.at k).name.toList == (x.at i).name.toList)
def brOkAt (x : PCt) (j : Nat) : Bool := decide (0 ≤ x.b j ∧ x.b j < x.most (j / 4) (j % 4))
def PCt.ok (x : PCt) : Bool := decide (1 ≤ x.cs.length ∧ x.cs.length ≤ 4) && ((List.range x.cs.length).all (clOkAt x) && (List.range 16).all (brOkAt x))
def sameBr (b b' : Nat → Int) : Bool := (List.range 16).all fun j => b j == b' j
theorem range_all_snoc (p : Nat → Bool) (n : Nat) : (List.range (n + 1)).all p = ((List.range n).all p && p n) := by
 rw [List.range_succ, List.all_append]
 simp
theorem range_all_not (p : Nat → Bool) {n k : Nat} (hk : k < n) (h : p k = false) : (List.range n).all p = false := by
 rw [List.all_eq_false]
 exact ⟨k, List.mem_range.2 hk, by rw [h]; decide⟩
theorem range_all_at {p : Nat → Bool} {n k : Nat} (h : (List.range n).all p = true) (hk : k < n) : p k = true := List.all_eq_true.1 h k (List.mem_range.2 hk)
def bitB (n : Int) (i : Nat) : Bool := (n / 2 ^ i) % 2 == 1
def PCt.brk (x : PCt) (c d i : Int) : Bool := decide (0 ≤ c ∧ c < x.cs.length ∧ c < 4) && (decide (0 ≤ d ∧ d < x.cs.length ∧ d < 4) && (decide (0 ≤ i ∧ i + 1 < (x.at c.toNat).steps.length) && bitB (x.b (c.toNat * 4 + d.toNat)) i.toNat))
end Go.Proofs.YtmeimhpllemjfaaGreat
/- Catalogues with all breakpoints, with none, purely; how many there are. -/
namespace Go.Proofs.YtmeimhpllemjfaaGreat
open Go.RowKit

theorem pct_len4 {x : PCt} (h : x.ok = true) {c : Nat} (hc : c < x.cs.length) : 1 ≤ (x.at c).steps.length ∧ (x.at c).steps.length ≤ 4 := by
 unfold PCt.ok at h
 simp only [Bool.and_eq_true] at h
 have := range_all_at h.2.1 hc
 unfold clOkAt at this
 simp only [Bool.and_eq_true] at this
 have h4 := this.1
 unfold PC.ok at h4
 simp only [Bool.and_eq_true, decide_eq_true_eq] at h4
 exact h4.2.2.1
theorem bit_zero (i : Nat) : bitB 0 i = false := by
 unfold bitB
 rw [Int.zero_ediv]
 rfl
def cntB (p : Nat → Bool) : Nat → Nat
 | 0 => 0
 | k + 1 => cntB p k + (if p k = true then 1 else 0)
theorem cntB_mono {p q : Nat → Bool} (k : Nat) (h : ∀ i, p i = true → q i = true) : cntB p k ≤ cntB q k := by
 induction k with
 | zero => exact Nat.le_refl _
 | succ k ih =>
  rw [cntB, cntB]
  by_cases hp : p k = true
  ·rw [if_pos hp, if_pos (h k hp)]
   omega
  ·rw [if_neg hp]
   omega
theorem bit_over {n : Int} {i : Nat} (h0 : 0 ≤ n) (h : n < 2 ^ i) : bitB n i = false := by
 unfold bitB
 rw [Int.ediv_eq_zero_of_lt h0 h]
 rfl
end Go.Proofs.YtmeimhpllemjfaaGreat
/- Catalogues as they lie there; the document's bit of a number. -/
namespace Go.Proofs.YtmeimhpllemjfaaGreat
open Go.RowKit

structure Ctl where
 cA : Option Addr
 cls : List Cls
 cc : Nat
 b : Nat → Int
def brA (v : Value) (b : Nat → Int) : Array Value := #[v, .int .i64 (b 0), .int .i64 (b 1), .int .i64 (b 2), .int .i64 (b 3), .int .i64 (b 4), .int .i64 (b 5), .int .i64 (b 6), .int .i64 (b 7), .int .i64 (b 8), .int .i64 (b 9), .int .i64 (b 10), .int .i64 (b 11), .int .i64 (b 12), .int .i64 (b 13), .int .i64 (b 14), .int .i64 (b 15)]
def Ctl.arr (x : Ctl) : Array Value := brA (.slice x.cA x.cls.length x.cc) x.b
def Ctl.agg (x : Ctl) : Value := .agg x.arr
def Ctl.p (x : Ctl) : PCt := ⟨x.cls.map Cls.p, x.b⟩
theorem brA_at (v : Value) (b : Nat → Int) {j : Nat} (hj : j < 16) : (brA v b)[1 + j]? = some (.int .i64 (b j)) := by
 unfold brA
 have h : j = 0 ∨ j = 1 ∨ j = 2 ∨ j = 3 ∨ j = 4 ∨ j = 5 ∨ j = 6 ∨ j = 7 ∨ j = 8 ∨ j = 9 ∨ j = 10 ∨ j = 11 ∨ j = 12 ∨ j = 13 ∨ j = 14 ∨ j = 15 := by omega
 rcases h with rfl | rfl | rfl | rfl | rfl | rfl | rfl | rfl | rfl | rfl | rfl | rfl | rfl | rfl | rfl | rfl <;> rfl
theorem bk_br {w : World} {H : Nat} {t : TypeId} {v : Value} {b : Nat → Int} (h : Bk w H t (brA v b)) {j : Nat} (hj : j < 16) : w.cell? ⟨H, 1 + j, none⟩ = some (.int .i64 (b j)) := by
 rw [h.cell (1 + j)]
 exact brA_at v b hj
theorem bk_br2 {w : World} {H : Nat} {t : TypeId} {v : Value} {b : Nat → Int} (h : Bk w H t (brA v b)) {c d : Nat} (hc : c < 4) (hd : d < 4) : w.cell? ⟨H, 1 + c * 4 + d, none⟩ = some (.int .i64 (b (c * 4 + d))) := by
 rw [show 1 + c * 4 + d = 1 + (c * 4 + d) by omega]
 exact bk_br h (by omega)
structure Clss (w : World) (A : Option Addr) (l : List Cls) : Prop where
 sl : Sl w w.heap.size A (l.flatMap Cls.cells)
 all : ∀ c ∈ l, c.Ok w
theorem Clss.since {w W : World} {A : Option Addr} {l : List Cls} (h : Clss w A l) (hf : Fr No w W) : Clss W A l := ⟨h.sl.since hf, fun c hc => (h.all c hc).since hf⟩
theorem Sl.cls {w : World} {B : Nat} {A : Option Addr} {l : List Cls} (h : Sl w B A (l.flatMap Cls.cells)) {k : Nat} (hk : k < l.length) :
  ∃ ad, A = some ad ∧ ad.block < B ∧ w.cell? (ad.add (k * 5)) = some (.string l[k].name) ∧ w.cell? ⟨(ad.add (k * 5)).block, (ad.add (k * 5)).off + 1, none⟩ = some (.int .i64 l[k].args) ∧
   w.cell? ⟨(ad.add (k * 5)).block, (ad.add (k * 5)).off + 2, none⟩ = some (.slice l[k].sA l[k].steps.length l[k].sc) ∧ w.cell? ⟨(ad.add (k * 5)).block, (ad.add (k * 5)).off + 3, none⟩ = some (.slice l[k].uA l[k].comps.length l[k].uc) ∧
   w.cell? ⟨(ad.add (k * 5)).block, (ad.add (k * 5)).off + 4, none⟩ = some (.bool l[k].res) := by
 obtain ⟨ad, e, hb, hc⟩ := h.row 5 Cls.cells_len hk (by omega)
 exact ⟨ad, e, hb, hc 0 _ rfl, hc 1 _ rfl, hc 2 _ rfl, hc 3 _ rfl, hc 4 _ rfl⟩
theorem pct_at (x : Ctl) {i : Nat} (hi : i < x.cls.length) : x.p.at i = x.cls[i].p := by
 unfold PCt.at Ctl.p
 simp [List.getD, hi]

set_option maxHeartbeats 1000000 in
theorem refBit_any (n : Int) (i : Nat) (w : World) (hn : 0 ≤ n ∧ n < 9223372036854775808) (hi : i ≤ 1099511627776) : Calls Tryz.prog 91 #[.int .i64 n, .int .i64 (i : Int)] w fun e w' => e = .returned (.bool (bitB n i)) ∧ w' = w := by
 have Hn := Lib.hid hn
 go_enter Tryz.func91, Tryz.ntmps91
 go_wp2
 go_loopw [0, 5] (fun nv kv wr => ∃ (k : Nat) (x : Int), k ≤ i ∧ kv = .int .i64 (k : Int) ∧ nv = .int .i64 x ∧ Hid (x = n / 2 ^ k) ∧ 0 ≤ x ∧ x < 9223372036854775808 ∧ wr = w) (fun _ kv _ => i - (intOf kv).toNat)
 case atStart => exact ⟨0, n, Nat.zero_le _, rfl, rfl, Lib.hid (by simp), hn.1, hn.2, rfl⟩
 case round =>
  obtain ⟨k, x, hk, rfl, rfl, hx, h0, h1, rfl⟩ := hrel
  by_cases hlt : k < i
  ·have e1 : x.tdiv 2 = x / 2 := Int.tdiv_eq_ediv_of_nonneg h0
   have Hx2 : Hid (x / 2 = n / 2 ^ (k + 1)) := Lib.hid (by
    rw [hx.out, Int.ediv_ediv_of_nonneg (Int.le_of_lt (Int.pow_pos (by decide))), Int.pow_succ])
   go_wp2
   go_roundw
   case rel => exact ⟨k + 1, x / 2, by omega, by go_num, by first | rfl | (simp [e1]; done), Hx2, by omega, by omega, by first | rfl | trivial⟩
   case measure => simp [intOf]; omega
  ·obtain rfl : k = i := by omega
   have e1 : x.tmod 2 = x % 2 := Int.tmod_eq_emod_of_nonneg h0
   have HB : Hid (bitB n k = (x % 2 == 1)) := Lib.hid (by rw [hx.out]; rfl)
   go_wp2
   go_ret
   exact ⟨by rw [HB.out]; first | rfl | simp [e1], rfl⟩
end Go.Proofs.YtmeimhpllemjfaaGreat
/- '==' of breakpoints: arrays of arrays, told cell by cell. -/
namespace Go.Proofs.YtmeimhpllemjfaaGreat
open Go.RowKit

def br16 (b : Nat → Int) : Array Value := #[.int .i64 (b 0), .int .i64 (b 1), .int .i64 (b 2), .int .i64 (b 3), .int .i64 (b 4), .int .i64 (b 5), .int .i64 (b 6), .int .i64 (b 7), .int .i64 (b 8), .int .i64 (b 9), .int .i64 (b 10), .int .i64 (b 11), .int .i64 (b 12), .int .i64 (b 13), .int .i64 (b 14), .int .i64 (b 15)]
theorem run_eqItems_gen {P : Program} {e : TypeId} {sz d : Nat} (xs ys : Array Value) (r : Nat → Bool) (vx vy : Nat → Value) (w : World) : ∀ is : List Nat, (∀ i ∈ is, (part e xs (i * sz)).run P w = .ok (vx i) w ∧ (part e ys (i * sz)).run P w = .ok (vy i) w ∧ (Op.equalIn d e (vx i) (vy i)).run P w = .ok (r i) w) →
  (Op.eqItems d e sz xs ys is).run P w = .ok (is.all r) w := by
 intro is
 induction is with
 | nil => intro _; rfl
 | cons i l ih =>
  intro hi
  obtain ⟨px, py, pe⟩ := hi i (by simp)
  simp only [Op.eqItems, Sem.run_bind, px, py, pe, Result.andThen_ok, List.all_cons]
  cases hb : r i
  ·rfl
  ·simp only [Bool.not_true, Bool.false_eq_true, if_false, Bool.true_and]
   exact ih (fun j hj => hi j (by simp [hj]))
theorem eqRow12 (a b : Nat → Int) (w : World) : (Op.equalIn 9999 23 (.agg #[.int .i64 (a 0), .int .i64 (a 1), .int .i64 (a 2), .int .i64 (a 3)]) (.agg #[.int .i64 (b 0), .int .i64 (b 1), .int .i64 (b 2), .int .i64 (b 3)])).run Tryz.prog w = .ok ((List.range 4).all fun i => a i == b i) w := by
 obtain ⟨i, hi, -⟩ := Option.map_eq_some_iff.1 (show (Tryz.prog.info? 3).map (·.size) = some 1 by kernel_rfl)
 rw [run_equalIn_array w 9998 _ _ Tryz.underlying23 hi, show Tryz.prog.cellsOf 3 = 1 by kernel_rfl]
 refine run_eqItems_gen _ _ (fun i => a i == b i) (fun i => .int .i64 (a i)) (fun i => .int .i64 (b i)) w _ (fun j hj => ?_)
 have hj : j = 0 ∨ j = 1 ∨ j = 2 ∨ j = 3 := by have := List.mem_range.1 hj; omega
 rcases hj with rfl | rfl | rfl | rfl <;> exact ⟨by kernel_rfl, by kernel_rfl, run_equalIn_int w 9997 _ .i64 .i64 _ _ Tryz.underlying3⟩
theorem eqBr12 (b b' : Nat → Int) (w : World) : (Op.equalIn 10000 24 (.agg (br16 b)) (.agg (br16 b'))).run Tryz.prog w = .ok (sameBr b b') w := by
 obtain ⟨i, hi, -⟩ := Option.map_eq_some_iff.1 (show (Tryz.prog.info? 23).map (·.size) = some 4 by kernel_rfl)
 rw [run_equalIn_array w 9999 _ _ Tryz.underlying24 hi, show Tryz.prog.cellsOf 23 = 4 by kernel_rfl]
 have h16 : sameBr b b' = (List.range 4).all fun i => (List.range 4).all fun j => b (i * 4 + j) == b' (i * 4 + j) := by
  have h : List.range 16 = [0, 1, 2, 3, 4, 5, 6, 7, 8, 9, 10, 11, 12, 13, 14, 15] := by decide
  have h4 : List.range 4 = [0, 1, 2, 3] := by decide
  unfold sameBr
  rw [h, h4]
  simp [List.all, Bool.and_assoc]
 rw [h16]
 refine run_eqItems_gen _ _ (fun i => (List.range 4).all fun j => b (i * 4 + j) == b' (i * 4 + j)) (fun i => .agg #[.int .i64 (b (i * 4 + 0)), .int .i64 (b (i * 4 + 1)), .int .i64 (b (i * 4 + 2)), .int .i64 (b (i * 4 + 3))]) (fun i => .agg #[.int .i64 (b' (i * 4 + 0)), .int .i64 (b' (i * 4 + 1)), .int .i64 (b' (i * 4 + 2)), .int .i64 (b' (i * 4 + 3))]) w _ (fun j hj => ?_)
 have hj : j = 0 ∨ j = 1 ∨ j = 2 ∨ j = 3 := by have := List.mem_range.1 hj; omega
 refine ⟨?_, ?_, eqRow12 (fun k => b (j * 4 + k)) (fun k => b' (j * 4 + k)) w⟩
 ·rcases hj with rfl | rfl | rfl | rfl <;> kernel_rfl
 ·rcases hj with rfl | rfl | rfl | rfl <;> kernel_rfl
end Go.Proofs.YtmeimhpllemjfaaGreat
/- The document's own: is there a breakpoint? -/
namespace Go.Proofs.YtmeimhpllemjfaaGreat
open Go.RowKit

set_option maxRecDepth 100000 in
set_option maxHeartbeats 2000000 in
theorem refBreak_any (x : Ctl) (c d i : Nat) (w : World) (hx : Clss w x.cA x.cls) (hn : x.cls.length ≤ 4) (hc : c < x.cls.length) (hd : d < x.cls.length) (hi : i ≤ 1000) (hb : 0 ≤ x.b (c * 4 + d) ∧ x.b (c * 4 + d) < 9223372036854775808) :
  Calls Tryz.prog 70 #[x.agg, .int .i64 (c : Int), .int .i64 (d : Int), .int .i64 (i : Int)] w (Has w (decide (i + 1 < (x.p.at c).steps.length) && bitB (x.b (c * 4 + d)) i)) := by
 have Hst : Hid ((x.p.at c).steps.length = x.cls[c].steps.length) := Lib.hid (by rw [pct_at x hc]; simp [Cls.p])
 rw [Hst.out]
 obtain ⟨cA, cls, cc, b⟩ := x
 unfold Ctl.agg Ctl.arr brA
 simp only at *
 have Hb := Lib.hid (refBit_any (b (c * 4 + d)) i)
 obtain ⟨n, hnn⟩ : ∃ n, Hid (n = cls.length) := ⟨_, Lib.hid rfl⟩
 obtain ⟨W, hW⟩ : ∃ W, Hid (W = w.alloc (.cells (brA (.slice cA n cc) b) 26)) := ⟨_, Lib.hid rfl⟩
 have hf : Fr No w W := by rw [hW.out]; exact (Fr.refl _ _).alloc _
 have hB : Bk W w.heap.size 26 (brA (.slice cA n cc) b) := by rw [hW.out]; exact Bk.made w _ _
 obtain ⟨ad, e1, hab, c0, c1, c2, c3, c4⟩ := (hx.since hf).sl.cls (k := c) hc
 rw [← hnn.out] at hn hc hd ⊢
 have x0 : W.cell? ⟨w.heap.size, 0, none⟩ = some (.slice cA n cc) := hB.cell 0
 have x1 := bk_br2 hB (c := c) (d := d) (by omega) (by omega)
 have Hx := Lib.hid (And.intro c2 (And.intro x0 x1))
 have Hf := Lib.hid hf
 generalize cls[c].steps.length = L at *
 generalize cls[c].sA = sA at *
 generalize cls[c].sc = sc at *
 have hwe : w.alloc (.cells #[.slice cA n cc, .int .i64 (b 0), .int .i64 (b 1), .int .i64 (b 2), .int .i64 (b 3), .int .i64 (b 4), .int .i64 (b 5), .int .i64 (b 6), .int .i64 (b 7), .int .i64 (b 8), .int .i64 (b 9), .int .i64 (b 10), .int .i64 (b 11), .int .i64 (b 12), .int .i64 (b 13), .int .i64 (b 14), .int .i64 (b 15)] 26) = W := hW.out.symm
 have l0 := hB.lt
 clear hx hB hf hW
 subst e1
 have Hb2 := Lib.hid (Hb.out W hb (by omega))
 generalize b (c * 4 + d) = v at *
 generalize bitB v i = bb at *
 by_cases hL : i + 1 < L
 ·have e1 : decide (i + 1 < L) = true := by simpa using hL
  rw [e1]
  go_enter Tryz.func70, Tryz.ntmps70
  go_wp2_with fail
  refine (Hb2.out).mono ?_
  rintro e w2 ⟨rfl, rfl⟩
  go_wp2
  go_ret
  exact ⟨rfl, Hf.out⟩
 ·have e1 : decide (i + 1 < L) = false := by simpa using hL
  rw [e1]
  go_enter Tryz.func70, Tryz.ntmps70
  go_wp2
  go_ret
  exact ⟨rfl, Hf.out⟩
end Go.Proofs.YtmeimhpllemjfaaGreat
/- Package cat: bits of numbers up to 7; how many there are; whether a class has a place; all breakpoints of a class. -/
namespace Go.Proofs.YtmeimhpllemjfaaGreat
open Go.RowKit

attribute [local go_sem] Oper.semAt_some

def mskL (L : Nat) : Int := ((2 ^ (L - 1) : Nat) : Int) - 1
theorem mskL_le {L : Nat} (h : L ≤ 4) : mskL L ≤ 7 := by
 have h : L = 0 ∨ L = 1 ∨ L = 2 ∨ L = 3 ∨ L = 4 := by omega
 rcases h with rfl | rfl | rfl | rfl | rfl <;> decide
theorem and_all (W : World) {b : Int} {L : Nat} (hL : L ≤ 4) (h0 : 0 ≤ b) (h1 : b ≤ mskL L) : (Op.intBits .and .i64 b (mskL L)).run Tryz.prog W = .ok (.int .i64 b) W := by
 have h : L = 0 ∨ L = 1 ∨ L = 2 ∨ L = 3 ∨ L = 4 := by omega
 have h7 := mskL_le hL
 have hb : b = 0 ∨ b = 1 ∨ b = 2 ∨ b = 3 ∨ b = 4 ∨ b = 5 ∨ b = 6 ∨ b = 7 := by omega
 rcases h with rfl | rfl | rfl | rfl | rfl <;> rcases hb with rfl | rfl | rfl | rfl | rfl | rfl | rfl | rfl <;> first | rfl | (exfalso; revert h1; decide)
def oneB12 (i : Nat) : Int := IntKind.i64.wrap (1 * 2 ^ (min i 64))
def bitAnd (b : Int) (i : Nat) : Int := IntKind.i64.wrap ((BitVec.ofInt 64 b &&& BitVec.ofInt 64 (oneB12 i)).toNat)
theorem bitAnd_small : ∀ b : Fin 8, ∀ i : Fin 64, decide (bitAnd (b.val : Int) i.val = 0) = !(bitB (b.val : Int) i.val) := by decide +kernel
theorem bitAnd_any {b : Int} (h0 : 0 ≤ b) (h7 : b ≤ 7) (i : Nat) : decide (bitAnd b i = 0) = !(bitB b i) := by
 by_cases hi : i < 64
 ·have h := bitAnd_small ⟨b.toNat, by omega⟩ ⟨i, hi⟩
  have e : ((b.toNat : Nat) : Int) = b := by omega
  simpa only [e] using h
 ·have e1 : bitB b i = false := bit_over h0 (by
   have h2 : (2 : Int) ^ 3 ≤ 2 ^ i := by
    have := Nat.pow_le_pow_right (n := 2) (by omega) (show 3 ≤ i by omega)
    exact_mod_cast this
   have : (2 : Int) ^ 3 = 8 := by decide
   omega)
  have e2 : oneB12 i = 0 := by
   unfold oneB12
   rw [Nat.min_eq_right (by omega)]
   decide
  rw [e1]
  unfold bitAnd
  rw [e2]
  have hb : b = 0 ∨ b = 1 ∨ b = 2 ∨ b = 3 ∨ b = 4 ∨ b = 5 ∨ b = 6 ∨ b = 7 := by omega
  rcases hb with rfl | rfl | rfl | rfl | rfl | rfl | rfl | rfl <;> decide

theorem hasPlace_any (c : Int) (w : World) : Calls Tryz.prog 137 #[.int .i64 c] w fun e w' => e = .returned (.bool (decide (0 ≤ c ∧ c < 4))) ∧ w' = w := by
 by_cases h1 : 0 ≤ c
 ·by_cases h2 : c < 4
  ·rw [decide_eq_true (And.intro h1 h2)]
   go_enter Tryz.func137, Tryz.ntmps137
   go_wp2
   go_ret
   exact ⟨rfl, rfl⟩
  ·have e0 : decide (0 ≤ c ∧ c < 4) = false := decide_eq_false (by omega)
   rw [e0]
   clear e0
   go_enter Tryz.func137, Tryz.ntmps137
   go_wp2
   go_ret
   exact ⟨rfl, rfl⟩
 ·have e0 : decide (0 ≤ c ∧ c < 4) = false := decide_eq_false (by omega)
  rw [e0]
  clear e0
  go_enter Tryz.func137, Tryz.ntmps137
  go_wp2
  go_ret
  exact ⟨rfl, rfl⟩

theorem all_any (c : Cls) (w : World) (h : c.steps.length ≤ 4) : Calls Tryz.prog 100 #[c.agg] w fun e w' => e = .returned (.int .i64 (mskL c.steps.length)) ∧ Fr No w w' := by
 obtain ⟨nm, a, A, ss, sc, U, us, uc, res⟩ := c
 unfold Cls.agg
 simp only at h ⊢
 generalize us.length = m at *
 generalize ss.length = L at *
 have h : L = 0 ∨ L = 1 ∨ L = 2 ∨ L = 3 ∨ L = 4 := by omega
 have f0 : Fr No w (w.alloc (.cells #[.string nm, .int .i64 a, .slice A L sc, .slice U m uc, .bool res] 49)) := (Fr.refl _ _).alloc _
 rcases h with rfl | rfl | rfl | rfl | rfl
 all_goals
  go_enter Tryz.func100, Tryz.ntmps100
  go_wp2
  go_ret
  exact ⟨rfl, f0⟩
end Go.Proofs.YtmeimhpllemjfaaGreat
