/- Catalogues as they lie there; the document's bit of a number. -/
import Derived.Test.YtkihbjgmmaklaaaCtp12
import Derived.WalkKit
import Derived.ChangeKeysEq
import Derived.Laws.StructEq
namespace Go.Proofs.Ytkihbjgmmaklaaa
open Go.RowKit

structure Ctl where
  cA : Option Addr
  cls : List Cls
  cc : Nat
  b : Nat → Int
/-- Its cells: the classes' list, then row by row the breakpoints. -/
def brA (v : Value) (b : Nat → Int) : Array Value := #[v, .int .i64 (b 0), .int .i64 (b 1), .int .i64 (b 2), .int .i64 (b 3), .int .i64 (b 4), .int .i64 (b 5), .int .i64 (b 6), .int .i64 (b 7), .int .i64 (b 8), .int .i64 (b 9), .int .i64 (b 10), .int .i64 (b 11), .int .i64 (b 12), .int .i64 (b 13), .int .i64 (b 14), .int .i64 (b 15)]
def Ctl.arr (x : Ctl) : Array Value := brA (.slice x.cA x.cls.length x.cc) x.b
def Ctl.agg (x : Ctl) : Value := .agg x.arr
def Ctl.p (x : Ctl) : PCt := ⟨x.cls.map Cls.p, x.b⟩
theorem brA_at (v : Value) (b : Nat → Int) {j : Nat} (hj : j < 16) : (brA v b)[1 + j]? = some (.int .i64 (b j)) := by
  unfold brA
  have h : j = 0 ∨ j = 1 ∨ j = 2 ∨ j = 3 ∨ j = 4 ∨ j = 5 ∨ j = 6 ∨ j = 7 ∨ j = 8 ∨ j = 9 ∨ j = 10 ∨ j = 11 ∨ j = 12 ∨ j = 13 ∨ j = 14 ∨ j = 15 := by omega
  rcases h with rfl | rfl | rfl | rfl | rfl | rfl | rfl | rfl | rfl | rfl | rfl | rfl | rfl | rfl | rfl | rfl <;> rfl
theorem bk_br {w : World} {H : Nat} {t : TypeId} {v : Value} {b : Nat → Int} (h : Bk w H t (brA v b)) {j : Nat} (hj : j < 16) : w.cell? ⟨H, 1 + j, none⟩ = some (.int .i64 (b j)) := by
  rw [h.cell (1 + j)]
  exact brA_at v b hj
theorem bk_br2 {w : World} {H : Nat} {t : TypeId} {v : Value} {b : Nat → Int} (h : Bk w H t (brA v b)) {c d : Nat} (hc : c < 4) (hd : d < 4) : w.cell? ⟨H, 1 + c * 4 + d, none⟩ = some (.int .i64 (b (c * 4 + d))) := by
  rw [show 1 + c * 4 + d = 1 + (c * 4 + d) by omega]
  exact bk_br h (by omega)
structure Clss (w : World) (A : Option Addr) (l : List Cls) : Prop where
  sl : Sl w w.heap.size A (l.flatMap Cls.cells)
  all : ∀ c ∈ l, c.Ok w
theorem Clss.since {w W : World} {A : Option Addr} {l : List Cls} (h : Clss w A l) (hf : Fr No w W) : Clss W A l := ⟨h.sl.since hf, fun c hc => (h.all c hc).since hf⟩
theorem Sl.cls {w : World} {B : Nat} {A : Option Addr} {l : List Cls} (h : Sl w B A (l.flatMap Cls.cells)) {k : Nat} (hk : k < l.length) :
    ∃ ad, A = some ad ∧ ad.block < B ∧ w.cell? (ad.add (k * 5)) = some (.string l[k].name) ∧ w.cell? ⟨(ad.add (k * 5)).block, (ad.add (k * 5)).off + 1, none⟩ = some (.int .i64 l[k].args) ∧
      w.cell? ⟨(ad.add (k * 5)).block, (ad.add (k * 5)).off + 2, none⟩ = some (.slice l[k].sA l[k].steps.length l[k].sc) ∧ w.cell? ⟨(ad.add (k * 5)).block, (ad.add (k * 5)).off + 3, none⟩ = some (.slice l[k].uA l[k].comps.length l[k].uc) ∧
      w.cell? ⟨(ad.add (k * 5)).block, (ad.add (k * 5)).off + 4, none⟩ = some (.bool l[k].res) := by
  obtain ⟨ad, e, hb, hc⟩ := h.row 5 Cls.cells_len hk (by omega)
  exact ⟨ad, e, hb, hc 0 _ rfl, hc 1 _ rfl, hc 2 _ rfl, hc 3 _ rfl, hc 4 _ rfl⟩
theorem pct_at (x : Ctl) {i : Nat} (hi : i < x.cls.length) : x.p.at i = x.cls[i].p := by
  unfold PCt.at Ctl.p
  simp [List.getD, hi]

set_option maxHeartbeats 1000000 in
theorem refBit_any (n : Int) (i : Nat) (w : World) (hn : 0 ≤ n ∧ n < 9223372036854775808) (hi : i ≤ 1099511627776) : Calls Try.prog 73 #[.int .i64 n, .int .i64 (i : Int)] w fun e w' => e = .returned (.bool (bitB n i)) ∧ w' = w := by
  have Hn := Lib.hid hn
  go_enter Try.func73, Try.ntmps73
  go_wp2
  go_loopw [0, 5] (fun nv kv wr => ∃ (k : Nat) (x : Int), k ≤ i ∧ kv = .int .i64 (k : Int) ∧ nv = .int .i64 x ∧ Hid (x = n / 2 ^ k) ∧ 0 ≤ x ∧ x < 9223372036854775808 ∧ wr = w) (fun _ kv _ => i - (intOf kv).toNat)
  case atStart => exact ⟨0, n, Nat.zero_le _, rfl, rfl, Lib.hid (by simp), hn.1, hn.2, rfl⟩
  case round =>
    obtain ⟨k, x, hk, rfl, rfl, hx, h0, h1, rfl⟩ := hrel
    by_cases hlt : k < i
    · have e1 : x.tdiv 2 = x / 2 := Int.tdiv_eq_ediv_of_nonneg h0
      have Hx2 : Hid (x / 2 = n / 2 ^ (k + 1)) := Lib.hid (by
        rw [hx.out, Int.ediv_ediv_of_nonneg (Int.le_of_lt (Int.pow_pos (by decide))), Int.pow_succ])
      go_wp2
      go_roundw
      case rel => exact ⟨k + 1, x / 2, by omega, by go_num, by first | rfl | (simp [e1]; done), Hx2, by omega, by omega, by first | rfl | trivial⟩
      case measure => simp [intOf]; omega
    · obtain rfl : k = i := by omega
      have e1 : x.tmod 2 = x % 2 := Int.tmod_eq_emod_of_nonneg h0
      have HB : Hid (bitB n k = (x % 2 == 1)) := Lib.hid (by rw [hx.out]; rfl)
      go_wp2
      go_ret
      exact ⟨by rw [HB.out]; first | rfl | simp [e1], rfl⟩
end Go.Proofs.Ytkihbjgmmaklaaa
/- '==' of breakpoints: arrays of arrays, told cell by cell. -/
namespace Go.Proofs.Ytkihbjgmmaklaaa
open Go.RowKit

/-- The breakpoints as a value. -/
def br16 (b : Nat → Int) : Array Value := #[.int .i64 (b 0), .int .i64 (b 1), .int .i64 (b 2), .int .i64 (b 3), .int .i64 (b 4), .int .i64 (b 5), .int .i64 (b 6), .int .i64 (b 7), .int .i64 (b 8), .int .i64 (b 9), .int .i64 (b 10), .int .i64 (b 11), .int .i64 (b 12), .int .i64 (b 13), .int .i64 (b 14), .int .i64 (b 15)]
theorem run_eqItems_gen {P : Program} {e : TypeId} {sz d : Nat} (xs ys : Array Value) (r : Nat → Bool) (vx vy : Nat → Value) (w : World) : ∀ is : List Nat, (∀ i ∈ is, (part e xs (i * sz)).run P w = .ok (vx i) w ∧ (part e ys (i * sz)).run P w = .ok (vy i) w ∧ (Op.equalIn d e (vx i) (vy i)).run P w = .ok (r i) w) →
    (Op.eqItems d e sz xs ys is).run P w = .ok (is.all r) w := by
  intro is
  induction is with
  | nil => intro _; rfl
  | cons i l ih =>
    intro hi
    obtain ⟨px, py, pe⟩ := hi i (by simp)
    simp only [Op.eqItems, Sem.run_bind, px, py, pe, Result.andThen_ok, List.all_cons]
    cases hb : r i
    · rfl
    · simp only [Bool.not_true, Bool.false_eq_true, if_false, Bool.true_and]
      exact ih (fun j hj => hi j (by simp [hj]))
theorem eqRow12 (a b : Nat → Int) (w : World) : (Op.equalIn 9999 23 (.agg #[.int .i64 (a 0), .int .i64 (a 1), .int .i64 (a 2), .int .i64 (a 3)]) (.agg #[.int .i64 (b 0), .int .i64 (b 1), .int .i64 (b 2), .int .i64 (b 3)])).run Try.prog w = .ok ((List.range 4).all fun i => a i == b i) w := by
  obtain ⟨i, hi, -⟩ := Option.map_eq_some_iff.1 (show (Try.prog.info? 3).map (·.size) = some 1 by kernel_rfl)
  rw [run_equalIn_array w 9998 _ _ Try.underlying23 hi, show Try.prog.cellsOf 3 = 1 by kernel_rfl]
  refine run_eqItems_gen _ _ (fun i => a i == b i) (fun i => .int .i64 (a i)) (fun i => .int .i64 (b i)) w _ (fun j hj => ?_)
  have hj : j = 0 ∨ j = 1 ∨ j = 2 ∨ j = 3 := by have := List.mem_range.1 hj; omega
  rcases hj with rfl | rfl | rfl | rfl <;> exact ⟨by kernel_rfl, by kernel_rfl, run_equalIn_int w 9997 _ .i64 .i64 _ _ Try.underlying3⟩
theorem eqBr12 (b b' : Nat → Int) (w : World) : (Op.equalIn 10000 24 (.agg (br16 b)) (.agg (br16 b'))).run Try.prog w = .ok (sameBr b b') w := by
  obtain ⟨i, hi, -⟩ := Option.map_eq_some_iff.1 (show (Try.prog.info? 23).map (·.size) = some 4 by kernel_rfl)
  rw [run_equalIn_array w 9999 _ _ Try.underlying24 hi, show Try.prog.cellsOf 23 = 4 by kernel_rfl]
  have h16 : sameBr b b' = (List.range 4).all fun i => (List.range 4).all fun j => b (i * 4 + j) == b' (i * 4 + j) := by
    have h : List.range 16 = [0, 1, 2, 3, 4, 5, 6, 7, 8, 9, 10, 11, 12, 13, 14, 15] := by decide
    have h4 : List.range 4 = [0, 1, 2, 3] := by decide
    unfold sameBr
    rw [h, h4]
    simp [List.all, Bool.and_assoc]
  rw [h16]
  refine run_eqItems_gen _ _ (fun i => (List.range 4).all fun j => b (i * 4 + j) == b' (i * 4 + j)) (fun i => .agg #[.int .i64 (b (i * 4 + 0)), .int .i64 (b (i * 4 + 1)), .int .i64 (b (i * 4 + 2)), .int .i64 (b (i * 4 + 3))]) (fun i => .agg #[.int .i64 (b' (i * 4 + 0)), .int .i64 (b' (i * 4 + 1)), .int .i64 (b' (i * 4 + 2)), .int .i64 (b' (i * 4 + 3))]) w _ (fun j hj => ?_)
  have hj : j = 0 ∨ j = 1 ∨ j = 2 ∨ j = 3 := by have := List.mem_range.1 hj; omega
  refine ⟨?_, ?_, eqRow12 (fun k => b (j * 4 + k)) (fun k => b' (j * 4 + k)) w⟩
  · rcases hj with rfl | rfl | rfl | rfl <;> kernel_rfl
  · rcases hj with rfl | rfl | rfl | rfl <;> kernel_rfl
end Go.Proofs.Ytkihbjgmmaklaaa
/- The document's own: is there a breakpoint? -/
namespace Go.Proofs.Ytkihbjgmmaklaaa
open Go.RowKit

set_option maxRecDepth 100000 in
set_option maxHeartbeats 2000000 in
theorem refBreak_any (x : Ctl) (c d i : Nat) (w : World) (hx : Clss w x.cA x.cls) (hn : x.cls.length ≤ 4) (hc : c < x.cls.length) (hd : d < x.cls.length) (hi : i ≤ 1000) (hb : 0 ≤ x.b (c * 4 + d) ∧ x.b (c * 4 + d) < 9223372036854775808) :
    Calls Try.prog 51 #[x.agg, .int .i64 (c : Int), .int .i64 (d : Int), .int .i64 (i : Int)] w (Has w (decide (i + 1 < (x.p.at c).steps.length) && bitB (x.b (c * 4 + d)) i)) := by
  have Hst : Hid ((x.p.at c).steps.length = x.cls[c].steps.length) := Lib.hid (by rw [pct_at x hc]; simp [Cls.p])
  rw [Hst.out]
  obtain ⟨cA, cls, cc, b⟩ := x
  unfold Ctl.agg Ctl.arr brA
  simp only at *
  have Hb := Lib.hid (refBit_any (b (c * 4 + d)) i)
  obtain ⟨n, hnn⟩ : ∃ n, Hid (n = cls.length) := ⟨_, Lib.hid rfl⟩
  obtain ⟨W, hW⟩ : ∃ W, Hid (W = w.alloc (.cells (brA (.slice cA n cc) b) 26)) := ⟨_, Lib.hid rfl⟩
  have hf : Fr No w W := by rw [hW.out]; exact (Fr.refl _ _).alloc _
  have hB : Bk W w.heap.size 26 (brA (.slice cA n cc) b) := by rw [hW.out]; exact Bk.made w _ _
  obtain ⟨ad, e1, hab, c0, c1, c2, c3, c4⟩ := (hx.since hf).sl.cls (k := c) hc
  rw [← hnn.out] at hn hc hd ⊢
  have x0 : W.cell? ⟨w.heap.size, 0, none⟩ = some (.slice cA n cc) := hB.cell 0
  have x1 := bk_br2 hB (c := c) (d := d) (by omega) (by omega)
  have Hx := Lib.hid (And.intro c2 (And.intro x0 x1))
  have Hf := Lib.hid hf
  generalize cls[c].steps.length = L at *
  generalize cls[c].sA = sA at *
  generalize cls[c].sc = sc at *
  have hwe : w.alloc (.cells #[.slice cA n cc, .int .i64 (b 0), .int .i64 (b 1), .int .i64 (b 2), .int .i64 (b 3), .int .i64 (b 4), .int .i64 (b 5), .int .i64 (b 6), .int .i64 (b 7), .int .i64 (b 8), .int .i64 (b 9), .int .i64 (b 10), .int .i64 (b 11), .int .i64 (b 12), .int .i64 (b 13), .int .i64 (b 14), .int .i64 (b 15)] 26) = W := hW.out.symm
  have l0 := hB.lt
  clear hx hB hf hW
  subst e1
  have Hb2 := Lib.hid (Hb.out W hb (by omega))
  generalize b (c * 4 + d) = v at *
  generalize bitB v i = bb at *
  by_cases hL : i + 1 < L
  · have e1 : decide (i + 1 < L) = true := by simpa using hL
    rw [e1]
    go_enter Try.func51, Try.ntmps51
    go_wp2_with fail
    refine (Hb2.out).mono ?_
    rintro e w2 ⟨rfl, rfl⟩
    go_wp2
    go_ret
    exact ⟨rfl, Hf.out⟩
  · have e1 : decide (i + 1 < L) = false := by simpa using hL
    rw [e1]
    go_enter Try.func51, Try.ntmps51
    go_wp2
    go_ret
    exact ⟨rfl, Hf.out⟩
end Go.Proofs.Ytkihbjgmmaklaaa
