/- Programs, purely: which templates, instructions and programs may be; their words. No program is spoken of. -/
import Derived.Test.YtmeimhpllemjfaaGreatLib
import Derived.Test.YtmeimhpllemjfaaGreatRows
import Derived.Laws.StructEq
namespace Go.Proofs.YtmeimhpllemjfaaGreat
open Go.RowKit

structure Ins where
 op : Int
 a : Int
 b : Int
 c : Int
 ka : Int
 kb : Int
 la : Int
 lb : Int
 x : Int
def Ins.cells (i : Ins) : List Value := [.int .i64 i.op, .int .i64 i.a, .int .i64 i.b, .int .i64 i.c, .int .i64 i.ka, .int .i64 i.kb, .int .i64 i.la, .int .i64 i.lb, .int .i64 i.x]
theorem Ins.cells_len (i : Ins) : i.cells.length = 9 := rfl
def Ins.agg (i : Ins) : Value := .agg #[.int .i64 i.op, .int .i64 i.a, .int .i64 i.b, .int .i64 i.c, .int .i64 i.ka, .int .i64 i.kb, .int .i64 i.la, .int .i64 i.lb, .int .i64 i.x]
def I64 (n : Int) : Prop := -9223372036854775808 ≤ n ∧ n < 9223372036854775808
structure Ins.I (i : Ins) : Prop where
 op : I64 i.op
 a : I64 i.a
 b : I64 i.b
 c : I64 i.c
 ka : I64 i.ka
 kb : I64 i.kb
 la : I64 i.la
 lb : I64 i.lb
 x : I64 i.x
def keyOk (arg base n : Int) : Bool := decide (-1 ≤ arg ∧ arg < n ∧ 0 ≤ base ∧ base ≤ 900)
theorem keyOk_iff (arg base n : Int) : keyOk arg base n = true ↔ -1 ≤ arg ∧ arg < n ∧ 0 ≤ base ∧ base ≤ 900 := by simp [keyOk]
def InsOk (i : Ins) (n : Int) : Prop :=
 (1 ≤ i.op ∧ i.op ≤ 8) ∧ (0 ≤ i.a ∧ i.a ≤ 3) ∧ (i.op = 3 → i.a = 0) ∧ (i.op ≠ 5 → i.op ≠ 8 → i.x = 0) ∧ (i.op ≠ 6 → i.op ≠ 7 → i.b = 0 ∧ i.c = 0) ∧ (4 < i.op → i.ka = 0 ∧ i.kb = 0) ∧ (i.op ≠ 4 → i.la = 0 ∧ i.lb = 0) ∧
 (i.op = 6 ∨ i.op = 7 → (0 ≤ i.b ∧ i.b ≤ 3) ∧ (0 ≤ i.c ∧ i.c ≤ 3)) ∧ (i.op ≤ 4 → -1 ≤ i.ka ∧ i.ka < n ∧ 0 ≤ i.kb ∧ i.kb ≤ 900) ∧ (i.op = 4 → -1 ≤ i.la ∧ i.la < n ∧ 0 ≤ i.lb ∧ i.lb ≤ 900)
instance (i : Ins) (n : Int) : Decidable (InsOk i n) := by unfold InsOk; infer_instance
def insOk (i : Ins) (n : Int) : Bool := decide (InsOk i n)
theorem insOk_iff (i : Ins) (n : Int) : insOk i n = true ↔ InsOk i n := by simp [insOk]
def progOk (l : List Ins) (n : Int) : Bool := decide (0 ≤ n ∧ n ≤ 3) && (decide (1 ≤ l.length ∧ l.length ≤ 8) && l.all fun i => insOk i n)
def insSure (i : Ins) : Bool := decide (i.op ≠ 6 ∧ i.op ≠ 7 ∧ i.op ≠ 8)
def progSure (l : List Ins) : Bool := l.all insSure
def argsOk (l : List Int) : Bool := (l.all fun a => decide (0 ≤ a ∧ a ≤ 99)) && decide (l.length ≤ 3)
def keyOf (arg base : Int) (l : List Int) : Int := if arg < 0 then base else base + l.getD arg.toNat 0
theorem keyOf_range {arg base : Int} {l : List Int} (hk : keyOk arg base l.length = true) (ha : argsOk l = true) : 0 ≤ keyOf arg base l ∧ keyOf arg base l ≤ 999 := by
 rw [keyOk_iff] at hk
 unfold argsOk at ha
 rw [Bool.and_eq_true, List.all_eq_true] at ha
 unfold keyOf
 split
 ·omega
 ·next h =>
  have hl : arg.toNat < l.length := by omega
  have := ha.1 _ (List.getElem_mem hl)
  rw [decide_eq_true_eq] at this
  rw [List.getD, List.getElem?_eq_getElem hl]
  simp only [Option.getD_some]
  omega
end Go.Proofs.YtmeimhpllemjfaaGreat
/- Whether a list has an element that a function tells: slices.ContainsFunc, of numbers, of templates, of instructions. -/
namespace Go.Proofs.YtmeimhpllemjfaaGreat
open Go.RowKit

def Has (w : World) (b : Bool) (e : Ending) (w' : World) : Prop := e = .returned (.bool b) ∧ Fr No w w'
def ints (l : List Int) : List Value := l.map fun x => Value.int .i64 x
theorem ints_flat (l : List Int) : (l.flatMap fun n : Int => [Value.int .i64 n]) = ints l := by
 induction l with
 | nil => rfl
 | cons a r ih => simpa [ints] using ih
theorem any_step {α : Type} (p : α → Bool) (l : List α) (k : Nat) (hk : k < l.length) (h : (l.take k).any p = false) : (l.take (k + 1)).any p = p l[k] := by
 rw [List.take_succ_eq_append_getElem hk, List.any_append, h]
 simp
theorem any_found {α : Type} (p : α → Bool) (l : List α) (k : Nat) (hk : k < l.length) (h : p l[k] = true) : l.any p = true := by
 rw [List.any_eq_true]
 exact ⟨l[k], List.getElem_mem hk, h⟩
def At (w : World) (b : Bool) (e : Ending) (w' : World) : Prop := Fr No w w' ∧ ∃ r : Int, e = .returned (.int .i64 r) ∧ decide (0 ≤ r) = b
def kcell (k : Int × Int) : Value := .agg #[.int .i64 k.1, .int .i64 k.2]
def kflat (k : Int × Int) : List Value := [.int .i64 k.1, .int .i64 k.2]

theorem Sl.key9 {w : World} {B : Nat} {A : Option Addr} {l : List (Int × Int)} (h : Sl w B A (l.flatMap kflat)) {k : Nat} (hk : k < l.length) :
  ∃ ad, A = some ad ∧ ad.block < B ∧ w.cell? (ad.add (k * 2)) = some (.int .i64 l[k].1) ∧ w.cell? ⟨(ad.add (k * 2)).block, (ad.add (k * 2)).off + 1, none⟩ = some (.int .i64 l[k].2) := by
 obtain ⟨ad, e, hb, hc⟩ := h.row 2 (fun _ => rfl) hk (by omega)
 exact ⟨ad, e, hb, hc 0 _ rfl, hc 1 _ rfl⟩
theorem Sl.ins9 {w : World} {B : Nat} {A : Option Addr} {l : List Ins} (h : Sl w B A (l.flatMap Ins.cells)) {k : Nat} (hk : k < l.length) :
  ∃ ad, A = some ad ∧ ad.block < B ∧ w.cell? (ad.add (k * 9)) = some (.int .i64 l[k].op) ∧ w.cell? ⟨(ad.add (k * 9)).block, (ad.add (k * 9)).off + 1, none⟩ = some (.int .i64 l[k].a) ∧ w.cell? ⟨(ad.add (k * 9)).block, (ad.add (k * 9)).off + 2, none⟩ = some (.int .i64 l[k].b) ∧ w.cell? ⟨(ad.add (k * 9)).block, (ad.add (k * 9)).off + 3, none⟩ = some (.int .i64 l[k].c) ∧ w.cell? ⟨(ad.add (k * 9)).block, (ad.add (k * 9)).off + 4, none⟩ = some (.int .i64 l[k].ka) ∧ w.cell? ⟨(ad.add (k * 9)).block, (ad.add (k * 9)).off + 5, none⟩ = some (.int .i64 l[k].kb) ∧ w.cell? ⟨(ad.add (k * 9)).block, (ad.add (k * 9)).off + 6, none⟩ = some (.int .i64 l[k].la) ∧ w.cell? ⟨(ad.add (k * 9)).block, (ad.add (k * 9)).off + 7, none⟩ = some (.int .i64 l[k].lb) ∧ w.cell? ⟨(ad.add (k * 9)).block, (ad.add (k * 9)).off + 8, none⟩ = some (.int .i64 l[k].x) := by
 obtain ⟨ad, e, hb, hc⟩ := h.row 9 Ins.cells_len hk (by omega)
 exact ⟨ad, e, hb, hc 0 _ rfl, hc 1 _ rfl, hc 2 _ rfl, hc 3 _ rfl, hc 4 _ rfl, hc 5 _ rfl, hc 6 _ rfl, hc 7 _ rfl, hc 8 _ rfl⟩

set_option maxHeartbeats 1000000 in
theorem idxInt (l : List (Int)) (A : Option Addr) (n c : Nat) (q0 : Addr) (q1 : Addr) (p : Int → Bool) (w : World) (hsl : Sl w w.heap.size A (ints l)) (hn : l.length = n) (hnm : n ≤ 1099511627776)
  (hf : ∀ x ∈ l, ∀ W, Fr No w W → Calls Tryz.prog 161 #[.int .i64 x, .pointer (some q0), .pointer (some q1)] W (Has W (p x))) :
  Calls Tryz.prog 180 #[.slice A n c, .func (.func 161) #[] #[.pointer (some q0), .pointer (some q1)]] w (At w (l.any p)) := by
 have Hf := Lib.hid hf
 have Hn := Lib.hid hn
 have Hsl := Lib.hid hsl
 clear hf hn hsl
 go_enter Tryz.func180, Tryz.ntmps180
 go_wp2
 go_loopw [8] (fun i wr => ∃ k : Nat, k ≤ n ∧ i = .int .i64 k ∧ Hid ((l.take k).any p = false) ∧ Fr No w wr) (fun i _ => n - (intOf i).toNat)
 case atStart => exact ⟨0, Nat.zero_le _, rfl, Lib.hid (by simp), Fr.refl _ _⟩
 case round =>
  obtain ⟨k, hk, rfl, hpre, hfr⟩ := hrel
  by_cases hlt : k < n
  ·have hkl : k < l.length := by rw [Hn.out]; exact hlt
   obtain ⟨ad, rfl, hab, hc⟩ := (Hsl.out.since hfr).at (k := k) (by simpa [ints] using hkl)
   have hgx : (ints l)[k]'(by simpa [ints] using hkl) = .int .i64 l[k] := by simp [ints]
   rw [hgx] at hc
   have hx := Lib.hid (Hf.out l[k] (List.getElem_mem hkl) wr hfr)
   have Hst := Lib.hid (any_step p l k hkl hpre.out)
   have Hfd := Lib.hid (any_found p l k hkl)
   generalize l[k] = x at *
   by_cases hpx : p x = true
   ·rw [hpx] at hx Hst
    go_wp2_with fail
    refine (hx.out).mono ?_
    rintro e w1 ⟨rfl, hf1⟩
    go_wp2
    go_ret
    exact ⟨hfr.trans' hf1 (fun _ _ h => h), k, rfl, by rw [Hfd.out hpx]; simp⟩
   ·rw [Bool.not_eq_true] at hpx
    rw [hpx] at hx Hst
    go_wp2_with fail
    refine (hx.out).mono ?_
    rintro e w1 ⟨rfl, hf1⟩
    go_wp2
    go_roundw
    case rel => exact ⟨k + 1, by omega, by go_num, Lib.hid Hst.out, hfr.trans' hf1 (fun _ _ h => h)⟩
    case measure => simp [intOf]; omega
  ·obtain rfl : k = n := by omega
   go_wp2
   go_ret
   refine ⟨hfr, -1, rfl, ?_⟩
   have h1 := hpre.out
   rw [List.take_of_length_le (by rw [Hn.out]; exact Nat.le_refl _)] at h1
   rw [h1]
   rfl
set_option maxHeartbeats 1000000 in
theorem hasInt (l : List (Int)) (A : Option Addr) (n c : Nat) (q0 : Addr) (q1 : Addr) (p : Int → Bool) (w : World) (hsl : Sl w w.heap.size A (ints l)) (hn : l.length = n) (hnm : n ≤ 1099511627776)
  (hf : ∀ x ∈ l, ∀ W, Fr No w W → Calls Tryz.prog 161 #[.int .i64 x, .pointer (some q0), .pointer (some q1)] W (Has W (p x))) :
  Calls Tryz.prog 160 #[.slice A n c, .func (.func 161) #[] #[.pointer (some q0), .pointer (some q1)]] w (Has w (l.any p)) := by
 have Hc := Lib.hid (idxInt l A n c q0 q1 p w hsl hn hnm hf)
 generalize l.any p = b at *
 clear hf hn hsl
 go_enter Tryz.func160, Tryz.ntmps160
 go_wp2_with fail
 refine (Hc.out).mono ?_
 rintro e w1 ⟨hf1, r, rfl, hr⟩
 go_wp2
 go_ret
 exact ⟨by rw [← hr]; rfl, hf1⟩
set_option maxHeartbeats 1000000 in
theorem idxKey (l : List (Int × Int)) (A : Option Addr) (n c : Nat) (q0 : Addr) (p : Int × Int → Bool) (w : World) (hsl : Sl w w.heap.size A (l.flatMap kflat)) (hn : l.length = n) (hnm : n ≤ 1099511627776)
  (hf : ∀ x ∈ l, ∀ W, Fr No w W → Calls Tryz.prog 182 #[kcell x, .pointer (some q0)] W (Has W (p x))) :
  Calls Tryz.prog 191 #[.slice A n c, .func (.func 182) #[] #[.pointer (some q0)]] w (At w (l.any p)) := by
 have Hf := Lib.hid hf
 have Hn := Lib.hid hn
 have Hsl := Lib.hid hsl
 clear hf hn hsl
 go_enter Tryz.func191, Tryz.ntmps191
 go_wp2
 go_loopw [8] (fun i wr => ∃ k : Nat, k ≤ n ∧ i = .int .i64 k ∧ Hid ((l.take k).any p = false) ∧ Fr No w wr) (fun i _ => n - (intOf i).toNat)
 case atStart => exact ⟨0, Nat.zero_le _, rfl, Lib.hid (by simp), Fr.refl _ _⟩
 case round =>
  obtain ⟨k, hk, rfl, hpre, hfr⟩ := hrel
  by_cases hlt : k < n
  ·have hkl : k < l.length := by rw [Hn.out]; exact hlt
   obtain ⟨ad, rfl, hab, c0, c1⟩ := (Hsl.out.since hfr).key9 (k := k) hkl
   have hx := Lib.hid (Hf.out l[k] (List.getElem_mem hkl) wr hfr)
   have Hst := Lib.hid (any_step p l k hkl hpre.out)
   have Hfd := Lib.hid (any_found p l k hkl)
   generalize l[k] = x at *
   by_cases hpx : p x = true
   ·rw [hpx] at hx Hst
    obtain ⟨xa, xb⟩ := x
    simp only [kcell] at hx
    go_wp2_with fail
    refine (hx.out).mono ?_
    rintro e w1 ⟨rfl, hf1⟩
    go_wp2
    go_ret
    exact ⟨hfr.trans' hf1 (fun _ _ h => h), k, rfl, by rw [Hfd.out hpx]; simp⟩
   ·rw [Bool.not_eq_true] at hpx
    rw [hpx] at hx Hst
    obtain ⟨xa, xb⟩ := x
    simp only [kcell] at hx
    go_wp2_with fail
    refine (hx.out).mono ?_
    rintro e w1 ⟨rfl, hf1⟩
    go_wp2
    go_roundw
    case rel => exact ⟨k + 1, by omega, by go_num, Lib.hid Hst.out, hfr.trans' hf1 (fun _ _ h => h)⟩
    case measure => simp [intOf]; omega
  ·obtain rfl : k = n := by omega
   go_wp2
   go_ret
   refine ⟨hfr, -1, rfl, ?_⟩
   have h1 := hpre.out
   rw [List.take_of_length_le (by rw [Hn.out]; exact Nat.le_refl _)] at h1
   rw [h1]
   rfl
set_option maxHeartbeats 1000000 in
theorem hasKey (l : List (Int × Int)) (A : Option Addr) (n c : Nat) (q0 : Addr) (p : Int × Int → Bool) (w : World) (hsl : Sl w w.heap.size A (l.flatMap kflat)) (hn : l.length = n) (hnm : n ≤ 1099511627776)
  (hf : ∀ x ∈ l, ∀ W, Fr No w W → Calls Tryz.prog 182 #[kcell x, .pointer (some q0)] W (Has W (p x))) :
  Calls Tryz.prog 181 #[.slice A n c, .func (.func 182) #[] #[.pointer (some q0)]] w (Has w (l.any p)) := by
 have Hc := Lib.hid (idxKey l A n c q0 p w hsl hn hnm hf)
 generalize l.any p = b at *
 clear hf hn hsl
 go_enter Tryz.func181, Tryz.ntmps181
 go_wp2_with fail
 refine (Hc.out).mono ?_
 rintro e w1 ⟨hf1, r, rfl, hr⟩
 go_wp2
 go_ret
 exact ⟨by rw [← hr]; rfl, hf1⟩
set_option maxHeartbeats 1000000 in
theorem idxIns1 (l : List (Ins)) (A : Option Addr) (n c : Nat) (q0 : Addr) (p : Ins → Bool) (w : World) (hsl : Sl w w.heap.size A (l.flatMap Ins.cells)) (hn : l.length = n) (hnm : n ≤ 1099511627776)
  (hf : ∀ x ∈ l, ∀ W, Fr No w W → Calls Tryz.prog 141 #[x.agg, .pointer (some q0)] W (Has W (p x))) :
  Calls Tryz.prog 162 #[.slice A n c, .func (.func 141) #[] #[.pointer (some q0)]] w (At w (l.any p)) := by
 have Hf := Lib.hid hf
 have Hn := Lib.hid hn
 have Hsl := Lib.hid hsl
 clear hf hn hsl
 go_enter Tryz.func162, Tryz.ntmps162
 go_wp2
 go_loopw [8] (fun i wr => ∃ k : Nat, k ≤ n ∧ i = .int .i64 k ∧ Hid ((l.take k).any p = false) ∧ Fr No w wr) (fun i _ => n - (intOf i).toNat)
 case atStart => exact ⟨0, Nat.zero_le _, rfl, Lib.hid (by simp), Fr.refl _ _⟩
 case round =>
  obtain ⟨k, hk, rfl, hpre, hfr⟩ := hrel
  by_cases hlt : k < n
  ·have hkl : k < l.length := by rw [Hn.out]; exact hlt
   obtain ⟨ad, rfl, hab, c0, c1, c2, c3, c4, c5, c6, c7, c8⟩ := (Hsl.out.since hfr).ins9 (k := k) hkl
   have hx := Lib.hid (Hf.out l[k] (List.getElem_mem hkl) wr hfr)
   have Hst := Lib.hid (any_step p l k hkl hpre.out)
   have Hfd := Lib.hid (any_found p l k hkl)
   generalize l[k] = x at *
   by_cases hpx : p x = true
   ·rw [hpx] at hx Hst
    obtain ⟨xo, xa, xb, xc, xk, xl, xm, xn, xx⟩ := x
    simp only [Ins.agg] at hx
    go_wp2_with fail
    refine (hx.out).mono ?_
    rintro e w1 ⟨rfl, hf1⟩
    go_wp2
    go_ret
    exact ⟨hfr.trans' hf1 (fun _ _ h => h), k, rfl, by rw [Hfd.out hpx]; simp⟩
   ·rw [Bool.not_eq_true] at hpx
    rw [hpx] at hx Hst
    obtain ⟨xo, xa, xb, xc, xk, xl, xm, xn, xx⟩ := x
    simp only [Ins.agg] at hx
    go_wp2_with fail
    refine (hx.out).mono ?_
    rintro e w1 ⟨rfl, hf1⟩
    go_wp2
    go_roundw
    case rel => exact ⟨k + 1, by omega, by go_num, Lib.hid Hst.out, hfr.trans' hf1 (fun _ _ h => h)⟩
    case measure => simp [intOf]; omega
  ·obtain rfl : k = n := by omega
   go_wp2
   go_ret
   refine ⟨hfr, -1, rfl, ?_⟩
   have h1 := hpre.out
   rw [List.take_of_length_le (by rw [Hn.out]; exact Nat.le_refl _)] at h1
   rw [h1]
   rfl
set_option maxHeartbeats 1000000 in
theorem hasIns1 (l : List (Ins)) (A : Option Addr) (n c : Nat) (q0 : Addr) (p : Ins → Bool) (w : World) (hsl : Sl w w.heap.size A (l.flatMap Ins.cells)) (hn : l.length = n) (hnm : n ≤ 1099511627776)
  (hf : ∀ x ∈ l, ∀ W, Fr No w W → Calls Tryz.prog 141 #[x.agg, .pointer (some q0)] W (Has W (p x))) :
  Calls Tryz.prog 140 #[.slice A n c, .func (.func 141) #[] #[.pointer (some q0)]] w (Has w (l.any p)) := by
 have Hc := Lib.hid (idxIns1 l A n c q0 p w hsl hn hnm hf)
 generalize l.any p = b at *
 clear hf hn hsl
 go_enter Tryz.func140, Tryz.ntmps140
 go_wp2_with fail
 refine (Hc.out).mono ?_
 rintro e w1 ⟨hf1, r, rfl, hr⟩
 go_wp2
 go_ret
 exact ⟨by rw [← hr]; rfl, hf1⟩
set_option maxHeartbeats 1000000 in
theorem idxIns0 (l : List (Ins)) (A : Option Addr) (n c : Nat) (p : Ins → Bool) (w : World) (hsl : Sl w w.heap.size A (l.flatMap Ins.cells)) (hn : l.length = n) (hnm : n ≤ 1099511627776)
  (hf : ∀ x ∈ l, ∀ W, Fr No w W → Calls Tryz.prog 144 #[x.agg] W (Has W (p x))) :
  Calls Tryz.prog 162 #[.slice A n c, .func (.func 144) #[] #[]] w (At w (l.any p)) := by
 have Hf := Lib.hid hf
 have Hn := Lib.hid hn
 have Hsl := Lib.hid hsl
 clear hf hn hsl
 go_enter Tryz.func162, Tryz.ntmps162
 go_wp2
 go_loopw [8] (fun i wr => ∃ k : Nat, k ≤ n ∧ i = .int .i64 k ∧ Hid ((l.take k).any p = false) ∧ Fr No w wr) (fun i _ => n - (intOf i).toNat)
 case atStart => exact ⟨0, Nat.zero_le _, rfl, Lib.hid (by simp), Fr.refl _ _⟩
 case round =>
  obtain ⟨k, hk, rfl, hpre, hfr⟩ := hrel
  by_cases hlt : k < n
  ·have hkl : k < l.length := by rw [Hn.out]; exact hlt
   obtain ⟨ad, rfl, hab, c0, c1, c2, c3, c4, c5, c6, c7, c8⟩ := (Hsl.out.since hfr).ins9 (k := k) hkl
   have hx := Lib.hid (Hf.out l[k] (List.getElem_mem hkl) wr hfr)
   have Hst := Lib.hid (any_step p l k hkl hpre.out)
   have Hfd := Lib.hid (any_found p l k hkl)
   generalize l[k] = x at *
   by_cases hpx : p x = true
   ·rw [hpx] at hx Hst
    obtain ⟨xo, xa, xb, xc, xk, xl, xm, xn, xx⟩ := x
    simp only [Ins.agg] at hx
    go_wp2_with fail
    refine (hx.out).mono ?_
    rintro e w1 ⟨rfl, hf1⟩
    go_wp2
    go_ret
    exact ⟨hfr.trans' hf1 (fun _ _ h => h), k, rfl, by rw [Hfd.out hpx]; simp⟩
   ·rw [Bool.not_eq_true] at hpx
    rw [hpx] at hx Hst
    obtain ⟨xo, xa, xb, xc, xk, xl, xm, xn, xx⟩ := x
    simp only [Ins.agg] at hx
    go_wp2_with fail
    refine (hx.out).mono ?_
    rintro e w1 ⟨rfl, hf1⟩
    go_wp2
    go_roundw
    case rel => exact ⟨k + 1, by omega, by go_num, Lib.hid Hst.out, hfr.trans' hf1 (fun _ _ h => h)⟩
    case measure => simp [intOf]; omega
  ·obtain rfl : k = n := by omega
   go_wp2
   go_ret
   refine ⟨hfr, -1, rfl, ?_⟩
   have h1 := hpre.out
   rw [List.take_of_length_le (by rw [Hn.out]; exact Nat.le_refl _)] at h1
   rw [h1]
   rfl
set_option maxHeartbeats 1000000 in
theorem hasIns0 (l : List (Ins)) (A : Option Addr) (n c : Nat) (p : Ins → Bool) (w : World) (hsl : Sl w w.heap.size A (l.flatMap Ins.cells)) (hn : l.length = n) (hnm : n ≤ 1099511627776)
  (hf : ∀ x ∈ l, ∀ W, Fr No w W → Calls Tryz.prog 144 #[x.agg] W (Has W (p x))) :
  Calls Tryz.prog 140 #[.slice A n c, .func (.func 144) #[] #[]] w (Has w (l.any p)) := by
 have Hc := Lib.hid (idxIns0 l A n c p w hsl hn hnm hf)
 generalize l.any p = b at *
 clear hf hn hsl
 go_enter Tryz.func140, Tryz.ntmps140
 go_wp2_with fail
 refine (Hc.out).mono ?_
 rintro e w1 ⟨hf1, r, rfl, hr⟩
 go_wp2
 go_ret
 exact ⟨by rw [← hr]; rfl, hf1⟩
end Go.Proofs.YtmeimhpllemjfaaGreat
/- When two templates, and two instructions, are the same. -/
namespace Go.Proofs.YtmeimhpllemjfaaGreat
open Go.RowKit

theorem eqKey9 (a b c d : Int) (w : World) : (Op.equalIn 10000 40 (.agg #[.int .i64 a, .int .i64 b]) (.agg #[.int .i64 c, .int .i64 d])).run Tryz.prog w = .ok (a == c && b == d) w := by
 have u3 := Tryz.underlying3
 have i3 : ∀ w, (isAgg 3).run Tryz.prog w = .ok false w := fun w => by simp [isAgg, run_underlying Tryz.underlying3]
 have hs : Tryz.prog.underlying 40 = some (.struct (Tryz.prog.fieldsOf 40)) := by kernel_rfl
 rw [run_equalIn_agg w 9999 40 _ _ hs (by kernel_rfl)]
 simp only [Program.fieldsOf, Tryz.underlying40]
 go_simp
 by_cases h1 : a = c <;> by_cases h2 : b = d <;> simp [h1, h2]
theorem eqIns9 (a0 a1 a2 a3 a4 a5 a6 a7 a8 b0 b1 b2 b3 b4 b5 b6 b7 b8 : Int) (w : World) :
  (Op.equalIn 10000 42 (.agg #[.int .i64 a0, .int .i64 a1, .int .i64 a2, .int .i64 a3, .int .i64 a4, .int .i64 a5, .int .i64 a6, .int .i64 a7, .int .i64 a8]) (.agg #[.int .i64 b0, .int .i64 b1, .int .i64 b2, .int .i64 b3, .int .i64 b4, .int .i64 b5, .int .i64 b6, .int .i64 b7, .int .i64 b8])).run Tryz.prog w =
   .ok (a0 == b0 && (a1 == b1 && (a2 == b2 && (a3 == b3 && ((a4 == b4 && a5 == b5) && ((a6 == b6 && a7 == b7) && a8 == b8)))))) w := by
 have u3 := Tryz.underlying3
 have i3 : ∀ w, (isAgg 3).run Tryz.prog w = .ok false w := fun w => by simp [isAgg, run_underlying Tryz.underlying3]
 have u4 := Tryz.underlying2
 have i4 : ∀ w, (isAgg 2).run Tryz.prog w = .ok false w := fun w => by simp [isAgg, run_underlying Tryz.underlying2]
 have hs : Tryz.prog.underlying 42 = some (.struct (Tryz.prog.fieldsOf 42)) := by kernel_rfl
 rw [run_equalIn_agg w 9999 42 _ _ hs (by kernel_rfl)]
 simp only [Program.fieldsOf, Tryz.underlying42]
 go_simp
 by_cases h0 : a0 = b0
 case neg => simp [h0]
 by_cases h1 : a1 = b1
 case neg => simp [h0, h1]
 by_cases h2 : a2 = b2
 case neg => simp [h0, h1, h2]
 by_cases h3 : a3 = b3
 case neg => simp [h0, h1, h2, h3]
 by_cases h4 : a4 = b4
 case neg => simp [h0, h1, h2, h3, h4]
 by_cases h5 : a5 = b5
 case neg => simp [h0, h1, h2, h3, h4, h5]
 by_cases h6 : a6 = b6
 case neg => simp [h0, h1, h2, h3, h4, h5, h6]
 by_cases h7 : a7 = b7
 case neg => simp [h0, h1, h2, h3, h4, h5, h6, h7]
 by_cases h8 : a8 = b8
 case neg => simp [h0, h1, h2, h3, h4, h5, h6, h7, h8]
 simp [h0, h1, h2, h3, h4, h5, h6, h7, h8]
end Go.Proofs.YtmeimhpllemjfaaGreat
