/- Units, purely: where a class is cut; which histories may be; the unit of a node; which nodes conflict. -/
import Derived.Test.YtmeimhpllemjfaaGreatCtp12
import Derived.Test.YtmeimhpllemjfaaGreatMay4
namespace Go.Proofs.YtmeimhpllemjfaaGreat
open Go.RowKit

def loP (p : Nat → Bool) : Nat → Nat
 | 0 => 0
 | i + 1 => if p i = true then i + 1 else loP p i
def runP (p : Nat → Bool) : Nat → Nat → Nat
 | 0, _ => 0
 | f + 1, i => if p i = true then 0 else runP p f (i + 1) + 1
def hiP (p : Nat → Bool) (n i : Nat) : Nat := i + runP p (n - 1 - i) i
theorem loP_le (p : Nat → Bool) (i : Nat) : loP p i ≤ i := by
 induction i with
 | zero => exact Nat.le_refl _
 | succ i ih => unfold loP; split <;> omega
theorem runP_le (p : Nat → Bool) : ∀ f i, runP p f i ≤ f
 | 0, _ => Nat.le_refl _
 | f + 1, i => by have := runP_le p f (i + 1); unfold runP; split <;> omega
theorem hiP_ge (p : Nat → Bool) (n i : Nat) : i ≤ hiP p n i := Nat.le_add_right _ _
theorem hiP_lt (p : Nat → Bool) {n i : Nat} (h : i < n) : hiP p n i < n := by
 have := runP_le p (n - 1 - i) i
 unfold hiP
 omega
theorem loP_none (p : Nat → Bool) : ∀ i k, loP p i ≤ k → k < i → p k = false
 | 0, k, _, h => by omega
 | i + 1, k, h1, h2 => by
  unfold loP at h1
  split at h1
  ·omega
  ·next h =>
   by_cases e : k = i
   ·subst e; simpa using h
   ·exact loP_none p i k h1 (by omega)
theorem loP_brk (p : Nat → Bool) : ∀ i, loP p i = 0 ∨ p (loP p i - 1) = true
 | 0 => .inl rfl
 | i + 1 => by
  unfold loP
  split
  ·next h => exact .inr h
  ·exact loP_brk p i
theorem runP_none (p : Nat → Bool) : ∀ f i k, i ≤ k → k < i + runP p f i → p k = false
 | 0, i, k, h1, h2 => by unfold runP at h2; omega
 | f + 1, i, k, h1, h2 => by
  unfold runP at h2
  split at h2
  ·omega
  ·next h =>
   by_cases e : k = i
   ·subst e; simpa using h
   ·exact runP_none p f (i + 1) k (by omega) (by omega)
theorem runP_brk (p : Nat → Bool) : ∀ f i, runP p f i = f ∨ p (i + runP p f i) = true
 | 0, _ => .inl rfl
 | f + 1, i => by
  unfold runP
  split
  ·next h => exact .inr h
  ·rcases runP_brk p f (i + 1) with h | h
   ·exact .inl (by omega)
   ·exact .inr (by rw [show i + (runP p f (i + 1) + 1) = i + 1 + runP p f (i + 1) by omega]; exact h)
theorem cntB_step {p : Nat → Bool} {i k : Nat} (hik : i ≤ k) (h : ∀ j, i ≤ j → j < k → p j = false) : cntB p k = cntB p i := by
 induction k with
 | zero => cases (show i = 0 by omega); rfl
 | succ k ih =>
  by_cases e : i = k + 1
  ·rw [e]
  ·rw [cntB, ih (by omega) (fun j h1 h2 => h j h1 (by omega)), h k (by omega) (by omega)]
   rfl
theorem cntB_more {p : Nat → Bool} {i j k : Nat} (h1 : i ≤ j) (h2 : j < k) (hp : p j = true) : cntB p i < cntB p k := by
 have m : ∀ a b, a ≤ b → cntB p a ≤ cntB p b := by
  intro a b hab
  induction b with
  | zero => cases (show a = 0 by omega); exact Nat.le_refl _
  | succ b ih =>
   by_cases e : a = b + 1
   ·rw [e]; exact Nat.le_refl _
   ·have := ih (by omega)
    rw [cntB]
    omega
 have h3 := m i j h1
 have h4 := m (j + 1) k (by omega)
 rw [cntB, if_pos hp] at h4
 omega
theorem unit_iff {p : Nat → Bool} {n i k : Nat} (hi : i < n) (hk : k < n) : cntB p k = cntB p i ↔ loP p i ≤ k ∧ k ≤ hiP p n i := by
 have l1 := loP_le p i
 have h1 := hiP_ge p n i
 constructor
 ·intro e
  constructor
  ·refine Decidable.byContradiction fun hn => ?_
   rcases loP_brk p i with h0 | h0
   ·omega
   ·have := cntB_more (p := p) (i := k) (j := loP p i - 1) (k := i) (by omega) (by omega) h0
    omega
  ·refine Decidable.byContradiction fun hn => ?_
   rcases runP_brk p (n - 1 - i) i with h0 | h0
   ·unfold hiP at hn; omega
   ·have hh : i + runP p (n - 1 - i) i = hiP p n i := rfl
    rw [hh] at h0
    have := cntB_more (p := p) (i := i) (j := hiP p n i) (k := k) h1 (by omega) h0
    omega
 ·rintro ⟨a, b⟩
  rcases Nat.le_total k i with hki | hki
  ·exact (cntB_step hki (fun j h2 h3 => loP_none p i j (by omega) h3)).symm
  ·exact cntB_step hki (fun j h2 h3 => runP_none p (n - 1 - i) i j h2 (by unfold hiP at b; omega))
def PCt.bks (x : PCt) (c d : Int) (k : Nat) : Bool := x.brk c d k
def PCt.has (x : PCt) (c : Int) : Bool := decide (0 ≤ c ∧ c < x.cs.length)
def PCt.steps (x : PCt) (c : Int) : Nat := (x.at c.toNat).steps.length
def PCt.isU (x : PCt) (c d i : Int) : Bool := x.has c && (x.has d && decide (0 ≤ i ∧ i < x.steps c))
def PCt.uLo (x : PCt) (c d i : Int) : Int := if x.isU c d i = true then (loP (x.bks c d) i.toNat : Nat) else 0
def PCt.uHi (x : PCt) (c d i : Int) : Int := if x.isU c d i = true then (hiP (x.bks c d) (x.steps c) i.toNat : Nat) else 0
structure Nd where
 saga : Int
 cls : Int
 step : Int
 back : Bool
 rd : List Span
 wt : List Span
def Nd.nil : Nd := ⟨0, 0, 0, false, [], []⟩
def ndAt (h : List Nd) (i : Nat) : Nd := h.getD i Nd.nil
def lastN (h : List Nd) (s : Int) : Nat → Nat
 | 0 => 0
 | i + 1 => if (ndAt h i).saga = s then i + 1 else lastN h s i
theorem lastN_le (h : List Nd) (s : Int) (i : Nat) : lastN h s i ≤ i := by
 induction i with
 | zero => exact Nat.le_refl _
 | succ i ih => unfold lastN; split <;> omega
def spsOk (l : List Span) : Bool := (l.all fun p => decide (0 ≤ p.1 ∧ p.1 ≤ p.2 ∧ p.2 ≤ 999)) && decide (l.length ≤ 40)
def nextOk (m n : Nd) : Bool := decide (n.cls = m.cls) && (decide (n.step = if n.back = true then (if m.back = true then m.step - 1 else m.step) else m.step + 1) && !(m.back && !n.back))
def selfOk (x : PCt) (n : Nd) : Bool := decide (0 ≤ n.saga) && (x.has n.cls && (spsOk n.rd && (spsOk n.wt && decide (0 ≤ n.step ∧ n.step < x.steps n.cls))))
def ndOk (x : PCt) (h : List Nd) (i : Nat) : Bool := selfOk x (ndAt h i) && (if lastN h (ndAt h i).saga i = 0 then !(ndAt h i).back && decide ((ndAt h i).step = 0) else nextOk (ndAt h (lastN h (ndAt h i).saga i - 1)) (ndAt h i))
def mayH (x : PCt) (h : List Nd) : Bool := x.ok && (decide (h.length ≤ 100) && (List.range h.length).all (ndOk x h))
def inU (x : PCt) (a b : Nd) (d : Int) : Bool := decide (a.saga = b.saga) && (!a.back && (!b.back && decide (cntB (x.bks a.cls d) a.step.toNat = cntB (x.bks a.cls d) b.step.toNat)))
def inN (x : PCt) (h : List Nd) (i k : Nat) (d : Int) : Bool := decide (i = k) || inU x (ndAt h i) (ndAt h k) d
def confN (a b : Nd) : Bool := decide (a.saga ≠ b.saga) && (meets (keysOf a.wt) (keysOf b.rd) || (meets (keysOf a.wt) (keysOf b.wt) || meets (keysOf a.rd) (keysOf b.wt)))
structure Ndl where
 n : Nd
 rA : Option Addr
 rc : Nat
 wA : Option Addr
 wc : Nat
def Ndl.cells (x : Ndl) : List Value := [.int .i64 x.n.saga, .int .i64 x.n.cls, .int .i64 x.n.step, .bool x.n.back, .slice x.rA x.n.rd.length x.rc, .slice x.wA x.n.wt.length x.wc]
theorem Ndl.cells_len (x : Ndl) : x.cells.length = 6 := rfl
def Ndl.arr (x : Ndl) : Array Value := #[.int .i64 x.n.saga, .int .i64 x.n.cls, .int .i64 x.n.step, .bool x.n.back, .slice x.rA x.n.rd.length x.rc, .slice x.wA x.n.wt.length x.wc]
def Ndl.agg (x : Ndl) : Value := .agg x.arr
structure Ndl.Ok (w : World) (x : Ndl) : Prop where
 rd : Sl w w.heap.size x.rA (sps x.n.rd)
 wt : Sl w w.heap.size x.wA (sps x.n.wt)
theorem Ndl.Ok.since {w W : World} {x : Ndl} (h : x.Ok w) (hf : Fr No w W) : x.Ok W := ⟨h.rd.since hf, h.wt.since hf⟩
structure Ndl.I (x : Ndl) : Prop where
 saga : I64 x.n.saga
 cls : I64 x.n.cls
 step : I64 x.n.step
structure Ndl.Full (w : World) (x : Ndl) : Prop where
 ok : x.Ok w
 fit : x.I
 rc : x.n.rd.length ≤ x.rc ∧ x.rc ≤ maxLen
 wc : x.n.wt.length ≤ x.wc ∧ x.wc ≤ maxLen
structure Nds (w : World) (A : Option Addr) (l : List Ndl) : Prop where
 sl : Sl w w.heap.size A (l.flatMap Ndl.cells)
 all : ∀ x ∈ l, x.Ok w
theorem Nds.since {w W : World} {A : Option Addr} {l : List Ndl} (h : Nds w A l) (hf : Fr No w W) : Nds W A l := ⟨h.sl.since hf, fun x hx => (h.all x hx).since hf⟩
theorem Sl.nd {w : World} {B : Nat} {A : Option Addr} {l : List Ndl} (h : Sl w B A (l.flatMap Ndl.cells)) {k : Nat} (hk : k < l.length) :
  ∃ ad, A = some ad ∧ ad.block < B ∧ w.cell? (ad.add (k * 6)) = some (.int .i64 l[k].n.saga) ∧ w.cell? ⟨(ad.add (k * 6)).block, (ad.add (k * 6)).off + 1, none⟩ = some (.int .i64 l[k].n.cls) ∧
   w.cell? ⟨(ad.add (k * 6)).block, (ad.add (k * 6)).off + 2, none⟩ = some (.int .i64 l[k].n.step) ∧ w.cell? ⟨(ad.add (k * 6)).block, (ad.add (k * 6)).off + 3, none⟩ = some (.bool l[k].n.back) ∧
   w.cell? ⟨(ad.add (k * 6)).block, (ad.add (k * 6)).off + 4, none⟩ = some (.slice l[k].rA l[k].n.rd.length l[k].rc) ∧ w.cell? ⟨(ad.add (k * 6)).block, (ad.add (k * 6)).off + 5, none⟩ = some (.slice l[k].wA l[k].n.wt.length l[k].wc) := by
 obtain ⟨ad, e, hb, hc⟩ := h.row 6 Ndl.cells_len hk (by omega)
 exact ⟨ad, e, hb, hc 0 _ rfl, hc 1 _ rfl, hc 2 _ rfl, hc 3 _ rfl, hc 4 _ rfl, hc 5 _ rfl⟩
def ndsOf (l : List Ndl) : List Nd := l.map Ndl.n
theorem ndsOf_at {l : List Ndl} {k : Nat} (hk : k < l.length) : ndAt (ndsOf l) k = l[k].n := by
 unfold ndAt ndsOf
 simp [List.getD, List.getElem?_eq_getElem hk]
end Go.Proofs.YtmeimhpllemjfaaGreat
/- Units, purely: the first and the last place of what a test tells; what a history that may be has of one saga; where a unit ends. -/
namespace Go.Proofs.YtmeimhpllemjfaaGreat
open Go.RowKit

def firstP (p : Nat → Bool) : Nat → Int
 | 0 => -1
 | n + 1 => if 0 ≤ firstP p n then firstP p n else if p n = true then (n : Int) else -1
def lastP (p : Nat → Bool) : Nat → Int
 | 0 => -1
 | n + 1 => if p n = true then (n : Int) else lastP p n
theorem firstP_none {p : Nat → Bool} {n : Nat} (h : ∀ k, k < n → p k = false) : firstP p n = -1 := by
 induction n with
 | zero => rfl
 | succ n ih =>
  unfold firstP
  rw [ih (fun k hk => h k (by omega)), if_neg (by omega), h n (by omega)]
  rfl
theorem firstP_at {p : Nat → Bool} {n k : Nat} (hk : k < n) (hp : p k = true) (h : ∀ j, j < k → p j = false) : firstP p n = (k : Int) := by
 induction n with
 | zero => omega
 | succ n ih =>
  unfold firstP
  by_cases e : k = n
  ·subst e
   rw [firstP_none h, if_neg (by omega), if_pos hp]
  ·rw [ih (by omega), if_pos (by omega)]
theorem lastP_none {p : Nat → Bool} {n : Nat} (h : ∀ k, k < n → p k = false) : lastP p n = -1 := by
 induction n with
 | zero => rfl
 | succ n ih =>
  unfold lastP
  rw [h n (by omega), ih (fun k hk => h k (by omega))]
  rfl
theorem lastP_at {p : Nat → Bool} {n k : Nat} (hk : k < n) (hp : p k = true) (h : ∀ j, k < j → j < n → p j = false) : lastP p n = (k : Int) := by
 induction n with
 | zero => omega
 | succ n ih =>
  unfold lastP
  by_cases e : k = n
  ·subst e
   rw [if_pos hp]
  ·rw [h n (by omega) (by omega), ih (by omega) (fun j h1 h2 => h j h1 (by omega))]
   rfl
theorem lastP_lt (p : Nat → Bool) (n : Nat) : -1 ≤ lastP p n ∧ lastP p n < n := by
 induction n with
 | zero => unfold lastP; omega
 | succ n ih => unfold lastP; split <;> omega
theorem firstP_lt (p : Nat → Bool) (n : Nat) : -1 ≤ firstP p n ∧ firstP p n < n := by
 induction n with
 | zero => unfold firstP; omega
 | succ n ih => unfold firstP; split <;> (try split) <;> omega
def sagaB (s : Int) (m : Nd) : Bool := decide (m.saga = s)
theorem lastN_P (h : List Nd) (s : Int) (i : Nat) : lastP (fun k => sagaB s (ndAt h k)) i = (lastN h s i : Int) - 1 := by
 induction i with
 | zero => rfl
 | succ i ih =>
  unfold lastP lastN sagaB
  by_cases e : (ndAt h i).saga = s
  ·rw [if_pos e]
   simp only [e, decide_true, if_true]
   omega
  ·rw [if_neg e, ← ih]
   simp [e, sagaB]
theorem lastN_saga (h : List Nd) (s : Int) : ∀ i, lastN h s i ≠ 0 → (ndAt h (lastN h s i - 1)).saga = s
 | 0, e => absurd rfl e
 | i + 1, e => by
  unfold lastN at e ⊢
  split
  ·next q => simpa using q
  ·next q => rw [if_neg q] at e; exact lastN_saga h s i e
theorem lastN_ge (h : List Nd) (s : Int) {k : Nat} : ∀ i, k < i → (ndAt h k).saga = s → k + 1 ≤ lastN h s i
 | 0, e, _ => by omega
 | i + 1, e, q => by
  unfold lastN
  by_cases e2 : (ndAt h i).saga = s
  ·rw [if_pos e2]; omega
  ·rw [if_neg e2]
   by_cases e3 : k = i
   ·subst e3; exact absurd q e2
   ·exact lastN_ge h s i (by omega) q
theorem mayH_at {x : PCt} {h : List Nd} (hm : mayH x h = true) {i : Nat} (hi : i < h.length) : ndOk x h i = true := by
 unfold mayH at hm
 simp only [Bool.and_eq_true] at hm
 exact range_all_at hm.2.2 hi
theorem mayH_len {x : PCt} {h : List Nd} (hm : mayH x h = true) : h.length ≤ 100 := by
 unfold mayH at hm
 simp only [Bool.and_eq_true, decide_eq_true_eq] at hm
 exact hm.2.1
theorem mayH_cat {x : PCt} {h : List Nd} (hm : mayH x h = true) : x.ok = true := by
 unfold mayH at hm
 simp only [Bool.and_eq_true] at hm
 exact hm.1
theorem ndOk_self {x : PCt} {h : List Nd} {i : Nat} (hm : ndOk x h i = true) : selfOk x (ndAt h i) = true := by
 unfold ndOk at hm
 simp only [Bool.and_eq_true] at hm
 exact hm.1
theorem selfOk_parts {x : PCt} {n : Nd} (h : selfOk x n = true) : 0 ≤ n.saga ∧ x.has n.cls = true ∧ spsOk n.rd = true ∧ spsOk n.wt = true ∧ 0 ≤ n.step ∧ n.step < x.steps n.cls := by
 unfold selfOk at h
 simp only [Bool.and_eq_true, decide_eq_true_eq] at h
 exact ⟨h.1, h.2.1, h.2.2.1, h.2.2.2.1, h.2.2.2.2.1, h.2.2.2.2.2⟩
theorem ndOk_next {x : PCt} {h : List Nd} {i k : Nat} (hm : ndOk x h k = true) (hik : i < k) (hs : (ndAt h i).saga = (ndAt h k).saga) :
  ∃ m, i ≤ m ∧ m < k ∧ (ndAt h m).saga = (ndAt h k).saga ∧ nextOk (ndAt h m) (ndAt h k) = true := by
 have h1 := lastN_ge h (ndAt h k).saga k hik hs
 have h2 := lastN_le h (ndAt h k).saga k
 have h3 := lastN_saga h (ndAt h k).saga k (by omega)
 unfold ndOk at hm
 simp only [Bool.and_eq_true] at hm
 have h4 := hm.2
 rw [if_neg (by omega)] at h4
 exact ⟨lastN h (ndAt h k).saga k - 1, by omega, by omega, h3, h4⟩
theorem saga_order {x : PCt} {h : List Nd} (hm : mayH x h = true) : ∀ k, k < h.length → ∀ i, i < k → (ndAt h i).saga = (ndAt h k).saga →
  (ndAt h i).cls = (ndAt h k).cls ∧ ((ndAt h i).back = true → (ndAt h k).back = true ∧ (ndAt h k).step < (ndAt h i).step) := by
 intro k
 induction k using Nat.strongRecOn with
 | _ k ih =>
  intro hk i hik hs
  obtain ⟨m, h1, h2, h3, h4⟩ := ndOk_next (mayH_at hm hk) hik hs
  unfold nextOk at h4
  simp only [Bool.and_eq_true, decide_eq_true_eq] at h4
  obtain ⟨c1, c2, c3⟩ := h4
  have hmk : (ndAt h m).back = true → (ndAt h k).back = true ∧ (ndAt h k).step < (ndAt h m).step := fun hb => by
   rw [hb] at c3 c2
   cases e : (ndAt h k).back
   ·rw [e] at c3; cases c3
   ·rw [e] at c2
    simp only [if_true] at c2
    exact ⟨rfl, by omega⟩
  by_cases e : i = m
  ·subst e
   exact ⟨c1.symm, hmk⟩
  ·obtain ⟨d1, d2⟩ := ih m h2 (by omega) i (by omega) (hs.trans h3.symm)
   refine ⟨d1.trans c1.symm, fun hb => ?_⟩
   obtain ⟨e1, e2⟩ := d2 hb
   obtain ⟨e3, e4⟩ := hmk e1
   exact ⟨e3, by omega⟩
theorem saga_class {x : PCt} {h : List Nd} (hm : mayH x h = true) {i k : Nat} (hi : i < h.length) (hk : k < h.length) (hs : (ndAt h i).saga = (ndAt h k).saga) : (ndAt h i).cls = (ndAt h k).cls := by
 rcases Nat.lt_trichotomy i k with e | e | e
 ·exact (saga_order hm k hk i e hs).1
 ·rw [e]
 ·exact (saga_order hm i hi k e hs.symm).1.symm
theorem back_one {x : PCt} {h : List Nd} (hm : mayH x h = true) {i k : Nat} (hi : i < h.length) (hk : k < h.length) (hs : (ndAt h i).saga = (ndAt h k).saga) (hbi : (ndAt h i).back = true) (hbk : (ndAt h k).back = true) (hst : (ndAt h i).step = (ndAt h k).step) : i = k := by
 rcases Nat.lt_trichotomy i k with e | e | e
 ·have := ((saga_order hm k hk i e hs).2 hbi).2
  omega
 ·exact e
 ·have := ((saga_order hm i hi k e hs.symm).2 hbk).2
  omega
def uniB (a : Nd) (lo hi : Int) (b : Nd) : Bool := decide (b.saga = a.saga) && ((b.back == a.back) && (decide (lo ≤ b.step) && decide (b.step ≤ hi)))
def PCt.nLo (x : PCt) (a : Nd) (d : Int) : Int := if a.back = true then a.step else (loP (x.bks a.cls d) a.step.toNat : Nat)
def PCt.nHi (x : PCt) (a : Nd) (d : Int) : Int := if a.back = true then a.step else (hiP (x.bks a.cls d) (x.steps a.cls) a.step.toNat : Nat)
theorem uni_in {x : PCt} {h : List Nd} (hm : mayH x h = true) {i k : Nat} (d : Int) (hi : i < h.length) (hk : k < h.length) : uniB (ndAt h i) (x.nLo (ndAt h i) d) (x.nHi (ndAt h i) d) (ndAt h k) = inN x h i k d := by
 obtain ⟨-, -, -, -, hi0, hi1⟩ := selfOk_parts (ndOk_self (mayH_at hm hi))
 obtain ⟨-, -, -, -, hk0, hk1⟩ := selfOk_parts (ndOk_self (mayH_at hm hk))
 have hcl := saga_class hm hi hk
 have hbo := back_one hm hi hk
 have hself : i = k → ndAt h i = ndAt h k := fun e => by rw [e]
 unfold inN inU uniB PCt.nLo PCt.nHi
 generalize ndAt h i = a at *
 generalize ndAt h k = b at *
 by_cases hs : a.saga = b.saga
 ·have hc := hcl hs
  rw [decide_eq_true hs, decide_eq_true hs.symm]
  simp only [Bool.true_and]
  cases ha : a.back
  ·cases hb : b.back
   ·simp only [Bool.false_eq_true, if_false, Bool.not_false, Bool.true_and, beq_self_eq_true]
    have hu := unit_iff (p := x.bks a.cls d) (n := x.steps a.cls) (i := a.step.toNat) (k := b.step.toNat) (by omega) (by rw [hc]; omega)
    by_cases e : cntB (x.bks a.cls d) b.step.toNat = cntB (x.bks a.cls d) a.step.toNat
    ·have := hu.1 e
     rw [decide_eq_true (show (loP (x.bks a.cls d) a.step.toNat : Int) ≤ b.step by omega), decide_eq_true (show b.step ≤ (hiP (x.bks a.cls d) (x.steps a.cls) a.step.toNat : Int) by omega), decide_eq_true e.symm]
     simp
    ·have hne : ¬ (i = k) := fun q => e (by rw [hself q])
     have hno : ¬ ((loP (x.bks a.cls d) a.step.toNat : Int) ≤ b.step ∧ b.step ≤ (hiP (x.bks a.cls d) (x.steps a.cls) a.step.toNat : Int)) := fun q => e (hu.2 (by omega))
     rw [decide_eq_false hne, decide_eq_false (show ¬ (cntB (x.bks a.cls d) a.step.toNat = cntB (x.bks a.cls d) b.step.toNat) from fun q => e q.symm)]
     simp only [Bool.false_or]
     rw [← Bool.decide_and]
     exact decide_eq_false hno
   ·have hne : ¬ (i = k) := fun q => by have := hself q; rw [this, hb] at ha; cases ha
    simp [hne]
  ·cases hb : b.back
   ·have hne : ¬ (i = k) := fun q => by have := hself q; rw [this, hb] at ha; cases ha
    simp [hne]
   ·simp only [if_true, Bool.not_true, Bool.false_and, Bool.or_false, beq_self_eq_true, Bool.true_and]
    by_cases e : i = k
    ·rw [← hself e, decide_eq_true e]
     simp
    ·have hst : ¬ (a.step = b.step) := fun q => e (hbo hs ha hb q)
     rw [decide_eq_false e, ← Bool.decide_and]
     exact decide_eq_false (by omega)
 ·have hne : ¬ (i = k) := fun q => hs (by rw [hself q])
  rw [decide_eq_false hs, decide_eq_false (show ¬ (b.saga = a.saga) from fun q => hs q.symm), decide_eq_false hne]
  rfl
theorem isU_parts {x : PCt} {c d i : Int} (h : x.isU c d i = true) : x.has c = true ∧ x.has d = true ∧ 0 ≤ i ∧ i < x.steps c := by
 unfold PCt.isU at h
 simp only [Bool.and_eq_true, decide_eq_true_eq] at h
 exact ⟨h.1, h.2.1, h.2.2.1, h.2.2.2⟩
theorem lo_is {p : Nat → Bool} {i lo : Nat} (h1 : lo ≤ i) (h2 : ∀ k, lo ≤ k → k < i → p k = false) (h3 : lo = 0 ∨ p (lo - 1) = true) : loP p i = lo := by
 have l1 := loP_le p i
 refine Nat.le_antisymm ?_ ?_
 ·refine Decidable.byContradiction fun hn => ?_
  rcases loP_brk p i with h | h
  ·omega
  ·rw [h2 _ (by omega) (by omega)] at h
   cases h
 ·refine Decidable.byContradiction fun hn => ?_
  rcases h3 with h | h
  ·omega
  ·rw [loP_none p i (lo - 1) (by omega) (by omega)] at h
   cases h
theorem hi_is {p : Nat → Bool} {n i hi : Nat} (h0 : hi < n) (h1 : i ≤ hi) (h2 : ∀ k, i ≤ k → k < hi → p k = false) (h3 : hi + 1 = n ∨ p hi = true) : hiP p n i = hi := by
 have g1 := hiP_ge p n i
 have g2 := hiP_lt p (n := n) (i := i) (by omega)
 refine Nat.le_antisymm ?_ ?_
 ·refine Decidable.byContradiction fun hn => ?_
  rcases h3 with h | h
  ·omega
  ·have := runP_none p (n - 1 - i) i hi h1 (by unfold hiP at hn; omega)
   rw [this] at h
   cases h
 ·refine Decidable.byContradiction fun hn => ?_
  rcases runP_brk p (n - 1 - i) i with h | h
  ·unfold hiP at hn g2; omega
  ·have hh : i + runP p (n - 1 - i) i = hiP p n i := rfl
   rw [hh, h2 _ g1 (by omega)] at h
   cases h
theorem meets_sym (s t : Nat → Bool) : meets s t = meets t s := by
 rw [Bool.eq_iff_iff, meets_true, meets_true]
 exact ⟨fun ⟨k, a, b, c⟩ => ⟨k, a, c, b⟩, fun ⟨k, a, b, c⟩ => ⟨k, a, c, b⟩⟩
theorem meets_or (s t u : Nat → Bool) : meets s (fun k => t k || u k) = (meets s t || meets s u) := by
 rw [Bool.eq_iff_iff, Bool.or_eq_true, meets_true, meets_true, meets_true]
 constructor
 ·rintro ⟨k, h1, h2, h3⟩
  rw [Bool.or_eq_true] at h3
  rcases h3 with h3 | h3
  ·exact .inl ⟨k, h1, h2, h3⟩
  ·exact .inr ⟨k, h1, h2, h3⟩
 ·rintro (⟨k, h1, h2, h3⟩ | ⟨k, h1, h2, h3⟩)
  ·exact ⟨k, h1, h2, by rw [h3]; rfl⟩
  ·exact ⟨k, h1, h2, by rw [h3, Bool.or_true]⟩
def touchK (n : Nd) (k : Nat) : Bool := keysOf n.rd k || keysOf n.wt k
theorem confN_eq (a b : Nd) : confN a b = (decide (a.saga ≠ b.saga) && (meets (keysOf a.wt) (touchK b) || meets (keysOf b.wt) (touchK a))) := by
 unfold confN
 rw [show meets (keysOf a.wt) (touchK b) = _ from meets_or _ _ _, show meets (keysOf b.wt) (touchK a) = _ from meets_or _ _ _, meets_sym (keysOf b.wt) (keysOf a.rd), meets_sym (keysOf b.wt) (keysOf a.wt)]
 cases meets (keysOf a.wt) (keysOf b.rd) <;> cases meets (keysOf a.wt) (keysOf b.wt) <;> cases meets (keysOf a.rd) (keysOf b.wt) <;> rfl
end Go.Proofs.YtmeimhpllemjfaaGreat
