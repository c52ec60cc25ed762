/- Several cells at once, out of and into a block that is known whole. -/
import Derived.Test.YtmeimhpllemjfaaGreatLib
import Derived.Deep.MidRow
import Derived.Deep.RegionHeld3
import Derived.Deep.OwnRows
import Derived.Test.YtmeimhpllemjfaaGreatRows
namespace Go.Proofs.YtmeimhpllemjfaaGreat
open Go.RowKit

section
variable {w w' : World} {g : Nat} {t : TypeId} {cs : Array Value} {S : Nat → Prop}
theorem Bk.alloc (h : Bk w g t cs) (o : Obj) : Bk (w.alloc o) g t cs := (Below.heap_alloc w o g h.lt).trans h
end
end Go.Proofs.YtmeimhpllemjfaaGreat
/- A device as plain mathematics: sectors of eight words; which were written since; and how sectors lie in memory. No program is spoken of. -/
namespace Go.Proofs.YtmeimhpllemjfaaGreat
open Go.RowKit

def secs (n : Nat) (f : Nat → List Nat) : Array Value := ((List.range n).flatMap fun i => u64s (f i)).toArray
theorem secs_size (n : Nat) (f : Nat → List Nat) (h : ∀ i, i < n → (f i).length = 8) : (secs n f).size = 8 * n := by
 induction n with
 | zero => rfl
 | succ n ih =>
  have := ih (fun i hi => h i (by omega))
  simp only [secs, List.size_toArray] at this ⊢
  rw [List.range_succ, List.flatMap_append, List.length_append, this]
  simp [u64s, h n (by omega)]
  omega
theorem secs_ext {n : Nat} {f g : Nat → List Nat} (h : ∀ i, i < n → f i = g i) : secs n f = secs n g := by
 unfold secs
 congr 1
 induction n with
 | zero => rfl
 | succ n ih => rw [List.range_succ, List.flatMap_append, List.flatMap_append, ih (fun i hi => h i (by omega))]; simp [h n (by omega)]
def upd {α : Type} (f : Nat → α) (i : Nat) (s : α) : Nat → α := fun k => if k = i then s else f k
theorem upd_same {α : Type} (f : Nat → α) (i : Nat) (s : α) : upd f i s i = s := by simp [upd]
theorem upd_other {α : Type} (f : Nat → α) (i k : Nat) (s : α) (h : k ≠ i) : upd f i s k = f k := by simp [upd, h]
def flags (n : Nat) (d : Nat → Bool) : Array Value := ((List.range n).map fun i => Value.bool (d i)).toArray
theorem flags_size (n : Nat) (d : Nat → Bool) : (flags n d).size = n := by simp [flags]
theorem flags_at (n : Nat) (d : Nat → Bool) (i : Nat) (hi : i < n) : (flags n d)[i]? = some (.bool (d i)) := by simp [flags, hi]
theorem flags_put (n : Nat) (d : Nat → Bool) (i : Nat) (b : Bool) : (flags n d).setIfInBounds i (.bool b) = flags n (upd d i b) := by
 refine Array.ext_getElem? fun j => ?_
 rw [Array.getElem?_setIfInBounds, flags_size]
 by_cases hj : j < n
 ·rw [flags_at n _ j hj, flags_at n _ j hj]
  by_cases h : i = j
  ·subst h
   rw [if_pos rfl, if_pos hj, upd_same]
  ·rw [if_neg h, upd_other _ _ _ _ (fun e => h e.symm)]
 ·rw [Array.getElem?_eq_none (by rw [flags_size]; omega), Array.getElem?_eq_none (by rw [flags_size]; omega)]
  split
  ·rw [if_neg (by omega)]
  ·rfl

def cnt (d : Nat → Bool) : Nat → Nat
 | 0 => 0
 | i + 1 => cnt d i + (d i).toNat
theorem made_flags (n : Nat) : madeCells #[Value.bool false] n = flags n fun _ => false := by
 refine Array.ext (by rw [size_madeCells, flags_size]) fun j h1 h2 => ?_
 simp [madeCells, flags, Nat.mod_one]
theorem run_make_flags {P : Program} (t e : TypeId) (ht : P.underlying t = some (.slice e)) (hinfo : (P.info? e).map (fun i => (i.zero, i.size, i.bytes)) = some (some (.bool false), 1, 1))
  (n : Nat) (hb : n ≤ 281474976710656) (w : World) :
  (Instr.makeSlice t (.int .i64 n) (.int .i64 n)).run P w = .ok (.slice (some ⟨w.heap.size, 0, none⟩) n n) (w.alloc (.cells (flags n fun _ => false) e)) := by
 rw [← made_flags]
 exact run_make_row' (P := P) t e (.bool false) 1 ht hinfo rfl .i64 .i64 n (by omega) (by omega) w
end Go.Proofs.YtmeimhpllemjfaaGreat
/- Sets of keys as plain mathematics: which keys spans have; the plain list of a set. No program is spoken of. -/
namespace Go.Proofs.YtmeimhpllemjfaaGreat
open Go.RowKit

abbrev Span := Int × Int
def spC (p : Span) : List Value := [.int .i64 p.1, .int .i64 p.2]
theorem spC_len (p : Span) : (spC p).length = 2 := rfl
def sps (l : List Span) : List Value := l.flatMap spC
theorem sps_len (l : List Span) : (sps l).length = l.length * 2 := flat_len spC 2 spC_len l
theorem sps_app (l m : List Span) : sps (l ++ m) = sps l ++ sps m := by simp [sps]
def spHas (p : Span) (k : Nat) : Bool := decide (0 ≤ p.1 ∧ p.2 ≤ 999 ∧ p.1 ≤ (k : Int) ∧ (k : Int) ≤ p.2)
def keysOf (l : List Span) (k : Nat) : Bool := l.any fun p => spHas p k
theorem keysOf_snoc (l : List Span) (p : Span) (k : Nat) : keysOf (l ++ [p]) k = (keysOf l k || spHas p k) := by simp [keysOf]
def upHi (l : List Span) (k : Nat) : List Span := l.set (l.length - 1) ((l.getD (l.length - 1) (0, 0)).1, (k : Int))
theorem upHi_len (l : List Span) (k : Nat) : (upHi l k).length = l.length := by simp [upHi]
def plainTo (s : Nat → Bool) : Nat → List Span
 | 0 => []
 | k + 1 => if s k = true then (if (decide (0 < k) && s (k - 1)) = true then upHi (plainTo s k) k else plainTo s k ++ [((k : Int), (k : Int))]) else plainTo s k
def plainOf (s : Nat → Bool) : List Span := plainTo s 1000
theorem plainTo_len (s : Nat → Bool) (k : Nat) : (plainTo s k).length ≤ k := by
 induction k with
 | zero => exact Nat.le_refl _
 | succ k ih =>
  unfold plainTo
  split
  ·split
   ·rw [upHi_len]; omega
   ·simp; omega
  ·omega
theorem plainTo_congr (s t : Nat → Bool) (n : Nat) (h : ∀ k, k < n → s k = t k) : plainTo s n = plainTo t n := by
 induction n with
 | zero => rfl
 | succ n ih =>
  unfold plainTo
  rw [ih (fun k hk => h k (by omega)), h n (by omega)]
  by_cases hn : 0 < n
  ·rw [h (n - 1) (by omega)]
  ·have : decide (0 < n) = false := by simp; omega
   rw [this]
   simp

def meetTo (s t : Nat → Bool) : Nat → Bool
 | 0 => false
 | k + 1 => meetTo s t k || (s k && t k)
def meets (s t : Nat → Bool) : Bool := meetTo s t 1000
theorem meetTo_true (s t : Nat → Bool) (n : Nat) : meetTo s t n = true ↔ ∃ k, k < n ∧ s k = true ∧ t k = true := by
 induction n with
 | zero => simp [meetTo]
 | succ n ih =>
  rw [meetTo, Bool.or_eq_true, ih, Bool.and_eq_true]
  constructor
  ·rintro (⟨k, h1, h2⟩ | h)
   ·exact ⟨k, by omega, h2⟩
   ·exact ⟨n, by omega, h⟩
  ·rintro ⟨k, h1, h2⟩
   by_cases hk : k = n
   ·subst hk; exact .inr h2
   ·exact .inl ⟨k, by omega, h2⟩
theorem meets_true (s t : Nat → Bool) : meets s t = true ↔ ∃ k, k < 1000 ∧ s k = true ∧ t k = true := meetTo_true s t 1000
theorem meets_of (s t : Nat → Bool) (j : Nat) (h : j < 1000) (h1 : s j = true) (h2 : t j = true) : meets s t = true := (meets_true s t).2 ⟨j, h, h1, h2⟩

theorem upHi_snoc (i : List Span) (p : Span) (k : Nat) : upHi (i ++ [p]) k = i ++ [(p.1, (k : Int))] := by
 have hl : (i ++ [p]).length - 1 = i.length := by simp
 have e : (i ++ [p]).getD i.length (0, 0) = p := by simp [List.getD]
 unfold upHi
 rw [hl, e, List.set_append_right _ _ (Nat.le_refl _), Nat.sub_self]
 rfl
theorem plainTo_spec (s : Nat → Bool) (n : Nat) (hn : n ≤ 1000) :
  (∀ k, k < 1000 → keysOf (plainTo s n) k = (decide (k < n) && s k)) ∧ (0 < n → s (n - 1) = true → ∃ i lo, plainTo s n = i ++ [(lo, ((n - 1 : Nat) : Int))] ∧ 0 ≤ lo ∧ lo ≤ ((n - 1 : Nat) : Int)) := by
 induction n with
 | zero => exact ⟨fun k _ => by simp [plainTo, keysOf], fun h => absurd h (by omega)⟩
 | succ n ih =>
  obtain ⟨i1, i2⟩ := ih (by omega)
  cases hs : s n with
  | false =>
   have e : plainTo s (n + 1) = plainTo s n := by show (if s n = true then _ else plainTo s n) = _; rw [hs]; simp
   rw [e]
   refine ⟨fun k hk => ?_, fun _ h => ?_⟩
   ·rw [i1 k hk]
    by_cases h : k = n
    ·subst h; simp [hs]
    ·rw [show decide (k < n + 1) = decide (k < n) by rw [decide_eq_decide]; omega]
   ·rw [Nat.add_sub_cancel, hs] at h
    cases h
  | true =>
   by_cases hp : 0 < n ∧ s (n - 1) = true
   ·obtain ⟨i, lo, h1, h2, h3⟩ := i2 hp.1 hp.2
    have e : plainTo s (n + 1) = i ++ [(lo, (n : Int))] := by
     have : plainTo s (n + 1) = upHi (plainTo s n) n := by
      show (if s n = true then _ else _) = _
      rw [if_pos hs, if_pos (by simp [hp.1, hp.2])]
     rw [this, h1, upHi_snoc]
    rw [e]
    refine ⟨fun k hk => ?_, fun _ _ => ⟨i, lo, by rw [Nat.add_sub_cancel], h2, by omega⟩⟩
    have h4 := i1 k hk
    rw [h1, keysOf_snoc] at h4
    rw [keysOf_snoc]
    by_cases hkn : k = n
    ·subst hkn
     have : spHas (lo, (k : Int)) k = true := by simp only [spHas, decide_eq_true_eq]; omega
     rw [this, hs]
     simp
    ·have h5 : spHas (lo, (n : Int)) k = spHas (lo, ((n - 1 : Nat) : Int)) k := by
      simp only [spHas, decide_eq_decide]
      omega
     rw [h5, h4, show decide (k < n + 1) = decide (k < n) by rw [decide_eq_decide]; omega]
   ·have e : plainTo s (n + 1) = plainTo s n ++ [((n : Int), (n : Int))] := by
     show (if s n = true then _ else _) = _
     rw [if_pos hs, if_neg (by simpa using hp)]
    rw [e]
    refine ⟨fun k hk => ?_, fun _ _ => ⟨_, (n : Int), by rw [Nat.add_sub_cancel], by omega, by omega⟩⟩
    rw [keysOf_snoc, i1 k hk]
    by_cases hkn : k = n
    ·subst hkn
     have : spHas ((k : Int), (k : Int)) k = true := by simp only [spHas, decide_eq_true_eq]; omega
     rw [this, hs]
     simp
    ·have : spHas ((n : Int), (n : Int)) k = false := by simp only [spHas, decide_eq_false_iff_not]; omega
     rw [this, Bool.or_false, show decide (k < n + 1) = decide (k < n) by rw [decide_eq_decide]; omega]
theorem keysOf_plain (s : Nat → Bool) (k : Nat) (hk : k < 1000) : keysOf (plainOf s) k = s k := by
 unfold plainOf
 rw [(plainTo_spec s 1000 (Nat.le_refl _)).1 k hk]
 simp [hk]
theorem keysOf_far (l : List Span) (k : Nat) (hk : 1000 ≤ k) : keysOf l k = false := by
 unfold keysOf
 rw [List.any_eq_false]
 intro p _
 simp only [spHas, decide_eq_true_eq]
 omega
theorem plainOf_congr {s t : Nat → Bool} (h : ∀ k, k < 1000 → s k = t k) : plainOf s = plainOf t := plainTo_congr s t 1000 h
theorem meets_congr {s t s' t' : Nat → Bool} (h : ∀ k, k < 1000 → s k = s' k) (h' : ∀ k, k < 1000 → t k = t' k) : meets s t = meets s' t' := by
 rw [Bool.eq_iff_iff, meets_true, meets_true]
 constructor
 ·rintro ⟨k, hk, a, b⟩; exact ⟨k, hk, by rw [← h k hk]; exact a, by rw [← h' k hk]; exact b⟩
 ·rintro ⟨k, hk, a, b⟩; exact ⟨k, hk, by rw [h k hk]; exact a, by rw [h' k hk]; exact b⟩
theorem plainOf_empty (s : Nat → Bool) : (0 < (plainOf s).length) ↔ ∃ k, k < 1000 ∧ s k = true := by
 constructor
 ·intro h
  refine Classical.byContradiction fun hn => ?_
  have : plainOf s = plainOf fun _ => false := plainOf_congr (fun k hk => by
   cases hs : s k with
   | false => rfl
   | true => exact absurd ⟨k, hk, hs⟩ hn)
  rw [this] at h
  have e : ∀ n, plainTo (fun _ => false) n = [] := by
   intro n
   induction n with
   | zero => rfl
   | succ n ih => unfold plainTo; rw [ih]; simp
  unfold plainOf at h
  rw [e] at h
  simp at h
 ·rintro ⟨k, hk, hs⟩
  have h1 := keysOf_plain s k hk
  rw [hs] at h1
  rcases Nat.eq_zero_or_pos (plainOf s).length with h2 | h2
  ·rw [List.eq_nil_of_length_eq_zero h2] at h1
   simp [keysOf] at h1
  ·exact h2

end Go.Proofs.YtmeimhpllemjfaaGreat
/- The document's own sets of keys. -/
namespace Go.Proofs.YtmeimhpllemjfaaGreat
open Go.RowKit

theorem zero_set (w : World) : (zeroValue 108).run Tryz.prog w = .ok (.agg (flags 1000 fun _ => false)) w := by
 obtain ⟨i, hi, hz⟩ := Option.map_eq_some_iff.1 (show (Tryz.prog.info? 108).map (·.zero) = some (some (.agg (flags 1000 fun _ => false))) by kernel_rfl)
 simp [zeroValue, typeInfo, hi, hz]
theorem flags_congr (n : Nat) (d e : Nat → Bool) (h : ∀ i, i < n → d i = e i) : flags n d = flags n e := by
 unfold flags
 congr 1
 exact List.map_congr_left (fun i hi => by rw [h i (by simpa using hi)])
theorem Sl.span {w : World} {B : Nat} {A : Option Addr} {l : List Span} (h : Sl w B A (sps l)) {k : Nat} (hk : k < l.length) :
  ∃ ad, A = some ad ∧ ad.block < B ∧ w.cell? (ad.add (k * 2)) = some (.int .i64 l[k].1) ∧ w.cell? ⟨(ad.add (k * 2)).block, (ad.add (k * 2)).off + 1, none⟩ = some (.int .i64 l[k].2) := by
 obtain ⟨ad, e, hb, hc⟩ := h.row 2 spC_len hk (by omega)
 exact ⟨ad, e, hb, hc 0 _ rfl, hc 1 _ rfl⟩

set_option maxRecDepth 100000 in
set_option maxHeartbeats 2000000 in
theorem refOf4_any (l : List Span) (n : Nat) (A : Option Addr) (c : Nat) (w : World) (hsl : Sl w w.heap.size A (sps l)) (hn : l.length = n) (hml : n ≤ 1099511627776) :
  Calls Tryz.prog 43 #[.slice A n c] w fun e w' => ∃ g, e = .returned (.pointer (some ⟨g, 0, none⟩)) ∧ Bk w' g 108 (flags 1000 (keysOf l)) ∧ w.heap.size ≤ g ∧ Fr No w w' := by
 have Hn := Lib.hid hn
 clear hn
 have hz := zero_set
 go_enter Tryz.func43, Tryz.ntmps43
 go_wp2
 obtain ⟨g, Hg⟩ : ∃ g, Hid (g = w.heap.size) := ⟨_, Lib.hid rfl⟩
 have hgs : w.heap.size ≤ g := by rw [Hg.out]; exact Nat.le_refl _
 have hb0 := Bk.made w 108 (flags 1000 fun _ => false)
 rw [← Hg.out] at hb0 ⊢
 go_loopw [4] (fun iv wr => ∃ j : Nat, j ≤ n ∧ iv = .int .i64 j ∧ Bk wr g 108 (flags 1000 (keysOf (l.take j))) ∧ Fr No w wr) (fun i _ => n - (intOf i).toNat)
 case atStart => exact ⟨0, by omega, rfl, hb0, (Fr.refl _ w).alloc _⟩
 case round =>
  obtain ⟨j, hj, rfl, hb, hfr⟩ := hrel
  by_cases hlt : j < n
  ·have hjl : j < l.length := by rw [Hn.out]; exact hlt
   obtain ⟨ad, rfl, hadB, d0, d1⟩ := hsl.span hjl
   have c0 := (hfr.cell (p := ad.add (j * 2)) (by rw [block_add]; exact hadB) (fun e => e)).trans d0
   have c1 := (hfr.cell (p := ⟨(ad.add (j * 2)).block, (ad.add (j * 2)).off + 1, none⟩) (by rw [block_add]; exact hadB) (fun e => e)).trans d1
   have hadg : (ad.add (j * 2)).block ≠ g := by rw [block_add]; omega
   have hadg' : g ≠ (ad.add (j * 2)).block := hadg.symm
   have Hs : Hid (l.take (j + 1) = l.take j ++ [l[j]]) := Lib.hid (List.take_succ_eq_append_getElem hjl)
   clear d0 d1
   generalize l[j] = p at *
   obtain ⟨lo, hi⟩ := p
   by_cases h0 : lo < 0
   ·have HB : Hid (Bk wr g 108 (flags 1000 (keysOf (l.take (j + 1))))) := Lib.hid (by
     rw [flags_congr 1000 _ (keysOf (l.take j)) (fun k _ => by rw [Hs.out, keysOf_snoc]; simp [spHas]; omega)]
     exact hb)
    clear hb
    go_wp2
    go_roundw
    case rel => exact ⟨j + 1, by omega, by go_num, HB.out, hfr⟩
    case measure => simp [intOf]; omega
   ·by_cases h9 : 999 < hi
    ·have HB : Hid (Bk wr g 108 (flags 1000 (keysOf (l.take (j + 1))))) := Lib.hid (by
      rw [flags_congr 1000 _ (keysOf (l.take j)) (fun k _ => by rw [Hs.out, keysOf_snoc]; simp [spHas]; omega)]
      exact hb)
     clear hb
     go_wp2
     go_roundw
     case rel => exact ⟨j + 1, by omega, by go_num, HB.out, hfr⟩
     case measure => simp [intOf]; omega
    ·obtain ⟨L, rfl⟩ := Int.eq_ofNat_of_zero_le (show 0 ≤ lo by omega)
     have Hsp : Hid (∀ k : Nat, spHas ((L : Int), hi) k = decide (L ≤ k ∧ (k : Int) ≤ hi)) := Lib.hid (fun k => by
      simp only [spHas]
      rw [decide_eq_decide]
      omega)
     clear h0
     go_wp2
     go_loopw [5] (fun kv wx => ∃ K : Nat, kv = .int .i64 K ∧ L ≤ K ∧ (K = L ∨ (K : Int) ≤ hi + 1) ∧ Bk wx g 108 (flags 1000 (fun k => keysOf (l.take j) k || decide (L ≤ k ∧ k < K))) ∧ Fr No w wx ∧ wx.cell? (ad.add (j * 2)) = some (.int .i64 L) ∧ wx.cell? ⟨(ad.add (j * 2)).block, (ad.add (j * 2)).off + 1, none⟩ = some (.int .i64 hi)) (fun k _ => (hi + 1 - intOf k).toNat)
     case atStart =>
      refine ⟨L, rfl, Nat.le_refl _, .inl rfl, ?_, hfr, c0, c1⟩
      rw [flags_congr 1000 _ (keysOf (l.take j)) (fun k _ => by simp; omega)]
      exact hb
     case round =>
      obtain ⟨K, rfl, hLK, hK, hbx, hfx, x0, x1⟩ := hrel
      clear c0 c1 hb hfr
      by_cases hle : (K : Int) ≤ hi
      ·have hK9 : K < 1000 := by omega
       have g0 := hbx.cell K
       rw [flags_at _ _ _ hK9] at g0
       have gz := hbx.frozen K
       have HB : Hid (Bk (wr.setCell ⟨g, K, none⟩ (.bool true)) g 108 (flags 1000 (fun k => keysOf (l.take j) k || decide (L ≤ k ∧ k < K + 1)))) := Lib.hid (by
        have := hbx.put K (.bool true)
        rw [flags_put] at this
        rw [flags_congr 1000 _ (upd (fun k => keysOf (l.take j) k || decide (L ≤ k ∧ k < K)) K true) (fun k _ => by
         unfold upd
         split
         ·next e => subst e; simp; omega
         ·next e =>
          rw [show decide (L ≤ k ∧ k < K + 1) = decide (L ≤ k ∧ k < K) by rw [decide_eq_decide]; omega])]
        exact this)
       have HF : Hid (Fr No w (wr.setCell ⟨g, K, none⟩ (.bool true))) := Lib.hid (hfx.setCell (p := ⟨g, K, none⟩) (.inr hgs) _)
       clear hbx
       generalize (keysOf (List.take j l) K || decide (L ≤ K ∧ K < K)) = old at g0
       go_wp2
       go_roundw
       case rel => exact ⟨K + 1, by go_num, by omega, .inr (by omega), HB.out, HF.out, by simpa [World.cell?_setCell_far, hadg'] using x0, by simpa [World.cell?_setCell_far, hadg'] using x1⟩
       case measure => simp [intOf]; omega
      ·have HB : Hid (Bk wr g 108 (flags 1000 (keysOf (l.take (j + 1))))) := Lib.hid (by
        rw [flags_congr 1000 _ (fun k => keysOf (l.take j) k || decide (L ≤ k ∧ k < K)) (fun k _ => by
         rw [Hs.out, keysOf_snoc, Hsp.out]
         congr 1
         rw [decide_eq_decide]
         omega)]
        exact hbx)
       clear hbx
       go_wp2
       go_roundw
       case rel => exact ⟨j + 1, by omega, by go_num, HB.out, hfx⟩
       case measure => simp [intOf]; omega
  ·have e : l.take j = l := List.take_of_length_le (by rw [Hn.out]; omega)
   rw [e] at hb
   clear e
   go_wp2
   go_ret
   exact ⟨g, rfl, hb, hgs, hfr⟩

theorem info_span : (Tryz.prog.info? 51).map (fun i => (i.zero, i.size, i.bytes)) = some (some (.agg #[.int .i64 0, .int .i64 0]), 2, 16) := by kernel_rfl
def NewS (w : World) (zs : List Span) (e : Ending) (w' : World) : Prop :=
 ∃ A c, e = .returned (.slice A zs.length c) ∧ Sl w' w'.heap.size A (sps zs) ∧ Fr No w w'

set_option maxRecDepth 100000 in
set_option maxHeartbeats 1000000 in
theorem refMeet4_any (g1 g2 : Nat) (s t : Nat → Bool) (w : World) (h1 : Bk w g1 108 (flags 1000 s)) (h2 : Bk w g2 108 (flags 1000 t)) :
  Calls Tryz.prog 44 #[.pointer (some ⟨g1, 0, none⟩), .pointer (some ⟨g2, 0, none⟩)] w fun e w' => e = .returned (.bool (meets s t)) ∧ w = w' := by
 go_enter Tryz.func44, Tryz.ntmps44
 go_wp2
 go_loop [5] (fun kv => ∃ j : Nat, j ≤ 1000 ∧ kv = .int .i64 j ∧ Hid (meetTo s t j = false)) (fun k => 1000 - (intOf k).toNat)
 case atStart => exact ⟨0, by omega, rfl, Lib.hid rfl⟩
 case round =>
  obtain ⟨j, hj, rfl, hno⟩ := hrel
  by_cases hlt : j < 1000
  ·have a1 := h1.cell j
   have a2 := h2.cell j
   rw [flags_at _ _ _ hlt] at a1 a2
   cases hs : s j with
   | false =>
    rw [hs] at a1
    have Hn : Hid (meetTo s t (j + 1) = false) := Lib.hid (by rw [meetTo, hno.out, hs]; rfl)
    clear hs
    go_wp2
    go_round
    case rel => exact ⟨j + 1, by omega, by go_num, Hn⟩
    case measure => simp [intOf]; omega
   | true =>
    cases ht : t j with
    | false =>
     rw [hs] at a1
     rw [ht] at a2
     have Hn : Hid (meetTo s t (j + 1) = false) := Lib.hid (by rw [meetTo, hno.out, hs, ht]; rfl)
     clear hs ht
     go_wp2
     go_round
     case rel => exact ⟨j + 1, by omega, by go_num, Hn⟩
     case measure => simp [intOf]; omega
    | true =>
     rw [hs] at a1
     rw [ht] at a2
     have Hn : Hid ((meets s t) = true) := Lib.hid (meets_of s t j hlt hs ht)
     clear hs ht
     go_wp2
     go_ret
     exact ⟨by rw [Hn.out]; rfl, rfl⟩
  ·have Hn : Hid (meets s t = false) := Lib.hid (by unfold meets; rw [show 1000 = j by omega]; exact hno.out)
   go_wp2
   go_ret
   exact ⟨by rw [Hn.out]; rfl, rfl⟩

end Go.Proofs.YtmeimhpllemjfaaGreat
