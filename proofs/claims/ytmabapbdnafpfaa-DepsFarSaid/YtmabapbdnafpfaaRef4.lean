/- Several cells at once, out of and into a block that is known whole. -/
import Derived.Test.YtmabapbdnafpfaaLib
import Derived.Deep.MidRow
import Derived.Deep.RegionHeld3
import Derived.Deep.OwnRows
import Derived.Test.YtmabapbdnafpfaaRows
namespace Go.Proofs.Ytmabapbdnafpfaa
open Go.RowKit

/-- Cells from o on, put into a row. -/
def putMany (cs : Array Value) : Nat → List Value → Array Value
  | _, [] => cs
  | o, v :: r => putMany (cs.setIfInBounds o v) (o + 1) r
theorem putMany_size (vs : List Value) : ∀ (cs : Array Value) (o : Nat), (putMany cs o vs).size = cs.size := by
  induction vs with
  | nil => intro cs o; rfl
  | cons v r ih => intro cs o; rw [putMany, ih]; simp
theorem putMany_at (vs : List Value) : ∀ (cs : Array Value) (o j : Nat), o + vs.length ≤ cs.size → (putMany cs o vs)[j]? = if o ≤ j ∧ j < o + vs.length then vs[j - o]? else cs[j]? := by
  induction vs with
  | nil => intro cs o j _; rw [if_neg (by simp)]; rfl
  | cons v r ih =>
    intro cs o j h
    rw [List.length_cons] at h
    rw [putMany, ih _ _ _ (by simp; omega), List.length_cons]
    by_cases h1 : o + 1 ≤ j ∧ j < o + 1 + r.length
    · rw [if_pos h1, if_pos (by omega)]
      obtain ⟨k, hk⟩ : ∃ k, j - o = k + 1 := ⟨j - o - 1, by omega⟩
      rw [hk, show j - (o + 1) = k by omega]
      rfl
    · rw [if_neg h1]
      by_cases h2 : j = o
      · subst h2
        rw [if_pos (by omega), Nat.sub_self, Array.getElem?_setIfInBounds, if_pos rfl, if_pos (by omega)]
        rfl
      · rw [if_neg (by omega), Array.getElem?_setIfInBounds, if_neg (fun e => h2 e.symm)]
section
variable {w w' : World} {g : Nat} {t : TypeId} {cs : Array Value} {S : Nat → Prop}
theorem Bk.putMany (vs : List Value) : ∀ {w : World} {cs : Array Value} (o : Nat), Bk w g t cs → Bk (w.setCells g o vs) g t (Ytmabapbdnafpfaa.putMany cs o vs) := by
  induction vs with
  | nil => intro w cs o h; exact h
  | cons v r ih => intro w cs o h; exact ih (o + 1) (h.put o v)
theorem Bk.range (h : Bk w g t cs) (o : Nat) (vs : List Value) (hv : ∀ j u, vs[j]? = some u → cs[o + j]? = some u) : w.rangeAt g o vs := fun j u hu => by
  rw [h.cell (o + j)]
  exact hv j u hu
theorem Bk.there (h : Bk w g t cs) (o n : Nat) (hn : o + n ≤ cs.size) : w.there g o n := fun j hj => by
  refine ⟨?_, h.frozen _⟩
  rw [h.cell (o + j), Array.getElem?_eq_getElem (by omega)]
  rfl
theorem Fr.setCells (vs : List Value) : ∀ {w : World} (o : Nat), Fr S w' w → (S g ∨ w'.heap.size ≤ g) → Fr S w' (w.setCells g o vs) := by
  induction vs with
  | nil => intro w o h _; exact h
  | cons v r ih => intro w o h hg; exact ih (o + 1) (h.setCell (p := ⟨g, o, none⟩) hg v) hg
theorem size_setCells (vs : List Value) : ∀ (w : World) (o : Nat), (w.setCells g o vs).heap.size = w.heap.size := by
  induction vs with
  | nil => intro w o; rfl
  | cons v r ih => intro w o; rw [World.setCells, ih]; simp [World.setCell]
theorem heap_setCells_other (vs : List Value) (k : Nat) (h : k ≠ g) : ∀ (w : World) (o : Nat), (w.setCells g o vs).heap[k]? = w.heap[k]? := by
  induction vs with
  | nil => intro w o; rfl
  | cons v r ih => intro w o; rw [World.setCells, ih, heap_setCell_other _ _ _ _ h]
theorem Bk.setCells_other {g' : Nat} (vs : List Value) (o : Nat) (h : Bk w g t cs) (hne : g ≠ g') : Bk (w.setCells g' o vs) g t cs := (heap_setCells_other vs g hne w o).trans h
theorem Bk.drew (h : Bk w g t cs) : Bk w.drew g t cs := h
theorem Bk.alloc (h : Bk w g t cs) (o : Obj) : Bk (w.alloc o) g t cs := (Below.heap_alloc w o g h.lt).trans h
theorem Bk.setCell_other {g' i : Nat} (h : Bk w g t cs) (hne : g ≠ g') (u : Value) : Bk (w.setCell ⟨g', i, none⟩ u) g t cs := (heap_setCell_other w _ _ _ hne).trans h
end
end Go.Proofs.Ytmabapbdnafpfaa
/- A device as plain mathematics: sectors of eight words; which were written since; and how sectors lie in memory. No program is spoken of. -/
namespace Go.Proofs.Ytmabapbdnafpfaa
open Go.RowKit

/-- A sector: eight words. -/
structure Sec (s : List Nat) : Prop where
  len : s.length = 8
  lt : ∀ u ∈ s, u < 18446744073709551616
def zSec : List Nat := List.replicate 8 0
theorem zSec_sec : Sec zSec := ⟨rfl, fun u hu => by have := List.eq_of_mem_replicate hu; omega⟩
/-- A sector as a value. -/
def secA (s : List Nat) : Array Value := (u64s s).toArray
def secV (s : List Nat) : Value := .agg (secA s)
theorem secA_size {s : List Nat} (h : Sec s) : (secA s).size = 8 := by simp [secA, u64s, h.len]
theorem secA_inj {s t : List Nat} (h : secA s = secA t) : s = t := by
  have h1 : u64s s = u64s t := by simpa [secA] using h
  exact List.map_inj_right (f := fun (x : Nat) => Value.int .u64 (x : Int)) (fun a b e => by simp at e; omega) |>.1 h1
theorem sec_lit {s : List Nat} (h : Sec s) : ∃ a b c d e f g i, s = [a, b, c, d, e, f, g, i] := by
  have hl := h.len
  match s, hl with
  | [a, b, c, d, e, f, g, i], _ => exact ⟨a, b, c, d, e, f, g, i, rfl⟩
/-- The sectors f 0, .., f (n - 1), cell by cell. -/
def secs (n : Nat) (f : Nat → List Nat) : Array Value := ((List.range n).flatMap fun i => u64s (f i)).toArray
theorem secs_size (n : Nat) (f : Nat → List Nat) (h : ∀ i, i < n → (f i).length = 8) : (secs n f).size = 8 * n := by
  induction n with
  | zero => rfl
  | succ n ih =>
    have := ih (fun i hi => h i (by omega))
    simp only [secs, List.size_toArray] at this ⊢
    rw [List.range_succ, List.flatMap_append, List.length_append, this]
    simp [u64s, h n (by omega)]
    omega
theorem secs_at (n : Nat) (f : Nat → List Nat) (h : ∀ i, i < n → (f i).length = 8) (i j : Nat) (hi : i < n) (hj : j < 8) : (secs n f)[i * 8 + j]? = (u64s (f i))[j]? := by
  induction n with
  | zero => omega
  | succ n ih =>
    have hs := secs_size n f (fun i hi => h i (by omega))
    simp only [secs, List.size_toArray, List.getElem?_toArray] at hs ih ⊢
    rw [List.range_succ, List.flatMap_append]
    by_cases hin : i < n
    · rw [List.getElem?_append_left (by rw [hs]; omega)]
      exact ih (fun i hi => h i (by omega)) hin
    · obtain rfl : i = n := by omega
      rw [List.getElem?_append_right (by rw [hs]; omega), hs, show i * 8 + j - 8 * i = j by omega]
      simp
theorem secs_ext {n : Nat} {f g : Nat → List Nat} (h : ∀ i, i < n → f i = g i) : secs n f = secs n g := by
  unfold secs
  congr 1
  induction n with
  | zero => rfl
  | succ n ih => rw [List.range_succ, List.flatMap_append, List.flatMap_append, ih (fun i hi => h i (by omega))]; simp [h n (by omega)]
/-- One sector more. -/
def upd {α : Type} (f : Nat → α) (i : Nat) (s : α) : Nat → α := fun k => if k = i then s else f k
theorem upd_same {α : Type} (f : Nat → α) (i : Nat) (s : α) : upd f i s i = s := by simp [upd]
theorem upd_other {α : Type} (f : Nat → α) (i k : Nat) (s : α) (h : k ≠ i) : upd f i s k = f k := by simp [upd, h]
theorem secs_put (n : Nat) (f : Nat → List Nat) (h : ∀ i, i < n → (f i).length = 8) (i : Nat) (hi : i < n) (s : List Nat) (hs : s.length = 8) : putMany (secs n f) (i * 8) (u64s s) = secs n (upd f i s) := by
  have h' : ∀ k, k < n → (upd f i s k).length = 8 := by
    intro k hk
    unfold upd
    split
    · exact hs
    · exact h k hk
  have z1 := secs_size n f h
  have z2 := secs_size n _ h'
  have l8 : (u64s s).length = 8 := by simp [u64s, hs]
  refine Array.ext_getElem? fun j => ?_
  rw [putMany_at _ _ _ _ (by rw [z1, l8]; omega), l8]
  by_cases hj : j < 8 * n
  · have e : j = j / 8 * 8 + j % 8 := by omega
    have q1 := secs_at n f h (j / 8) (j % 8) (by omega) (by omega)
    have q2 := secs_at n _ h' (j / 8) (j % 8) (by omega) (by omega)
    rw [← e] at q1 q2
    rw [q1, q2]
    by_cases hji : j / 8 = i
    · rw [if_pos (by omega), hji, upd_same, show j - i * 8 = j % 8 by omega]
    · rw [if_neg (by omega), upd_other _ _ _ _ hji]
  · rw [if_neg (by omega), Array.getElem?_eq_none (by omega), Array.getElem?_eq_none (by omega)]

/-- Flags, as cells. -/
def flags (n : Nat) (d : Nat → Bool) : Array Value := ((List.range n).map fun i => Value.bool (d i)).toArray
theorem flags_size (n : Nat) (d : Nat → Bool) : (flags n d).size = n := by simp [flags]
theorem flags_at (n : Nat) (d : Nat → Bool) (i : Nat) (hi : i < n) : (flags n d)[i]? = some (.bool (d i)) := by simp [flags, hi]
theorem flags_put (n : Nat) (d : Nat → Bool) (i : Nat) (b : Bool) : (flags n d).setIfInBounds i (.bool b) = flags n (upd d i b) := by
  refine Array.ext_getElem? fun j => ?_
  rw [Array.getElem?_setIfInBounds, flags_size]
  by_cases hj : j < n
  · rw [flags_at n _ j hj, flags_at n _ j hj]
    by_cases h : i = j
    · subst h
      rw [if_pos rfl, if_pos hj, upd_same]
    · rw [if_neg h, upd_other _ _ _ _ (fun e => h e.symm)]
  · rw [Array.getElem?_eq_none (by rw [flags_size]; omega), Array.getElem?_eq_none (by rw [flags_size]; omega)]
    split
    · rw [if_neg (by omega)]
    · rfl

/-- Numbers, as cells. -/
def i64s (xs : List Nat) : List Value := xs.map fun (x : Nat) => Value.int .i64 (x : Int)

/-- A device: how many sectors; what lasts, what is read, what was written since. -/
structure Dv where
  n : Nat
  la : Nat → List Nat
  rd : Nat → List Nat
  di : Nat → Bool
structure Dv.Ok (D : Dv) : Prop where
  la : ∀ i, i < D.n → Sec (D.la i)
  rd : ∀ i, i < D.n → Sec (D.rd i)
  same : ∀ i, i < D.n → D.di i = false → D.rd i = D.la i
def Dv.new (n : Nat) : Dv := ⟨n, fun _ => zSec, fun _ => zSec, fun _ => false⟩
def Dv.write (D : Dv) (i : Nat) (s : List Nat) : Dv := { D with rd := upd D.rd i s, di := upd D.di i true }
def Dv.sync (D : Dv) : Dv := { D with la := D.rd, di := fun _ => false }
/-- How many of the first i sectors were written. -/
def cnt (d : Nat → Bool) : Nat → Nat
  | 0 => 0
  | i + 1 => cnt d i + (d i).toNat
/-- Does what was written last to the sector i last, if keep is asked one by one? -/
def kept (d : Nat → Bool) (keep : List Bool) (i : Nat) : Bool := d i && keep.getD (cnt d i) false
def Dv.after (D : Dv) (keep : List Bool) (i : Nat) : List Nat := if kept D.di keep i = true then D.rd i else D.la i
def Dv.crash (D : Dv) (keep : List Bool) : Dv := { D with la := D.after keep, rd := D.after keep, di := fun _ => false }
theorem Dv.new_ok (n : Nat) : (Dv.new n).Ok := ⟨fun _ _ => zSec_sec, fun _ _ => zSec_sec, fun _ _ _ => rfl⟩
theorem Dv.Ok.write {D : Dv} (h : D.Ok) (i : Nat) (s : List Nat) (hs : Sec s) : (D.write i s).Ok := by
  refine ⟨h.la, fun k hk => ?_, fun k hk hd => ?_⟩
  · show Sec (upd D.rd i s k)
    unfold upd
    split
    · exact hs
    · exact h.rd k hk
  · have hki : k ≠ i := by
      rintro rfl
      have : (upd D.di k true) k = false := hd
      rw [upd_same] at this
      cases this
    have hd' : D.di k = false := by rw [← upd_other D.di i k true hki]; exact hd
    show upd D.rd i s k = D.la k
    rw [upd_other _ _ _ _ hki]
    exact h.same k hk hd'
theorem Dv.Ok.sync {D : Dv} (h : D.Ok) : D.sync.Ok := ⟨h.rd, h.rd, fun _ _ _ => rfl⟩
theorem Dv.Ok.after {D : Dv} (h : D.Ok) (keep : List Bool) (i : Nat) (hi : i < D.n) : Sec (D.after keep i) := by
  unfold Dv.after
  split
  · exact h.rd i hi
  · exact h.la i hi
theorem Dv.Ok.crash {D : Dv} (h : D.Ok) (keep : List Bool) : (D.crash keep).Ok := ⟨h.after keep, h.after keep, fun _ _ _ => rfl⟩

/-- The eight cells of a sector among several, one by one. -/
theorem Bk.sec8 {w : World} {g n : Nat} {t : TypeId} {f : Nat → List Nat} (h : Bk w g t (secs n f)) (hl : ∀ i, i < n → (f i).length = 8) {i : Nat} (hi : i < n) {b0 b1 b2 b3 b4 b5 b6 b7 : Nat} (hs : f i = [b0, b1, b2, b3, b4, b5, b6, b7]) :
    w.cell? ⟨g, i * 8, none⟩ = some (.int .u64 b0) ∧ w.cell? ⟨g, i * 8 + 1, none⟩ = some (.int .u64 b1) ∧ w.cell? ⟨g, i * 8 + 2, none⟩ = some (.int .u64 b2) ∧ w.cell? ⟨g, i * 8 + 3, none⟩ = some (.int .u64 b3) ∧
    w.cell? ⟨g, i * 8 + 4, none⟩ = some (.int .u64 b4) ∧ w.cell? ⟨g, i * 8 + 5, none⟩ = some (.int .u64 b5) ∧ w.cell? ⟨g, i * 8 + 6, none⟩ = some (.int .u64 b6) ∧ w.cell? ⟨g, i * 8 + 7, none⟩ = some (.int .u64 b7) := by
  have e : ∀ j, j < 8 → w.cell? ⟨g, i * 8 + j, none⟩ = (u64s (f i))[j]? := fun j hj => by rw [h.cell, secs_at n f hl i j hi hj]
  rw [hs] at e
  exact ⟨e 0 (by omega), e 1 (by omega), e 2 (by omega), e 3 (by omega), e 4 (by omega), e 5 (by omega), e 6 (by omega), e 7 (by omega)⟩
theorem u64s_zero : u64s zSec = List.replicate 8 (.int .u64 0) := by
  simp only [u64s, zSec, List.map_replicate]
  rfl
theorem made_secs (n : Nat) : madeCells (secA zSec) (n * 8) = secs n fun _ => zSec := by
  have z := secs_size n (fun _ => zSec) (fun _ _ => rfl)
  refine Array.ext (by rw [size_madeCells, z]; omega) fun j h1 h2 => ?_
  rw [size_madeCells] at h1
  have e : j = j / 8 * 8 + j % 8 := by omega
  have q := secs_at n (fun _ => zSec) (fun _ _ => rfl) (j / 8) (j % 8) (by omega) (by omega)
  rw [← e] at q
  have h3 : (secs n fun _ => zSec)[j]? = some (secs n fun _ => zSec)[j] := Array.getElem?_eq_getElem h2
  rw [h3] at q
  have hj : j % 8 < 8 := by omega
  have ez : (secA zSec).size = 8 := rfl
  have q2 : (u64s zSec)[j % 8]? = some (.int .u64 0) := by
    rw [u64s_zero, List.getElem?_replicate, if_pos hj]
  rw [q2] at q
  injection q with q
  rw [q]
  simp only [madeCells, Array.getElem_map, Array.getElem_range, ez]
  have q3 : (secA zSec)[j % 8]? = some (.int .u64 0) := by rw [secA, List.getElem?_toArray]; exact q2
  rw [getElem!_pos (secA zSec) (j % 8) (by rw [ez]; exact hj)]
  exact Option.some.inj ((Array.getElem?_eq_getElem _).symm.trans q3)
theorem made_flags (n : Nat) : madeCells #[Value.bool false] n = flags n fun _ => false := by
  refine Array.ext (by rw [size_madeCells, flags_size]) fun j h1 h2 => ?_
  simp [madeCells, flags, Nat.mod_one]
/-- 'make([]T, n)', T an array of eight words. -/
theorem run_make_secs {P : Program} (t e : TypeId) (bytes : Nat) (ht : P.underlying t = some (.slice e)) (hinfo : (P.info? e).map (fun i => (i.zero, i.size, i.bytes)) = some (some (secV zSec), 8, bytes))
    (n : Nat) (hb : bytes * n ≤ 281474976710656) (h63 : n ≤ 9223372036854775807) (w : World) :
    (Instr.makeSlice t (.int .i64 n) (.int .i64 n)).run P w = .ok (.slice (some ⟨w.heap.size, 0, none⟩) n n) (w.alloc (.cells (secs n fun _ => zSec) e)) := by
  obtain ⟨i, hi, hz, hs, hb2⟩ := info_parts hinfo
  have hb' : (i.bytes : Int) * (n : Int) ≤ 281474976710656 := by
    have h : ((i.bytes * n : Nat) : Int) ≤ 281474976710656 := by rw [hb2]; omega
    rwa [Int.natCast_mul] at h
  have hr := run_make (P := P) w t e i (secV zSec) ht hi hz .i64 .i64 n n (by omega) (Int.le_refl _) hb' (by omega)
  rw [hs] at hr
  have e1 : (secV zSec).cells = secA zSec := rfl
  rw [e1] at hr
  simp only [Int.toNat_natCast] at hr
  rw [made_secs] at hr
  exact hr
theorem run_make_flags {P : Program} (t e : TypeId) (ht : P.underlying t = some (.slice e)) (hinfo : (P.info? e).map (fun i => (i.zero, i.size, i.bytes)) = some (some (.bool false), 1, 1))
    (n : Nat) (hb : n ≤ 281474976710656) (w : World) :
    (Instr.makeSlice t (.int .i64 n) (.int .i64 n)).run P w = .ok (.slice (some ⟨w.heap.size, 0, none⟩) n n) (w.alloc (.cells (flags n fun _ => false) e)) := by
  rw [← made_flags]
  exact run_make_row' (P := P) t e (.bool false) 1 ht hinfo rfl .i64 .i64 n (by omega) (by omega) w
end Go.Proofs.Ytmabapbdnafpfaa
/- Sets of keys as plain mathematics: which keys spans have; the plain list of a set. No program is spoken of. -/
namespace Go.Proofs.Ytmabapbdnafpfaa
open Go.RowKit

abbrev Span := Int × Int
def spC (p : Span) : List Value := [.int .i64 p.1, .int .i64 p.2]
theorem spC_len (p : Span) : (spC p).length = 2 := rfl
def sps (l : List Span) : List Value := l.flatMap spC
theorem sps_len (l : List Span) : (sps l).length = l.length * 2 := flat_len spC 2 spC_len l
theorem sps_app (l m : List Span) : sps (l ++ m) = sps l ++ sps m := by simp [sps]
/-- Has a span this key? -/
def spHas (p : Span) (k : Nat) : Bool := decide (0 ≤ p.1 ∧ p.2 ≤ 999 ∧ p.1 ≤ (k : Int) ∧ (k : Int) ≤ p.2)
def keysOf (l : List Span) (k : Nat) : Bool := l.any fun p => spHas p k
theorem keysOf_snoc (l : List Span) (p : Span) (k : Nat) : keysOf (l ++ [p]) k = (keysOf l k || spHas p k) := by simp [keysOf]
/-- The last span ends at k. -/
def upHi (l : List Span) (k : Nat) : List Span := l.set (l.length - 1) ((l.getD (l.length - 1) (0, 0)).1, (k : Int))
theorem upHi_len (l : List Span) (k : Nat) : (upHi l k).length = l.length := by simp [upHi]
/-- The plain list of the keys below n. -/
def plainTo (s : Nat → Bool) : Nat → List Span
  | 0 => []
  | k + 1 => if s k = true then (if (decide (0 < k) && s (k - 1)) = true then upHi (plainTo s k) k else plainTo s k ++ [((k : Int), (k : Int))]) else plainTo s k
def plainOf (s : Nat → Bool) : List Span := plainTo s 1000
theorem plainTo_len (s : Nat → Bool) (k : Nat) : (plainTo s k).length ≤ k := by
  induction k with
  | zero => exact Nat.le_refl _
  | succ k ih =>
    unfold plainTo
    split
    · split
      · rw [upHi_len]; omega
      · simp; omega
    · omega
/-- Behind a key of the set there is a span. -/
theorem plainTo_pos (s : Nat → Bool) (k : Nat) (h : s k = true) : 0 < (plainTo s (k + 1)).length := by
  unfold plainTo
  rw [if_pos h]
  split
  · next h2 =>
    rw [upHi_len]
    cases k with
    | zero => simp at h2
    | succ k =>
      have h3 : s k = true := by simpa using h2
      exact plainTo_pos s k h3
  · simp
theorem plainTo_congr (s t : Nat → Bool) (n : Nat) (h : ∀ k, k < n → s k = t k) : plainTo s n = plainTo t n := by
  induction n with
  | zero => rfl
  | succ n ih =>
    unfold plainTo
    rw [ih (fun k hk => h k (by omega)), h n (by omega)]
    by_cases hn : 0 < n
    · rw [h (n - 1) (by omega)]
    · have : decide (0 < n) = false := by simp; omega
      rw [this]
      simp

theorem sps_up (l : List Span) (k : Nat) (h : 0 < l.length) : (sps l).set ((l.length - 1) * 2 + 1) (.int .i64 (k : Int)) = sps (upHi l k) := by
  obtain ⟨i, p, rfl⟩ : ∃ i p, l = i ++ [p] := ⟨l.dropLast, l.getLast (by rintro rfl; simp at h), (List.dropLast_concat_getLast _).symm⟩
  have hl : (i ++ [p]).length - 1 = i.length := by simp
  unfold upHi
  rw [hl, sps_app, List.set_append_right _ _ (by rw [sps_len]; omega), sps_len, show i.length * 2 + 1 - i.length * 2 = 1 by omega, List.set_append_right _ _ (Nat.le_refl _), Nat.sub_self, sps_app]
  have e : (i ++ [p]).getD i.length (0, 0) = p := by simp [List.getD]
  rw [e]
  rfl

/-- Have two sets a key below n in common? -/
def meetTo (s t : Nat → Bool) : Nat → Bool
  | 0 => false
  | k + 1 => meetTo s t k || (s k && t k)
def meets (s t : Nat → Bool) : Bool := meetTo s t 1000
theorem meetTo_true (s t : Nat → Bool) (n : Nat) : meetTo s t n = true ↔ ∃ k, k < n ∧ s k = true ∧ t k = true := by
  induction n with
  | zero => simp [meetTo]
  | succ n ih =>
    rw [meetTo, Bool.or_eq_true, ih, Bool.and_eq_true]
    constructor
    · rintro (⟨k, h1, h2⟩ | h)
      · exact ⟨k, by omega, h2⟩
      · exact ⟨n, by omega, h⟩
    · rintro ⟨k, h1, h2⟩
      by_cases hk : k = n
      · subst hk; exact .inr h2
      · exact .inl ⟨k, by omega, h2⟩
theorem meets_true (s t : Nat → Bool) : meets s t = true ↔ ∃ k, k < 1000 ∧ s k = true ∧ t k = true := meetTo_true s t 1000
theorem meets_of (s t : Nat → Bool) (j : Nat) (h : j < 1000) (h1 : s j = true) (h2 : t j = true) : meets s t = true := (meets_true s t).2 ⟨j, h, h1, h2⟩

theorem upHi_snoc (i : List Span) (p : Span) (k : Nat) : upHi (i ++ [p]) k = i ++ [(p.1, (k : Int))] := by
  have hl : (i ++ [p]).length - 1 = i.length := by simp
  have e : (i ++ [p]).getD i.length (0, 0) = p := by simp [List.getD]
  unfold upHi
  rw [hl, e, List.set_append_right _ _ (Nat.le_refl _), Nat.sub_self]
  rfl
theorem plainTo_spec (s : Nat → Bool) (n : Nat) (hn : n ≤ 1000) :
    (∀ k, k < 1000 → keysOf (plainTo s n) k = (decide (k < n) && s k)) ∧ (0 < n → s (n - 1) = true → ∃ i lo, plainTo s n = i ++ [(lo, ((n - 1 : Nat) : Int))] ∧ 0 ≤ lo ∧ lo ≤ ((n - 1 : Nat) : Int)) := by
  induction n with
  | zero => exact ⟨fun k _ => by simp [plainTo, keysOf], fun h => absurd h (by omega)⟩
  | succ n ih =>
    obtain ⟨i1, i2⟩ := ih (by omega)
    cases hs : s n with
    | false =>
      have e : plainTo s (n + 1) = plainTo s n := by show (if s n = true then _ else plainTo s n) = _; rw [hs]; simp
      rw [e]
      refine ⟨fun k hk => ?_, fun _ h => ?_⟩
      · rw [i1 k hk]
        by_cases h : k = n
        · subst h; simp [hs]
        · rw [show decide (k < n + 1) = decide (k < n) by rw [decide_eq_decide]; omega]
      · rw [Nat.add_sub_cancel, hs] at h
        cases h
    | true =>
      by_cases hp : 0 < n ∧ s (n - 1) = true
      · obtain ⟨i, lo, h1, h2, h3⟩ := i2 hp.1 hp.2
        have e : plainTo s (n + 1) = i ++ [(lo, (n : Int))] := by
          have : plainTo s (n + 1) = upHi (plainTo s n) n := by
            show (if s n = true then _ else _) = _
            rw [if_pos hs, if_pos (by simp [hp.1, hp.2])]
          rw [this, h1, upHi_snoc]
        rw [e]
        refine ⟨fun k hk => ?_, fun _ _ => ⟨i, lo, by rw [Nat.add_sub_cancel], h2, by omega⟩⟩
        have h4 := i1 k hk
        rw [h1, keysOf_snoc] at h4
        rw [keysOf_snoc]
        by_cases hkn : k = n
        · subst hkn
          have : spHas (lo, (k : Int)) k = true := by simp only [spHas, decide_eq_true_eq]; omega
          rw [this, hs]
          simp
        · have h5 : spHas (lo, (n : Int)) k = spHas (lo, ((n - 1 : Nat) : Int)) k := by
            simp only [spHas, decide_eq_decide]
            omega
          rw [h5, h4, show decide (k < n + 1) = decide (k < n) by rw [decide_eq_decide]; omega]
      · have e : plainTo s (n + 1) = plainTo s n ++ [((n : Int), (n : Int))] := by
          show (if s n = true then _ else _) = _
          rw [if_pos hs, if_neg (by simpa using hp)]
        rw [e]
        refine ⟨fun k hk => ?_, fun _ _ => ⟨_, (n : Int), by rw [Nat.add_sub_cancel], by omega, by omega⟩⟩
        rw [keysOf_snoc, i1 k hk]
        by_cases hkn : k = n
        · subst hkn
          have : spHas ((k : Int), (k : Int)) k = true := by simp only [spHas, decide_eq_true_eq]; omega
          rw [this, hs]
          simp
        · have : spHas ((n : Int), (n : Int)) k = false := by simp only [spHas, decide_eq_false_iff_not]; omega
          rw [this, Bool.or_false, show decide (k < n + 1) = decide (k < n) by rw [decide_eq_decide]; omega]
theorem keysOf_plain (s : Nat → Bool) (k : Nat) (hk : k < 1000) : keysOf (plainOf s) k = s k := by
  unfold plainOf
  rw [(plainTo_spec s 1000 (Nat.le_refl _)).1 k hk]
  simp [hk]
theorem keysOf_far (l : List Span) (k : Nat) (hk : 1000 ≤ k) : keysOf l k = false := by
  unfold keysOf
  rw [List.any_eq_false]
  intro p _
  simp only [spHas, decide_eq_true_eq]
  omega
theorem plainOf_congr {s t : Nat → Bool} (h : ∀ k, k < 1000 → s k = t k) : plainOf s = plainOf t := plainTo_congr s t 1000 h
theorem plainOf_inj (s t : Nat → Bool) : plainOf s = plainOf t ↔ ∀ k, k < 1000 → s k = t k := by
  refine ⟨fun h k hk => ?_, plainOf_congr⟩
  rw [← keysOf_plain s k hk, h, keysOf_plain t k hk]
theorem meets_false (s t : Nat → Bool) (h : ∀ k, k < 1000 → (s k && t k) = false) : meets s t = false := by
  rw [Bool.eq_false_iff]
  intro h1
  obtain ⟨k, hk, h2, h3⟩ := (meets_true s t).1 h1
  have := h k hk
  rw [h2, h3] at this
  cases this
theorem meets_congr {s t s' t' : Nat → Bool} (h : ∀ k, k < 1000 → s k = s' k) (h' : ∀ k, k < 1000 → t k = t' k) : meets s t = meets s' t' := by
  rw [Bool.eq_iff_iff, meets_true, meets_true]
  constructor
  · rintro ⟨k, hk, a, b⟩; exact ⟨k, hk, by rw [← h k hk]; exact a, by rw [← h' k hk]; exact b⟩
  · rintro ⟨k, hk, a, b⟩; exact ⟨k, hk, by rw [h k hk]; exact a, by rw [h' k hk]; exact b⟩
theorem cnt_bound (d : Nat → Bool) (i : Nat) : cnt d i ≤ i := by
  induction i with
  | zero => exact Nat.le_refl _
  | succ i ih => unfold cnt; cases d i <;> simp <;> omega
theorem cnt_congr {s t : Nat → Bool} (n : Nat) (h : ∀ k, k < n → s k = t k) : cnt s n = cnt t n := by
  induction n with
  | zero => rfl
  | succ n ih => simp only [cnt]; rw [ih (fun k hk => h k (by omega)), h n (by omega)]
theorem cnt_split (s t : Nat → Bool) (n : Nat) : cnt (fun k => s k && t k) n + cnt (fun k => s k && !t k) n = cnt s n := by
  induction n with
  | zero => rfl
  | succ n ih => simp only [cnt]; cases s n <;> cases t n <;> simp <;> omega
/-- A set has a key just if its plain list has a span. -/
theorem plainOf_empty (s : Nat → Bool) : (0 < (plainOf s).length) ↔ ∃ k, k < 1000 ∧ s k = true := by
  constructor
  · intro h
    refine Classical.byContradiction fun hn => ?_
    have : plainOf s = plainOf fun _ => false := plainOf_congr (fun k hk => by
      cases hs : s k with
      | false => rfl
      | true => exact absurd ⟨k, hk, hs⟩ hn)
    rw [this] at h
    have e : ∀ n, plainTo (fun _ => false) n = [] := by
      intro n
      induction n with
      | zero => rfl
      | succ n ih => unfold plainTo; rw [ih]; simp
    unfold plainOf at h
    rw [e] at h
    simp at h
  · rintro ⟨k, hk, hs⟩
    have h1 := keysOf_plain s k hk
    rw [hs] at h1
    rcases Nat.eq_zero_or_pos (plainOf s).length with h2 | h2
    · rw [List.eq_nil_of_length_eq_zero h2] at h1
      simp [keysOf] at h1
    · exact h2

def allTo (s : Nat → Bool) (n : Nat) : List Nat := (List.range n).filter s
theorem allTo_len (di : Nat → Bool) (n : Nat) : (allTo di n).length = cnt di n := by
  induction n with
  | zero => rfl
  | succ n ih =>
    unfold allTo at ih ⊢
    rw [List.range_succ, List.filter_append, List.length_append, ih]
    cases h : di n <;> simp [cnt, h]
theorem cnt_up (di : Nat → Bool) (i j : Nat) (h : i ≤ j) : cnt di i ≤ cnt di j := by
  induction j with
  | zero => obtain rfl : i = 0 := by omega
            exact Nat.le_refl _
  | succ j ih =>
    rcases Nat.lt_or_ge i (j + 1) with h1 | h1
    · have := ih (by omega)
      simp only [cnt]
      omega
    · obtain rfl : i = j + 1 := by omega
      exact Nat.le_refl _
theorem allTo_at (di : Nat → Bool) (n j : Nat) (hj : j < n) (hd : di j = true) : (allTo di n)[cnt di j]? = some j := by
  induction n with
  | zero => omega
  | succ n ih =>
    have hl0 := allTo_len di n
    unfold allTo at ih hl0 ⊢
    rw [List.range_succ, List.filter_append]
    by_cases hjn : j < n
    · have hl : cnt di j < cnt di n := by
        have := cnt_up di (j + 1) n (by omega)
        simp only [cnt, hd, Bool.toNat_true] at this
        omega
      rw [List.getElem?_append_left (by rw [hl0]; exact hl)]
      exact ih hjn
    · obtain rfl : j = n := by omega
      rw [List.getElem?_append_right (by rw [hl0]; exact Nat.le_refl _), hl0, Nat.sub_self]
      simp [hd]
def allL (s : Nat → Bool) : List Nat := allTo s 1000
theorem allL_len (s : Nat → Bool) : (allL s).length = cnt s 1000 := allTo_len s 1000
theorem allL_at (s : Nat → Bool) (j : Nat) (hj : j < 1000) (hd : s j = true) : (allL s)[cnt s j]? = some j := allTo_at s 1000 j hj hd

/-- The first j of a row are those of A, the others false. -/
def upToF (A : Nat → Bool) (j k : Nat) : Bool := if k < j then A k else false
theorem stepf (A : Nat → Bool) (j k : Nat) : upd (upToF A j) j (A j) k = upToF A (j + 1) k := by
  unfold upd upToF
  by_cases h1 : k = j
  · subst h1; rw [if_pos rfl, if_pos (by omega)]
  · rw [if_neg h1]
    by_cases h2 : k < j
    · rw [if_pos h2, if_pos (by omega)]
    · rw [if_neg h2, if_neg (by omega)]
theorem upToF_all (A : Nat → Bool) (k : Nat) (h : k < 1000) : upToF A 1000 k = A k := by unfold upToF; rw [if_pos h]
end Go.Proofs.Ytmabapbdnafpfaa
/- The document's own sets of keys. -/
namespace Go.Proofs.Ytmabapbdnafpfaa
open Go.RowKit

theorem zero_set (w : World) : (zeroValue 50).run Try.prog w = .ok (.agg (flags 1000 fun _ => false)) w := by
  obtain ⟨i, hi, hz⟩ := Option.map_eq_some_iff.1 (show (Try.prog.info? 50).map (·.zero) = some (some (.agg (flags 1000 fun _ => false))) by kernel_rfl)
  simp [zeroValue, typeInfo, hi, hz]
theorem flags_congr (n : Nat) (d e : Nat → Bool) (h : ∀ i, i < n → d i = e i) : flags n d = flags n e := by
  unfold flags
  congr 1
  exact List.map_congr_left (fun i hi => by rw [h i (by simpa using hi)])
theorem Sl.span {w : World} {B : Nat} {A : Option Addr} {l : List Span} (h : Sl w B A (sps l)) {k : Nat} (hk : k < l.length) :
    ∃ ad, A = some ad ∧ ad.block < B ∧ w.cell? (ad.add (k * 2)) = some (.int .i64 l[k].1) ∧ w.cell? ⟨(ad.add (k * 2)).block, (ad.add (k * 2)).off + 1, none⟩ = some (.int .i64 l[k].2) := by
  obtain ⟨ad, e, hb, hc⟩ := h.row 2 spC_len hk (by omega)
  exact ⟨ad, e, hb, hc 0 _ rfl, hc 1 _ rfl⟩

set_option maxRecDepth 100000 in
set_option maxHeartbeats 2000000 in
theorem refOf4_any (l : List Span) (n : Nat) (A : Option Addr) (c : Nat) (w : World) (hsl : Sl w w.heap.size A (sps l)) (hn : l.length = n) (hml : n ≤ 1099511627776) :
    Calls Try.prog 17 #[.slice A n c] w fun e w' => ∃ g, e = .returned (.pointer (some ⟨g, 0, none⟩)) ∧ Bk w' g 50 (flags 1000 (keysOf l)) ∧ w.heap.size ≤ g ∧ Fr No w w' := by
  have Hn := Lib.hid hn
  clear hn
  have hz := zero_set
  go_enter Try.func17, Try.ntmps17
  go_wp2
  obtain ⟨g, Hg⟩ : ∃ g, Hid (g = w.heap.size) := ⟨_, Lib.hid rfl⟩
  have hgs : w.heap.size ≤ g := by rw [Hg.out]; exact Nat.le_refl _
  have hb0 := Bk.made w 50 (flags 1000 fun _ => false)
  rw [← Hg.out] at hb0 ⊢
  go_loopw [4] (fun iv wr => ∃ j : Nat, j ≤ n ∧ iv = .int .i64 j ∧ Bk wr g 50 (flags 1000 (keysOf (l.take j))) ∧ Fr No w wr) (fun i _ => n - (intOf i).toNat)
  case atStart => exact ⟨0, by omega, rfl, hb0, (Fr.refl _ w).alloc _⟩
  case round =>
    obtain ⟨j, hj, rfl, hb, hfr⟩ := hrel
    by_cases hlt : j < n
    · have hjl : j < l.length := by rw [Hn.out]; exact hlt
      obtain ⟨ad, rfl, hadB, d0, d1⟩ := hsl.span hjl
      have c0 := (hfr.cell (p := ad.add (j * 2)) (by rw [block_add]; exact hadB) (fun e => e)).trans d0
      have c1 := (hfr.cell (p := ⟨(ad.add (j * 2)).block, (ad.add (j * 2)).off + 1, none⟩) (by rw [block_add]; exact hadB) (fun e => e)).trans d1
      have hadg : (ad.add (j * 2)).block ≠ g := by rw [block_add]; omega
      have hadg' : g ≠ (ad.add (j * 2)).block := hadg.symm
      have Hs : Hid (l.take (j + 1) = l.take j ++ [l[j]]) := Lib.hid (List.take_succ_eq_append_getElem hjl)
      clear d0 d1
      generalize l[j] = p at *
      obtain ⟨lo, hi⟩ := p
      by_cases h0 : lo < 0
      · have HB : Hid (Bk wr g 50 (flags 1000 (keysOf (l.take (j + 1))))) := Lib.hid (by
          rw [flags_congr 1000 _ (keysOf (l.take j)) (fun k _ => by rw [Hs.out, keysOf_snoc]; simp [spHas]; omega)]
          exact hb)
        clear hb
        go_wp2
        go_roundw
        case rel => exact ⟨j + 1, by omega, by go_num, HB.out, hfr⟩
        case measure => simp [intOf]; omega
      · by_cases h9 : 999 < hi
        · have HB : Hid (Bk wr g 50 (flags 1000 (keysOf (l.take (j + 1))))) := Lib.hid (by
            rw [flags_congr 1000 _ (keysOf (l.take j)) (fun k _ => by rw [Hs.out, keysOf_snoc]; simp [spHas]; omega)]
            exact hb)
          clear hb
          go_wp2
          go_roundw
          case rel => exact ⟨j + 1, by omega, by go_num, HB.out, hfr⟩
          case measure => simp [intOf]; omega
        · obtain ⟨L, rfl⟩ := Int.eq_ofNat_of_zero_le (show 0 ≤ lo by omega)
          have Hsp : Hid (∀ k : Nat, spHas ((L : Int), hi) k = decide (L ≤ k ∧ (k : Int) ≤ hi)) := Lib.hid (fun k => by
            simp only [spHas]
            rw [decide_eq_decide]
            omega)
          clear h0
          go_wp2
          go_loopw [5] (fun kv wx => ∃ K : Nat, kv = .int .i64 K ∧ L ≤ K ∧ (K = L ∨ (K : Int) ≤ hi + 1) ∧ Bk wx g 50 (flags 1000 (fun k => keysOf (l.take j) k || decide (L ≤ k ∧ k < K))) ∧ Fr No w wx ∧ wx.cell? (ad.add (j * 2)) = some (.int .i64 L) ∧ wx.cell? ⟨(ad.add (j * 2)).block, (ad.add (j * 2)).off + 1, none⟩ = some (.int .i64 hi)) (fun k _ => (hi + 1 - intOf k).toNat)
          case atStart =>
            refine ⟨L, rfl, Nat.le_refl _, .inl rfl, ?_, hfr, c0, c1⟩
            rw [flags_congr 1000 _ (keysOf (l.take j)) (fun k _ => by simp; omega)]
            exact hb
          case round =>
            obtain ⟨K, rfl, hLK, hK, hbx, hfx, x0, x1⟩ := hrel
            clear c0 c1 hb hfr
            by_cases hle : (K : Int) ≤ hi
            · have hK9 : K < 1000 := by omega
              have g0 := hbx.cell K
              rw [flags_at _ _ _ hK9] at g0
              have gz := hbx.frozen K
              have HB : Hid (Bk (wr.setCell ⟨g, K, none⟩ (.bool true)) g 50 (flags 1000 (fun k => keysOf (l.take j) k || decide (L ≤ k ∧ k < K + 1)))) := Lib.hid (by
                have := hbx.put K (.bool true)
                rw [flags_put] at this
                rw [flags_congr 1000 _ (upd (fun k => keysOf (l.take j) k || decide (L ≤ k ∧ k < K)) K true) (fun k _ => by
                  unfold upd
                  split
                  · next e => subst e; simp; omega
                  · next e =>
                    rw [show decide (L ≤ k ∧ k < K + 1) = decide (L ≤ k ∧ k < K) by rw [decide_eq_decide]; omega])]
                exact this)
              have HF : Hid (Fr No w (wr.setCell ⟨g, K, none⟩ (.bool true))) := Lib.hid (hfx.setCell (p := ⟨g, K, none⟩) (.inr hgs) _)
              clear hbx
              generalize (keysOf (List.take j l) K || decide (L ≤ K ∧ K < K)) = old at g0
              go_wp2
              go_roundw
              case rel => exact ⟨K + 1, by go_num, by omega, .inr (by omega), HB.out, HF.out, by simpa [World.cell?_setCell_far, hadg'] using x0, by simpa [World.cell?_setCell_far, hadg'] using x1⟩
              case measure => simp [intOf]; omega
            · have HB : Hid (Bk wr g 50 (flags 1000 (keysOf (l.take (j + 1))))) := Lib.hid (by
                rw [flags_congr 1000 _ (fun k => keysOf (l.take j) k || decide (L ≤ k ∧ k < K)) (fun k _ => by
                  rw [Hs.out, keysOf_snoc, Hsp.out]
                  congr 1
                  rw [decide_eq_decide]
                  omega)]
                exact hbx)
              clear hbx
              go_wp2
              go_roundw
              case rel => exact ⟨j + 1, by omega, by go_num, HB.out, hfx⟩
              case measure => simp [intOf]; omega
    · have e : l.take j = l := List.take_of_length_le (by rw [Hn.out]; omega)
      rw [e] at hb
      clear e
      go_wp2
      go_ret
      exact ⟨g, rfl, hb, hgs, hfr⟩

theorem info_span : (Try.prog.info? 41).map (fun i => (i.zero, i.size, i.bytes)) = some (some (.agg #[.int .i64 0, .int .i64 0]), 2, 16) := by kernel_rfl
/-- A new list of spans. -/
def NewS (w : World) (zs : List Span) (e : Ending) (w' : World) : Prop :=
  ∃ A c, e = .returned (.slice A zs.length c) ∧ Sl w' w'.heap.size A (sps zs) ∧ Fr No w w'

set_option maxRecDepth 100000 in
set_option maxHeartbeats 1000000 in
theorem refMeet4_any (g1 g2 : Nat) (s t : Nat → Bool) (w : World) (h1 : Bk w g1 50 (flags 1000 s)) (h2 : Bk w g2 50 (flags 1000 t)) :
    Calls Try.prog 18 #[.pointer (some ⟨g1, 0, none⟩), .pointer (some ⟨g2, 0, none⟩)] w fun e w' => e = .returned (.bool (meets s t)) ∧ w = w' := by
  go_enter Try.func18, Try.ntmps18
  go_wp2
  go_loop [5] (fun kv => ∃ j : Nat, j ≤ 1000 ∧ kv = .int .i64 j ∧ Hid (meetTo s t j = false)) (fun k => 1000 - (intOf k).toNat)
  case atStart => exact ⟨0, by omega, rfl, Lib.hid rfl⟩
  case round =>
    obtain ⟨j, hj, rfl, hno⟩ := hrel
    by_cases hlt : j < 1000
    · have a1 := h1.cell j
      have a2 := h2.cell j
      rw [flags_at _ _ _ hlt] at a1 a2
      cases hs : s j with
      | false =>
        rw [hs] at a1
        have Hn : Hid (meetTo s t (j + 1) = false) := Lib.hid (by rw [meetTo, hno.out, hs]; rfl)
        clear hs
        go_wp2
        go_round
        case rel => exact ⟨j + 1, by omega, by go_num, Hn⟩
        case measure => simp [intOf]; omega
      | true =>
        cases ht : t j with
        | false =>
          rw [hs] at a1
          rw [ht] at a2
          have Hn : Hid (meetTo s t (j + 1) = false) := Lib.hid (by rw [meetTo, hno.out, hs, ht]; rfl)
          clear hs ht
          go_wp2
          go_round
          case rel => exact ⟨j + 1, by omega, by go_num, Hn⟩
          case measure => simp [intOf]; omega
        | true =>
          rw [hs] at a1
          rw [ht] at a2
          have Hn : Hid ((meets s t) = true) := Lib.hid (meets_of s t j hlt hs ht)
          clear hs ht
          go_wp2
          go_ret
          exact ⟨by rw [Hn.out]; rfl, rfl⟩
    · have Hn : Hid (meets s t = false) := Lib.hid (by unfold meets; rw [show 1000 = j by omega]; exact hno.out)
      go_wp2
      go_ret
      exact ⟨by rw [Hn.out]; rfl, rfl⟩

theorem eqSp (a b c d : Int) (w : World) : (Op.equalIn 10000 41 (.agg #[.int .i64 a, .int .i64 b]) (.agg #[.int .i64 c, .int .i64 d])).run Try.prog w = .ok (a == c && b == d) w := by
  have u3 := Try.underlying3
  have a3 : ∀ w, (isAgg 3).run Try.prog w = .ok false w := fun w => by simp [isAgg, run_underlying Try.underlying3]
  have hs : Try.prog.underlying 41 = some (.struct (Try.prog.fieldsOf 41)) := by kernel_rfl
  rw [run_equalIn_agg w 9999 41 _ _ hs (by kernel_rfl)]
  simp only [Program.fieldsOf, Try.underlying41]
  go_simp
  by_cases h1 : a = c <;> by_cases h2 : b = d <;> simp [h1, h2]

end Go.Proofs.Ytmabapbdnafpfaa
