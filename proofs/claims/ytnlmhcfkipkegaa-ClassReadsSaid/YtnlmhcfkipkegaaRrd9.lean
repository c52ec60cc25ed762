/- What the document's own reader reads: an item, a template. -/
import Derived.Test.YtnlmhcfkipkegaaPrs9
namespace Go.Proofs.Ytnlmhcfkipkegaa
open Go.RowKit

set_option maxHeartbeats 400000 in
theorem refBack9 (u : Nat) (hu : u < 18446744073709551616) (w : World) :
    Calls Try.prog 73 #[.int .u64 u] w fun e w' => e = .returned (.int .i64 (uns u)) ∧ w = w' := by
  by_cases h : u % 2 = 0
  · have hb : (((u : Int) % 2) == 0) = true := by rw [beq_iff_eq]; omega
    have Hu : Hid (uns u = (u : Int) / 2) := Lib.hid (by unfold uns; rw [if_pos h]; omega)
    go_enter Try.func73, Try.ntmps73
    go_wp2
    go_ret
    exact ⟨by rw [Hu.out]; simp, rfl⟩
  · have hb : (((u : Int) % 2) == 0) = false := by rw [beq_eq_false_iff_ne]; omega
    have Hu : Hid (uns u = -((u : Int) / 2) - 1) := Lib.hid (by unfold uns; rw [if_neg h]; omega)
    go_enter Try.func73, Try.ntmps73
    go_wp2
    go_ret
    exact ⟨by rw [Hu.out]; simp, rfl⟩
theorem sl_tail9 {w w' : World} {B : Nat} {A : Option Addr} {u : Nat} {xs : List Nat} {c : Nat} (h : Sl w B A (u64s (u :: xs))) (hc : xs.length + 1 ≤ c) (hk : ∀ p : Addr, p.block < B → w'.cell? p = w.cell? p) :
    Sl w' B (if c = 1 then A else A.map (·.add 1)) (u64s xs) := by
  have h1 := h.drop (k := 1) (n := xs.length + 1) (cap := c) (sz := 1) (by simp [u64s]) (by omega) hc
  exact h1.keep hk
theorem run_slice_from9 {P : Program} (t e : TypeId) (i : TypeInfo) (ht : P.underlying t = some (.slice e)) (hi : P.info? e = some i) (h1 : i.size = 1) (A : Option Addr) (n c k : Nat) (K : Int) (hK : K = k) (hk : k ≤ n) (W : World) :
    (Instr.slice t (.slice A n c) (some (.int .i64 K)) none none).run P W = .ok (.slice (if c = k then A else A.map (·.add k)) (n - k) (c - k)) W := by
  subst hK
  have hb : (Instr.sliceBound (.int .i64 (k : Int)) n .sliceB).run P W = .ok k W := by
    have := run_sliceBound (P := P) (w := W) .i64 (k : Int) n .sliceB (by omega) (by omega)
    simpa using this
  simp [Instr.slice, Instr.sliceBounds, run_underlying ht, hb, sizeOf, typeInfo, hi, h1]

/-- An item's value, of its kind, count, most and number. -/
def itV (k n m x : Int) : Value := .agg #[.int .i64 k, .int .i64 n, .int .i64 m, .int .i64 x, .string ⟨#[]⟩, .slice none 0 0]
/-- What the document's 'Read' answers: an item, what is left, and whether that is right. -/
def Rd9 (w : World) (B : Nat) (xs : List Nat) (o : Option ((Int × Int) × List Nat)) (e : Ending) (w' : World) : Prop :=
  Fr No w w' ∧ ((∃ (k n m x : Int) (r : List Nat) (A : Option Addr) (c : Nat), o = some ((n, x), r) ∧ e = .returned (.tuple #[itV k n m x, .slice A r.length c, .bool true]) ∧ Sl w B A (u64s r) ∧ r.length ≤ c ∧ c ≤ maxLen ∧ r.length ≤ xs.length) ∨
    (∃ (k n m x : Int) (v : Value), o = none ∧ e = .returned (.tuple #[itV k n m x, v, .bool false])))
theorem field1 (k n m x : Int) (W : World) : (Instr.field 64 (.agg #[.int .i64 k, .int .i64 n, .int .i64 m, .int .i64 x, .string ⟨#[]⟩, .slice none 0 0]) 1).run Try.prog W = .ok (.int .i64 n) W := by kernel_rfl
theorem field3 (k n m x : Int) (W : World) : (Instr.field 64 (.agg #[.int .i64 k, .int .i64 n, .int .i64 m, .int .i64 x, .string ⟨#[]⟩, .slice none 0 0]) 3).run Try.prog W = .ok (.int .i64 x) W := by kernel_rfl
def cI (m : Int) (xs : List Nat) : Option ((Int × Int) × List Nat) := (cntR m (some xs)).map fun q => (((q.1 : Int), 0), q.2)
def gI (xs : List Nat) : Option ((Int × Int) × List Nat) := (sgnR (some xs)).map fun q => ((0, q.1), q.2)

set_option maxHeartbeats 2000000 in
theorem rd9_nil (k m : Int) (A : Option Addr) (c B : Nat) (w : World) : Calls Try.prog 45 #[.slice A 0 c, .int .i64 k, .int .i64 m] w (Rd9 w B [] none) := by
  go_enter Try.func45, Try.ntmps45
  go_wp2
  refine bodyPost_ret (v := .tuple #[.agg #[.int .i64 k, .int .i64 0, .int .i64 m, .int .i64 0, .string ⟨#[]⟩, .slice none 0 0], .slice A 0 c, .bool false]) (by simp [results, Try.results45, go_sem]) rfl ⟨((Fr.refl _ _).alloc _).alloc _, .inr ⟨k, 0, m, 0, _, rfl, rfl⟩⟩

set_option maxHeartbeats 2000000 in
theorem rd9_1 (u : Nat) (xs : List Nat) (most : Int) (A : Option Addr) (n c B : Nat) (w : World) (hBw : B ≤ w.heap.size) (hsl : Sl w B A (u64s (u :: xs))) (hn : xs.length + 1 = n) (hnc : n ≤ c) (hcm : c ≤ maxLen) (hu : u < 18446744073709551616) :
    Calls Try.prog 45 #[.slice A n c, .int .i64 1, .int .i64 most] w (Rd9 w B (u :: xs) (gI (u :: xs))) := by
  obtain ⟨ad, rfl, hadw0, hc0⟩ := hsl.wordB (k := 0) (by simp)
  have hadw : ad.block < w.heap.size := Nat.lt_of_lt_of_le hadw0 hBw
  have hc0 : w.cell? ad = some (.int .u64 u) := hc0
  have hs1 := sl_tail9 (c := c) hsl (by omega) (fun _ _ => rfl)
  obtain ⟨i0, hi0, hz0, hz1, hz2⟩ := info_parts info43
  have hrs := fun W => run_slice_from9 (P := Try.prog) 22 57 i0 Try.underlying22 hi0 hz1 (some ad) n c 1 1 rfl (by omega) W
  generalize (if c = 1 then some ad else (some ad).map (·.add 1)) = A1 at *
  have Hs1 := Lib.hid hs1
  have Hn := Lib.hid hn
  have Hcm := Lib.hid hcm
  have hn0 : 1 ≤ n := by omega
  have hnz : ((n : Int) == 0) = false := by rw [beq_eq_false_iff_ne]; omega
  clear hsl hn hs1 hi0 hz0 hz1 hz2 hcm hadw0
  go_enter Try.func45, Try.ntmps45
  go_wp2_with (go_at_call 73; refine (refBack9 u hu _).mono ?_; rintro e w' ⟨rfl, rfl⟩)
  have hxl : xs.length = n - 1 := by have := Hn.out; omega
  refine bodyPost_ret (v := .tuple #[.agg #[.int .i64 1, .int .i64 0, .int .i64 most, .int .i64 (uns u), .string ⟨#[]⟩, .slice none 0 0], .slice A1 (n - 1) (c - 1), .bool true]) (by simp [results, Try.results45, go_sem]) rfl ⟨by repeat (first | exact Fr.refl _ _ | refine Fr.alloc ?_ _ | refine Fr.setCell ?_ (.inr (by simp)) _), .inl ⟨1, 0, most, uns u, xs, A1, c - 1, by simp [gI, sgnR], by rw [hxl]; rfl, Hs1.out, by omega, by have := Hcm.out; omega, by simp⟩⟩

set_option maxHeartbeats 2000000 in
theorem rd9_0 (u : Nat) (xs : List Nat) (most : Int) (A : Option Addr) (n c B : Nat) (w : World) (hBw : B ≤ w.heap.size) (hsl : Sl w B A (u64s (u :: xs))) (hn : xs.length + 1 = n) (hnc : n ≤ c) (hcm : c ≤ maxLen) (hm1 : 0 ≤ most) (hm2 : most < 9223372036854775808) :
    Calls Try.prog 45 #[.slice A n c, .int .i64 0, .int .i64 most] w (Rd9 w B (u :: xs) (cI most (u :: xs))) := by
  obtain ⟨ad, rfl, hadw0, hc0⟩ := hsl.wordB (k := 0) (by simp)
  have hadw : ad.block < w.heap.size := Nat.lt_of_lt_of_le hadw0 hBw
  have hc0 : w.cell? ad = some (.int .u64 u) := hc0
  have hs1 := sl_tail9 (c := c) hsl (by omega) (fun _ _ => rfl)
  obtain ⟨i0, hi0, hz0, hz1, hz2⟩ := info_parts info43
  have hrs := fun W => run_slice_from9 (P := Try.prog) 22 57 i0 Try.underlying22 hi0 hz1 (some ad) n c 1 1 rfl (by omega) W
  generalize (if c = 1 then some ad else (some ad).map (·.add 1)) = A1 at *
  have Hs1 := Lib.hid hs1
  have Hn := Lib.hid hn
  have Hcm := Lib.hid hcm
  have hn0 : 1 ≤ n := by omega
  have hnz : ((n : Int) == 0) = false := by rw [beq_eq_false_iff_ne]; omega
  clear hsl hn hs1 hi0 hz0 hz1 hz2 hcm hadw0
  have hd : decide (most < 0) = false := by simpa using hm1
  have hw : IntKind.u64.wrap most = most := IntWalk.u64_in _ (by omega)
  by_cases hum : (u : Int) ≤ most
  · have hd2 : decide (most < (u : Int)) = false := by simp; omega
    have hcn : Hid (cI most (u :: xs) = some (((u : Int), 0), xs)) := Lib.hid (by simp only [cI, cntR]; rw [if_pos (by omega)]; rfl)
    go_enter Try.func45, Try.ntmps45
    go_wp2
    have hxl : xs.length = n - 1 := by have := Hn.out; omega
    refine bodyPost_ret (v := .tuple #[.agg #[.int .i64 0, .int .i64 u, .int .i64 most, .int .i64 0, .string ⟨#[]⟩, .slice none 0 0], .slice A1 (n - 1) (c - 1), .bool true]) (by simp [results, Try.results45, go_sem]) rfl ⟨by repeat (first | exact Fr.refl _ _ | refine Fr.alloc ?_ _ | refine Fr.setCell ?_ (.inr (by simp)) _), .inl ⟨0, u, most, 0, xs, A1, c - 1, hcn.out, by rw [hxl]; rfl, Hs1.out, by omega, by have := Hcm.out; omega, by simp⟩⟩
  · have hd2 : decide (most < (u : Int)) = true := by simp; omega
    have hcn : Hid (cI most (u :: xs) = none) := Lib.hid (by simp only [cI, cntR]; rw [if_neg (by omega)]; rfl)
    go_enter Try.func45, Try.ntmps45
    go_wp2
    refine bodyPost_ret (v := .tuple #[.agg #[.int .i64 0, .int .i64 0, .int .i64 most, .int .i64 0, .string ⟨#[]⟩, .slice none 0 0], .slice (some ad) n c, .bool false]) (by simp [results, Try.results45, go_sem]) rfl ⟨by repeat (first | exact Fr.refl _ _ | refine Fr.alloc ?_ _ | refine Fr.setCell ?_ (.inr (by simp)) _), .inr ⟨0, 0, most, 0, _, hcn.out, rfl⟩⟩

theorem rd9_any (k m : Int) (xs : List Nat) (A : Option Addr) (n c B : Nat) (w : World) (hBw : B ≤ w.heap.size) (hsl : Sl w B A (u64s xs)) (hn : xs.length = n) (hnc : n ≤ c) (hcm : c ≤ maxLen) (hu : ∀ u ∈ xs, u < 18446744073709551616) (hk : k = 1 ∨ (k = 0 ∧ 0 ≤ m ∧ m < 9223372036854775808)) :
    Calls Try.prog 45 #[.slice A n c, .int .i64 k, .int .i64 m] w (Rd9 w B xs (if k = 1 then gI xs else cI m xs)) := by
  match xs, hn, hsl, hu with
  | [], hn, _, _ =>
    obtain rfl : n = 0 := by simpa using hn.symm
    have e : (if k = 1 then gI [] else cI m []) = none := by
      rcases hk with rfl | ⟨rfl, _⟩ <;> rfl
    rw [e]
    exact rd9_nil k m A c B w
  | u :: r, hn, hsl, hu =>
    rcases hk with rfl | ⟨rfl, h1, h2⟩
    · exact rd9_1 u r m A n c B w hBw hsl (by simpa using hn) hnc hcm (hu u (by simp))
    · exact rd9_0 u r m A n c B w hBw hsl (by simpa using hn) hnc hcm h1 h2

/-- The document's reader: what is left, or that something wasn't right. -/
structure RR (w : World) (B q : Nat) (st : Option (List Nat)) : Prop where
  reads : ∃ A n c, Bk w q 28 #[.slice A n c, .bool st.isNone] ∧ B ≤ q ∧ ∀ xs, st = some xs → xs.length = n ∧ n ≤ c ∧ c ≤ maxLen ∧ Sl w B A (u64s xs) ∧ ∀ u ∈ xs, u < 18446744073709551616
theorem RR.fr {S : Nat → Prop} {w w' : World} {B q : Nat} {st : Option (List Nat)} (h : RR w B q st) (hf : Fr S w w') (hq : ¬ S q) (hS : ∀ k, S k → B ≤ k) : RR w' B q st := by
  obtain ⟨A, n, c, h1, h2, h3⟩ := h
  refine ⟨A, n, c, h1.fr hf hq, h2, fun xs hx => ?_⟩
  obtain ⟨a1, a2, a3, a4, a5⟩ := h3 xs hx
  exact ⟨a1, a2, a3, a4.fr hf (by have := h1.lt; omega) (fun ad e hne hs => by
    obtain ⟨ad', e', hb, _⟩ := a4 hne
    rw [e] at e'
    injection e' with e'
    subst e'
    have := hS _ hs
    omega), a5⟩
theorem RR.lt {w : World} {B q : Nat} {st : Option (List Nat)} (h : RR w B q st) : q < w.heap.size := by
  obtain ⟨_, _, _, h1, _⟩ := h
  exact h1.lt
/-- What a call that reads one thing leaves and tells. -/
def Itm (w : World) (B q : Nat) (o : Option ((Int × Int) × List Nat)) (e : Ending) (w' : World) : Prop :=
  ∃ k m : Int, e = .returned (itV k (((o.map (·.1)).getD (0, 0)).1) m (((o.map (·.1)).getD (0, 0)).2)) ∧ RR w' B q (o.map (·.2)) ∧ Fr (Only q) w w'
def cO (m : Int) (st : Option (List Nat)) : Option ((Int × Int) × List Nat) := st.bind fun xs => cI m xs
def gO (st : Option (List Nat)) : Option ((Int × Int) × List Nat) := st.bind fun xs => gI xs

set_option maxHeartbeats 2000000 in
theorem item_none (k m : Int) (q B : Nat) (w : World) (hr : RR w B q none) :
    Calls Try.prog 25 #[.pointer (some ⟨q, 0, none⟩), .int .i64 k, .int .i64 m] w (Itm w B q none) := by
  have hR := Lib.hid (hr.fr ((Fr.refl No w).alloc (.cells #[.int .i64 0, .int .i64 0, .int .i64 0, .int .i64 0, .string ⟨#[]⟩, .slice none 0 0] 64)) (fun e => e) (fun _ e => e.elim))
  obtain ⟨A, n, c, hb, hB, hx⟩ := hr
  have hql := hb.lt
  have k1 := hb.cell 1
  simp at k1
  clear hb hx
  go_enter Try.func25, Try.ntmps25
  go_wp2
  exact bodyPost_ret (v := .agg #[.int .i64 0, .int .i64 0, .int .i64 0, .int .i64 0, .string ⟨#[]⟩, .slice none 0 0]) (by simp [results, Try.results25, go_sem]) rfl ⟨0, 0, rfl, hR.out, (Fr.refl _ _).alloc _⟩

set_option maxHeartbeats 4000000 in
theorem item_some (k m : Int) (q B : Nat) (xs : List Nat) (o : Option ((Int × Int) × List Nat)) (w : World) (hr : RR w B q (some xs))
    (hC : ∀ (A : Option Addr) (n c : Nat) (W : World), Fr No w W → Sl W B A (u64s xs) → xs.length = n → n ≤ c → c ≤ maxLen → Calls Try.prog 45 #[.slice A n c, .int .i64 k, .int .i64 m] W (Rd9 W B xs o)) (ho64 : ∀ y, o = some y → ∀ u ∈ y.2, u < 18446744073709551616) :
    Calls Try.prog 25 #[.pointer (some ⟨q, 0, none⟩), .int .i64 k, .int .i64 m] w (Itm w B q o) := by
  obtain ⟨A, n, c, hb, hB, hx⟩ := hr
  obtain ⟨a1, a2, a3, a4, a5⟩ := hx xs rfl
  have hql := hb.lt
  have hf0 : Fr No w (w.alloc (.cells #[.int .i64 0, .int .i64 0, .int .i64 0, .int .i64 0, .string ⟨#[]⟩, .slice none 0 0] 64)) := (Fr.refl _ _).alloc _
  have hb0 := hb.fr hf0 (fun e => e)
  have hX0 := Bk.made w 64 #[.int .i64 0, .int .i64 0, .int .i64 0, .int .i64 0, .string ⟨#[]⟩, .slice none 0 0]
  have k0 := hb.cell 0
  have k1 := hb.cell 1
  simp at k0 k1
  have HC := Lib.hid (hC A n c _ hf0 (a4.fr hf0 (by omega) (fun _ _ _ e => e)) a1 a2 a3)
  have H64 := Lib.hid ho64
  have Hb0 := Lib.hid hb0
  have HX0 := Lib.hid hX0
  have hFO : Hid (Fr (Only q) w (w.alloc (.cells #[.int .i64 0, .int .i64 0, .int .i64 0, .int .i64 0, .string ⟨#[]⟩, .slice none 0 0] 64))) := Lib.hid (hf0.weak (fun _ _ h => h.elim))
  clear hC ho64 hx a1 a2 a3 a4 a5 hb hb0 hX0 hf0
  go_enter Try.func25, Try.ntmps25
  go_wp2_with fail
  refine (HC.out).mono ?_
  rintro e w1 ⟨hf1, ⟨k2, n2, m2, x2, r, A2, c2, ho, rfl, hs2, hc2, hcm2, hl2⟩ | ⟨k2, n2, m2, x2, v, ho, rfl⟩⟩
  · have hb1 := Hb0.out.fr hf1 (fun e => e)
    have hX1 := HX0.out.fr hf1 (fun e => e)
    have hql1 := hb1.lt
    have hXl1 := hX1.lt
    have hne : ¬ w.heap.size = q := by omega
    have hne' : ¬ q = w.heap.size := by omega
    have z0 := hb1.frozen 0
    have j0 := hb1.cell 0
    simp at j0
    have y0 := hX1.frozen 0
    have y1 := hX1.frozen 1
    have y2 := hX1.frozen 2
    have y3 := hX1.frozen 3
    have y4 := hX1.frozen 4
    have y5 := hX1.frozen 5
    have u0 := hX1.cell 0
    have u1 := hX1.cell 1
    have u2 := hX1.cell 2
    have u3 := hX1.cell 3
    have u4 := hX1.cell 4
    have u5 := hX1.cell 5
    simp at u0 u1 u2 u3 u4 u5
    have Ho := Lib.hid ho
    have Hs2 := Lib.hid hs2
    clear ho hs2
    simp only [itV]
    have hfin : Itm w B q o (.returned (itV k2 n2 m2 x2)) ((((((((w1.setCell ⟨q, 0, none⟩ (.slice A2 r.length c2)).setCell ⟨w.heap.size, 0, none⟩ (.int .i64 k2)).setCell ⟨w.heap.size, 1, none⟩ (.int .i64 n2)).setCell ⟨w.heap.size, 2, none⟩ (.int .i64 m2)).setCell ⟨w.heap.size, 3, none⟩ (.int .i64 x2)).setCell ⟨w.heap.size, 4, none⟩ (.string ⟨#[]⟩)).setCell ⟨w.heap.size, 5, none⟩ (.slice none 0 0)).alloc (.cells #[.int .i64 k2, .int .i64 n2, .int .i64 m2, .int .i64 x2, .string ⟨#[]⟩, .slice none 0 0] 64)) := by
      refine ⟨k2, m2, by rw [Ho.out]; rfl, ?_, (((((((((hFO.out.trans' hf1 (fun _ _ e => e.elim)).setCell (p := ⟨q, 0, none⟩) (.inl rfl) (.slice A2 r.length c2)).setCell (p := ⟨w.heap.size, 0, none⟩) (.inr (Nat.le_refl _)) (.int .i64 k2)).setCell (p := ⟨w.heap.size, 1, none⟩) (.inr (Nat.le_refl _)) (.int .i64 n2)).setCell (p := ⟨w.heap.size, 2, none⟩) (.inr (Nat.le_refl _)) (.int .i64 m2)).setCell (p := ⟨w.heap.size, 3, none⟩) (.inr (Nat.le_refl _)) (.int .i64 x2)).setCell (p := ⟨w.heap.size, 4, none⟩) (.inr (Nat.le_refl _)) (.string ⟨#[]⟩)).setCell (p := ⟨w.heap.size, 5, none⟩) (.inr (Nat.le_refl _)) (.slice none 0 0)).alloc _)⟩
      rw [Ho.out]
      have bq := (hb1.put 0 (.slice A2 r.length c2)).fr ((((((((Fr.refl (Only w.heap.size) (w1.setCell ⟨q, 0, none⟩ (.slice A2 r.length c2))).setCell (p := ⟨w.heap.size, 0, none⟩) (.inl rfl) (.int .i64 k2)).setCell (p := ⟨w.heap.size, 1, none⟩) (.inl rfl) (.int .i64 n2)).setCell (p := ⟨w.heap.size, 2, none⟩) (.inl rfl) (.int .i64 m2)).setCell (p := ⟨w.heap.size, 3, none⟩) (.inl rfl) (.int .i64 x2)).setCell (p := ⟨w.heap.size, 4, none⟩) (.inl rfl) (.string ⟨#[]⟩)).setCell (p := ⟨w.heap.size, 5, none⟩) (.inl rfl) (.slice none 0 0)).alloc (.cells #[.int .i64 k2, .int .i64 n2, .int .i64 m2, .int .i64 x2, .string ⟨#[]⟩, .slice none 0 0] 64)) (fun e => hne' e)
      refine ⟨A2, r.length, c2, by simpa using bq, hB, fun ys e => ?_⟩
      simp only [Option.map_some, Option.some.injEq] at e
      subst e
      have h1 : Sl w1 B A2 (u64s r) := Hs2.out.fr hf1 (by simp; omega) (fun _ _ _ e => e)
      refine ⟨rfl, hc2, hcm2, h1.fr (((((((((Fr.refl (fun k => k = q ∨ k = w.heap.size) w1).setCell (p := ⟨q, 0, none⟩) (.inl (.inl rfl)) (.slice A2 r.length c2)).setCell (p := ⟨w.heap.size, 0, none⟩) (.inl (.inr rfl)) (.int .i64 k2)).setCell (p := ⟨w.heap.size, 1, none⟩) (.inl (.inr rfl)) (.int .i64 n2)).setCell (p := ⟨w.heap.size, 2, none⟩) (.inl (.inr rfl)) (.int .i64 m2)).setCell (p := ⟨w.heap.size, 3, none⟩) (.inl (.inr rfl)) (.int .i64 x2)).setCell (p := ⟨w.heap.size, 4, none⟩) (.inl (.inr rfl)) (.string ⟨#[]⟩)).setCell (p := ⟨w.heap.size, 5, none⟩) (.inl (.inr rfl)) (.slice none 0 0)).alloc (.cells #[.int .i64 k2, .int .i64 n2, .int .i64 m2, .int .i64 x2, .string ⟨#[]⟩, .slice none 0 0] 64)) (by omega) (fun ad e hn hs => ?_), H64.out _ Ho.out⟩
      obtain ⟨ad', e', hlt, _⟩ := h1 hn
      rw [e] at e'
      injection e' with e'
      subst e'
      rcases hs with hs | hs <;> omega
    have HF := Lib.hid hfin
    have bX := (((((((hX1.fr ((Fr.refl (Only q) w1).setCell (p := ⟨q, 0, none⟩) (.inl rfl) (.slice A2 r.length c2)) hne).put 0 (.int .i64 k2)).put 1 (.int .i64 n2)).put 2 (.int .i64 m2)).put 3 (.int .i64 x2)).put 4 (.string ⟨#[]⟩)).put 5 (.slice none 0 0)).fr ((Fr.refl No _).alloc (.cells #[.int .i64 k2, .int .i64 n2, .int .i64 m2, .int .i64 x2, .string ⟨#[]⟩, .slice none 0 0] 64)) (fun e => e)
    have m0 := bX.cell 0
    have m1 := bX.cell 1
    have m2' := bX.cell 2
    have m3 := bX.cell 3
    have m4 := bX.cell 4
    have m5 := bX.cell 5
    simp at m0 m1 m2' m3 m4 m5
    have M : Hid (_ ∧ _ ∧ _ ∧ _ ∧ _ ∧ _) := Lib.hid ⟨m0, m1, m2', m3, m4, m5⟩
    clear hfin bX m0 m1 m2' m3 m4 m5
    go_wp2
    obtain ⟨m0, m1, m2', m3, m4, m5⟩ := M.out
    exact bodyPost_ret (v := .agg #[.int .i64 k2, .int .i64 n2, .int .i64 m2, .int .i64 x2, .string ⟨#[]⟩, .slice none 0 0]) (by simp [results, Try.results25, go_sem, m0, m1, m2', m3, m4, m5]) rfl HF.out
  · have hb1 := Hb0.out.fr hf1 (fun e => e)
    have hX1 := HX0.out.fr hf1 (fun e => e)
    have hql1 := hb1.lt
    have hXl1 := hX1.lt
    have hne : ¬ w.heap.size = q := by omega
    have z1 := hb1.frozen 1
    have j1 := hb1.cell 1
    simp at j1
    have y0 := hX1.frozen 0
    have y1 := hX1.frozen 1
    have y2 := hX1.frozen 2
    have y3 := hX1.frozen 3
    have y4 := hX1.frozen 4
    have y5 := hX1.frozen 5
    have u0 := hX1.cell 0
    have u1 := hX1.cell 1
    have u2 := hX1.cell 2
    have u3 := hX1.cell 3
    have u4 := hX1.cell 4
    have u5 := hX1.cell 5
    simp at u0 u1 u2 u3 u4 u5
    have Ho := Lib.hid ho
    clear ho
    simp only [itV]
    have hfin : Itm w B q o (.returned (itV 0 0 0 0)) ((((((((w1.setCell ⟨q, 1, none⟩ (.bool true)).setCell ⟨w.heap.size, 0, none⟩ (.int .i64 0)).setCell ⟨w.heap.size, 1, none⟩ (.int .i64 0)).setCell ⟨w.heap.size, 2, none⟩ (.int .i64 0)).setCell ⟨w.heap.size, 3, none⟩ (.int .i64 0)).setCell ⟨w.heap.size, 4, none⟩ (.string ⟨#[]⟩)).setCell ⟨w.heap.size, 5, none⟩ (.slice none 0 0)).alloc (.cells #[.int .i64 k2, .int .i64 n2, .int .i64 m2, .int .i64 x2, .string ⟨#[]⟩, .slice none 0 0] 64)) := by
      refine ⟨0, 0, by rw [Ho.out]; rfl, ?_, (((((((((hFO.out.trans' hf1 (fun _ _ e => e.elim)).setCell (p := ⟨q, 1, none⟩) (.inl rfl) (.bool true)).setCell (p := ⟨w.heap.size, 0, none⟩) (.inr (Nat.le_refl _)) (.int .i64 0)).setCell (p := ⟨w.heap.size, 1, none⟩) (.inr (Nat.le_refl _)) (.int .i64 0)).setCell (p := ⟨w.heap.size, 2, none⟩) (.inr (Nat.le_refl _)) (.int .i64 0)).setCell (p := ⟨w.heap.size, 3, none⟩) (.inr (Nat.le_refl _)) (.int .i64 0)).setCell (p := ⟨w.heap.size, 4, none⟩) (.inr (Nat.le_refl _)) (.string ⟨#[]⟩)).setCell (p := ⟨w.heap.size, 5, none⟩) (.inr (Nat.le_refl _)) (.slice none 0 0)).alloc _)⟩
      rw [Ho.out]
      have bq := (hb1.put 1 (.bool true)).fr ((((((((Fr.refl (Only w.heap.size) (w1.setCell ⟨q, 1, none⟩ (.bool true))).setCell (p := ⟨w.heap.size, 0, none⟩) (.inl rfl) (.int .i64 0)).setCell (p := ⟨w.heap.size, 1, none⟩) (.inl rfl) (.int .i64 0)).setCell (p := ⟨w.heap.size, 2, none⟩) (.inl rfl) (.int .i64 0)).setCell (p := ⟨w.heap.size, 3, none⟩) (.inl rfl) (.int .i64 0)).setCell (p := ⟨w.heap.size, 4, none⟩) (.inl rfl) (.string ⟨#[]⟩)).setCell (p := ⟨w.heap.size, 5, none⟩) (.inl rfl) (.slice none 0 0)).alloc (.cells #[.int .i64 k2, .int .i64 n2, .int .i64 m2, .int .i64 x2, .string ⟨#[]⟩, .slice none 0 0] 64)) (fun e => hne e.symm)
      exact ⟨A, n, c, by simpa using bq, hB, fun ys e => by cases e⟩
    have HF := Lib.hid hfin
    have bX := (((((((hX1.fr ((Fr.refl (Only q) w1).setCell (p := ⟨q, 1, none⟩) (.inl rfl) (.bool true)) hne).put 0 (.int .i64 0)).put 1 (.int .i64 0)).put 2 (.int .i64 0)).put 3 (.int .i64 0)).put 4 (.string ⟨#[]⟩)).put 5 (.slice none 0 0)).fr ((Fr.refl No _).alloc (.cells #[.int .i64 k2, .int .i64 n2, .int .i64 m2, .int .i64 x2, .string ⟨#[]⟩, .slice none 0 0] 64)) (fun e => e)
    have m0 := bX.cell 0
    have m1 := bX.cell 1
    have m2' := bX.cell 2
    have m3 := bX.cell 3
    have m4 := bX.cell 4
    have m5 := bX.cell 5
    simp at m0 m1 m2' m3 m4 m5
    have M : Hid (_ ∧ _ ∧ _ ∧ _ ∧ _ ∧ _) := Lib.hid ⟨m0, m1, m2', m3, m4, m5⟩
    clear hfin bX m0 m1 m2' m3 m4 m5
    go_wp2
    obtain ⟨m0, m1, m2', m3, m4, m5⟩ := M.out
    exact bodyPost_ret (v := .agg #[.int .i64 0, .int .i64 0, .int .i64 0, .int .i64 0, .string ⟨#[]⟩, .slice none 0 0]) (by simp [results, Try.results25, go_sem, m0, m1, m2', m3, m4, m5]) rfl HF.out

/-- What is left behind an item fits words too. -/
theorem cI_64 {m : Int} {xs : List Nat} (h : ∀ u ∈ xs, u < 18446744073709551616) : ∀ y, cI m xs = some y → ∀ u ∈ y.2, u < 18446744073709551616 := by
  intro y hy u hu
  match xs, h, hy with
  | [], _, hy => simp [cI, cntR] at hy
  | v :: r, h, hy =>
    simp only [cI, cntR] at hy
    split at hy
    · simp at hy
      subst hy
      exact h u (by simp at hu; simp [hu])
    · simp at hy
theorem gI_64 {xs : List Nat} (h : ∀ u ∈ xs, u < 18446744073709551616) : ∀ y, gI xs = some y → ∀ u ∈ y.2, u < 18446744073709551616 := by
  intro y hy u hu
  match xs, h, hy with
  | [], _, hy => simp [gI, sgnR] at hy
  | v :: r, h, hy =>
    simp [gI, sgnR] at hy
    subst hy
    exact h u (by simp at hu; simp [hu])
theorem RR.words {w : World} {B q : Nat} {xs : List Nat} (h : RR w B q (some xs)) : ∀ u ∈ xs, u < 18446744073709551616 := by
  obtain ⟨_, _, _, _, _, h3⟩ := h
  exact (h3 xs rfl).2.2.2.2
/-- A count, as the document's reader reads it. -/
theorem itemN_any (m : Int) (q B : Nat) (st : Option (List Nat)) (w : World) (hr : RR w B q st) (hm : 0 ≤ m ∧ m < 9223372036854775808) :
    Calls Try.prog 25 #[.pointer (some ⟨q, 0, none⟩), .int .i64 0, .int .i64 m] w fun e w' => ∃ k m' x : Int, e = .returned (itV k (cV m st) m' x) ∧ RR w' B q (cS m st) ∧ Fr (Only q) w w' := by
  have h : Calls Try.prog 25 #[.pointer (some ⟨q, 0, none⟩), .int .i64 0, .int .i64 m] w (Itm w B q (cO m st)) := by
    cases st with
    | none => exact item_none 0 m q B w hr
    | some xs => exact item_some 0 m q B xs (cI m xs) w hr (fun A n c W hW hs h1 h2 h3 => rd9_any 0 m xs A n c B W (by obtain ⟨_, _, _, k1, k2, _⟩ := hr; have := k1.lt; have := hW.size; omega) hs h1 h2 h3 hr.words (.inr ⟨rfl, hm.1, hm.2⟩)) (cI_64 hr.words)
  refine h.mono fun e w' h => ?_
  obtain ⟨k, m', h1, h2, h3⟩ := h
  have e1 : (((cO m st).map (·.1)).getD (0, 0)).1 = cV m st := by
    cases st with
    | none => rfl
    | some xs =>
      simp only [cO, Option.bind_some, cI, cV]
      cases cntR m (some xs) <;> rfl
  have e2 : (cO m st).map (·.2) = cS m st := by
    cases st with
    | none => rfl
    | some xs =>
      simp only [cO, Option.bind_some, cI, cS]
      cases cntR m (some xs) <;> rfl
  rw [e1] at h1
  rw [e2] at h2
  exact ⟨k, m', _, h1, h2, h3⟩
/-- A number with a sign. -/
theorem itemS_any (q B : Nat) (st : Option (List Nat)) (w : World) (hr : RR w B q st) :
    Calls Try.prog 25 #[.pointer (some ⟨q, 0, none⟩), .int .i64 1, .int .i64 0] w fun e w' => ∃ k n m : Int, e = .returned (itV k n m (gV st)) ∧ RR w' B q (gS st) ∧ Fr (Only q) w w' := by
  have h : Calls Try.prog 25 #[.pointer (some ⟨q, 0, none⟩), .int .i64 1, .int .i64 0] w (Itm w B q (gO st)) := by
    cases st with
    | none => exact item_none 1 0 q B w hr
    | some xs => exact item_some 1 0 q B xs (gI xs) w hr (fun A n c W hW hs h1 h2 h3 => rd9_any 1 0 xs A n c B W (by obtain ⟨_, _, _, k1, k2, _⟩ := hr; have := k1.lt; have := hW.size; omega) hs h1 h2 h3 hr.words (.inl rfl)) (gI_64 hr.words)
  refine h.mono fun e w' h => ?_
  obtain ⟨k, m', h1, h2, h3⟩ := h
  have e1 : (((gO st).map (·.1)).getD (0, 0)).2 = gV st := by
    cases st with
    | none => rfl
    | some xs =>
      simp only [gO, Option.bind_some, gI, gV]
      cases sgnR (some xs) <;> rfl
  have e2 : (gO st).map (·.2) = gS st := by
    cases st with
    | none => rfl
    | some xs =>
      simp only [gO, Option.bind_some, gI, gS]
      cases sgnR (some xs) <;> rfl
  rw [e1] at h1
  rw [e2] at h2
  exact ⟨k, _, m', h1, h2, h3⟩
end Go.Proofs.Ytnlmhcfkipkegaa
