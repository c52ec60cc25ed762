import Derived.Test.YteakdcnbjcnpnaaLawR1
namespace Go.Proofs.Yteakdcnbjcnpnaa
open Go.RowKit

set_option maxHeartbeats 400000 in
theorem refBack_any (u : Nat) (hu : u < 18446744073709551616) (w : World) :
    Calls Try.prog 25 #[.int .u64 u] w fun e w' => e = .returned (.int .i64 (uns u)) ∧ w = w' := by
  by_cases h : u % 2 = 0
  · have hb : (((u : Int) % 2) == 0) = true := by rw [beq_iff_eq]; omega
    have Hu : Hid (uns u = (u : Int) / 2) := Lib.hid (by unfold uns; rw [if_pos h]; omega)
    go_enter Try.func25, Try.ntmps25
    go_wp2
    go_ret
    exact ⟨by rw [Hu.out]; simp, rfl⟩
  · have hb : (((u : Int) % 2) == 0) = false := by rw [beq_eq_false_iff_ne]; omega
    have Hu : Hid (uns u = -((u : Int) / 2) - 1) := Lib.hid (by unfold uns; rw [if_neg h]; omega)
    go_enter Try.func25, Try.ntmps25
    go_wp2
    go_ret
    exact ⟨by rw [Hu.out]; simp, rfl⟩

/-- What the document's 'Read' answers of the words xs, for a kind and a most. -/
def RefRead (w : World) (xs : List Nat) (k most : Int) (e : Ending) (w' : World) : Prop :=
  Fr No w w' ∧ ((∃ (t : It) (r : List Nat) (A' : Option Addr) (c' : Nat), t.kind = k ∧ t.most = most ∧ e = .returned (.tuple #[t.val, .slice A' r.length c', .bool true]) ∧ t.isB (some xs) = true ∧ t.rest (some xs) = some r ∧
      Sl w' w'.heap.size A' (u64s r) ∧ r.length ≤ c' ∧ c' ≤ maxLen ∧ Sl w' w'.heap.size t.A (u64s t.L) ∧ t.L.length ≤ xs.length ∧ r.length ≤ xs.length) ∨
    (∃ (P : Option Addr) (a b : Nat) (v : Value), e = .returned (.tuple #[.agg #[.int .i64 k, .int .i64 0, .int .i64 most, .int .i64 0, .string ⟨#[]⟩, .slice P a b], v, .bool false]) ∧ ∀ t : It, t.kind = k → t.most = most → t.rest (some xs) = none))

/-- Behind the first word. -/
theorem sl_tail {w w' : World} {A : Option Addr} {u : Nat} {xs : List Nat} {c : Nat} (h : Sl w w.heap.size A (u64s (u :: xs))) (hc : xs.length + 1 ≤ c) (hf : Fr No w w') :
    Sl w' w'.heap.size (if c = 1 then A else A.map (·.add 1)) (u64s xs) := by
  have h1 := h.drop (k := 1) (n := xs.length + 1) (cap := c) (sz := 1) (by simp [u64s]) (by omega) hc
  exact (h1.fr hf (Nat.le_refl _) (fun _ _ _ => id)).more hf.size

theorem run_slice_from {P : Program} (t e : TypeId) (i : TypeInfo) (ht : P.underlying t = some (.slice e)) (hi : P.info? e = some i) (h1 : i.size = 1) (A : Option Addr) (n c k : Nat) (K : Int) (hK : K = k) (hk : k ≤ n) (W : World) :
    (Instr.slice t (.slice A n c) (some (.int .i64 K)) none none).run P W = .ok (.slice (if c = k then A else A.map (·.add k)) (n - k) (c - k)) W := by
  subst hK
  have hb : (Instr.sliceBound (.int .i64 (k : Int)) n .sliceB).run P W = .ok k W := by
    have := run_sliceBound (P := P) (w := W) .i64 (k : Int) n .sliceB (by omega) (by omega)
    simpa using this
  simp [Instr.slice, Instr.sliceBounds, run_underlying ht, hb, sizeOf, typeInfo, hi, h1]

/-- The item's value as it begins. -/
theorem read_end {w w1 w' : World} {xs r : List Nat} {k most : Int} {t : It} {A' : Option Addr} {c' : Nat} {e : Ending} {B : Nat} (hf : Fr No w w1) (hf2 : Fr No w1 w') (hk : t.kind = k) (hm : t.most = most) (he : e = .returned (.tuple #[t.val, .slice A' r.length c', .bool true])) (hB : t.isB (some xs) = true) (hR : t.rest (some xs) = some r)
    (hsl : Sl w1 B A' (u64s r)) (hBw : B ≤ w1.heap.size) (hc : r.length ≤ c' ∧ c' ≤ maxLen) (hL : Sl w' w'.heap.size t.A (u64s t.L)) (hl : t.L.length ≤ xs.length ∧ r.length ≤ xs.length) : RefRead w xs k most e w' :=
  ⟨hf.then0 hf2 (fun _ h => h.elim), .inl ⟨t, r, A', c', hk, hm, he, hB, hR, ((hsl.more hBw).fr hf2 (Nat.le_refl _) (fun _ _ _ => id)).more hf2.size, hc.1, hc.2, hL, hl.1, hl.2⟩⟩

set_option maxHeartbeats 2000000 in
theorem refRead_nil (k most : Int) (A : Option Addr) (c : Nat) (w : World) (hk : 0 ≤ k ∧ k ≤ 4) : Calls Try.prog 13 #[.slice A 0 c, .int .i64 k, .int .i64 most] w (RefRead w [] k most) := by
  go_enter Try.func13, Try.ntmps13
  go_wp2
  refine bodyPost_ret (v := .tuple #[.agg #[.int .i64 k, .int .i64 0, .int .i64 most, .int .i64 0, .string ⟨#[]⟩, .slice none 0 0], .slice A 0 c, .bool false]) (by simp [results, Try.results13, go_sem]) rfl ⟨((Fr.refl _ _).alloc _).alloc _, .inr ⟨_, _, _, _, rfl, ?_⟩⟩
  intro t h1 h2
  rcases (show t.kind = 0 ∨ t.kind = 1 ∨ t.kind = 2 ∨ t.kind = 3 ∨ t.kind = 4 by omega) with h | h | h | h | h <;> simp [It.rest, h, cntR, sgnR, flagR, textR, wordsR]

set_option maxHeartbeats 2000000 in
theorem refRead_1 (u : Nat) (xs : List Nat) (most : Int) (A : Option Addr) (n c : Nat) (w : World) (hsl : Sl w w.heap.size A (u64s (u :: xs))) (hn : xs.length + 1 = n) (hnc : n ≤ c) (hcm : c ≤ maxLen) (hu : u < 18446744073709551616) :
    Calls Try.prog 13 #[.slice A n c, .int .i64 1, .int .i64 most] w (RefRead w (u :: xs) 1 most) := by
  obtain ⟨ad, rfl, hadw, hc0⟩ := hsl.wordB (k := 0) (by simp)
  have hc0 : w.cell? ad = some (.int .u64 u) := hc0
  have hs1 := sl_tail (c := c) hsl (by omega) (Fr.refl No w)
  obtain ⟨i0, hi0, hz0, hz1, hz2⟩ := info_parts info43
  have hrs := fun W => run_slice_from (P := Try.prog) 25 43 i0 Try.underlying25 hi0 hz1 (some ad) n c 1 1 rfl (by omega) W
  generalize (if c = 1 then some ad else (some ad).map (·.add 1)) = A1 at *
  have Hs1 := Lib.hid hs1
  have Hn := Lib.hid hn
  have Hcm := Lib.hid hcm
  have hn0 : 1 ≤ n := by omega
  have hnz : ((n : Int) == 0) = false := by rw [beq_eq_false_iff_ne]; omega
  clear hsl hn hs1 hi0 hz0 hz1 hz2 hcm
  go_enter Try.func13, Try.ntmps13
  go_wp2_with (go_at_call 25; refine (refBack_any u hu _).mono ?_; rintro e w' ⟨rfl, rfl⟩)
  refine bodyPost_ret (v := .tuple #[.agg #[.int .i64 1, .int .i64 0, .int .i64 most, .int .i64 (uns u), .string ⟨#[]⟩, .slice none 0 0], .slice A1 (n - 1) (c - 1), .bool true]) (by simp [results, Try.results13, go_sem]) rfl ?_
  have hxl : xs.length = n - 1 := by have := Hn.out; omega
  exact read_end (r := xs) (t := ⟨1, 0, most, uns u, ⟨#[]⟩, [], none, 0⟩) (B := w.heap.size) (Fr.refl No w) (by repeat (first | exact Fr.refl _ _ | refine Fr.alloc ?_ _ | refine Fr.setCell ?_ (.inr (by simp)) _)) rfl rfl (by rw [hxl]; rfl) (by simp [It.isB, sgnR]) (by simp [It.rest, sgnR]) Hs1.out (Nat.le_refl _)
    ⟨by omega, by have := Hcm.out; omega⟩ (Sl.nil _ _ _) ⟨by simp, by simp⟩
set_option maxHeartbeats 2000000 in
theorem refRead_0 (u : Nat) (xs : List Nat) (most : Int) (A : Option Addr) (n c : Nat) (w : World) (hsl : Sl w w.heap.size A (u64s (u :: xs))) (hn : xs.length + 1 = n) (hnc : n ≤ c) (hcm : c ≤ maxLen) (hu : u < 18446744073709551616) (hm1 : -9223372036854775808 ≤ most) (hm2 : most < 9223372036854775808) :
    Calls Try.prog 13 #[.slice A n c, .int .i64 0, .int .i64 most] w (RefRead w (u :: xs) 0 most) := by
  obtain ⟨ad, rfl, hadw, hc0⟩ := hsl.wordB (k := 0) (by simp)
  have hc0 : w.cell? ad = some (.int .u64 u) := hc0
  have hs1 := sl_tail (c := c) hsl (by omega) (Fr.refl No w)
  obtain ⟨i0, hi0, hz0, hz1, hz2⟩ := info_parts info43
  have hrs := fun W => run_slice_from (P := Try.prog) 25 43 i0 Try.underlying25 hi0 hz1 (some ad) n c 1 1 rfl (by omega) W
  generalize (if c = 1 then some ad else (some ad).map (·.add 1)) = A1 at *
  have Hs1 := Lib.hid hs1
  have Hn := Lib.hid hn
  have Hcm := Lib.hid hcm
  have hn0 : 1 ≤ n := by omega
  have hnz : ((n : Int) == 0) = false := by rw [beq_eq_false_iff_ne]; omega
  clear hsl hn hs1 hi0 hz0 hz1 hz2 hcm
  by_cases hm : most < 0
  · have hd : decide (most < 0) = true := by simpa using hm
    go_enter Try.func13, Try.ntmps13
    go_wp2
    refine bodyPost_ret (v := .tuple #[.agg #[.int .i64 0, .int .i64 0, .int .i64 most, .int .i64 0, .string ⟨#[]⟩, .slice none 0 0], .slice (some ad) n c, .bool false]) (by simp [results, Try.results13, go_sem]) rfl ⟨(by repeat (first | exact Fr.refl _ _ | refine Fr.alloc ?_ _ | refine Fr.setCell ?_ (.inr (by simp)) _)), .inr ⟨_, _, _, _, rfl, ?_⟩⟩
    intro t q1 q2
    simp [It.rest, q1, q2, cntR]
    try omega
  · have hd : decide (most < 0) = false := by simpa using hm
    have hw : IntKind.u64.wrap most = most := IntWalk.u64_in _ (by omega)
    by_cases hum : (u : Int) ≤ most
    · have hd2 : decide (most < (u : Int)) = false := by simp; omega
      go_enter Try.func13, Try.ntmps13
      go_wp2
      refine bodyPost_ret (v := .tuple #[.agg #[.int .i64 0, .int .i64 u, .int .i64 most, .int .i64 0, .string ⟨#[]⟩, .slice none 0 0], .slice A1 (n - 1) (c - 1), .bool true]) (by simp [results, Try.results13, go_sem]) rfl ?_
      have hxl : xs.length = n - 1 := by have := Hn.out; omega
      have hcn : cntR most (some (u :: xs)) = some (u, xs) := by simp only [cntR]; rw [if_pos (by omega)]
      exact read_end (r := xs) (t := ⟨0, u, most, 0, ⟨#[]⟩, [], none, 0⟩) (B := w.heap.size) (Fr.refl No w) (by repeat (first | exact Fr.refl _ _ | refine Fr.alloc ?_ _ | refine Fr.setCell ?_ (.inr (by simp)) _)) rfl rfl (by rw [hxl]; rfl) (by simp [It.isB, hcn]) (by simp [It.rest, hcn]) Hs1.out (Nat.le_refl _)
        ⟨by omega, by have := Hcm.out; omega⟩ (Sl.nil _ _ _) ⟨by simp, by simp⟩
    · have hd2 : decide (most < (u : Int)) = true := by simp; omega
      go_enter Try.func13, Try.ntmps13
      go_wp2
      refine bodyPost_ret (v := .tuple #[.agg #[.int .i64 0, .int .i64 0, .int .i64 most, .int .i64 0, .string ⟨#[]⟩, .slice none 0 0], .slice (some ad) n c, .bool false]) (by simp [results, Try.results13, go_sem]) rfl ⟨(by repeat (first | exact Fr.refl _ _ | refine Fr.alloc ?_ _ | refine Fr.setCell ?_ (.inr (by simp)) _)), .inr ⟨_, _, _, _, rfl, ?_⟩⟩
      intro t q1 q2
      simp [It.rest, q1, q2, cntR]
      try omega

set_option maxHeartbeats 2000000 in
theorem refRead_2 (u : Nat) (xs : List Nat) (most : Int) (A : Option Addr) (n c : Nat) (w : World) (hsl : Sl w w.heap.size A (u64s (u :: xs))) (hn : xs.length + 1 = n) (hnc : n ≤ c) (hcm : c ≤ maxLen) (hu : u < 18446744073709551616) :
    Calls Try.prog 13 #[.slice A n c, .int .i64 2, .int .i64 most] w (RefRead w (u :: xs) 2 most) := by
  obtain ⟨ad, rfl, hadw, hc0⟩ := hsl.wordB (k := 0) (by simp)
  have hc0 : w.cell? ad = some (.int .u64 u) := hc0
  have hs1 := sl_tail (c := c) hsl (by omega) (Fr.refl No w)
  obtain ⟨i0, hi0, hz0, hz1, hz2⟩ := info_parts info43
  have hrs := fun W => run_slice_from (P := Try.prog) 25 43 i0 Try.underlying25 hi0 hz1 (some ad) n c 1 1 rfl (by omega) W
  generalize (if c = 1 then some ad else (some ad).map (·.add 1)) = A1 at *
  have Hs1 := Lib.hid hs1
  have Hn := Lib.hid hn
  have Hcm := Lib.hid hcm
  have hn0 : 1 ≤ n := by omega
  have hnz : ((n : Int) == 0) = false := by rw [beq_eq_false_iff_ne]; omega
  clear hsl hn hs1 hi0 hz0 hz1 hz2 hcm
  by_cases hum : (u : Int) ≤ 1
  · have hd2 : decide (1 < (u : Int)) = false := by simp; omega
    go_enter Try.func13, Try.ntmps13
    go_wp2
    refine bodyPost_ret (v := .tuple #[.agg #[.int .i64 2, .int .i64 u, .int .i64 most, .int .i64 0, .string ⟨#[]⟩, .slice none 0 0], .slice A1 (n - 1) (c - 1), .bool true]) (by simp [results, Try.results13, go_sem]) rfl ?_
    have hxl : xs.length = n - 1 := by have := Hn.out; omega
    have hcn : flagR (some (u :: xs)) = some (u == 1, xs) := by simp only [flagR]; rw [if_pos (by omega)]
    have hbb : (u == 1) = ((u : Int) == 1) := by rw [Bool.eq_iff_iff, beq_iff_eq, beq_iff_eq]; omega
    exact read_end (r := xs) (t := ⟨2, u, most, 0, ⟨#[]⟩, [], none, 0⟩) (B := w.heap.size) (Fr.refl No w) (by repeat (first | exact Fr.refl _ _ | refine Fr.alloc ?_ _ | refine Fr.setCell ?_ (.inr (by simp)) _)) rfl rfl (by rw [hxl]; rfl) (by simp [It.isB, hcn, hbb]) (by simp [It.rest, hcn]) Hs1.out (Nat.le_refl _)
      ⟨by omega, by have := Hcm.out; omega⟩ (Sl.nil _ _ _) ⟨by simp, by simp⟩
  · have hd2 : decide (1 < (u : Int)) = true := by simp; omega
    go_enter Try.func13, Try.ntmps13
    go_wp2
    refine bodyPost_ret (v := .tuple #[.agg #[.int .i64 2, .int .i64 0, .int .i64 most, .int .i64 0, .string ⟨#[]⟩, .slice none 0 0], .slice (some ad) n c, .bool false]) (by simp [results, Try.results13, go_sem]) rfl ⟨(by repeat (first | exact Fr.refl _ _ | refine Fr.alloc ?_ _ | refine Fr.setCell ?_ (.inr (by simp)) _)), .inr ⟨_, _, _, _, rfl, ?_⟩⟩
    intro t q1 q2
    simp [It.rest, q1, flagR]
    omega

end Go.Proofs.Yteakdcnbjcnpnaa
