/- What package prog reads as a template, an instruction and a program. -/
import Derived.Test.YtmabapbdnafpfaaRrd9
namespace Go.Proofs.Ytmabapbdnafpfaa
open Go.RowKit

section
variable {G : Nat → Prop}
theorem kS_some {s : Option (List Nat)} (h : (kS s).isSome = true) : ∃ y, keyR s = some y ∧ kV s = y.1 := by
  unfold kS at h
  unfold kV
  cases h1 : keyR s with
  | none => rw [h1] at h; cases h
  | some y => exact ⟨y, rfl, rfl⟩
theorem keyR_none : keyR none = none := rfl
/-- What an instruction is, of its parts. -/
theorem insR_parts {st s1 s2 s3 s4 s5 s6 : Option (List Nat)} (h1 : s1 = cS 255 st) (h2 : s2 = cS 255 s1) (h3 : s3 = cS 255 s2) (h4 : s4 = cS 255 s3) (h5 : s5 = kS s4) (h6 : s6 = kS s5) {x y : Int × Int} (hx : ∀ q, keyR s4 = some q → q.1 = x) (hy : ∀ q, keyR s5 = some q → q.1 = y) :
    (insR st).map (·.2) = gS s6 ∧ ∀ q, insR st = some q → q.1 = ⟨cV 255 st, cV 255 s1, cV 255 s2, cV 255 s3, x.1, x.2, y.1, y.2, gV s6⟩ := by
  have e : insR st = (sgnR s6).map fun q => (⟨cV 255 st, cV 255 s1, cV 255 s2, cV 255 s3, (kV s4).1, (kV s4).2, (kV s5).1, (kV s5).2, q.1⟩, q.2) := by
    rw [h6, h5, h4, h3, h2, h1]
    rfl
  refine ⟨by rw [e, Option.map_map]; rfl, fun q hq => ?_⟩
  rw [e] at hq
  cases h7 : sgnR s6 with
  | none => rw [h7] at hq; cases hq
  | some z =>
    rw [h7] at hq
    simp only [Option.map_some, Option.some.injEq] at hq
    have n6 : s6.isSome = true := by
      cases s6 with
      | none => cases h7
      | some _ => rfl
    rw [h6] at n6
    obtain ⟨y5, g1, g2⟩ := kS_some n6
    have n5 : s5.isSome = true := by
      cases s5 with
      | none => rw [keyR_none] at g1; cases g1
      | some _ => rfl
    rw [h5] at n5
    obtain ⟨y4, g3, g4⟩ := kS_some n5
    rw [← hq, g2, g4, hx y4 g3, hy y5 g1, gV, h7]
    rfl

theorem ins_one (i : Ins) : ∀ u ∈ i.cells.toArray.toList, u.oneCell' = true := by
  intro u hu
  simp only [Ins.cells, List.mem_cons, List.not_mem_nil, or_false] at hu
  rcases hu with rfl | rfl | rfl | rfl | rfl | rfl | rfl | rfl | rfl <;> rfl
end
end Go.Proofs.Ytmabapbdnafpfaa
/- What the document's own reader reads as a program. -/
namespace Go.Proofs.Ytmabapbdnafpfaa
open Go.RowKit

end Go.Proofs.Ytmabapbdnafpfaa
/- Footprints, purely: which may be; their words; what is read as one. -/
namespace Go.Proofs.Ytmabapbdnafpfaa
open Go.RowKit

/-- A span of templates. -/
structure Fsp where
  la : Int
  lb : Int
  ha : Int
  hb : Int
  wr : Bool
def Fsp.cells (f : Fsp) : List Value := [.int .i64 f.la, .int .i64 f.lb, .int .i64 f.ha, .int .i64 f.hb, .bool f.wr]
theorem Fsp.cells_len (f : Fsp) : f.cells.length = 5 := rfl
def Fsp.agg (f : Fsp) : Value := .agg #[.int .i64 f.la, .int .i64 f.lb, .int .i64 f.ha, .int .i64 f.hb, .bool f.wr]
structure Fsp.I (f : Fsp) : Prop where
  la : I64 f.la
  lb : I64 f.lb
  ha : I64 f.ha
  hb : I64 f.hb
theorem Sl.fsp {w : World} {B : Nat} {A : Option Addr} {l : List Fsp} (h : Sl w B A (l.flatMap Fsp.cells)) {k : Nat} (hk : k < l.length) :
    ∃ ad, A = some ad ∧ ad.block < B ∧ w.cell? (ad.add (k * 5)) = some (.int .i64 l[k].la) ∧ w.cell? ⟨(ad.add (k * 5)).block, (ad.add (k * 5)).off + 1, none⟩ = some (.int .i64 l[k].lb) ∧
      w.cell? ⟨(ad.add (k * 5)).block, (ad.add (k * 5)).off + 2, none⟩ = some (.int .i64 l[k].ha) ∧ w.cell? ⟨(ad.add (k * 5)).block, (ad.add (k * 5)).off + 3, none⟩ = some (.int .i64 l[k].hb) ∧
      w.cell? ⟨(ad.add (k * 5)).block, (ad.add (k * 5)).off + 4, none⟩ = some (.bool l[k].wr) := by
  obtain ⟨ad, e, hb, hc⟩ := h.row 5 Fsp.cells_len hk (by omega)
  exact ⟨ad, e, hb, hc 0 _ rfl, hc 1 _ rfl, hc 2 _ rfl, hc 3 _ rfl, hc 4 _ rfl⟩
/-- May a span of templates be, for so many arguments? -/
def fspOk (f : Fsp) (n : Int) : Bool := keyOk f.la f.lb n && keyOk f.ha f.hb n
/-- May a footprint be? -/
def footOk (l : List Fsp) (n : Int) : Bool := decide (0 ≤ n ∧ n ≤ 3) && (decide (l.length ≤ 4) && l.all fun f => fspOk f n)
/-- For arguments? -/
def footRight (l : List Fsp) (gs : List Int) : Bool := argsOk gs && footOk l gs.length
/-- The span that it is for arguments, as a pair of keys. -/
def fspOf (f : Fsp) (gs : List Int) : Int × Int := (keyOf f.la f.lb gs, keyOf f.ha f.hb gs)
/-- What it reads, and what it writes. -/
def footReads (l : List Fsp) (gs : List Int) : List (Int × Int) := l.map fun f => fspOf f gs
def footWrites (l : List Fsp) (gs : List Int) : List (Int × Int) := (l.filter fun f => f.wr).map fun f => fspOf f gs
theorem fspOf_range {f : Fsp} {gs : List Int} (hf : fspOk f gs.length = true) (ha : argsOk gs = true) : (0 ≤ (fspOf f gs).1 ∧ (fspOf f gs).1 ≤ 999) ∧ (0 ≤ (fspOf f gs).2 ∧ (fspOf f gs).2 ≤ 999) := by
  unfold fspOk at hf
  rw [Bool.and_eq_true] at hf
  exact ⟨keyOf_range hf.1 ha, keyOf_range hf.2 ha⟩
/-- Its words. -/
def flagW (b : Bool) : Nat := if b = true then 1 else 0
def wordsF1 (f : Fsp) : List Nat := [sgn f.la, f.lb.toNat, sgn f.ha, f.hb.toNat, flagW f.wr]
theorem wordsF1_len (f : Fsp) : (wordsF1 f).length = 5 := rfl
def wordsF (l : List Fsp) : List Nat := l.length :: l.flatMap wordsF1
theorem wordsF1_flat (l : List Fsp) : (l.flatMap wordsF1).length = l.length * 5 := by
  induction l with
  | nil => simp
  | cons x r ih => rw [List.flatMap_cons, List.length_append, wordsF1_len, ih, List.length_cons]; omega

/-- A flag that is read. -/
def fS (st : Option (List Nat)) : Option (List Nat) := (flagR st).map (·.2)
def fV (st : Option (List Nat)) : Bool := ((flagR st).map (·.1)).getD false
/-- A span of templates that is read. -/
def fspR (st : Option (List Nat)) : Option (Fsp × List Nat) := (flagR (kS (kS st))).map fun q => (⟨(kV st).1, (kV st).2, (kV (kS st)).1, (kV (kS st)).2, q.1⟩, q.2)
theorem fspR_none : fspR none = none := rfl
def stF : Nat → Option (List Nat) → Option (List Nat)
  | 0, st => st
  | k + 1, st => (fspR (stF k st)).map (·.2)
def lsF : Nat → Option (List Nat) → List Fsp
  | 0, _ => []
  | k + 1, st => lsF k st ++ [((fspR (stF k st)).map (·.1)).getD ⟨0, 0, 0, 0, false⟩]
theorem lsF_len (k : Nat) (st : Option (List Nat)) : (lsF k st).length = k := by
  induction k with
  | zero => rfl
  | succ k ih => simp [lsF, ih]
def gotFN (st : Option (List Nat)) : Nat := ((cntR 4 st).map (·.1)).getD 0
def gotFS (st : Option (List Nat)) : Option (List Nat) := stF (gotFN st) (cS 4 st)
def gotFL (st : Option (List Nat)) : List Fsp := if (gotFS st).isSome = true then lsF (gotFN st) (cS 4 st) else []
theorem gotFN_le (st : Option (List Nat)) : gotFN st ≤ 4 := by
  unfold gotFN
  match st with
  | none => simp [cntR]
  | some [] => simp [cntR]
  | some (u :: r) =>
    simp only [cntR]
    split
    · simp
      omega
    · simp
theorem lsF_next {k : Nat} {st : Option (List Nat)} {L : List Fsp} {x : Fsp} (h : (stF k st).isSome = true → L = lsF k st) (hx : ∀ q, fspR (stF k st) = some q → q.1 = x) : (stF (k + 1) st).isSome = true → L ++ [x] = lsF (k + 1) st := by
  intro h1
  cases h2 : fspR (stF k st) with
  | none => simp [stF, h2] at h1
  | some q =>
    have h3 : (stF k st).isSome = true := by
      cases h4 : stF k st with
      | none => rw [h4, fspR_none] at h2; cases h2
      | some _ => rfl
    rw [lsF, h2, h h3, ← hx q h2]
    rfl
theorem flagR_back (b : Bool) (r : List Nat) : flagR (some (flagW b :: r)) = some (b, r) := by
  cases b <;> simp [flagR, flagW]
/-- A span that fits what is read. -/
structure Fsp.Small (f : Fsp) : Prop where
  la : -1 ≤ f.la ∧ f.la ≤ 255
  lb : 0 ≤ f.lb ∧ f.lb ≤ 999
  ha : -1 ≤ f.ha ∧ f.ha ≤ 255
  hb : 0 ≤ f.hb ∧ f.hb ≤ 999
theorem fsmall_of_ok {f : Fsp} {n : Int} (hn : n ≤ 3) (h : fspOk f n = true) : f.Small := by
  unfold fspOk at h
  rw [Bool.and_eq_true, keyOk_iff, keyOk_iff] at h
  exact ⟨by omega, by omega, by omega, by omega⟩
theorem fspR_back {f : Fsp} (h : f.Small) (r : List Nat) : fspR (some (wordsF1 f ++ r)) = some (f, r) := by
  obtain ⟨la, lb, ha, hb, wr⟩ := f
  obtain ⟨h1, h2, h3, h4⟩ := h
  dsimp only at *
  simp only [wordsF1, List.cons_append, List.nil_append]
  have k1 := keyR_back h1 h2 (sgn ha :: hb.toNat :: flagW wr :: r)
  have k2 := keyR_back h3 h4 (flagW wr :: r)
  have s1 : kS (some (sgn la :: lb.toNat :: sgn ha :: hb.toNat :: flagW wr :: r)) = some (sgn ha :: hb.toNat :: flagW wr :: r) := by rw [kS, k1]; rfl
  have s2 : kS (some (sgn ha :: hb.toNat :: flagW wr :: r)) = some (flagW wr :: r) := by rw [kS, k2]; rfl
  have v1 : kV (some (sgn la :: lb.toNat :: sgn ha :: hb.toNat :: flagW wr :: r)) = (la, lb) := by rw [kV, k1]; rfl
  have v2 : kV (some (sgn ha :: hb.toNat :: flagW wr :: r)) = (ha, hb) := by rw [kV, k2]; rfl
  simp only [fspR, s1, s2, v1, v2, flagR_back, Option.map_some]
theorem stF_back {l : List Fsp} (h : ∀ i ∈ l, i.Small) (k : Nat) (hk : k ≤ l.length) : stF k (some (l.flatMap wordsF1)) = some ((l.drop k).flatMap wordsF1) ∧ lsF k (some (l.flatMap wordsF1)) = l.take k := by
  induction k with
  | zero => simp [stF, lsF]
  | succ k ih =>
    obtain ⟨e1, e2⟩ := ih (by omega)
    have hkl : k < l.length := by omega
    have e3 : fspR (stF k (some (l.flatMap wordsF1))) = some (l[k], (l.drop (k + 1)).flatMap wordsF1) := by
      rw [e1, List.drop_eq_getElem_cons hkl, List.flatMap_cons]
      exact fspR_back (h _ (List.getElem_mem hkl)) _
    rw [stF, lsF, e3, e2]
    exact ⟨rfl, (List.take_succ_eq_append_getElem hkl).symm⟩
theorem gotF_back {l : List Fsp} (h : ∀ i ∈ l, i.Small) (hl : l.length ≤ 4) : gotFS (some (wordsF l)) = some [] ∧ gotFL (some (wordsF l)) = l := by
  have e0 : cntR 4 (some (wordsF l)) = some (l.length, l.flatMap wordsF1) := by
    have := cntR_back (m := 4) (n := (l.length : Int)) (by omega) (l.flatMap wordsF1)
    simpa [wordsF] using this
  have e1 : gotFN (some (wordsF l)) = l.length := by rw [gotFN, e0]; rfl
  have e2 : cS 4 (some (wordsF l)) = some (l.flatMap wordsF1) := by rw [cS, e0]; rfl
  obtain ⟨q1, q2⟩ := stF_back h l.length (Nat.le_refl _)
  have e3 : gotFS (some (wordsF l)) = some [] := by
    rw [gotFS, e1, e2, q1]
    simp
  refine ⟨e3, ?_⟩
  rw [gotFL, e3, e1, e2, q2]
  simp
end Go.Proofs.Ytmabapbdnafpfaa
/- What the document's own reader reads as a flag. -/
namespace Go.Proofs.Ytmabapbdnafpfaa
open Go.RowKit

theorem fS_cS (st : Option (List Nat)) : fS st = cS 1 st ∧ (((cV 1 st) == 1) = fV st) := by
  match st with
  | none => exact ⟨rfl, rfl⟩
  | some [] => exact ⟨rfl, rfl⟩
  | some (u :: r) =>
    by_cases h : u ≤ 1
    · have h1 : 0 ≤ (1 : Int) ∧ (u : Int) ≤ 1 := by omega
      have e1 : flagR (some (u :: r)) = some (u == 1, r) := by simp only [flagR]; rw [if_pos h]
      have e2 : cntR 1 (some (u :: r)) = some (u, r) := by simp only [cntR]; rw [if_pos h1]
      refine ⟨by rw [fS, cS, e1, e2]; rfl, ?_⟩
      rw [fV, cV, e1, e2]
      simp only [Option.map_some, Option.getD_some]
      rw [Bool.eq_iff_iff, beq_iff_eq, beq_iff_eq]
      omega
    · have h1 : ¬ (0 ≤ (1 : Int) ∧ (u : Int) ≤ 1) := by omega
      have e1 : flagR (some (u :: r)) = none := by simp only [flagR]; rw [if_neg h]
      have e2 : cntR 1 (some (u :: r)) = none := by simp only [cntR]; rw [if_neg h1]
      refine ⟨by rw [fS, cS, e1, e2]; rfl, ?_⟩
      rw [fV, cV, e1, e2]
      rfl
end Go.Proofs.Ytmabapbdnafpfaa
/- What the document's own reader reads as a footprint. -/
namespace Go.Proofs.Ytmabapbdnafpfaa
open Go.RowKit

theorem fsp_one (f : Fsp) : ∀ u ∈ f.cells.toArray.toList, u.oneCell' = true := by
  intro u hu
  simp only [Fsp.cells, List.mem_cons, List.not_mem_nil, or_false] at hu
  rcases hu with rfl | rfl | rfl | rfl | rfl <;> rfl
/-- What a span of templates is, of its parts. -/
theorem fspR_parts {s s1 s2 s3 s4 s5 : Option (List Nat)} {a b c d : Int} (ha : a = gV s) (h1 : s1 = gS s) (hb : b = cV 999 s1) (h2 : s2 = cS 999 s1) (hc : c = gV s2) (h3 : s3 = gS s2) (hd : d = cV 999 s3) (h4 : s4 = cS 999 s3) (h5 : s5 = if far9 a ∨ far9 c then none else s4) :
    (fspR s).map (·.2) = fS s5 ∧ ∀ q, fspR s = some q → q.1 = ⟨a, b, c, d, fV s5⟩ := by
  by_cases fa : far9 a
  · have e1 : keyR s = none := by rw [keyR, ← ha, if_pos fa]
    have e2 : kS s = none := by rw [kS, e1]; rfl
    have e3 : fspR s = none := by rw [fspR, e2]; rfl
    have e4 : s5 = none := by rw [h5, if_pos (.inl fa)]
    rw [e3, e4]
    exact ⟨rfl, fun q h => by cases h⟩
  · have k1 : keyR s = (cntR 999 s1).map fun q => ((a, (q.1 : Int)), q.2) := by rw [keyR, ← ha, if_neg fa, ← h1]
    have e2 : kS s = s2 := by rw [kS, k1, h2, cS, Option.map_map]; rfl
    by_cases fc : far9 c
    · have e1 : keyR s2 = none := by rw [keyR, ← hc, if_pos fc]
      have e3 : fspR s = none := by rw [fspR, e2, kS, e1]; rfl
      have e4 : s5 = none := by rw [h5, if_pos (.inr fc)]
      rw [e3, e4]
      exact ⟨rfl, fun q h => by cases h⟩
    · have k2 : keyR s2 = (cntR 999 s3).map fun q => ((c, (q.1 : Int)), q.2) := by rw [keyR, ← hc, if_neg fc, ← h3]
      have e3 : kS s2 = s4 := by rw [kS, k2, h4, cS, Option.map_map]; rfl
      have e4 : s5 = s4 := by rw [h5, if_neg (fun h => h.elim fa fc)]
      have e5 : fspR s = (flagR s4).map fun q => (⟨(kV s).1, (kV s).2, (kV s2).1, (kV s2).2, q.1⟩, q.2) := by rw [fspR, e2, e3]
      refine ⟨by rw [e5, e4, Option.map_map]; rfl, fun q hq => ?_⟩
      rw [e5] at hq
      cases h7 : flagR s4 with
      | none => rw [h7] at hq; cases hq
      | some z =>
        rw [h7] at hq
        simp only [Option.map_some, Option.some.injEq] at hq
        have n4 : s4.isSome = true := by
          cases s4 with
          | none => cases h7
          | some _ => rfl
        have m4 : ∃ y, cntR 999 s3 = some y := by
          rw [h4, cS] at n4
          cases h8 : cntR 999 s3 with
          | none => rw [h8] at n4; cases n4
          | some y => exact ⟨y, rfl⟩
        obtain ⟨y4, h8⟩ := m4
        have n2 : s2.isSome = true := by
          cases h9 : s2 with
          | none =>
            rw [h3, h9] at h8
            cases h8
          | some _ => rfl
        have m2 : ∃ y, cntR 999 s1 = some y := by
          rw [h2, cS] at n2
          cases h9 : cntR 999 s1 with
          | none => rw [h9] at n2; cases n2
          | some y => exact ⟨y, rfl⟩
        obtain ⟨y2, h9⟩ := m2
        have v1 : kV s = (a, b) := by rw [kV, k1, h9, hb, cV, h9]; rfl
        have v2 : kV s2 = (c, d) := by rw [kV, k2, h8, hd, cV, h8]; rfl
        rw [← hq, v1, v2, e4, fV, h7]
        rfl

end Go.Proofs.Ytmabapbdnafpfaa
