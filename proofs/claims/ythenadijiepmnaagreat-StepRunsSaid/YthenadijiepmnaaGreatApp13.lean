/- Package step: changes made to a store; do two outcomes conflict? -/
import Derived.Test.YthenadijiepmnaaGreatMpc13
import Derived.Test.YthenadijiepmnaaGreatPgs5
import Derived.Test.YthenadijiepmnaaGreatRpa13
namespace Go.Proofs.YthenadijiepmnaaGreat
open Go.RowKit

/-- A store's pages behind a change. -/
def chgQ (P : List Pg) (c : Chg) : List Pg := if 0 ≤ c.key ∧ c.key ≤ 999 then (if c.gone = true then delQ P c.key.toNat else putP P c.key.toNat c.value) else P
theorem delQ_both {P : List Pg} (hi : InvP P) (k : Nat) : (delQ P k).flatten = outP P.flatten k ∧ InvP (delQ P k) := by
  unfold delQ
  split
  · next h =>
    have hne : P ≠ [] := fun e => by rw [e] at h; simp [valP] at h
    exact delP_both hi hne k
  · next h =>
    refine ⟨rise_ext hi.rise (outP_rise hi.rise k) fun j => ?_, hi⟩
    rw [valP_out]
    split
    · next e =>
      rw [e]
      cases e2 : valP P.flatten k with
      | none => rfl
      | some v => rw [e2] at h; exact absurd rfl h
    · rfl
theorem chgQ_inv {P : List Pg} (hi : InvP P) (c : Chg) : InvP (chgQ P c) := by
  unfold chgQ
  split
  · next h =>
    split
    · exact (delQ_both hi _).2
    · exact putP_inv hi (by omega) _
  · exact hi
theorem chgQ_flat {P : List Pg} (hi : InvP P) (c : Chg) : (chgQ P c).flatten = chgP P.flatten c := by
  unfold chgQ chgP
  split
  · split
    · exact (delQ_both hi _).1
    · exact putP_pairs hi _ _
  · rfl
def applyQ (P : List Pg) (l : List Chg) : List Pg := l.foldl chgQ P
theorem applyQ_take (P : List Pg) {l : List Chg} {j : Nat} (hj : j < l.length) : applyQ P (l.take (j + 1)) = chgQ (applyQ P (l.take j)) l[j] := by
  unfold applyQ
  rw [List.take_succ_eq_append_getElem hj, List.foldl_append]
  rfl
theorem applyQ_inv {P : List Pg} (hi : InvP P) (l : List Chg) : InvP (applyQ P l) := by
  induction l generalizing P with
  | nil => exact hi
  | cons c l ih => exact ih (chgQ_inv hi c)
theorem applyQ_flat {P : List Pg} (hi : InvP P) (l : List Chg) : (applyQ P l).flatten = l.foldl chgP P.flatten := by
  induction l generalizing P with
  | nil => rfl
  | cons c l ih =>
    show (applyQ (chgQ P c) l).flatten = l.foldl chgP (chgP P.flatten c)
    rw [ih (chgQ_inv hi c), chgQ_flat hi c]
/-- What stands at the keys behind changes. -/
theorem applyQ_val {P : List Pg} (hi : InvP P) (l : List Chg) : valP (applyQ P l).flatten = applyM (valP P.flatten) l := by
  rw [applyQ_flat hi]
  exact (applyP hi.rise l).2
set_option maxRecDepth 100000 in
set_option maxHeartbeats 4000000 in
theorem sApply_any {S : Nat → Prop} {s : Nat} {P : List Pg} (l : List Chg) (A : Option Addr) (n c : Nat) (w : World) (hi : InvP P) (hps : PS w S s P) (hl : Sl w w.heap.size A (l.flatMap Chg.cells)) (hap : ∀ ad, A = some ad → l ≠ [] → ¬ S ad.block) (hn : l.length = n) (hle : n ≤ 1048576) :
    Calls Tryz.prog 18 #[.pointer (some ⟨s, 0, none⟩), .slice A n c] w fun e w' => e = .returned (.tuple #[]) ∧ Left w S s (applyQ P l) w' := by
  have Hn := Lib.hid hn
  have Hsl := Lib.hid (fun W (hW : Fr S w W) => hl.fr hW (Nat.le_refl _) (fun ad e hne e2 => hap ad e (fun e3 => hne (by rw [e3]; rfl)) e2))
  have H0 : Hid (∃ S', PS w S' s (applyQ P (l.take 0)) ∧ ∀ x, S' x → S x ∨ w.heap.size ≤ x) := Lib.hid ⟨S, hps, fun _ h => .inl h⟩
  have Hin := Lib.hid (fun j => applyQ_inv hi (l.take j))
  clear hl hn hps hap hi
  go_enter Tryz.func18, Tryz.ntmps18
  go_wp2
  go_loopw [8] (fun iv wr => ∃ j : Nat, j ≤ n ∧ iv = .int .i64 j ∧ Hid (∃ S', PS wr S' s (applyQ P (l.take j)) ∧ ∀ x, S' x → S x ∨ w.heap.size ≤ x) ∧ Hid (Fr S w wr)) (fun i _ => n - (intOf i).toNat)
  case atStart => exact ⟨0, Nat.zero_le _, rfl, H0, Lib.hid (Fr.refl _ _)⟩
  case round =>
    clear H0
    obtain ⟨j, hj, rfl, HS, hfr⟩ := hrel
    by_cases hlt : j < n
    · have hjl : j < l.length := by rw [Hn.out]; exact hlt
      obtain ⟨ad, rfl, hab, x0, x1, x2⟩ := (Hsl.out _ hfr.out).chg2 hjl
      have Htk := Lib.hid (applyQ_take P hjl)
      have Hij := Lib.hid (Hin.out j)
      generalize l[j] = p at *
      obtain ⟨k, gn, v⟩ := p
      unfold chgQ at Htk
      simp only at x0 x1 x2 Htk
      generalize applyQ P (l.take j) = Pj at *
      have bx := Bk.made wr 57 #[.int .i64 k, .bool gn, .int .i64 v]
      have y0 := bx.cell 0
      have y1 := bx.cell 1
      have y2 := bx.cell 2
      simp only [List.getElem?_toArray, List.getElem?_cons_zero, List.getElem?_cons_succ] at y0 y1 y2
      have hf2 := Lib.hid (hfr.out.alloc (.cells #[.int .i64 k, .bool gn, .int .i64 v] 57))
      have HS2 : Hid (∃ S', PS (wr.alloc (.cells #[.int .i64 k, .bool gn, .int .i64 v] 57)) S' s Pj ∧ ∀ x, S' x → S x ∨ w.heap.size ≤ x) := Lib.hid (by
        obtain ⟨S', h1, h2⟩ := HS.out
        exact ⟨S', h1.fr ((Fr.refl No wr).alloc _) (fun _ _ e => e), h2⟩)
      clear HS bx hab
      by_cases hk : 0 ≤ k ∧ k ≤ 999
      · obtain ⟨k, rfl⟩ : ∃ n : Nat, k = n := ⟨k.toNat, (Int.toNat_of_nonneg hk.1).symm⟩
        rw [if_pos hk] at Htk
        simp only [Int.toNat_natCast] at Htk
        obtain ⟨S', hp1, hp2⟩ := HS2.out
        have Hp2 := Lib.hid hp2
        cases gn
        · have hcal := pPut_any k (by omega) v Hij.out hp1
          simp only [Bool.false_eq_true, if_false] at Htk
          clear hp1 hp2 HS2 hk
          go_wp2_with fail
          refine hcal.mono ?_
          rintro e w3 ⟨rfl, S3, h3, f3, n3⟩
          have HN := Lib.hid (show ∃ S', PS w3 S' s (applyQ P (l.take (j + 1))) ∧ (∀ x, S' x → S x ∨ w.heap.size ≤ x) from ⟨S3, by rw [Htk.out]; exact h3, fun x hx => (n3 x hx).elim (fun e => Hp2.out x e) (fun e => .inr (Nat.le_trans hf2.out.size e))⟩)
          have hf4 := Lib.hid (hf2.out.trans' f3 (fun x hx e => (Hp2.out x e).elim id (fun h => absurd h (by omega))))
          clear hcal h3 f3 n3 x0 x1 x2 y0 y1 y2
          go_wp2
          go_roundw
          case rel => exact ⟨j + 1, by omega, by go_num, HN, hf4⟩
          case measure => simp [intOf]; omega
        · have hcal := pDel_any k (by omega) Hij.out hp1
          simp only [if_true] at Htk
          clear hp1 hp2 HS2 hk
          go_wp2_with fail
          refine hcal.mono ?_
          rintro e w3 ⟨rfl, S3, h3, f3, n3⟩
          have HN := Lib.hid (show ∃ S', PS w3 S' s (applyQ P (l.take (j + 1))) ∧ (∀ x, S' x → S x ∨ w.heap.size ≤ x) from ⟨S3, by rw [Htk.out]; exact h3, fun x hx => (n3 x hx).elim (fun e => Hp2.out x e) (fun e => .inr (Nat.le_trans hf2.out.size e))⟩)
          have hf4 := Lib.hid (hf2.out.trans' f3 (fun x hx e => (Hp2.out x e).elim id (fun h => absurd h (by omega))))
          clear hcal h3 f3 n3 x0 x1 x2 y0 y1 y2
          go_wp2
          go_roundw
          case rel => exact ⟨j + 1, by omega, by go_num, HN, hf4⟩
          case measure => simp [intOf]; omega
      · rw [if_neg hk] at Htk
        have hko : k < 0 ∨ 999 < k := by omega
        cases gn
        · have hcal := pPut_no k v hko (some ⟨s, 0, none⟩) (wr.alloc (.cells #[.int .i64 k, .bool false, .int .i64 v] 57))
          clear hk hko
          go_wp2_with fail
          refine hcal.mono ?_
          rintro e w3 ⟨rfl, f3⟩
          have HN : Hid (∃ S', PS w3 S' s (applyQ P (l.take (j + 1))) ∧ (∀ x, S' x → S x ∨ w.heap.size ≤ x)) := Lib.hid (by
            obtain ⟨S', h1, h2⟩ := HS2.out
            exact ⟨S', by rw [Htk.out]; exact h1.fr f3 (fun _ _ e => e), h2⟩)
          have hf4 := Lib.hid (hf2.out.trans' f3 (fun _ _ e => e.elim))
          clear hcal f3 x0 x1 x2 y0 y1 y2 HS2
          go_wp2
          go_roundw
          case rel => exact ⟨j + 1, by omega, by go_num, HN, hf4⟩
          case measure => simp [intOf]; omega
        · have hcal := pDel_no k hko (some ⟨s, 0, none⟩) (wr.alloc (.cells #[.int .i64 k, .bool true, .int .i64 v] 57))
          clear hk hko
          go_wp2_with fail
          refine hcal.mono ?_
          rintro e w3 ⟨rfl, f3⟩
          have HN : Hid (∃ S', PS w3 S' s (applyQ P (l.take (j + 1))) ∧ (∀ x, S' x → S x ∨ w.heap.size ≤ x)) := Lib.hid (by
            obtain ⟨S', h1, h2⟩ := HS2.out
            exact ⟨S', by rw [Htk.out]; exact h1.fr f3 (fun _ _ e => e), h2⟩)
          have hf4 := Lib.hid (hf2.out.trans' f3 (fun _ _ e => e.elim))
          clear hcal f3 x0 x1 x2 y0 y1 y2 HS2
          go_wp2
          go_roundw
          case rel => exact ⟨j + 1, by omega, by go_num, HN, hf4⟩
          case measure => simp [intOf]; omega
    · obtain rfl : j = n := by omega
      have h1 := HS.out
      rw [List.take_of_length_le (by rw [Hn.out]; exact Nat.le_refl _)] at h1
      have HN := Lib.hid h1
      clear h1 HS
      go_wp2
      go_end0
      obtain ⟨S', h1, h2⟩ := HN.out
      exact ⟨rfl, S', h1, hfr.out, h2⟩
end Go.Proofs.YthenadijiepmnaaGreat
