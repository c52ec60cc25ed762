/- A device and a log of a call's own; the document's example of a log. -/
import Derived.Test.YtdmllfjeofiddaaPlo8
namespace Go.Proofs.Ytdmllfjeofiddaa
open Go.RowKit

/-- Since w0 a device and a log of the call's own lie there, and nothing that was there has turned. -/
structure LE (w0 w : World) (S T : Nat → Prop) (d l : Nat) (D : Dv) (M : Lg) : Prop where
  dd : ∃ a b, DD w S d D a b
  lo : LO w T l d M
  sn : ∀ k, S k → w0.heap.size ≤ k
  tn : ∀ k, T k → w0.heap.size ≤ k
  ap : ∀ k, T k → ¬ S k
  fr : Fr No w0 w
  inv : LInv D M
section
variable {w0 w w' : World} {S S' T T' : Nat → Prop} {d l a b : Nat} {D D' : Dv} {M : Lg}
theorem LE.quiet (h : LE w0 w S T d l D M) (hf : Fr No w w') : LE w0 w' S T d l D M := by
  obtain ⟨a, b, hd⟩ := h.dd
  exact ⟨⟨a, b, hd.fr hf (fun _ _ e => e)⟩, h.lo.fr hf (fun _ _ e => e), h.sn, h.tn, h.ap, h.fr.trans' hf (fun _ _ e => e), h.inv⟩
theorem LE.app {f : Frm} {e : Ending} (h : LE w0 w S T d l D M) (ha : LApp S T l d D M f w e w') : e = .returned (.int .i64 (appE M f : Nat)) ∧ ∃ S' T', LE w0 w' S' T' d l (appDv D M f) (appM M f) := by
  obtain ⟨he, S', T', a, b, h1, h2, h3, h4, h5, h6⟩ := ha
  refine ⟨he, S', T', ⟨⟨a, b, h1⟩, h2, fun k hk => ?_, fun k hk => ?_, h6, h.fr.trans' h3 (fun k hk e => ?_), append_inv h.inv f⟩⟩
  · rcases h4 k hk with h7 | h7
    · exact h.sn k h7
    · exact Nat.le_trans h.fr.size h7
  · rcases h5 k hk with h7 | h7
    · exact h.tn k h7
    · exact Nat.le_trans h.fr.size h7
  · rcases e with e | e
    · have := h.sn k e; omega
    · have := h.tn k e; omega
theorem LE.dstep (h : LE w0 w S T d l D M) (hd : DD w' S' d D' a b) (hs : Step S S' w w') (hi : LInv D' M) : LE w0 w' S' T d l D' M := by
  refine ⟨⟨a, b, hd⟩, h.lo.fr hs.fr h.ap, fun k hk => ?_, h.tn, fun k hk e => ?_, h.fr.trans' hs.fr (fun k hk e => by have := h.sn k e; omega), hi⟩
  · rcases hs.grow k hk with h7 | h7
    · exact h.sn k h7
    · exact Nat.le_trans h.fr.size h7
  · rcases hs.grow k e with h7 | h7
    · exact h.ap k hk h7
    · have := h.lo.lt k hk; omega
end
theorem DD.small {w : World} {S : Nat → Prop} {d a b : Nat} {D : Dv} (h : DD w S d D a b) : D.n ≤ 4096 := by
  obtain ⟨_, _, _, _, _, _, _, hk⟩ := h
  exact hk.n
/-- A log opened on a device of the call's own. -/
theorem LE.opened {w0 w w' : World} {S : Nat → Prop} {d q n a b : Nat} {D : Dv} {ep : Int} {e : Ending} (hq : q + n ≤ D.n) (hn : 1 ≤ n) (hep : numOk ep = true) (hd : DD w S d D a b) (hsn : ∀ k, S k → w0.heap.size ≤ k) (hf : Fr No w0 w) (h : LOpen S d D q n ep w e w') :
    ∃ (S' T : Nat → Prop) (l k : Nat) (fs : List Frm), e = .returned (.tuple #[.pointer (some ⟨l, 0, none⟩), .int .i64 0]) ∧ Told ep (partW D.rd q n) fs k ∧ LE w0 w' S' T d l (openD D q n k) ⟨q, n, ep, fs⟩ := by
  obtain ⟨S', T, l, k, a', b', fs, he, ht, h1, h2, h3, h4, h5⟩ := h
  have hD := hd.small
  refine ⟨S', T, l, k, fs, he, ht, ⟨⟨a', b', h1⟩, h2, fun j hj => ?_, fun j hj => Nat.le_trans hf.size (h4 j hj), h5, hf.trans' h3.fr (fun j hj e => by have := hsn j e; omega), (open_inv hd.ok hq hn (by omega) hep ht).1⟩⟩
  rcases h3.grow j hj with h7 | h7
  · exact hsn j h7
  · exact Nat.le_trans hf.size h7
theorem wdS_zero (f : Nat → List Nat) (h : ∀ i, f i = zSec) (q a : Nat) : wdS f q a = 0 := by
  unfold wdS zSec at *
  rw [h]
  simp only [List.getD, List.getElem?_replicate]
  split <;> rfl
theorem partW_zero (q n m : Nat) : partW (Dv.new m).rd q n = List.replicate (8 * n) 0 := by
  have := partW_eq (f := (Dv.new m).rd) (q := q) (n := n) (l := []) (by simp) (fun a _ => by rw [wdS_zero (Dv.new m).rd (fun _ => rfl)]; rfl)
  simpa using this
/-- A new device tells no frames. -/
theorem told_new {ep : Int} {q n m : Nat} {fs : List Frm} {k : Nat} (h : Told ep (partW (Dv.new m).rd q n) fs k) : fs = [] ∧ k = 0 := by
  rw [partW_zero] at h
  exact h.uniq (show Told ep (List.replicate (8 * n) 0) [] 0 from ⟨rfl, getF_zeros _ _ _⟩)
theorem ex_one8 : appE ⟨0, 1, 0, []⟩ ⟨1, List.replicate 7 0⟩ = 0 ∧ appM ⟨0, 1, 0, []⟩ ⟨1, List.replicate 7 0⟩ = ⟨0, 1, 0, [⟨1, List.replicate 7 0⟩]⟩ := by
  have h1 : frmOk ⟨1, List.replicate 7 0⟩ = true := by decide
  have h2 : Lg.roomFor ⟨0, 1, 0, []⟩ ⟨1, List.replicate 7 0⟩ = true := by decide
  unfold appE appM
  rw [if_pos h1, if_pos h2, if_pos ⟨h1, h2⟩]
  exact ⟨rfl, rfl⟩
theorem ex_used8 : Lg.used ⟨0, 1, 0, [⟨1, List.replicate 7 0⟩]⟩ = 8 := by
  unfold Lg.used
  simp [streamF, putW_len]
theorem ex_two8 : appE ⟨0, 1, 0, [⟨1, List.replicate 7 0⟩]⟩ ⟨1, []⟩ = 4 ∧ appM ⟨0, 1, 0, [⟨1, List.replicate 7 0⟩]⟩ ⟨1, []⟩ = ⟨0, 1, 0, [⟨1, List.replicate 7 0⟩]⟩ := by
  have h1 : frmOk ⟨1, []⟩ = true := by decide
  have h2 : Lg.roomFor ⟨0, 1, 0, [⟨1, List.replicate 7 0⟩]⟩ ⟨1, []⟩ = false := by
    unfold Lg.roomFor
    rw [ex_used8]
    rfl
  unfold appE appM
  rw [if_pos h1, if_neg (by rw [h2]; simp), if_neg (by rw [h2]; simp)]
  exact ⟨rfl, rfl⟩
set_option maxRecDepth 100000 in
set_option maxHeartbeats 2000000 in
theorem alive8_any (w : World) : Calls Try.prog 7 #[] w fun e w' => e = .returned (.bool true) ∧ Fr No w w' := by
  go_enter Try.func7, Try.ntmps7
  go_wp2_with fail
  refine (dNew_yes 1 (by omega) (by omega) w).mono ?_
  rintro e w1 ⟨S1, d, rfl, hD1, hS1⟩
  have E1 := Env.begin (Fr.refl No w) hD1 hS1
  have CO := lOpen_yes 0 1 (show 0 + 1 ≤ (Dv.new 1).n from Nat.le_refl 1) (by omega) 0 (by decide) w1 E1.dd
  clear hD1 hS1
  go_wp2_with fail
  refine CO.mono ?_
  rintro e w2 hO
  obtain ⟨S2, T2, l, k, fs, rfl, ht, hL⟩ := LE.opened (w0 := w) (show 0 + 1 ≤ (Dv.new 1).n from Nat.le_refl 1) (by omega) (by decide) E1.dd E1.new E1.fr hO
  obtain ⟨rfl, rfl⟩ := told_new ht
  have HL := Lib.hid hL
  have hmk : ∀ W, (Instr.makeSlice 36 (.int .i64 7) (.int .i64 7)).run Try.prog W = .ok (.slice (some ⟨W.heap.size, 0, none⟩) 7 7) (W.alloc (.cells #[.int .u64 0, .int .u64 0, .int .u64 0, .int .u64 0, .int .u64 0, .int .u64 0, .int .u64 0] 40)) := fun W =>
    by
      have h := run_make_row' (P := Try.prog) 36 40 (.int .u64 0) 8 Try.underlying36 info43 rfl .i64 .i64 7 (by omega) (by omega) W
      have e7 : madeCells #[Value.int .u64 0] 7 = #[.int .u64 0, .int .u64 0, .int .u64 0, .int .u64 0, .int .u64 0, .int .u64 0, .int .u64 0] := by
        refine Array.ext (by rw [size_madeCells]; rfl) fun i h1 h2 => ?_
        rw [size_madeCells] at h1
        have : i = 0 ∨ i = 1 ∨ i = 2 ∨ i = 3 ∨ i = 4 ∨ i = 5 ∨ i = 6 := by omega
        rcases this with rfl | rfl | rfl | rfl | rfl | rfl | rfl <;> simp [madeCells]
      rw [e7] at h
      exact h
  have hx1 : FrV.Fit (w2.alloc (.cells #[.int .u64 0, .int .u64 0, .int .u64 0, .int .u64 0, .int .u64 0, .int .u64 0, .int .u64 0] 40)) (w2.alloc (.cells #[.int .u64 0, .int .u64 0, .int .u64 0, .int .u64 0, .int .u64 0, .int .u64 0, .int .u64 0] 40)).heap.size ⟨1, some ⟨w2.heap.size, 0, none⟩, List.replicate 7 0, 7⟩ := by
    have hs := Sl.made w2 40 #[.int .u64 0, .int .u64 0, .int .u64 0, .int .u64 0, .int .u64 0, .int .u64 0, .int .u64 0]
    refine ⟨(by decide : (-9223372036854775808 : Int) ≤ 1), (by decide : (1 : Int) < 9223372036854775808), ?_, fun u hu => by have := List.eq_of_mem_replicate hu; omega, by simp, (by decide : 7 ≤ maxLen)⟩
    rw [World.size_alloc]
    exact hs
  have HL1 := Lib.hid (HL.out.quiet ((Fr.refl _ _).alloc (.cells #[.int .u64 0, .int .u64 0, .int .u64 0, .int .u64 0, .int .u64 0, .int .u64 0, .int .u64 0] 40)))
  obtain ⟨a1, b1, hd1⟩ := HL1.out.dd
  have CA := Lib.hid (lAppend_any ⟨1, some ⟨w2.heap.size, 0, none⟩, List.replicate 7 0, 7⟩ _ hd1 HL1.out.lo HL1.out.ap HL1.out.inv hx1)
  clear hO ht E1 CO hL hx1 hd1
  go_wp2_with fail
  refine CA.out.mono ?_
  rintro e w3 hA
  obtain ⟨rfl, S3, T3, hL3⟩ := HL1.out.app hA
  have hf1 : FrV.f ⟨1, some ⟨w2.heap.size, 0, none⟩, List.replicate 7 0, 7⟩ = ⟨1, List.replicate 7 0⟩ := rfl
  rw [hf1, ex_one8.2] at hL3
  rw [hf1, ex_one8.1]
  have HL3 := Lib.hid hL3
  obtain ⟨a3, b3, hd3⟩ := HL3.out.dd
  have CB := Lib.hid (fun W (hW : Fr No w3 W) (hx : FrV.Fit W W.heap.size ⟨1, none, [], 0⟩) => lAppend_any ⟨1, none, [], 0⟩ W (hd3.fr hW (fun _ _ e => e)) (HL3.out.lo.fr hW (fun _ _ e => e)) HL3.out.ap HL3.out.inv hx)
  clear hA hL3 CA HL1 HL hmk hd3
  go_wp2_with fail
  refine (CB.out _ (Fr.refl _ _) ⟨by decide, by decide, Sl.nil _ _ _, by simp, by simp, by simp⟩).mono ?_
  rintro e w4 hA
  obtain ⟨rfl, S4, T4, hL4⟩ := HL3.out.app hA
  have hf2 : FrV.f ⟨1, none, [], 0⟩ = ⟨1, []⟩ := rfl
  rw [hf2, ex_two8.2] at hL4
  rw [hf2, ex_two8.1]
  have HL4 := Lib.hid hL4
  have CW := Lib.hid (fun W (hW : Fr No w4 W) => lWords_any W (HL4.out.lo.fr hW (fun _ _ e => e)) (by rw [ex_used8]; exact Nat.le_refl 8) (by show 1 ≤ 4096; omega))
  have CR := Lib.hid (fun W (hW : Fr No w4 W) => lRoom_any W (HL4.out.lo.fr hW (fun _ _ e => e)) (by rw [ex_used8]; exact Nat.le_refl 8) (by show 1 ≤ 4096; omega))
  rw [ex_used8] at CW CR
  clear hA hL4 CB HL3
  go_wp2_with fail
  refine (CW.out _ (Fr.refl _ _)).mono ?_
  rintro e w5 ⟨rfl, f5⟩
  go_wp2_with fail
  refine (CR.out _ f5).mono ?_
  rintro e w6 ⟨rfl, f6⟩
  have F := Lib.hid (HL4.out.fr.trans' (f5.trans' f6 (fun _ _ e => e)) (fun _ _ e => e))
  clear CW CR HL4 f5 f6
  go_wp2
  go_ret
  exact ⟨rfl, F.out⟩
end Go.Proofs.Ytdmllfjeofiddaa
