/- A device and a log of the package's, and the document's own, side by side. -/
import Derived.Test.YtdmllfjeofiddaaAl8
namespace Go.Proofs.Ytdmllfjeofiddaa
open Go.RowKit

/-- The document's frames of a log: the block of the log itself is among its blocks. -/
theorem RL.own {w : World} {B : Nat → Prop} {lg r : Nat} {M : Lg} (h : RL w B lg r M) : B lg := by
  obtain ⟨A, c, xs, -, -, -, -, -, h6, -⟩ := h.lies
  exact (h6 lg).2 (.inl rfl)
section
variable {wb w w' : World} {S S' T B : Nat → Prop} {d l r gl gr gd lg a b : Nat} {D D' : Dv} {M M' : Lg}
/-- Devices alone. -/
structure JK (wb w : World) (S : Nat → Prop) (d r gl gr gd : Nat) (D D' : Dv) : Prop where
  dd : ∃ a b, DD w S d D a b
  sn : ∀ k, S k → wb.heap.size ≤ k
  fr : Fr No wb w
  rd : RD w r gl gr gd D'
  rn : ∀ k, Rb r gl gr gd k → wb.heap.size ≤ k
  ap : ∀ k, S k → ¬ Rb r gl gr gd k
/-- The package's log opened. -/
structure JP (wb w : World) (S T : Nat → Prop) (d l r gl gr gd : Nat) (D : Dv) (M : Lg) (D' : Dv) : Prop where
  le : LE wb w S T d l D M
  rd : RD w r gl gr gd D'
  rn : ∀ k, Rb r gl gr gd k → wb.heap.size ≤ k
  ap : ∀ k, S k ∨ T k → ¬ Rb r gl gr gd k
/-- Both logs. -/
structure JB (wb w : World) (S T B : Nat → Prop) (d l r gl gr gd lg : Nat) (D : Dv) (M : Lg) (D' : Dv) (M' : Lg) : Prop where
  le : LE wb w S T d l D M
  rd : RD w r gl gr gd D'
  rl : RL w B lg r M'
  rn : ∀ k, Rb r gl gr gd k → wb.heap.size ≤ k
  ln : wb.heap.size ≤ lg
  ap : ∀ k, S k ∨ T k → ¬ Rb r gl gr gd k ∧ ¬ B k
  br : ∀ k, B k → ¬ Rb r gl gr gd k
theorem LE.below (h : LE wb w S T d l D M) : ∀ k, S k ∨ T k → k < w.heap.size := by
  rintro k (hk | hk)
  · obtain ⟨a, b, hd⟩ := h.dd
    exact hd.lt k hk
  · exact h.lo.lt k hk
theorem LE.since (h : LE wb w S T d l D M) : ∀ k, S k ∨ T k → wb.heap.size ≤ k := by
  rintro k (hk | hk)
  · exact h.sn k hk
  · exact h.tn k hk
theorem JB.quiet (h : JB wb w S T B d l r gl gr gd lg D M D' M') (hf : Fr No w w') : JB wb w' S T B d l r gl gr gd lg D M D' M' :=
  ⟨h.le.quiet hf, h.rd.fr hf (fun _ _ e => e), h.rl.fr hf (fun _ _ e => e), h.rn, h.ln, h.ap, h.br⟩
theorem JB.papp {f : Frm} {e : Ending} (h : JB wb w S T B d l r gl gr gd lg D M D' M') (ha : LApp S T l d D M f w e w') : e = .returned (.int .i64 (appE M f : Nat)) ∧ ∃ S' T', JB wb w' S' T' B d l r gl gr gd lg (appDv D M f) (appM M f) D' M' := by
  obtain ⟨he, S', T', h1, h2, h3, h4⟩ := h.le.app' ha
  refine ⟨he, S', T', h1, h.rd.fr h2 (fun k hk e => (h.ap k e).1 hk), h.rl.fr h2 (fun k hk e => (h.ap k e).2 hk), h.rn, h.ln, fun k hk => ?_, h.br⟩
  have hr := h.rd.lt
  have hb := h.rl.lt
  have hn : ∀ k, w.heap.size ≤ k → ¬ Rb r gl gr gd k ∧ ¬ B k := fun k hk => ⟨fun e => by have := hr k e; omega, fun e => by have := hb k e; omega⟩
  rcases hk with hk | hk
  · rcases h3 k hk with h5 | h5
    · exact h.ap k (.inl h5)
    · exact hn k h5
  · rcases h4 k hk with h5 | h5
    · exact h.ap k (.inr h5)
    · exact hn k h5
theorem JB.rapp {x : FrV} {e : Ending} (h : JB wb w S T B d l r gl gr gd lg D M D' M') (harg : ∀ k, xB x k → k < wb.heap.size) (ha : AppR r gl gr gd lg B D' M' x w e w') : e = .returned (.int .i64 (appE M' x.f : Nat)) ∧ ∃ B', JB wb w' S T B' d l r gl gr gd lg D M (appDv D' M' x.f) (appM M' x.f) := by
  obtain ⟨he, h1, h2, B', h3, h4⟩ := ha
  have hown := h.rl.own
  have hlt := h.le.below
  have hsn := h.le.since
  refine ⟨he, B', h.le.put h2 (fun k hk e => ?_) (fun k hk e => ?_) (fun k e => ?_), h1, h3, h.rn, h.ln, fun k hk => ⟨(h.ap k hk).1, fun e => ?_⟩, fun k hk e => ?_⟩
  · rcases e with e | e
    · exact (h.ap k (.inl hk)).1 e
    · exact (h.ap k (.inl hk)).2 (by rw [e]; exact hown)
  · rcases e with e | e
    · exact (h.ap k (.inr hk)).1 e
    · exact (h.ap k (.inr hk)).2 (by rw [e]; exact hown)
  · rcases e with e | e
    · exact h.rn k e
    · rw [e]; exact h.ln
  · rcases h4 k e with h5 | h5 | h5
    · exact (h.ap k hk).2 h5
    · have := hlt k hk; omega
    · have := hsn k hk; have := harg k h5; omega
  · rcases h4 k hk with h5 | h5 | h5
    · exact h.br k h5 e
    · have := h.rd.lt k e; omega
    · have := h.rn k e; have := harg k h5; omega
theorem JB.devices (h : JB wb w S T B d l r gl gr gd lg D M D' M') : JK wb w S d r gl gr gd D D' := ⟨h.le.dd, h.le.sn, h.le.fr, h.rd, h.rn, fun k hk => (h.ap k (.inl hk)).1⟩
theorem JK.quiet (h : JK wb w S d r gl gr gd D D') (hf : Fr No w w') : JK wb w' S d r gl gr gd D D' := by
  obtain ⟨a, b, hd⟩ := h.dd
  exact ⟨⟨a, b, hd.fr hf (fun _ _ e => e)⟩, h.sn, h.fr.trans' hf (fun _ _ e => e), h.rd.fr hf (fun _ _ e => e), h.rn, h.ap⟩
theorem JK.pstep {E : Dv} (h : JK wb w S d r gl gr gd D D') (hd : DD w' S' d E a b) (hs : Step S S' w w') : JK wb w' S' d r gl gr gd E D' := by
  refine ⟨⟨a, b, hd⟩, fun k hk => ?_, h.fr.trans' hs.fr (fun k hk e => by have := h.sn k e; omega), h.rd.fr hs.fr (fun k hk e => h.ap k e hk), h.rn, fun k hk e => ?_⟩
  · rcases hs.grow k hk with h1 | h1
    · exact h.sn k h1
    · exact Nat.le_trans h.fr.size h1
  · rcases hs.grow k hk with h1 | h1
    · exact h.ap k h1 e
    · have := h.rd.lt k e; omega
theorem JK.rstep {E : Dv} (h : JK wb w S d r gl gr gd D D') (hd : RD w' r gl gr gd E) (hf : Fr (Rb r gl gr gd) w w') : JK wb w' S d r gl gr gd D E := by
  obtain ⟨a, b, hd'⟩ := h.dd
  exact ⟨⟨a, b, hd'.fr hf (fun k hk e => h.ap k hk e)⟩, h.sn, h.fr.trans' hf (fun k hk e => by have := h.rn k e; omega), hd, h.rn, h.ap⟩
theorem JK.popen {q n : Nat} {ep : Int} {e : Ending} (h : JK wb w S d r gl gr gd D D') (hq : q + n ≤ D.n) (hn : 1 ≤ n) (hep : numOk ep = true) (ho : LOpen S d D q n ep w e w') :
    ∃ (S' T : Nat → Prop) (l k : Nat) (fs : List Frm), e = .returned (.tuple #[.pointer (some ⟨l, 0, none⟩), .int .i64 0]) ∧ Told ep (partW D.rd q n) fs k ∧ JP wb w' S' T d l r gl gr gd (openD D q n k) ⟨q, n, ep, fs⟩ D' ∧ Step S S' w w' ∧ (∀ j, T j → w.heap.size ≤ j) := by
  obtain ⟨a, b, hd⟩ := h.dd
  obtain ⟨S', T, l, k, fs, he, ht, h1, h2, h3⟩ := LE.opened' hq hn hep hd h.sn h.fr ho
  refine ⟨S', T, l, k, fs, he, ht, ⟨h1, h.rd.fr h2.fr (fun k hk e => h.ap k e hk), h.rn, fun j hj e => ?_⟩, h2, h3⟩
  have hr := h.rd.lt j e
  rcases hj with hj | hj
  · rcases h2.grow j hj with h4 | h4
    · exact h.ap j h4 e
    · omega
  · have := h3 j hj; omega
theorem JP.ropen {q n : Nat} {ep : Int} {e : Ending} {E : Dv} (h : JP wb w S T d l r gl gr gd D M E) (ho : OpenR r gl gr gd E q n ep w e w') :
    ∃ (B : Nat → Prop) (lg k : Nat) (fs : List Frm), e = .returned (.pointer (some ⟨lg, 0, none⟩)) ∧ Told ep (partW E.rd q n) fs k ∧ JB wb w' S T B d l r gl gr gd lg D M (openD E q n k) ⟨q, n, ep, fs⟩ ∧ Fr (Rb r gl gr gd) w w' := by
  obtain ⟨B, lg, k, fs, he, ht, h1, h2, h3, h4⟩ := ho
  have hlt := h.le.below
  refine ⟨B, lg, k, fs, he, ht, ⟨h.le.put h3 (fun k hk e => h.ap k (.inl hk) e) (fun k hk e => h.ap k (.inr hk) e) h.rn, h1, h2, h.rn, Nat.le_trans h.le.fr.size (h4 _ h2.own), fun j hj => ⟨h.ap j hj, fun e => ?_⟩, fun j hj e => ?_⟩, h3⟩
  · have := hlt j hj; have := h4 j e; omega
  · have := h.rd.lt j e; have := h4 j hj; omega
end
/-- Frames that were told, apart from both devices. -/
structure KF (w : World) (S : Nat → Prop) (r gl gr gd : Nat) (A : Option Addr) (xs : List FrV) : Prop where
  frs : Frs w A xs
  ap : ∀ k, FB A xs k → ¬ S k ∧ ¬ Rb r gl gr gd k
section
variable {w w' : World} {S S' : Nat → Prop} {r gl gr gd : Nat} {A : Option Addr} {xs : List FrV}
theorem KF.quiet (h : KF w S r gl gr gd A xs) (hf : Fr No w w') : KF w' S r gl gr gd A xs := ⟨h.frs.frS hf (fun _ _ e => e), h.ap⟩
theorem KF.pstep (h : KF w S r gl gr gd A xs) (hs : Step S S' w w') : KF w' S' r gl gr gd A xs :=
  ⟨h.frs.frS hs.fr (fun k hk => (h.ap k hk).1), fun k hk => ⟨fun e => by
    rcases hs.grow k e with h1 | h1
    · exact (h.ap k hk).1 h1
    · have := h.frs.lt k hk; omega, (h.ap k hk).2⟩⟩
theorem KF.rstep (h : KF w S r gl gr gd A xs) (hf : Fr (Rb r gl gr gd) w w') : KF w' S r gl gr gd A xs := ⟨h.frs.frS hf (fun k hk => (h.ap k hk).2), h.ap⟩
end
/-- Opened where nothing is unsynced, nothing is. -/
theorem openD_lard {D : Dv} (h : D.la = D.rd) (q n k : Nat) : (openD D q n k).la = (openD D q n k).rd := by
  unfold openD
  by_cases hc : clrAny D q n k = true
  · rw [if_pos hc]
    rfl
  · rw [if_neg hc]
    show D.la = (clrD D q n k).rd
    rw [h]
    funext j
    show D.rd j = if q ≤ j ∧ j < q + n then clrS (j - q) k (D.rd j) else D.rd j
    by_cases hj : q ≤ j ∧ j < q + n
    · rw [if_pos hj]
      apply Classical.byContradiction
      intro hne
      apply hc
      unfold clrAny
      rw [List.any_eq_true]
      refine ⟨j - q, by simp; omega, ?_⟩
      rw [show q + (j - q) = j by omega]
      exact decide_eq_true (fun e => hne e.symm)
    · rw [if_neg hj]
end Go.Proofs.Ytdmllfjeofiddaa
