/- A list of frames that a call gathers beside a device and a log. -/
import Derived.Test.YtdmllfjeofiddaaLw8
import Derived.Test.YtdmllfjeofiddaaLsf6
import Derived.Test.YtdmllfjeofiddaaRoa8
namespace Go.Proofs.Ytdmllfjeofiddaa
open Go.RowKit

/-- Frames of arguments, gathered in a row of the call's own, apart from the device and the log. -/
structure AL (wb w : World) (S T : Nat → Prop) (A : Option Addr) (n c : Nat) (gs : List FrV) : Prop where
  own : w.ownsRow wb.heap.size 38 2 (.slice A n c) n (gs.flatMap FrV.cells)
  len : gs.length = n
  fit : ∀ x ∈ gs, x.Fit w w.heap.size
  arg : ∀ x ∈ gs, ∀ k, xB x k → k < wb.heap.size
  out : ∀ k, (Value.slice A n c).ownBlock = some k → ¬ S k ∧ ¬ T k
theorem AL.nil (wb w : World) (S T : Nat → Prop) : AL wb w S T none 0 0 [] := ⟨World.ownsRow_nil _ _ _ _, rfl, by simp, by simp, by simp [Value.ownBlock]⟩
section
variable {wb w w' : World} {S T S' T' R : Nat → Prop} {A : Option Addr} {n c : Nat} {gs : List FrV}
theorem fit_frS {w w' : World} {R : Nat → Prop} {x : FrV} (h : x.Fit w w.heap.size) (hf : Fr R w w') (hs : ∀ k, xB x k → ¬ R k) : x.Fit w' w'.heap.size :=
  ⟨h.k1, h.k2, (h.sl.fr hf (Nat.le_refl _) (fun ad e hn => hs _ ⟨ad, e, u64s_ne hn, rfl⟩)).more hf.size, h.lt, h.cap, h.cap2⟩
theorem AL.turn (h : AL wb w S T A n c gs) (hf : Fr R w w') (hR : ∀ k, R k → S k ∨ T k) (hw : ∀ k, R k → wb.heap.size ≤ k) (h1 : ∀ k, S' k → S k ∨ w.heap.size ≤ k) (h2 : ∀ k, T' k → T k ∨ w.heap.size ≤ k) : AL wb w' S' T' A n c gs := by
  refine ⟨own_fr h.own hf (fun k hk e => ?_), h.len, fun x hx => fit_frS (h.fit x hx) hf (fun k hk e => ?_), h.arg, fun k hk => ⟨fun e => ?_, fun e => ?_⟩⟩
  · rcases hR k e with e2 | e2
    · exact (h.out k hk).1 e2
    · exact (h.out k hk).2 e2
  · have := h.arg x hx k hk; have := hw k e; omega
  · rcases h1 k e with e2 | e2
    · exact (h.out k hk).1 e2
    · have := (h.own.lt k hk).2; omega
  · rcases h2 k e with e2 | e2
    · exact (h.out k hk).2 e2
    · have := (h.own.lt k hk).2; omega
theorem AL.quiet (h : AL wb w S T A n c gs) (hf : Fr No w w') : AL wb w' S T A n c gs :=
  h.turn hf (fun _ e => e.elim) (fun _ e => e.elim) (fun _ e => .inl e) (fun _ e => .inl e)
theorem AL.frs (h : AL wb w S T A n c gs) : Frs w A gs := ⟨Sl.ofOwn h.own, h.fit⟩
/-- A frame more behind them, as one step of the walk. -/
theorem app_al {ops : Array Oper} {rest : List Oper} {o : Oper} {a : Act} {Q : Exit → Act → World → Prop} (hgd : o.guard = none) (s x : Operand)
    (ho : o.op = .call { callee := .builtin .append, args := #[s, x], argTypes := #[60, 60] })
    (kd : Int) (xA : Option Addr) (xw : List Nat) (xc z : Nat) (hz : xw.length = z) (hs : a.eval s = .slice A n c) (H : Nat) (hH : w.heap.size = H) (hx : a.eval x = .slice (some ⟨H, 0, none⟩) 1 1) (h : AL wb w S T A n c gs) (hf : Fr No wb w) (hfit : FrV.Fit w w.heap.size ⟨kd, xA, xw, xc⟩) (harg : ∀ k, xB ⟨kd, xA, xw, xc⟩ k → k < wb.heap.size)
    (hS : ∀ k, S k → k < w.heap.size) (hT : ∀ k, T k → k < w.heap.size) (hlen : n ≤ 1099511627776)
    (hK : ∀ A' c' w', AL wb w' S T A' (n + 1) c' (gs ++ [⟨kd, xA, xw, xc⟩]) → Fr (fun k => (Value.slice A n c).ownBlock = some k) w w' → wpList Try.prog ops Q rest (a.put o.dst (.slice A' (n + 1 : Nat) c')) w') :
    wpList Try.prog ops Q (o :: rest) a (w.alloc (.cells #[.int .i64 kd, .slice xA z xc] 38)) := by
  subst hz
  refine wpList_append_elem hgd s x _ ho wb.heap.size 38 _ 2 32 Try.underlying60 info_frame rfl (by omega) (.slice A n c) n (gs.flatMap FrV.cells) #[.int .i64 kd, .slice xA xw.length xc] rfl
    (by intro u hu; simp at hu; rcases hu with rfl | rfl <;> rfl) hs H hH hx h.own (by unfold maxLen; omega) (by omega) hf.size ?_
  intro A' c' w' q1 q2 q3
  have hob : ∀ k, (Value.slice A n c).ownBlock = some k → wb.heap.size ≤ k := fun k hk => (h.own.lt k hk).1
  have hfit' : ∀ y, FrV.Fit w w.heap.size y → (∀ k, xB y k → k < wb.heap.size) → FrV.Fit w' w'.heap.size y := fun y h1 h2 => fit_frS h1 q2 (fun k hk e => by have := h2 k hk; have := hob k e; omega)
  refine hK A' c' w' ⟨by rw [List.flatMap_append]; exact q1, by simp [h.len], fun y hy => ?_, fun y hy => ?_, fun k hk => ?_⟩ q2
  · rcases List.mem_append.1 hy with hy | hy
    · exact hfit' y (h.fit y hy) (h.arg y hy)
    · rw [List.mem_singleton.1 hy]
      exact hfit' _ hfit harg
  · rcases List.mem_append.1 hy with hy | hy
    · exact h.arg y hy
    · rw [List.mem_singleton.1 hy]
      exact harg
  · rcases q3 with q3 | ⟨j, q3, hj⟩
    · rw [q3] at hk
      exact h.out k hk
    · rw [q3] at hk
      injection hk with hk
      subst hk
      exact ⟨fun e => by have := hS _ e; omega, fun e => by have := hT _ e; omega⟩
end
section
variable {w0 w w' : World} {S T R : Nat → Prop} {d l : Nat} {D : Dv} {M : Lg}
/-- Something else of the call's own has turned. -/
theorem LE.put (h : LE w0 w S T d l D M) (hf : Fr R w w') (hS : ∀ k, S k → ¬ R k) (hT : ∀ k, T k → ¬ R k) (hw : ∀ k, R k → w0.heap.size ≤ k) : LE w0 w' S T d l D M := by
  obtain ⟨a, b, hd⟩ := h.dd
  exact ⟨⟨a, b, hd.fr hf hS⟩, h.lo.fr hf hT, h.sn, h.tn, h.ap, h.fr.trans' hf (fun k hk e => by have := hw k e; omega), h.inv⟩
theorem LE.app' {f : Frm} {e : Ending} (h : LE w0 w S T d l D M) (ha : LApp S T l d D M f w e w') : e = .returned (.int .i64 (appE M f : Nat)) ∧ ∃ S' T', LE w0 w' S' T' d l (appDv D M f) (appM M f) ∧ Fr (fun k => S k ∨ T k) w w' ∧ (∀ k, S' k → S k ∨ w.heap.size ≤ k) ∧ (∀ k, T' k → T k ∨ w.heap.size ≤ k) := by
  obtain ⟨he, S', T', a, b, h1, h2, h3, h4, h5, h6⟩ := ha
  refine ⟨he, S', T', ⟨⟨a, b, h1⟩, h2, fun k hk => ?_, fun k hk => ?_, h6, h.fr.trans' h3 (fun k hk e => ?_), append_inv h.inv f⟩, h3, h4, h5⟩
  · rcases h4 k hk with h7 | h7
    · exact h.sn k h7
    · exact Nat.le_trans h.fr.size h7
  · rcases h5 k hk with h7 | h7
    · exact h.tn k h7
    · exact Nat.le_trans h.fr.size h7
  · rcases e with e | e
    · have := h.sn k e; omega
    · have := h.tn k e; omega
end
theorem appM_same (M : Lg) (f : Frm) : (appM M f).q = M.q ∧ (appM M f).n = M.n ∧ (appM M f).ep = M.ep := by
  unfold appM
  split <;> exact ⟨rfl, rfl, rfl⟩
theorem app_yes {M : Lg} {f : Frm} (h : appE M f = 0) : (appM M f).L = M.L ++ [f] := by
  unfold appE at h
  unfold appM
  by_cases h1 : frmOk f = true
  · rw [if_pos h1] at h
    by_cases h2 : M.roomFor f = true
    · rw [if_pos ⟨h1, h2⟩]
    · rw [if_neg h2] at h; omega
  · rw [if_neg h1] at h; omega
theorem app_no {M : Lg} {f : Frm} (h : appE M f ≠ 0) : appM M f = M := by
  unfold appE at h
  unfold appM
  by_cases h1 : frmOk f = true
  · rw [if_pos h1] at h
    by_cases h2 : M.roomFor f = true
    · rw [if_pos h2] at h; omega
    · rw [if_neg (fun c => h2 c.2)]
  · rw [if_neg (fun c => h1 c.1)]
/-- Frames of an argument: their words' blocks are older. -/
theorem Frs.arg {w : World} {A : Option Addr} {xs : List FrV} (h : Frs w A xs) : ∀ x ∈ xs, ∀ k, xB x k → k < w.heap.size := by
  rintro x hx k ⟨ad, e, hn, rfl⟩
  exact h.lt _ (.inr ⟨x, hx, ad, e, hn, rfl⟩)
/-- What is known of the frames that were there at the last sync. -/
structure Synced (D : Dv) (M : Lg) (k : Nat) : Prop where
  is : ∃ D0 M0, Grew D0 D M0 M ∧ LInv D0 M0 ∧ (∀ a, wdS D0.la M0.q a = wdS D0.rd M0.q a) ∧ k = M0.L.length
theorem Synced.app {D : Dv} {M : Lg} {k : Nat} (h : Synced D M k) (f : Frm) : Synced (appDv D M f) (appM M f) k := by
  obtain ⟨D0, M0, h1, h2, h3, h4⟩ := h.is
  exact ⟨D0, M0, h1.app f, h2, h3, h4⟩
theorem Synced.sync {D : Dv} {M : Lg} (h : LInv D M) : LInv D.sync M ∧ Synced D.sync M M.L.length := by
  have hi : LInv D.sync M := ⟨h.fits, h.pos, h.small, h.num, h.ok, h.lies⟩
  exact ⟨hi, ⟨D.sync, M, Grew.refl _ _, hi, fun _ => rfl, rfl⟩⟩
theorem clrS_zero (i e : Nat) : clrS i e zSec = zSec := by
  unfold clrS zSec
  have : ∀ k ∈ List.range 8, (if e ≤ 8 * i + k then 0 else (List.replicate 8 0).getD k 0) = 0 := fun k _ => by
    split
    · rfl
    · simp only [List.getD, List.getElem?_replicate]
      split <;> rfl
  rw [List.map_congr_left this]
  rfl
theorem openD_new (m q n k : Nat) : (openD (Dv.new m) q n k).la = (Dv.new m).rd ∧ (openD (Dv.new m) q n k).rd = (Dv.new m).rd := by
  have h1 : (clrD (Dv.new m) q n k).rd = (Dv.new m).rd := by
    funext j
    show (if q ≤ j ∧ j < q + n then clrS (j - q) k zSec else zSec) = zSec
    split
    · exact clrS_zero _ _
    · rfl
  refine ⟨?_, by rw [openD_rd]; exact h1⟩
  unfold openD
  split
  · exact h1
  · rfl
theorem Synced.new {m n : Nat} {ep : Int} {k : Nat} (h : LInv (openD (Dv.new m) 0 n k) ⟨0, n, ep, []⟩) : Synced (openD (Dv.new m) 0 n k) ⟨0, n, ep, []⟩ 0 :=
  ⟨_, _, Grew.refl _ _, h, fun a => by obtain ⟨h1, h2⟩ := openD_new m 0 n k; rw [h1, h2], rfl⟩
theorem LE.opened' {w0 w w' : World} {S : Nat → Prop} {d q n a b : Nat} {D : Dv} {ep : Int} {e : Ending} (hq : q + n ≤ D.n) (hn : 1 ≤ n) (hep : numOk ep = true) (hd : DD w S d D a b) (hsn : ∀ k, S k → w0.heap.size ≤ k) (hf : Fr No w0 w) (h : LOpen S d D q n ep w e w') :
    ∃ (S' T : Nat → Prop) (l k : Nat) (fs : List Frm), e = .returned (.tuple #[.pointer (some ⟨l, 0, none⟩), .int .i64 0]) ∧ Told ep (partW D.rd q n) fs k ∧ LE w0 w' S' T d l (openD D q n k) ⟨q, n, ep, fs⟩ ∧ Step S S' w w' ∧ (∀ j, T j → w.heap.size ≤ j) := by
  obtain ⟨S', T, l, k, a', b', fs, he, ht, h1, h2, h3, h4, h5⟩ := h
  have hD := hd.small
  refine ⟨S', T, l, k, fs, he, ht, ⟨⟨a', b', h1⟩, h2, fun j hj => ?_, fun j hj => Nat.le_trans hf.size (h4 j hj), h5, hf.trans' h3.fr (fun j hj e => by have := hsn j e; omega), (open_inv hd.ok hq hn (by omega) hep ht).1⟩, h3, h4⟩
  rcases h3.grow j hj with h7 | h7
  · exact hsn j h7
  · exact Nat.le_trans hf.size h7
theorem sec_word {w : World} {bx : Nat} {t : TypeId} {s : List Nat} (h : Bk w bx t (secA s)) (hs : Sec s) {k : Nat} (hk : k < 8) : w.cell? ⟨bx, k, none⟩ = some (.int .u64 (s.getD k 0 : Nat)) := by
  rw [h.cell]
  have hl : k < s.length := by rw [hs.len]; exact hk
  simp [secA, u64s, List.getD, List.getElem?_eq_getElem hl]
theorem take_flat8 (xs : List FrV) (j : Nat) : (xs.take j).flatMap FrV.cells = (xs.flatMap FrV.cells).take (j * 2) := by
  induction xs generalizing j with
  | nil => simp
  | cons x r ih =>
    cases j with
    | zero => simp
    | succ j =>
      rw [List.take_succ_cons, List.flatMap_cons, List.flatMap_cons, ih, show (j + 1) * 2 = j * 2 + 1 + 1 by omega]
      rfl
theorem Frs.take8 {w : World} {A : Option Addr} {xs : List FrV} (h : Frs w A xs) (j : Nat) : Frs w A (xs.take j) :=
  ⟨by rw [take_flat8]; exact h.sl.take _, fun x hx => h.fit x (List.mem_of_mem_take hx)⟩
end Go.Proofs.Ytdmllfjeofiddaa
