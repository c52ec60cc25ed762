/- A device, and variables beside it, while calls go on. -/
import Derived.Test.YtcjbdoppphjpjaaDsk3
namespace Go.Proofs.Ytcjbdoppphjpjaa
open Go.RowKit

/-- Since w0 a device of the call's own lies at d, and nothing that was there has turned. -/
structure Env (w0 w : World) (S : Nat → Prop) (d : Nat) (D : Dv) (a b : Nat) : Prop where
  dd : DD w S d D a b
  new : ∀ k, S k → w0.heap.size ≤ k
  fr : Fr No w0 w
/-- A variable's block, apart from the device. -/
structure Lv (w : World) (S : Nat → Prop) (v : Nat) (t : TypeId) (cs : Array Value) : Prop where
  bk : Bk w v t cs
  out : ¬ S v
section
variable {w0 w w' : World} {S S' : Nat → Prop} {d a b a' b' : Nat} {D D' : Dv} {v : Nat} {t : TypeId} {cs : Array Value}
theorem Env.begin {S : Nat → Prop} (hf : Fr No w0 w) (h : DD w' S d D a b) (hs : Step No S w w') : Env w0 w' S d D a b :=
  ⟨h, fun k hk => by rcases hs.grow k hk with h1 | h1; (exact h1.elim); (exact Nat.le_trans hf.size h1), hf.trans' hs.fr (fun _ _ e => e)⟩
theorem Env.step (h : Env w0 w S d D a b) (hd : DD w' S' d D' a' b') (hs : Step S S' w w') : Env w0 w' S' d D' a' b' :=
  ⟨hd, fun k hk => by rcases hs.grow k hk with h1 | h1; (exact h.new k h1); (exact Nat.le_trans h.fr.size h1), h.fr.trans' hs.fr (fun k hk e => by have := h.new k e; omega)⟩
theorem Env.quiet (h : Env w0 w S d D a b) (hf : Fr No w w') : Env w0 w' S d D a b := ⟨h.dd.fr hf (fun _ _ e => e), h.new, h.fr.trans' hf (fun _ _ e => e)⟩
theorem Env.alloc (h : Env w0 w S d D a b) (o : Obj) : Env w0 (w.alloc o) S d D a b := h.quiet ((Fr.refl _ w).alloc o)
theorem Env.drew (h : Env w0 w S d D a b) : Env w0 w.drew S d D a b := h.quiet (Fr.refl _ w).drew
theorem Lv.made (h : Env w0 w S d D a b) (t : TypeId) (cs : Array Value) : Lv (w.alloc (.cells cs t)) S w.heap.size t cs := ⟨Bk.made w t cs, fun e => by have := h.dd.lt _ e; omega⟩
theorem Lv.step (h : Lv w S v t cs) (hs : Step S S' w w') : Lv w' S' v t cs := ⟨h.bk.fr hs.fr h.out, hs.out h.bk.lt h.out⟩
theorem Lv.quiet (h : Lv w S v t cs) (hf : Fr No w w') : Lv w' S v t cs := ⟨h.bk.fr hf (fun e => e), h.out⟩
theorem Lv.alloc (h : Lv w S v t cs) (o : Obj) : Lv (w.alloc o) S v t cs := h.quiet ((Fr.refl _ w).alloc o)
theorem Lv.drew (h : Lv w S v t cs) : Lv w.drew S v t cs := h.quiet (Fr.refl _ w).drew
theorem keepCrash {w1 w2 : World} {kn : Nat} (h1 : Fr No w w1) (hkn : w.heap.size ≤ kn) (h2 : Fr (fun k => S k ∨ k = kn) w1 w2) (h3 : ∀ k, S' k → S k ∨ w1.heap.size ≤ k) : Step S S' w w2 :=
  ⟨(h1.weak (S' := S) (fun _ _ e => e.elim)).trans' h2 (fun k hk e => by rcases e with e | e; (exact e); (omega)), fun k hk => by rcases h3 k hk with e | e; (exact .inl e); (exact .inr (Nat.le_trans h1.size e))⟩
end
theorem lv8 {w : World} {S : Nat → Prop} {v : Nat} {t : TypeId} {c0 c1 c2 c3 c4 c5 c6 c7 : Value} (h : Lv w S v t #[c0, c1, c2, c3, c4, c5, c6, c7]) :
    w.cell? ⟨v, 0, none⟩ = some c0 ∧ w.cell? ⟨v, 1, none⟩ = some c1 ∧ w.cell? ⟨v, 2, none⟩ = some c2 ∧ w.cell? ⟨v, 3, none⟩ = some c3 ∧ w.cell? ⟨v, 4, none⟩ = some c4 ∧ w.cell? ⟨v, 5, none⟩ = some c5 ∧ w.cell? ⟨v, 6, none⟩ = some c6 ∧ w.cell? ⟨v, 7, none⟩ = some c7 :=
  ⟨h.bk.cell 0, h.bk.cell 1, h.bk.cell 2, h.bk.cell 3, h.bk.cell 4, h.bk.cell 5, h.bk.cell 6, h.bk.cell 7⟩
end Go.Proofs.Ytcjbdoppphjpjaa
