/- What is read as a class, purely; what stands while it is read. -/
import Derived.Test.YtkihbjgmmaklaaaCls11
import Derived.Test.YtkihbjgmmaklaaaRrd9
import Derived.Test.YtkihbjgmmaklaaaRgt10
namespace Go.Proofs.Ytkihbjgmmaklaaa
open Go.RowKit

/-- A step that is read, and what is left behind it. -/
def pS (st : Option (List Nat)) : Option (List Nat) := gotFS (gotS st)
def pV (st : Option (List Nat)) : List Ins × List Fsp := (gotL st, gotFL (gotS st))
def stC : Nat → Option (List Nat) → Option (List Nat)
  | 0, st => st
  | k + 1, st => pS (pS (stC k st))
def lsS : Nat → Option (List Nat) → List (List Ins × List Fsp)
  | 0, _ => []
  | k + 1, st => lsS k st ++ [pV (stC k st)]
def lsU : Nat → Option (List Nat) → List (List Ins × List Fsp)
  | 0, _ => []
  | k + 1, st => lsU k st ++ [pV (pS (stC k st))]
theorem lsS_len (k : Nat) (st : Option (List Nat)) : (lsS k st).length = k := by
  induction k with
  | zero => rfl
  | succ k ih => simp [lsS, ih]
theorem lsU_len (k : Nat) (st : Option (List Nat)) : (lsU k st).length = k := by
  induction k with
  | zero => rfl
  | succ k ih => simp [lsU, ih]
def clN (st : Option (List Nat)) : Nat := gotFN (cS 3 (txS st))
def clS (st : Option (List Nat)) : Option (List Nat) := stC (clN st) (cS 4 (cS 3 (txS st)))
def pcR (st : Option (List Nat)) : PC := ⟨txV st, cV 3 (txS st), lsS (clN st) (cS 4 (cS 3 (txS st))), lsU (clN st) (cS 4 (cS 3 (txS st))), fV (clS st)⟩
/-- A class that is read. -/
def clR (st : Option (List Nat)) : Option (PC × List Nat) := if (pcR st).ok = true then (fS (clS st)).map fun r => (pcR st, r) else none
def PC.zero : PC := ⟨⟨#[]⟩, 0, [], [], false⟩

/-- A step of rows of the call's own. -/
structure Stp.Own (w : World) (b : Nat) (s : Stp) : Prop where
  code : w.ownsRow b 50 9 (.slice s.cA s.code.length s.cc) s.code.length (s.code.flatMap Ins.cells)
  foot : w.ownsRow b 94 5 (.slice s.fA s.foot.length s.fc) s.foot.length (s.foot.flatMap Fsp.cells)
theorem Stp.Own.fr {w w' : World} {b : Nat} {s : Stp} {S : Nat → Prop} (h : s.Own w b) (hf : Fr S w w') (h1 : ∀ i, (Value.slice s.cA s.code.length s.cc).ownBlock = some i → ¬ S i) (h2 : ∀ i, (Value.slice s.fA s.foot.length s.fc).ownBlock = some i → ¬ S i) : s.Own w' b := ⟨own_fr h.code hf h1, own_fr h.foot hf h2⟩
theorem Stp.Own.call {w w' : World} {b q : Nat} {s : Stp} (h : s.Own w b) (hf : Fr (Only q) w w') (hq : q < b) : s.Own w' b :=
  h.fr hf (fun i hi e => by have e : i = q := e; have := (h.code.lt i hi).1; omega) (fun i hi e => by have e : i = q := e; have := (h.foot.lt i hi).1; omega)
theorem Stp.Own.quiet {w w' : World} {b : Nat} {s : Stp} (h : s.Own w b) (hf : Fr No w w') : s.Own w' b := h.fr hf (fun _ _ e => e) (fun _ _ e => e)
theorem Stp.Own.var {w w' : World} {b Y : Nat} {s : Stp} {cs : Array Value} (h : s.Own w b) (hf : Fr (Only Y) w w') (hb : Bk w Y 54 cs) : s.Own w' b :=
  h.fr hf (fun i hi e => by have e : i = Y := e; subst e; exact own_apart h.code hb (by decide) hi) (fun i hi e => by have e : i = Y := e; subst e; exact own_apart h.foot hb (by decide) hi)
theorem Stp.Own.varC {w w' : World} {b Y : Nat} {s : Stp} {cs : Array Value} (h : s.Own w b) (hf : Fr (Only Y) w w') (hb : Bk w Y 35 cs) : s.Own w' b :=
  h.fr hf (fun i hi e => by have e : i = Y := e; subst e; exact own_apart h.code hb (by decide) hi) (fun i hi e => by have e : i = Y := e; subst e; exact own_apart h.foot hb (by decide) hi)
theorem Stp.Own.row {w w' : World} {b b2 n : Nat} {v : Value} {xs : List Value} {s : Stp} (h : s.Own w b) (hf : Fr (fun k => v.ownBlock = some k) w w') (hr : w.ownsRow b2 54 2 v n xs) : s.Own w' b :=
  h.fr hf (fun _ hi e => own_types hr h.code (by decide) e hi) (fun _ hi e => own_types hr h.foot (by decide) e hi)
theorem Stp.Own.ok {w : World} {b : Nat} {s : Stp} (h : s.Own w b) : s.Ok w w.heap.size := ⟨Sl.ofOwn h.code, Sl.ofOwn h.foot⟩

variable {w0 w w' : World} {B q k sc uc S U : Nat} {nm : ByteArray} {a : Int} {sA uA : Option Addr} {ss us : List Stp} {st st' : Option (List Nat)} {x y : Stp}
theorem info_stp : (Try.prog.info? 54).map (fun i => (i.zero, i.size, i.bytes)) = some (some (.agg #[.slice none 0 0, .slice none 0 0]), 2, 48) := by kernel_rfl
theorem stp_one (s : Stp) : ∀ u ∈ s.cells.toArray.toList, u.oneCell' = true := by
  intro u hu
  simp [Stp.cells] at hu
  rcases hu with rfl | rfl <;> rfl
end Go.Proofs.Ytkihbjgmmaklaaa
