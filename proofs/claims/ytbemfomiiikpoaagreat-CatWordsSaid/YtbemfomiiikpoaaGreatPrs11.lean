/- What is read as a class, purely; what stands while it is read. -/
import Derived.Test.YtbemfomiiikpoaaGreatCls11
import Derived.Test.YtbemfomiiikpoaaGreatRrd9
import Derived.Test.YtbemfomiiikpoaaGreatRgt10
namespace Go.Proofs.YtbemfomiiikpoaaGreat
open Go.RowKit

/-- A step that is read, and what is left behind it. -/
def pS (st : Option (List Nat)) : Option (List Nat) := gotFS (gotS st)
def pV (st : Option (List Nat)) : List Ins × List Fsp := (gotL st, gotFL (gotS st))
def stC : Nat → Option (List Nat) → Option (List Nat)
  | 0, st => st
  | k + 1, st => pS (pS (stC k st))
def lsS : Nat → Option (List Nat) → List (List Ins × List Fsp)
  | 0, _ => []
  | k + 1, st => lsS k st ++ [pV (stC k st)]
def lsU : Nat → Option (List Nat) → List (List Ins × List Fsp)
  | 0, _ => []
  | k + 1, st => lsU k st ++ [pV (pS (stC k st))]
theorem lsS_len (k : Nat) (st : Option (List Nat)) : (lsS k st).length = k := by
  induction k with
  | zero => rfl
  | succ k ih => simp [lsS, ih]
theorem lsU_len (k : Nat) (st : Option (List Nat)) : (lsU k st).length = k := by
  induction k with
  | zero => rfl
  | succ k ih => simp [lsU, ih]
def clN (st : Option (List Nat)) : Nat := gotFN (cS 3 (txS st))
def clS (st : Option (List Nat)) : Option (List Nat) := stC (clN st) (cS 4 (cS 3 (txS st)))
def pcR (st : Option (List Nat)) : PC := ⟨txV st, cV 3 (txS st), lsS (clN st) (cS 4 (cS 3 (txS st))), lsU (clN st) (cS 4 (cS 3 (txS st))), fV (clS st)⟩
/-- A class that is read. -/
def clR (st : Option (List Nat)) : Option (PC × List Nat) := if (pcR st).ok = true then (fS (clS st)).map fun r => (pcR st, r) else none
def PC.zero : PC := ⟨⟨#[]⟩, 0, [], [], false⟩

/-- A step of rows of the call's own. -/
structure Stp.Own (w : World) (b : Nat) (s : Stp) : Prop where
  code : w.ownsRow b 52 9 (.slice s.cA s.code.length s.cc) s.code.length (s.code.flatMap Ins.cells)
  foot : w.ownsRow b 125 5 (.slice s.fA s.foot.length s.fc) s.foot.length (s.foot.flatMap Fsp.cells)
theorem Stp.Own.fr {w w' : World} {b : Nat} {s : Stp} {S : Nat → Prop} (h : s.Own w b) (hf : Fr S w w') (h1 : ∀ i, (Value.slice s.cA s.code.length s.cc).ownBlock = some i → ¬ S i) (h2 : ∀ i, (Value.slice s.fA s.foot.length s.fc).ownBlock = some i → ¬ S i) : s.Own w' b := ⟨own_fr h.code hf h1, own_fr h.foot hf h2⟩
theorem Stp.Own.call {w w' : World} {b q : Nat} {s : Stp} (h : s.Own w b) (hf : Fr (Only q) w w') (hq : q < b) : s.Own w' b :=
  h.fr hf (fun i hi e => by have e : i = q := e; have := (h.code.lt i hi).1; omega) (fun i hi e => by have e : i = q := e; have := (h.foot.lt i hi).1; omega)
theorem Stp.Own.quiet {w w' : World} {b : Nat} {s : Stp} (h : s.Own w b) (hf : Fr No w w') : s.Own w' b := h.fr hf (fun _ _ e => e) (fun _ _ e => e)
theorem Stp.Own.var {w w' : World} {b Y : Nat} {s : Stp} {cs : Array Value} (h : s.Own w b) (hf : Fr (Only Y) w w') (hb : Bk w Y 56 cs) : s.Own w' b :=
  h.fr hf (fun i hi e => by have e : i = Y := e; subst e; exact own_apart h.code hb (by decide) hi) (fun i hi e => by have e : i = Y := e; subst e; exact own_apart h.foot hb (by decide) hi)
theorem Stp.Own.varC {w w' : World} {b Y : Nat} {s : Stp} {cs : Array Value} (h : s.Own w b) (hf : Fr (Only Y) w w') (hb : Bk w Y 59 cs) : s.Own w' b :=
  h.fr hf (fun i hi e => by have e : i = Y := e; subst e; exact own_apart h.code hb (by decide) hi) (fun i hi e => by have e : i = Y := e; subst e; exact own_apart h.foot hb (by decide) hi)
theorem Stp.Own.row {w w' : World} {b b2 n : Nat} {v : Value} {xs : List Value} {s : Stp} (h : s.Own w b) (hf : Fr (fun k => v.ownBlock = some k) w w') (hr : w.ownsRow b2 56 2 v n xs) : s.Own w' b :=
  h.fr hf (fun _ hi e => own_types hr h.code (by decide) e hi) (fun _ hi e => own_types hr h.foot (by decide) e hi)
theorem Stp.Own.ok {w : World} {b : Nat} {s : Stp} (h : s.Own w b) : s.Ok w w.heap.size := ⟨Sl.ofOwn h.code, Sl.ofOwn h.foot⟩

/-- What stands while the steps of a class are read: the class, its two rows, the reader. -/
structure G11 (w0 w : World) (B q : Nat) (nm : ByteArray) (a : Int) (sA : Option Addr) (sc : Nat) (uA : Option Addr) (uc : Nat) (ss us : List Stp) (k : Nat) (st : Option (List Nat)) : Prop where
  res : Bk w w0.heap.size 59 #[.string ⟨#[]⟩, .int .i64 0, .slice none 0 0, .slice none 0 0, .bool false]
  cls : Bk w (w0.heap.size + 1) 59 #[.string nm, .int .i64 a, .slice sA k sc, .slice uA k uc, .bool false]
  own1 : w.ownsRow w0.heap.size 56 2 (.slice sA k sc) k (ss.flatMap Stp.cells)
  own2 : w.ownsRow w0.heap.size 56 2 (.slice uA k uc) k (us.flatMap Stp.cells)
  apart : ∀ i, (Value.slice sA k sc).ownBlock = some i → (Value.slice uA k uc).ownBlock ≠ some i
  in1 : ∀ s ∈ ss, s.Own w w0.heap.size
  in2 : ∀ s ∈ us, s.Own w w0.heap.size
  rr : RR w B q st
  fr : Fr (Only q) w0 w
variable {w0 w w' : World} {B q k sc uc S U : Nat} {nm : ByteArray} {a : Int} {sA uA : Option Addr} {ss us : List Stp} {st st' : Option (List Nat)} {x y : Stp}
theorem G11.call (h : G11 w0 w B q nm a sA sc uA uc ss us k st) (hq : q < w0.heap.size) (hf : Fr (Only q) w w') (hr : RR w' B q st') : G11 w0 w' B q nm a sA sc uA uc ss us k st' :=
  ⟨h.res.fr hf (fun e => by have e : w0.heap.size = q := e; omega), h.cls.fr hf (fun e => by have e : w0.heap.size + 1 = q := e; omega), own_fr h.own1 hf (fun i hi e => by have e : i = q := e; have := (h.own1.lt i hi).1; omega), own_fr h.own2 hf (fun i hi e => by have e : i = q := e; have := (h.own2.lt i hi).1; omega), h.apart, fun s hs => (h.in1 s hs).call hf hq, fun s hs => (h.in2 s hs).call hf hq, hr, h.fr.trans' hf (fun _ _ e => e)⟩
theorem G11.quiet (h : G11 w0 w B q nm a sA sc uA uc ss us k st) (hf : Fr No w w') : G11 w0 w' B q nm a sA sc uA uc ss us k st :=
  ⟨h.res.fr hf (fun e => e), h.cls.fr hf (fun e => e), own_fr h.own1 hf (fun _ _ e => e), own_fr h.own2 hf (fun _ _ e => e), h.apart, fun s hs => (h.in1 s hs).quiet hf, fun s hs => (h.in2 s hs).quiet hf, h.rr.fr hf (fun e => e) (fun _ e => e.elim), h.fr.trans' hf (fun _ _ e => e.elim)⟩
theorem G11.var {cs : Array Value} (h : G11 w0 w B q nm a sA sc uA uc ss us k st) (hq : q < w0.heap.size) (hBq : B ≤ q) (hb : Bk w S 56 cs) (hS : w0.heap.size + 1 < S) (h1 : ∀ i, (Value.slice sA k sc).ownBlock = some i → i < S) (h2 : ∀ i, (Value.slice uA k uc).ownBlock = some i → i < S) (hf : Fr (Only S) w w') : G11 w0 w' B q nm a sA sc uA uc ss us k st :=
  ⟨h.res.fr hf (fun e => by have e : w0.heap.size = S := e; omega), h.cls.fr hf (fun e => by have e : w0.heap.size + 1 = S := e; omega), own_fr h.own1 hf (fun i hi e => by have e : i = S := e; have := h1 i hi; omega), own_fr h.own2 hf (fun i hi e => by have e : i = S := e; have := h2 i hi; omega), h.apart, fun s hs => (h.in1 s hs).var hf hb, fun s hs => (h.in2 s hs).var hf hb, h.rr.fr hf (fun e => by have e : q = S := e; omega) (fun i e => by have e : i = S := e; omega), h.fr.trans' hf (fun i hi e => by have e : i = S := e; omega)⟩
/-- What stands within a round: the step and the Comp that are being read, too. -/
structure R11 (w0 w : World) (B q S U : Nat) (nm : ByteArray) (a : Int) (sA : Option Addr) (sc : Nat) (uA : Option Addr) (uc : Nat) (ss us : List Stp) (k : Nat) (st : Option (List Nat)) (x y : Stp) : Prop where
  g : G11 w0 w B q nm a sA sc uA uc ss us k st
  sb : Bk w S 56 #[.slice x.cA x.code.length x.cc, .slice x.fA x.foot.length x.fc]
  ub : Bk w U 56 #[.slice y.cA y.code.length y.cc, .slice y.fA y.foot.length y.fc]
  xo : x.Own w w0.heap.size
  yo : y.Own w w0.heap.size
  lt1 : ∀ i, (Value.slice sA k sc).ownBlock = some i → i < S
  lt2 : ∀ i, (Value.slice uA k uc).ownBlock = some i → i < S
  hS : w0.heap.size + 1 < S
  hU : S < U
theorem R11.call (h : R11 w0 w B q S U nm a sA sc uA uc ss us k st x y) (hq : q < w0.heap.size) (hf : Fr (Only q) w w') (hr : RR w' B q st') : R11 w0 w' B q S U nm a sA sc uA uc ss us k st' x y :=
  ⟨h.g.call hq hf hr, h.sb.fr hf (fun e => by have e : S = q := e; have := h.hS; omega), h.ub.fr hf (fun e => by have e : U = q := e; have := h.hS; have := h.hU; omega), h.xo.call hf hq, h.yo.call hf hq, h.lt1, h.lt2, h.hS, h.hU⟩
theorem R11.s0 {A : Option Addr} {c b : Nat} {l : List Ins} (h : R11 w0 w B q S U nm a sA sc uA uc ss us k st x y) (hq : q < w0.heap.size) (hBq : B ≤ q) (hb : w0.heap.size ≤ b) (ho : w.ownsRow b 52 9 (.slice A l.length c) l.length (l.flatMap Ins.cells)) :
    R11 w0 (w.setCell ⟨S, 0, none⟩ (.slice A l.length c)) B q S U nm a sA sc uA uc ss us k st ⟨A, l, c, x.fA, x.foot, x.fc⟩ y := by
  have hf : Fr (Only S) w (w.setCell ⟨S, 0, none⟩ (.slice A l.length c)) := (Fr.refl (Only S) w).setCell (p := ⟨S, 0, none⟩) (.inl rfl) _
  have hx : (⟨A, l, c, x.fA, x.foot, x.fc⟩ : Stp).Own w w0.heap.size := ⟨own_weak ho hb, h.xo.foot⟩
  exact ⟨h.g.var hq hBq h.sb h.hS h.lt1 h.lt2 hf, h.sb.put 0 _, h.ub.fr hf (fun e => by have e : U = S := e; have := h.hU; omega), hx.var hf h.sb, h.yo.var hf h.sb, h.lt1, h.lt2, h.hS, h.hU⟩
theorem R11.s1 {A : Option Addr} {c b : Nat} {l : List Fsp} (h : R11 w0 w B q S U nm a sA sc uA uc ss us k st x y) (hq : q < w0.heap.size) (hBq : B ≤ q) (hb : w0.heap.size ≤ b) (ho : w.ownsRow b 125 5 (.slice A l.length c) l.length (l.flatMap Fsp.cells)) :
    R11 w0 (w.setCell ⟨S, 1, none⟩ (.slice A l.length c)) B q S U nm a sA sc uA uc ss us k st ⟨x.cA, x.code, x.cc, A, l, c⟩ y := by
  have hf : Fr (Only S) w (w.setCell ⟨S, 1, none⟩ (.slice A l.length c)) := (Fr.refl (Only S) w).setCell (p := ⟨S, 1, none⟩) (.inl rfl) _
  have hx : (⟨x.cA, x.code, x.cc, A, l, c⟩ : Stp).Own w w0.heap.size := ⟨h.xo.code, own_weak ho hb⟩
  exact ⟨h.g.var hq hBq h.sb h.hS h.lt1 h.lt2 hf, h.sb.put 1 _, h.ub.fr hf (fun e => by have e : U = S := e; have := h.hU; omega), hx.var hf h.sb, h.yo.var hf h.sb, h.lt1, h.lt2, h.hS, h.hU⟩
theorem R11.u0 {A : Option Addr} {c b : Nat} {l : List Ins} (h : R11 w0 w B q S U nm a sA sc uA uc ss us k st x y) (hq : q < w0.heap.size) (hBq : B ≤ q) (hb : w0.heap.size ≤ b) (ho : w.ownsRow b 52 9 (.slice A l.length c) l.length (l.flatMap Ins.cells)) :
    R11 w0 (w.setCell ⟨U, 0, none⟩ (.slice A l.length c)) B q S U nm a sA sc uA uc ss us k st x ⟨A, l, c, y.fA, y.foot, y.fc⟩ := by
  have hf : Fr (Only U) w (w.setCell ⟨U, 0, none⟩ (.slice A l.length c)) := (Fr.refl (Only U) w).setCell (p := ⟨U, 0, none⟩) (.inl rfl) _
  have hx : (⟨A, l, c, y.fA, y.foot, y.fc⟩ : Stp).Own w w0.heap.size := ⟨own_weak ho hb, h.yo.foot⟩
  have hu := h.hU
  exact ⟨h.g.var hq hBq h.ub (by have := h.hS; omega) (fun i hi => by have := h.lt1 i hi; omega) (fun i hi => by have := h.lt2 i hi; omega) hf, h.sb.fr hf (fun e => by have e : S = U := e; omega), h.ub.put 0 _, h.xo.var hf h.ub, hx.var hf h.ub, h.lt1, h.lt2, h.hS, h.hU⟩
theorem R11.u1 {A : Option Addr} {c b : Nat} {l : List Fsp} (h : R11 w0 w B q S U nm a sA sc uA uc ss us k st x y) (hq : q < w0.heap.size) (hBq : B ≤ q) (hb : w0.heap.size ≤ b) (ho : w.ownsRow b 125 5 (.slice A l.length c) l.length (l.flatMap Fsp.cells)) :
    R11 w0 (w.setCell ⟨U, 1, none⟩ (.slice A l.length c)) B q S U nm a sA sc uA uc ss us k st x ⟨y.cA, y.code, y.cc, A, l, c⟩ := by
  have hf : Fr (Only U) w (w.setCell ⟨U, 1, none⟩ (.slice A l.length c)) := (Fr.refl (Only U) w).setCell (p := ⟨U, 1, none⟩) (.inl rfl) _
  have hx : (⟨y.cA, y.code, y.cc, A, l, c⟩ : Stp).Own w w0.heap.size := ⟨h.yo.code, own_weak ho hb⟩
  have hu := h.hU
  exact ⟨h.g.var hq hBq h.ub (by have := h.hS; omega) (fun i hi => by have := h.lt1 i hi; omega) (fun i hi => by have := h.lt2 i hi; omega) hf, h.sb.fr hf (fun e => by have e : S = U := e; omega), h.ub.put 1 _, h.xo.var hf h.ub, hx.var hf h.ub, h.lt1, h.lt2, h.hS, h.hU⟩

/-- What stands between the two appends of a round. -/
structure M11 (w0 w : World) (B q U : Nat) (nm : ByteArray) (a : Int) (sA : Option Addr) (sc : Nat) (uA : Option Addr) (uc : Nat) (ss us : List Stp) (k : Nat) (st : Option (List Nat)) (y : Stp) : Prop where
  res : Bk w w0.heap.size 59 #[.string ⟨#[]⟩, .int .i64 0, .slice none 0 0, .slice none 0 0, .bool false]
  cls : Bk w (w0.heap.size + 1) 59 #[.string nm, .int .i64 a, .slice sA (k + 1) sc, .slice uA k uc, .bool false]
  own1 : w.ownsRow w0.heap.size 56 2 (.slice sA (k + 1) sc) (k + 1) (ss.flatMap Stp.cells)
  own2 : w.ownsRow w0.heap.size 56 2 (.slice uA k uc) k (us.flatMap Stp.cells)
  apart : ∀ i, (Value.slice sA (k + 1) sc).ownBlock = some i → (Value.slice uA k uc).ownBlock ≠ some i
  in1 : ∀ s ∈ ss, s.Own w w0.heap.size
  in2 : ∀ s ∈ us, s.Own w w0.heap.size
  ub : Bk w U 56 #[.slice y.cA y.code.length y.cc, .slice y.fA y.foot.length y.fc]
  yo : y.Own w w0.heap.size
  rr : RR w B q st
  fr : Fr (Only q) w0 w
theorem R11.app {A : Option Addr} {c : Nat} (h : R11 w0 w B q S U nm a sA sc uA uc ss us k st x y) (hq : q < w0.heap.size) (hBq : B ≤ q) (ho : w'.ownsRow w0.heap.size 56 2 (.slice A (k + 1) c) (k + 1) ((ss ++ [x]).flatMap Stp.cells)) (hf : Fr (fun i => (Value.slice sA k sc).ownBlock = some i) w w')
    (hg : (Value.slice A (k + 1) c).ownBlock = (Value.slice sA k sc).ownBlock ∨ ∃ i, (Value.slice A (k + 1) c).ownBlock = some i ∧ w.heap.size ≤ i) :
    M11 w0 (w'.setCell ⟨w0.heap.size + 1, 2, none⟩ (.slice A (k + 1) c)) B q U nm a A c uA uc (ss ++ [x]) us k st y := by
  have hX : Fr (Only (w0.heap.size + 1)) w' (w'.setCell ⟨w0.heap.size + 1, 2, none⟩ (.slice A (k + 1) c)) := (Fr.refl (Only (w0.heap.size + 1)) w').setCell (p := ⟨w0.heap.size + 1, 2, none⟩) (.inl rfl) _
  have hc := h.g.cls.fr hf (fun e => own_apart h.g.own1 h.g.cls (by decide) e)
  have hr := h.g.res.fr hf (fun e => own_apart h.g.own1 h.g.res (by decide) e)
  have h2 := own_fr h.g.own2 hf (fun i hi e => h.g.apart i e hi)
  have hu := h.ub.fr hf (fun e => by have := h.lt1 _ e; have := h.hU; omega)
  have hS := h.hS
  have hU := h.hU
  refine ⟨hr.fr hX (fun e => by have e : w0.heap.size = w0.heap.size + 1 := e; omega), hc.put 2 _, own_fr ho hX (fun i hi e => by have e : i = w0.heap.size + 1 := e; subst e; exact own_apart ho hc (by decide) hi), own_fr h2 hX (fun i hi e => by have e : i = w0.heap.size + 1 := e; subst e; exact own_apart h2 hc (by decide) hi), fun i hi e => ?_, fun s hs => ?_, fun s hs => ((h.g.in2 s hs).row hf h.g.own1).varC hX hc, hu.fr hX (fun e => by have e : U = w0.heap.size + 1 := e; omega), (h.yo.row hf h.g.own1).varC hX hc, (h.g.rr.fr hf (fun e => by have := (h.g.own1.lt _ e).1; omega) (fun i e => by have := (h.g.own1.lt _ e).1; omega)).fr hX (fun e => by have e : q = w0.heap.size + 1 := e; omega) (fun i e => by have e : i = w0.heap.size + 1 := e; omega), (h.g.fr.trans' hf (fun i hi e => by have := (h.g.own1.lt _ e).1; omega)).trans' hX (fun i hi e => by have e : i = w0.heap.size + 1 := e; omega)⟩
  · rcases hg with hg | ⟨j, hg, hj⟩
    · rw [hg] at hi
      exact h.g.apart i hi e
    · rw [hg] at hi
      injection hi with hi
      have := (h.g.own2.lt _ e).2
      omega
  · rw [List.mem_append, List.mem_singleton] at hs
    rcases hs with hs | rfl
    · exact ((h.g.in1 s hs).row hf h.g.own1).varC hX hc
    · exact (h.xo.row hf h.g.own1).varC hX hc
theorem M11.app {A : Option Addr} {c : Nat} (h : M11 w0 w B q U nm a sA sc uA uc ss us k st y) (hq : q < w0.heap.size) (hBq : B ≤ q) (ho : w'.ownsRow w0.heap.size 56 2 (.slice A (k + 1) c) (k + 1) ((us ++ [y]).flatMap Stp.cells)) (hf : Fr (fun i => (Value.slice uA k uc).ownBlock = some i) w w')
    (hg : (Value.slice A (k + 1) c).ownBlock = (Value.slice uA k uc).ownBlock ∨ ∃ i, (Value.slice A (k + 1) c).ownBlock = some i ∧ w.heap.size ≤ i) :
    G11 w0 (w'.setCell ⟨w0.heap.size + 1, 3, none⟩ (.slice A (k + 1) c)) B q nm a sA sc A c ss (us ++ [y]) (k + 1) st := by
  have hX : Fr (Only (w0.heap.size + 1)) w' (w'.setCell ⟨w0.heap.size + 1, 3, none⟩ (.slice A (k + 1) c)) := (Fr.refl (Only (w0.heap.size + 1)) w').setCell (p := ⟨w0.heap.size + 1, 3, none⟩) (.inl rfl) _
  have hc := h.cls.fr hf (fun e => own_apart h.own2 h.cls (by decide) e)
  have hr := h.res.fr hf (fun e => own_apart h.own2 h.res (by decide) e)
  have h1 := own_fr h.own1 hf (fun i hi e => h.apart i hi e)
  refine ⟨hr.fr hX (fun e => by have e : w0.heap.size = w0.heap.size + 1 := e; omega), hc.put 3 _, own_fr h1 hX (fun i hi e => by have e : i = w0.heap.size + 1 := e; subst e; exact own_apart h1 hc (by decide) hi), own_fr ho hX (fun i hi e => by have e : i = w0.heap.size + 1 := e; subst e; exact own_apart ho hc (by decide) hi), fun i hi e => ?_, fun s hs => ((h.in1 s hs).row hf h.own2).varC hX hc, fun s hs => ?_, (h.rr.fr hf (fun e => by have := (h.own2.lt _ e).1; omega) (fun i e => by have := (h.own2.lt _ e).1; omega)).fr hX (fun e => by have e : q = w0.heap.size + 1 := e; omega) (fun i e => by have e : i = w0.heap.size + 1 := e; omega), (h.fr.trans' hf (fun i hi e => by have := (h.own2.lt _ e).1; omega)).trans' hX (fun i hi e => by have e : i = w0.heap.size + 1 := e; omega)⟩
  · rcases hg with hg | ⟨j, hg, hj⟩
    · rw [hg] at e
      exact h.apart i hi e
    · rw [hg] at e
      injection e with e
      have := (h.own1.lt _ hi).2
      omega
  · rw [List.mem_append, List.mem_singleton] at hs
    rcases hs with hs | rfl
    · exact ((h.in2 s hs).row hf h.own2).varC hX hc
    · exact (h.yo.row hf h.own2).varC hX hc
theorem R11.app' {A : Option Addr} {c : Nat} (h : R11 w0 w B q S U nm a sA sc uA uc ss us k st x y) (hq : q < w0.heap.size) (hBq : B ≤ q) (ho : w'.ownsRow w0.heap.size 56 2 (.slice A (k + 1) c) (k + 1) (ss.flatMap Stp.cells ++ x.cells)) (hf : Fr (fun i => (Value.slice sA k sc).ownBlock = some i) w w')
    (hg : (Value.slice A (k + 1) c).ownBlock = (Value.slice sA k sc).ownBlock ∨ ∃ i, (Value.slice A (k + 1) c).ownBlock = some i ∧ w.heap.size ≤ i) :
    (w0.heap.size + 1 < w'.heap.size ∧ w'.frozen? ⟨w0.heap.size + 1, 2, none⟩ = false ∧ w'.cell? ⟨w0.heap.size + 1, 2, none⟩ = some (.slice sA k sc)) ∧
    M11 w0 (w'.setCell ⟨w0.heap.size + 1, 2, none⟩ (.slice A (k + 1) c)) B q U nm a A c uA uc (ss ++ [x]) us k st y := by
  have hc := h.g.cls.fr hf (fun e => own_apart h.g.own1 h.g.cls (by decide) e)
  refine ⟨⟨hc.lt, hc.frozen 2, by simpa using hc.cell 2⟩, h.app hq hBq ?_ hf hg⟩
  rw [List.flatMap_append, show [x].flatMap Stp.cells = x.cells by simp]
  exact ho
theorem M11.app' {A : Option Addr} {c : Nat} (h : M11 w0 w B q U nm a sA sc uA uc ss us k st y) (hq : q < w0.heap.size) (hBq : B ≤ q) (ho : w'.ownsRow w0.heap.size 56 2 (.slice A (k + 1) c) (k + 1) (us.flatMap Stp.cells ++ y.cells)) (hf : Fr (fun i => (Value.slice uA k uc).ownBlock = some i) w w')
    (hg : (Value.slice A (k + 1) c).ownBlock = (Value.slice uA k uc).ownBlock ∨ ∃ i, (Value.slice A (k + 1) c).ownBlock = some i ∧ w.heap.size ≤ i) :
    (w0.heap.size + 1 < w'.heap.size ∧ w'.frozen? ⟨w0.heap.size + 1, 3, none⟩ = false ∧ w'.cell? ⟨w0.heap.size + 1, 3, none⟩ = some (.slice uA k uc)) ∧
    G11 w0 (w'.setCell ⟨w0.heap.size + 1, 3, none⟩ (.slice A (k + 1) c)) B q nm a sA sc A c ss (us ++ [y]) (k + 1) st := by
  have hc := h.cls.fr hf (fun e => own_apart h.own2 h.cls (by decide) e)
  refine ⟨⟨hc.lt, hc.frozen 3, by simpa using hc.cell 3⟩, h.app hq hBq ?_ hf hg⟩
  rw [List.flatMap_append, show [y].flatMap Stp.cells = y.cells by simp]
  exact ho
theorem M11.facts (h : M11 w0 w B q U nm a sA sc uA uc ss us k st y) : w.cell? ⟨w0.heap.size + 1, 3, none⟩ = some (.slice uA k uc) ∧ w.cell? ⟨U, 0, none⟩ = some (.slice y.cA y.code.length y.cc) ∧ w.cell? ⟨U, 1, none⟩ = some (.slice y.fA y.foot.length y.fc) ∧ w0.heap.size + 1 < w.heap.size ∧ U < w.heap.size :=
  ⟨by simpa using h.cls.cell 3, by simpa using h.ub.cell 0, by simpa using h.ub.cell 1, h.cls.lt, h.ub.lt⟩
theorem info_stp : (Tryz.prog.info? 56).map (fun i => (i.zero, i.size, i.bytes)) = some (some (.agg #[.slice none 0 0, .slice none 0 0]), 2, 48) := by kernel_rfl
theorem stp_one (s : Stp) : ∀ u ∈ s.cells.toArray.toList, u.oneCell' = true := by
  intro u hu
  simp [Stp.cells] at hu
  rcases hu with rfl | rfl <;> rfl
end Go.Proofs.YtbemfomiiikpoaaGreat
