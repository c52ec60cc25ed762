/- What is read as a catalogue, purely; what stands while it is read. -/
import Derived.Test.YtkihbjgmmaklaaaCat12
import Derived.Test.YtkihbjgmmaklaaaPrs11
namespace Go.Proofs.Ytkihbjgmmaklaaa
open Go.RowKit

def stQ : Nat → Option (List Nat) → Option (List Nat)
  | 0, st => st
  | k + 1, st => (clR (stQ k st)).map (·.2)
def lsQ : Nat → Option (List Nat) → List PC
  | 0, _ => []
  | k + 1, st => lsQ k st ++ [((clR (stQ k st)).map (·.1)).getD PC.zero]
theorem lsQ_len (k : Nat) (st : Option (List Nat)) : (lsQ k st).length = k := by
  induction k with
  | zero => rfl
  | succ k ih => simp [lsQ, ih]
def stB : Nat → Option (List Nat) → Option (List Nat)
  | 0, st => st
  | k + 1, st => cS 255 (stB k st)
/-- The breakpoints of the first j pairs of n classes. -/
def brR (n j : Nat) (st : Option (List Nat)) (p : Nat) : Int := if p / 4 < n ∧ p % 4 < n ∧ p / 4 * n + p % 4 < j then cV 255 (stB (p / 4 * n + p % 4) st) else 0
def ctN (st : Option (List Nat)) : Nat := gotFN st
theorem ctN_le (st : Option (List Nat)) : ctN st ≤ 4 := gotFN_le st
def ctP (st : Option (List Nat)) : PCt := ⟨lsQ (ctN st) (cS 4 st), brR (ctN st) (ctN st * ctN st) (stQ (ctN st) (cS 4 st))⟩
def ctS (st : Option (List Nat)) : Option (List Nat) := stB (ctN st * ctN st) (stQ (ctN st) (cS 4 st))
/-- A catalogue that is read. -/
def ctR (st : Option (List Nat)) : Option (PCt × List Nat) := if (ctP st).ok = true then (ctS st).map fun r => (ctP st, r) else none
def PCt.zero : PCt := ⟨[], fun _ => 0⟩
def updB (b : Nat → Int) (j : Nat) (u : Int) : Nat → Int := fun p => if p = j then u else b p
theorem brR_zero (n : Nat) (st : Option (List Nat)) : brR n 0 st = fun _ => 0 := by
  funext p
  unfold brR
  rw [if_neg (by omega)]
/-- The next pair. -/
theorem brR_next {n c d : Nat} {st : Option (List Nat)} (hn : n ≤ 4) (hc : c < n) (hd : d < n) : updB (brR n (c * n + d) st) (c * 4 + d) (cV 255 (stB (c * n + d) st)) = brR n (c * n + d + 1) st := by
  funext p
  unfold updB brR
  by_cases hp : p = c * 4 + d
  · subst hp
    rw [if_pos rfl]
    have e1 : (c * 4 + d) / 4 = c := by omega
    have e2 : (c * 4 + d) % 4 = d := by omega
    rw [e1, e2, if_pos ⟨hc, hd, by omega⟩]
  · rw [if_neg hp]
    by_cases h1 : p / 4 < n ∧ p % 4 < n
    · obtain ⟨h2, h3⟩ := h1
      have hne : p / 4 * n + p % 4 ≠ c * n + d := by
        intro e
        apply hp
        have h4 : p = p / 4 * 4 + p % 4 := by omega
        generalize p / 4 = u at *
        generalize p % 4 = v at *
        have hu : u = c := by
          have h5 : n = 1 ∨ n = 2 ∨ n = 3 ∨ n = 4 := by omega
          rcases h5 with rfl | rfl | rfl | rfl <;> omega
        subst hu
        omega
      have hiff : (p / 4 * n + p % 4 < c * n + d) ↔ (p / 4 * n + p % 4 < c * n + d + 1) := by omega
      simp only [h2, h3, true_and, hiff]
    · rw [if_neg (fun h => h1 ⟨h.1, h.2.1⟩), if_neg (fun h => h1 ⟨h.1, h.2.1⟩)]
theorem brA_put (v : Value) (b : Nat → Int) {j : Nat} (hj : j < 16) (u : Int) : (brA v b).setIfInBounds (1 + j) (.int .i64 u) = brA v (updB b j u) := by
  have h : j = 0 ∨ j = 1 ∨ j = 2 ∨ j = 3 ∨ j = 4 ∨ j = 5 ∨ j = 6 ∨ j = 7 ∨ j = 8 ∨ j = 9 ∨ j = 10 ∨ j = 11 ∨ j = 12 ∨ j = 13 ∨ j = 14 ∨ j = 15 := by omega
  rcases h with rfl | rfl | rfl | rfl | rfl | rfl | rfl | rfl | rfl | rfl | rfl | rfl | rfl | rfl | rfl | rfl <;> simp [brA, updB]
theorem brA_put0 (v v' : Value) (b : Nat → Int) : (brA v b).setIfInBounds 0 v' = brA v' b := by simp [brA]

/-- A class whose lists lie between two marks. -/
def RobC (c : Cls) (lo hi : Nat) (w : World) : Prop := hi ≤ w.heap.size ∧ ∀ V, Fr (fun i => i < lo ∨ hi ≤ i) w V → c.Ok V
theorem RobC.fr {c : Cls} {lo hi : Nat} {w w' : World} {S : Nat → Prop} (h : RobC c lo hi w) (hf : Fr S w w') (hS : ∀ i, S i → i < w.heap.size → i < lo ∨ hi ≤ i) : RobC c lo hi w' :=
  ⟨Nat.le_trans h.1 hf.size, fun V hV => h.2 V ((hf.weak (fun i hi hs => hS i hs hi)).trans' hV (fun _ _ e => e))⟩
theorem RobC.ok {c : Cls} {lo hi : Nat} {w : World} (h : RobC c lo hi w) : c.Ok w := h.2 w (Fr.refl _ _)
/-- What stands while the classes of a catalogue are read. -/
structure Q12 (b0 : Nat) (w : World) (X : Nat) (cA : Option Addr) (cc : Nat) (cls : List Cls) (k : Nat) (b : Nat → Int) : Prop where
  cat : Bk w X 26 (brA (.slice cA k cc) b)
  own : w.ownsRow b0 35 5 (.slice cA k cc) k (cls.flatMap Cls.cells)
  all : ∀ c ∈ cls, ∃ lo hi, b0 ≤ lo ∧ X < lo ∧ RobC c lo hi w ∧ ∀ i, (Value.slice cA k cc).ownBlock = some i → i < lo ∨ hi ≤ i
  hX : b0 ≤ X
variable {b0 q X k cc : Nat} {w w' : World} {cA : Option Addr} {cls : List Cls} {b : Nat → Int} {c : Cls}
theorem Q12.call (h : Q12 b0 w X cA cc cls k b) (hq : q < b0) (hf : Fr (Only q) w w') : Q12 b0 w' X cA cc cls k b := by
  have hX := h.hX
  refine ⟨h.cat.fr hf (fun e => by have e : X = q := e; omega), own_fr h.own hf (fun i hi e => by have e : i = q := e; have := (h.own.lt i hi).1; omega), fun c hc => ?_, hX⟩
  obtain ⟨lo, hi, h1, h2, h3, h4⟩ := h.all c hc
  exact ⟨lo, hi, h1, h2, h3.fr hf (fun i e _ => by have e : i = q := e; omega), h4⟩
theorem Q12.quiet (h : Q12 b0 w X cA cc cls k b) (hf : Fr No w w') : Q12 b0 w' X cA cc cls k b := by
  refine ⟨h.cat.fr hf (fun e => e), own_fr h.own hf (fun _ _ e => e), fun c hc => ?_, h.hX⟩
  obtain ⟨lo, hi, h1, h2, h3, h4⟩ := h.all c hc
  exact ⟨lo, hi, h1, h2, h3.fr hf (fun i e _ => e.elim), h4⟩
/-- A class more. -/
theorem Q12.app {A : Option Addr} {c2 lo : Nat} (h : Q12 b0 w X cA cc cls k b) (hc : ∀ V, Fr (fun i => i < lo) w V → c.Ok V) (hlo : b0 ≤ lo ∧ X < lo) (hlt : ∀ i, (Value.slice cA k cc).ownBlock = some i → i < lo)
    (ho : w'.ownsRow b0 35 5 (.slice A (k + 1) c2) (k + 1) (cls.flatMap Cls.cells ++ c.cells)) (hf : Fr (fun i => (Value.slice cA k cc).ownBlock = some i) w w')
    (hg : (Value.slice A (k + 1) c2).ownBlock = (Value.slice cA k cc).ownBlock ∨ ∃ i, (Value.slice A (k + 1) c2).ownBlock = some i ∧ w.heap.size ≤ i) :
    Bk w' X 26 (brA (.slice cA k cc) b) ∧ Q12 b0 (w'.setCell ⟨X, 0, none⟩ (.slice A (k + 1) c2)) X A c2 (cls ++ [c]) (k + 1) b := by
  have hX : Fr (Only X) w' (w'.setCell ⟨X, 0, none⟩ (.slice A (k + 1) c2)) := (Fr.refl (Only X) w').setCell (p := ⟨X, 0, none⟩) (.inl rfl) _
  have hcat := h.cat.fr hf (fun e => own_apart h.own h.cat (by decide) e)
  have ho2 : w'.ownsRow b0 35 5 (.slice A (k + 1) c2) (k + 1) ((cls ++ [c]).flatMap Cls.cells) := by simpa using ho
  have hp := hcat.put 0 (.slice A (k + 1) c2)
  rw [brA_put0] at hp
  refine ⟨hcat, hp, own_fr ho2 hX (fun i hi e => by have e : i = X := e; subst e; exact own_apart ho2 hcat (by decide) hi), fun c' hc' => ?_, h.hX⟩
  rw [List.mem_append, List.mem_singleton] at hc'
  rcases hc' with hc' | rfl
  · obtain ⟨l1, h1, a1, a2, a3, a4⟩ := h.all c' hc'
    refine ⟨l1, h1, a1, a2, (a3.fr hf (fun i e _ => a4 i e)).fr hX (fun i e _ => by have e : i = X := e; omega), fun i hi => ?_⟩
    rcases hg with hg | ⟨j, hg, hj⟩
    · rw [hg] at hi
      exact a4 i hi
    · rw [hg] at hi
      injection hi with hi
      have := a3.1
      omega
  · refine ⟨lo, w.heap.size, hlo.1, hlo.2, ?_, fun i hi => ?_⟩
    · have h0 : RobC c' lo w.heap.size w := ⟨Nat.le_refl _, fun V hV => hc V (hV.weak (fun i hi e => by rcases e with e | e <;> omega))⟩
      exact (h0.fr hf (fun i e _ => .inl (hlt i e))).fr hX (fun i e _ => by have e : i = X := e; omega)
    · rcases hg with hg | ⟨j, hg, hj⟩
      · rw [hg] at hi
        exact .inl (hlt i hi)
      · rw [hg] at hi
        injection hi with hi
        omega
/-- A breakpoint that is stored. -/
theorem Q12.brk (h : Q12 b0 w X cA cc cls k b) {j : Nat} (hj : j < 16) (u : Int) : Q12 b0 (w.setCell ⟨X, 1 + j, none⟩ (.int .i64 u)) X cA cc cls k (updB b j u) := by
  have hX : Fr (Only X) w (w.setCell ⟨X, 1 + j, none⟩ (.int .i64 u)) := (Fr.refl (Only X) w).setCell (p := ⟨X, 1 + j, none⟩) (.inl rfl) _
  have hp := h.cat.put (1 + j) (.int .i64 u)
  rw [brA_put _ _ hj] at hp
  refine ⟨hp, own_fr h.own hX (fun i hi e => by have e : i = X := e; subst e; exact own_apart h.own h.cat (by decide) hi), fun c hc => ?_, h.hX⟩
  obtain ⟨lo, hi, h1, h2, h3, h4⟩ := h.all c hc
  exact ⟨lo, hi, h1, h2, h3.fr hX (fun i e _ => by have e : i = X := e; omega), h4⟩
/-- The classes lie there, whatever is turned below b0. -/
theorem Q12.clss (h : Q12 b0 w X cA cc cls k b) {V : World} {S : Nat → Prop} (hf : Fr S w V) (hS : ∀ i, S i → i < b0 ∨ i = X) : Clss V cA cls := by
  refine ⟨Sl.ofOwn (own_fr h.own hf (fun i hi e => ?_)), fun c hc => ?_⟩
  · rcases hS i e with e | rfl
    · have := (h.own.lt i hi).1
      omega
    · exact own_apart h.own h.cat (by decide) hi
  · obtain ⟨lo, hi, h1, h2, h3, h4⟩ := h.all c hc
    exact h3.2 V (hf.weak (fun i _ e => by rcases hS i e with e | e <;> omega))
end Go.Proofs.Ytkihbjgmmaklaaa
