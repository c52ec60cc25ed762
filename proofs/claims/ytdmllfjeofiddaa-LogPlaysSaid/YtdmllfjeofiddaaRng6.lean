/- A range over a function whose body always goes on: what the function hands over, and what it has handed over at its end, are told together with the world in which they lie. -/
import Derived.RangeFuncBox
import Derived.RangeFuncLeaves
import Derived.RangeFuncNested
import Derived.Test.YtdmllfjeofiddaaLib
namespace Go.Proofs.Ytdmllfjeofiddaa
open Go.RowKit

section
variable {α : Type} {F : Fence} {n : Nat} {P : Program}
/-- A function that hands over values, each with X in the world where it does so; behind it S holds of all. -/
def GivesW (F : Fence) (n : Nat) (P : Program) (g : Nat) (lb : Array Value) (encs : α → Array Value) (X : α → World → Prop) (Kp : World → World → Prop) (S : List α → World → Prop) (N : Nat) (w : World) : Prop :=
  ∀ (l : Nat) (J : List α → World → Prop) (W : World), Below w.heap.size w W → AbidesFrom W.heap.size J →
    (∀ pre x V, J pre V → X x V → pre.length < N → YieldAt F (n - 1) P l (encs x) V fun e V' => e = .returned (.bool true) ∧ J (pre ++ [x]) V' ∧ Kp V V') → J [] W →
    CallsIn F n P g (#[.func (.yield l) #[] #[]] ++ lb) W fun e V => (∃ v, e = .returned v) ∧ ∃ xs, S xs V ∧ J xs V
/-- How a round ends. -/
def OnlyOn (B : Nat) (Kp : World → World → Prop) (I : World → Prop) (W : World) : Exit → Act → World → Prop
  | .normal, _, V => KeepsFrom B W V ∧ Kp W V ∧ I V
  | _, _, _ => False

theorem range_gives {g : Operand} {ps : Array Tmp} {assign body : Code} {Q : Exit → Act → World → Prop} {a : Act} {w : World} (hro : F.round = none) (h1 : 1 ≤ n) {gf : Nat} {lb : Array Value} (hg : a.eval g = .func (.func gf) #[] lb) (hFg : F.fn gf)
    (eg : ∀ args w, (callFunc gf args).run P w = .ok (.enter gf args) w) {encs : α → Array Value} {X : α → World → Prop} {Kp : World → World → Prop} {S : List α → World → Prop} {N : Nat} (hseq : GivesW F (n - 1) P gf lb encs X Kp S N w)
    (hKt : ∀ {A B C : World}, Kp A B → Kp B C → Kp A C) (hKb : ∀ (W : World) (l : Nat) (o o' : Obj), w.heap.size ≤ l → W.heap[l]? = some o → o.isCells = false → o.isWalk = false → Kp W (W.putObj l o')) (hps : ∀ x, (encs x).size = ps.size)
    (I : List α → World → Prop) (hI : OwnFrom w.heap.size I) (hS : OwnFrom w.heap.size S) (hX : OwnFrom w.heap.size X) (h0 : I [] w) (Ax : α → Act → World → Prop) (hAx : ∀ x a', OwnFrom w.heap.size (fun (_ : Unit) W => Ax x a' W))
    (hassign : ∀ (l : Nat) (pre : List α) (x : α) (W : World) (K : Act → World → Prop), I pre W → X x W → (∀ a' V, KeepsFrom w.heap.size W V → Kp W V → I pre V → X x V → Ax x a' V → K a' V) →
      assign.wpIn (F.inRound l) (n - 1 - 1) P (Exit.then K (fun _ _ _ => False)) { tmps := (ps.zip (encs x)).foldl (fun t (p, v) => t.setIfInBounds p v) a.tmps, defers := [] } W)
    (hbody : ∀ (l : Nat) (pre : List α) (x : α) (a' : Act) (W : World), I pre W → X x W → Ax x a' W → pre.length < N → body.wpIn (F.inRound l) (n - 1 - 1) P (OnlyOn w.heap.size Kp (I (pre ++ [x])) W) a' W)
    (hdone : ∀ (D : Nat) (xs : List α) (W : World), w.heap.size ≤ D → S xs W → I xs W → W.heap[D]? = some (.deferred (some [])) → Q .normal { a with defers := { target := .collected D, args := #[] } :: a.defers } W) :
    (Code.rangeFunc g ps assign body).wpIn F n P Q a w := by
  have hcells : ∀ {A : World} {row : Option Nat}, (∀ r, row = some r → w.heap.size + 2 ≤ r ∧ ∃ o : Obj, A.heap[r]? = some o ∧ o.isWalk = true) → ∀ r, row = some r → w.heap.size ≤ r ∧ ∃ o : Obj, A.heap[r]? = some o ∧ o.isCells = false :=
    fun h r e => by
      obtain ⟨q1, o, q2, q3⟩ := h r e
      exact ⟨by omega, o, q2, Obj.not_cells_of_walk q3⟩
  refine wpIn_rangeFunc fun fn hfn => ?_
  rw [hro]
  -- the record of the loop, as it lies there
  obtain ⟨rc, hrc⟩ : ∃ rc : LoopState → Option Code → Loop, rc = fun st pe => { state := st, pending := pe, fn, tmps := a.tmps, params := ps, assign, body, defers := w.heap.size } := ⟨_, rfl⟩
  obtain ⟨U, hU⟩ : ∃ U, U = (w.alloc (.deferred (some []))).alloc (.loop (rc .ready none)) := ⟨_, rfl⟩
  have uSize : U.heap.size = w.heap.size + 2 := by rw [hU]; simp
  have uLoop : U.heap[w.heap.size + 1]? = some (.loop (rc .ready none)) := by
    have := World.alloc_heap_new (w.alloc (.deferred (some []))) (.loop (rc .ready none))
    rw [World.size_alloc] at this
    rw [hU]
    exact this
  have uDef : U.heap[w.heap.size]? = some (.deferred (some [])) := by
    rw [hU, Below.heap_alloc _ _ _ (by simp)]
    exact World.alloc_heap_new w _
  have uI : I [] U := by rw [hU]; exact hI.alloc _ (hI.alloc _ h0)
  have uBelow : Below w.heap.size w U := by
    rw [hU]
    exact ((Below.refl _ w).alloc (Nat.le_refl _) _).alloc (by simp) _
  refine ⟨w.heap.size + 1, [{ target := .collected w.heap.size, args := #[] }], U, { target := .fn (.func gf) lb, args := #[.func (.yield (w.heap.size + 1)) #[] #[]] }, U, gf,
    #[.func (.yield (w.heap.size + 1)) #[] #[]] ++ lb, U, ?_, ?_, ?_, ?_, fun _ => h1, ?_⟩
  · rw [hU, hrc]
    exact run_enterLoop_outer _ _ _ _ _
  · simp only [resolve, hg]
    simp [go_sem]
  · intro f' hf'
    simp [Target.leads] at hf'
    subst hf'
    exact hFg
  · simp [invoke, go_sem, eg]
  · refine (hseq (w.heap.size + 1) (fun pre W => I pre W ∧ W.heap[w.heap.size + 1]? = some (.loop (rc .ready none)) ∧ W.heap[w.heap.size]? = some (.deferred (some []))) U uBelow ?_ ?_ ⟨uI, uLoop, uDef⟩).mono ?_
    · rintro s A B row ⟨q1, q2, q3⟩ hgr hr
      rw [uSize] at hr
      exact ⟨hI s A B row q1 hgr (hcells hr), (grownBy_keeps hgr (fun r e => (hr r e).2) q2 rfl).trans q2, (grownBy_keeps hgr (fun r e => (hr r e).2) q3 rfl).trans q3⟩
    · rintro pre x W ⟨q1, q2, q3⟩ hx hN
      have hy := run_yield (P := P) (args := encs x) q2 (by rw [hrc]; exact hps x)
      rw [hrc] at hy
      refine ⟨fn, _, assign, body, hy, roundIn_of_wpIn hfn (hassign _ pre x W _ q1 hx ?_)⟩
      intro a' V hkf hkp hiV hxV hax
      have l1 := hkf.same _ _ (Nat.le_succ _) q2 rfl
      have d1 := hkf.same _ _ (Nat.le_refl _) q3 rfl
      have hlt : w.heap.size + 1 < V.heap.size := (Array.getElem?_eq_some_iff.1 l1).1
      refine ⟨_, run_beginRound l1 (by rw [hrc]), ?_⟩
      obtain ⟨Z, hZ⟩ : ∃ Z, Z = V.putObj (w.heap.size + 1) (.loop { rc .ready none with state := .busy }) := ⟨_, rfl⟩
      have l2 : Z.heap[w.heap.size + 1]? = some (.loop { rc .ready none with state := .busy }) := by rw [hZ]; exact World.putObj_heap_same hlt
      have d2 : Z.heap[w.heap.size]? = some (.deferred (some [])) := by rw [hZ]; exact (World.putObj_heap_other (by omega)).trans d1
      have k2 : Kp V Z := by rw [hZ]; exact hKb _ _ _ _ (Nat.le_succ _) l1 rfl rfl
      have i2 : I pre Z := by rw [hZ]; exact hI.putObj _ hiV (Nat.le_succ _) l1 rfl
      have x2 : X x Z := by rw [hZ]; exact hX.putObj _ hxV (Nat.le_succ _) l1 rfl
      have a2 : Ax x a' Z := by rw [hZ]; exact (hAx x a').putObj (s := ()) _ hax (Nat.le_succ _) l1 rfl
      rw [← hZ]
      refine wpIn_mono (hbody _ pre x a' Z i2 x2 a2 hN) ?_
      rintro e a3 Y hp
      cases e with
      | normal =>
        obtain ⟨p1, p2, p3⟩ := hp
        have l3 := p1.same _ _ (Nat.le_succ _) l2 rfl
        have d3 := p1.same _ _ (Nat.le_refl _) d2 rfl
        have hr := run_endRound (P := P) none l3
        refine ⟨_, _, hr, rfl, ⟨hI.putObj _ p3 (Nat.le_succ _) l3 rfl, ?_, (World.putObj_heap_other (by omega)).trans d3⟩, hKt hkp (hKt (hKt k2 p2) (hKb _ _ _ _ (Nat.le_succ _) l3 rfl rfl))⟩
        rw [World.putObj_heap_same (Array.getElem?_eq_some_iff.1 l3).1, hrc]
        rfl
      | ret => exact hp.elim
      | exit _ => exact hp.elim
      | goto _ => exact hp.elim
      | panic _ => exact hp.elim
      | outgrown => exact hp.elim
    · rintro e V ⟨⟨v, rfl⟩, xs, hs, hi, hl, hd⟩
      have hr := run_endLoop (P := P) hl (by rw [hrc]; simp)
      refine ⟨none, _, by rw [hr, hrc], hdone _ xs _ (Nat.le_refl _) (hS.putObj _ hs (Nat.le_succ _) hl rfl) (hI.putObj _ hi (Nat.le_succ _) hl rfl) ((World.putObj_heap_other (by omega)).trans hd)⟩
end
end Go.Proofs.Ytdmllfjeofiddaa
