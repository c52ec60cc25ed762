/- The document's example of a catalogue. -/
import Derived.Test.YtkihbjgmmaklaaaOpc12
import Derived.Test.YtkihbjgmmaklaaaBrp12
import Derived.Deep.CutRange
namespace Go.Proofs.Ytkihbjgmmaklaaa
open Go.RowKit

theorem pairF12 {n : Int} {q : (List Ins × List Fsp) × (List Ins × List Fsp)} (h : pairOk n q = true) : (q.1.1.length ≤ 8 ∧ q.1.2.length ≤ 4) ∧ (q.2.1.length ≤ 8 ∧ q.2.2.length ≤ 4) := by
  unfold pairOk compOk at h
  simp only [Bool.and_eq_true, Bool.or_eq_true, decide_eq_true_eq] at h
  obtain ⟨h1, h2, h3, h4, -⟩ := h
  have hp : ∀ {l : List Ins}, progOk l n = true → l.length ≤ 8 := by
    intro l hl
    unfold progOk at hl
    simp only [Bool.and_eq_true, decide_eq_true_eq] at hl
    exact hl.2.1.2
  have hf : ∀ {l : List Fsp}, footOk l n = true → l.length ≤ 4 := by
    intro l hl
    unfold footOk at hl
    simp only [Bool.and_eq_true, decide_eq_true_eq] at hl
    exact hl.2.1
  refine ⟨⟨hp h1, hf h2⟩, ?_, hf h3⟩
  rcases h4 with h4 | h4
  · omega
  · exact hp h4
theorem zipA12 {l m : List Stp} (h : m.length = l.length) {s : Stp} (hs : s ∈ l) : ∃ u, (s, u) ∈ l.zip m := by
  obtain ⟨i, hi, rfl⟩ := List.getElem_of_mem hs
  have h2 : i < (l.zip m).length := by rw [List.length_zip]; omega
  exact ⟨m[i], by have := List.getElem_mem h2; rwa [List.getElem_zip] at this⟩
theorem zipB12 {l m : List Stp} (h : m.length = l.length) {s : Stp} (hs : s ∈ m) : ∃ u, (u, s) ∈ l.zip m := by
  obtain ⟨i, hi, rfl⟩ := List.getElem_of_mem hs
  have h2 : i < (l.zip m).length := by rw [List.length_zip]; omega
  exact ⟨l[i], by have := List.getElem_mem h2; rwa [List.getElem_zip] at this⟩
theorem few_of_ok12 {c : Cls} (h : c.p.ok = true) : c.Few ∧ c.steps.length ≤ 4 := by
  unfold PC.ok Cls.p at h
  simp only [Bool.and_eq_true, decide_eq_true_eq, List.length_map] at h
  obtain ⟨-, -, h3, h4, h5⟩ := h
  have hall : ∀ q ∈ c.steps.zip c.comps, (q.1.code.length ≤ 8 ∧ q.1.foot.length ≤ 4) ∧ (q.2.code.length ≤ 8 ∧ q.2.foot.length ≤ 4) := fun q hq => by
    have h6 : (q.1.p, q.2.p) ∈ (c.steps.map Stp.p).zip (c.comps.map Stp.p) := by
      rw [List.zip_map]
      exact List.mem_map.2 ⟨q, hq, rfl⟩
    rw [List.all_eq_true] at h5
    exact pairF12 (h5 _ h6)
  refine ⟨⟨by omega, by omega, fun s hs => ?_, fun s hs => ?_⟩, h3.2⟩
  · obtain ⟨u, hu⟩ := zipA12 h4 hs
    have h6 := (hall _ hu).1
    simp only at h6
    omega
  · obtain ⟨u, hu⟩ := zipB12 h4 hs
    have h6 := (hall _ hu).2
    simp only at h6
    omega
/-- A catalogue that may be is nice. -/
theorem nice_of_ok {z : Ctl} (h : z.p.ok = true) : z.Nice := by
  have e1 : z.p.cs.length = z.cls.length := by simp [Ctl.p]
  unfold PCt.ok at h
  simp only [Bool.and_eq_true, decide_eq_true_eq] at h
  obtain ⟨h1, h2, h3⟩ := h
  rw [e1] at h1 h2
  have hc : ∀ c ∈ z.cls, c.p.ok = true := fun c hc => by
    obtain ⟨i, hi, rfl⟩ := List.getElem_of_mem hc
    have := range_all_at h2 hi
    unfold clOkAt at this
    rw [pct_at z hi] at this
    simp only [Bool.and_eq_true] at this
    exact this.1
  exact ⟨⟨h1.2, fun c hc' => (few_of_ok12 (hc c hc')).2, fun j hj => by
    have := range_all_at h3 hj
    unfold brOkAt at this
    exact of_decide_eq_true this⟩, fun c hc' => (few_of_ok12 (hc c hc')).1⟩
/-- The example's step, its class, its catalogue. -/
def exI : Ins := ⟨5, 0, 0, 0, 0, 0, 0, 0, 0⟩
def exS (H : Nat) : Stp := ⟨some ⟨H, 0, none⟩, [exI], 1, none, [], 0⟩
def exZ : Stp := ⟨none, [], 0, none, [], 0⟩
def exC (H A1 A2 : Nat) : Cls := ⟨⟨#[97]⟩, 0, some ⟨A1, 0, none⟩, [exS H, exS H, exS H], 3, some ⟨A2, 0, none⟩, [exZ, exZ, exZ], 3, false⟩
def exP : PCt := ⟨[⟨⟨#[97]⟩, 0, [([exI], []), ([exI], []), ([exI], [])], [([], []), ([], []), ([], [])], false⟩], fun _ => 0⟩
theorem ex_ok : exP.ok = true := by decide
theorem ex_brks : exP.opened.brks = 2 := by decide
theorem ex_brk : exP.opened.brk 0 0 1 = true := by decide
theorem sl_bk12 {V : World} {g : Nat} {t : TypeId} {cs : Array Value} (h : Bk V g t cs) {xs : List Value} (hx : xs = cs.toList) : Sl V V.heap.size (some ⟨g, 0, none⟩) xs := by
  intro _
  refine ⟨_, rfl, h.lt, fun j u hu => ?_⟩
  rw [hx, Array.getElem?_toList] at hu
  have e : (⟨g, 0, none⟩ : Addr).add j = ⟨g, j, none⟩ := by cases j <;> simp [Addr.add]
  rw [e, h.cell]
  exact hu
theorem bkm12 {w : World} {k : Nat} {t : TypeId} {cs : Array Value} (h : k = w.heap.size) : Bk (w.alloc (.cells cs t)) k t cs := by
  subst h
  exact Bk.made w t cs
theorem bka12 {w : World} {k : Nat} {t : TypeId} {cs : Array Value} (h : Bk w k t cs) (o : Obj) : Bk (w.alloc o) k t cs := h.fr ((Fr.refl No w).alloc o) (fun e => e)
theorem bkd12 {w : World} {k : Nat} {t : TypeId} {cs : Array Value} (h : Bk w k t cs) : Bk w.drew k t cs := h
def iA : Array Value := #[.int .i64 5, .int .i64 0, .int .i64 0, .int .i64 0, .int .i64 0, .int .i64 0, .int .i64 0, .int .i64 0, .int .i64 0]
def sA12 (H : Nat) : Array Value := #[.slice (some ⟨H, 0, none⟩) 1 1, .slice none 0 0, .slice (some ⟨H, 0, none⟩) 1 1, .slice none 0 0, .slice (some ⟨H, 0, none⟩) 1 1, .slice none 0 0]
def zA12 : Array Value := #[.slice none 0 0, .slice none 0 0, .slice none 0 0, .slice none 0 0, .slice none 0 0, .slice none 0 0]
def cA12 (A1 A2 : Nat) : Array Value := #[.string ⟨#[97]⟩, .int .i64 0, .slice (some ⟨A1, 0, none⟩) 3 3, .slice (some ⟨A2, 0, none⟩) 3 3, .bool false]
/-- The example's blocks. -/
structure Ex12 (V : World) (H C A1 A2 : Nat) : Prop where
  i : Bk V H 50 iA
  s : Bk V A1 54 (sA12 H)
  z : Bk V A2 54 zA12
  c : Bk V C 35 (cA12 A1 A2)
theorem Ex12.ok {V : World} {H C A1 A2 : Nat} (h : Ex12 V H C A1 A2) : (exC H A1 A2).Ok V := by
  have hnil : ∀ B : Nat, Sl V B none ([] : List Value) := fun B h => absurd rfl h
  refine ⟨⟨sl_bk12 h.s rfl, fun s hs => ?_⟩, ⟨sl_bk12 h.z rfl, fun s hs => ?_⟩⟩
  · have : s = exS H := by simpa [exC] using hs
    subst this
    exact ⟨sl_bk12 h.i rfl, hnil _⟩
  · have : s = exZ := by simpa [exC] using hs
    subst this
    exact ⟨hnil _, hnil _⟩
end Go.Proofs.Ytkihbjgmmaklaaa
