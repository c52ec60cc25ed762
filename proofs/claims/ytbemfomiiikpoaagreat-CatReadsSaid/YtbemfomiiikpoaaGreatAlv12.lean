/- The document's example of a catalogue. -/
import Derived.Test.YtbemfomiiikpoaaGreatOpc12
import Derived.Test.YtbemfomiiikpoaaGreatBrp12
import Derived.Deep.CutRange
namespace Go.Proofs.YtbemfomiiikpoaaGreat
open Go.RowKit

theorem pairF12 {n : Int} {q : (List Ins × List Fsp) × (List Ins × List Fsp)} (h : pairOk n q = true) : (q.1.1.length ≤ 8 ∧ q.1.2.length ≤ 4) ∧ (q.2.1.length ≤ 8 ∧ q.2.2.length ≤ 4) := by
  unfold pairOk compOk at h
  simp only [Bool.and_eq_true, Bool.or_eq_true, decide_eq_true_eq] at h
  obtain ⟨h1, h2, h3, h4, -⟩ := h
  have hp : ∀ {l : List Ins}, progOk l n = true → l.length ≤ 8 := by
    intro l hl
    unfold progOk at hl
    simp only [Bool.and_eq_true, decide_eq_true_eq] at hl
    exact hl.2.1.2
  have hf : ∀ {l : List Fsp}, footOk l n = true → l.length ≤ 4 := by
    intro l hl
    unfold footOk at hl
    simp only [Bool.and_eq_true, decide_eq_true_eq] at hl
    exact hl.2.1
  refine ⟨⟨hp h1, hf h2⟩, ?_, hf h3⟩
  rcases h4 with h4 | h4
  · omega
  · exact hp h4
theorem zipA12 {l m : List Stp} (h : m.length = l.length) {s : Stp} (hs : s ∈ l) : ∃ u, (s, u) ∈ l.zip m := by
  obtain ⟨i, hi, rfl⟩ := List.getElem_of_mem hs
  have h2 : i < (l.zip m).length := by rw [List.length_zip]; omega
  exact ⟨m[i], by have := List.getElem_mem h2; rwa [List.getElem_zip] at this⟩
theorem zipB12 {l m : List Stp} (h : m.length = l.length) {s : Stp} (hs : s ∈ m) : ∃ u, (u, s) ∈ l.zip m := by
  obtain ⟨i, hi, rfl⟩ := List.getElem_of_mem hs
  have h2 : i < (l.zip m).length := by rw [List.length_zip]; omega
  exact ⟨l[i], by have := List.getElem_mem h2; rwa [List.getElem_zip] at this⟩
theorem few_of_ok12 {c : Cls} (h : c.p.ok = true) : c.Few ∧ c.steps.length ≤ 4 := by
  unfold PC.ok Cls.p at h
  simp only [Bool.and_eq_true, decide_eq_true_eq, List.length_map] at h
  obtain ⟨-, -, h3, h4, h5⟩ := h
  have hall : ∀ q ∈ c.steps.zip c.comps, (q.1.code.length ≤ 8 ∧ q.1.foot.length ≤ 4) ∧ (q.2.code.length ≤ 8 ∧ q.2.foot.length ≤ 4) := fun q hq => by
    have h6 : (q.1.p, q.2.p) ∈ (c.steps.map Stp.p).zip (c.comps.map Stp.p) := by
      rw [List.zip_map]
      exact List.mem_map.2 ⟨q, hq, rfl⟩
    rw [List.all_eq_true] at h5
    exact pairF12 (h5 _ h6)
  refine ⟨⟨by omega, by omega, fun s hs => ?_, fun s hs => ?_⟩, h3.2⟩
  · obtain ⟨u, hu⟩ := zipA12 h4 hs
    have h6 := (hall _ hu).1
    simp only at h6
    omega
  · obtain ⟨u, hu⟩ := zipB12 h4 hs
    have h6 := (hall _ hu).2
    simp only at h6
    omega
/-- A catalogue that may be is nice. -/
theorem nice_of_ok {z : Ctl} (h : z.p.ok = true) : z.Nice := by
  have e1 : z.p.cs.length = z.cls.length := by simp [Ctl.p]
  unfold PCt.ok at h
  simp only [Bool.and_eq_true, decide_eq_true_eq] at h
  obtain ⟨h1, h2, h3⟩ := h
  rw [e1] at h1 h2
  have hc : ∀ c ∈ z.cls, c.p.ok = true := fun c hc => by
    obtain ⟨i, hi, rfl⟩ := List.getElem_of_mem hc
    have := range_all_at h2 hi
    unfold clOkAt at this
    rw [pct_at z hi] at this
    simp only [Bool.and_eq_true] at this
    exact this.1
  exact ⟨⟨h1.2, fun c hc' => (few_of_ok12 (hc c hc')).2, fun j hj => by
    have := range_all_at h3 hj
    unfold brOkAt at this
    exact of_decide_eq_true this⟩, fun c hc' => (few_of_ok12 (hc c hc')).1⟩
/-- The example's step, its class, its catalogue. -/
def exI : Ins := ⟨5, 0, 0, 0, 0, 0, 0, 0, 0⟩
def exS (H : Nat) : Stp := ⟨some ⟨H, 0, none⟩, [exI], 1, none, [], 0⟩
def exZ : Stp := ⟨none, [], 0, none, [], 0⟩
def exC (H A1 A2 : Nat) : Cls := ⟨⟨#[97]⟩, 0, some ⟨A1, 0, none⟩, [exS H, exS H, exS H], 3, some ⟨A2, 0, none⟩, [exZ, exZ, exZ], 3, false⟩
def exP : PCt := ⟨[⟨⟨#[97]⟩, 0, [([exI], []), ([exI], []), ([exI], [])], [([], []), ([], []), ([], [])], false⟩], fun _ => 0⟩
theorem ex_ok : exP.ok = true := by decide
theorem ex_brks : exP.opened.brks = 2 := by decide
theorem ex_brk : exP.opened.brk 0 0 1 = true := by decide
theorem sl_bk12 {V : World} {g : Nat} {t : TypeId} {cs : Array Value} (h : Bk V g t cs) {xs : List Value} (hx : xs = cs.toList) : Sl V V.heap.size (some ⟨g, 0, none⟩) xs := by
  intro _
  refine ⟨_, rfl, h.lt, fun j u hu => ?_⟩
  rw [hx, Array.getElem?_toList] at hu
  have e : (⟨g, 0, none⟩ : Addr).add j = ⟨g, j, none⟩ := by cases j <;> simp [Addr.add]
  rw [e, h.cell]
  exact hu
theorem bkm12 {w : World} {k : Nat} {t : TypeId} {cs : Array Value} (h : k = w.heap.size) : Bk (w.alloc (.cells cs t)) k t cs := by
  subst h
  exact Bk.made w t cs
theorem bka12 {w : World} {k : Nat} {t : TypeId} {cs : Array Value} (h : Bk w k t cs) (o : Obj) : Bk (w.alloc o) k t cs := h.fr ((Fr.refl No w).alloc o) (fun e => e)
theorem bkd12 {w : World} {k : Nat} {t : TypeId} {cs : Array Value} (h : Bk w k t cs) : Bk w.drew k t cs := h
def iA : Array Value := #[.int .i64 5, .int .i64 0, .int .i64 0, .int .i64 0, .int .i64 0, .int .i64 0, .int .i64 0, .int .i64 0, .int .i64 0]
def sA12 (H : Nat) : Array Value := #[.slice (some ⟨H, 0, none⟩) 1 1, .slice none 0 0, .slice (some ⟨H, 0, none⟩) 1 1, .slice none 0 0, .slice (some ⟨H, 0, none⟩) 1 1, .slice none 0 0]
def zA12 : Array Value := #[.slice none 0 0, .slice none 0 0, .slice none 0 0, .slice none 0 0, .slice none 0 0, .slice none 0 0]
def cA12 (A1 A2 : Nat) : Array Value := #[.string ⟨#[97]⟩, .int .i64 0, .slice (some ⟨A1, 0, none⟩) 3 3, .slice (some ⟨A2, 0, none⟩) 3 3, .bool false]
/-- The example's blocks. -/
structure Ex12 (V : World) (H C A1 A2 : Nat) : Prop where
  i : Bk V H 52 iA
  s : Bk V A1 56 (sA12 H)
  z : Bk V A2 56 zA12
  c : Bk V C 59 (cA12 A1 A2)
theorem Ex12.ok {V : World} {H C A1 A2 : Nat} (h : Ex12 V H C A1 A2) : (exC H A1 A2).Ok V := by
  have hnil : ∀ B : Nat, Sl V B none ([] : List Value) := fun B h => absurd rfl h
  refine ⟨⟨sl_bk12 h.s rfl, fun s hs => ?_⟩, ⟨sl_bk12 h.z rfl, fun s hs => ?_⟩⟩
  · have : s = exS H := by simpa [exC] using hs
    subst this
    exact ⟨sl_bk12 h.i rfl, hnil _⟩
  · have : s = exZ := by simpa [exC] using hs
    subst this
    exact ⟨hnil _, hnil _⟩
set_option maxRecDepth 100000 in
set_option maxHeartbeats 4000000 in
theorem alive12 (w : World) : Calls Tryz.prog 5 #[] w (Has w true) := by
  have hmk : ∀ W : World, (Instr.makeSlice 57 (.int .i64 3) (.int .i64 3)).run Tryz.prog W = .ok (.slice (some ⟨W.heap.size, 0, none⟩) 3 3) (W.alloc (.cells #[.slice none 0 0, .slice none 0 0, .slice none 0 0, .slice none 0 0, .slice none 0 0, .slice none 0 0] 56)) := fun W => by kernel_rfl
  go_enter Tryz.func5, Tryz.ntmps5
  go_wp2_with fail
  go_cut [2] from 7 to 12 (fun s2 wx => ∃ C A1 A2 : Nat, s2 = .pointer (some ⟨C, 0, none⟩) ∧ Hid (Fr No w wx) ∧ Hid (Ex12 wx w.heap.size C A1 A2))
  case first =>
    go_region
    all_goals
      go_wp2
      go_meet
      first | exact ⟨_, w.heap.size + 1 + 1, w.heap.size + 1 + 1 + 1, rfl, Lib.hid (((((((Fr.refl No w).alloc _).alloc _).alloc _).alloc _).alloc _).drew), Lib.hid ⟨by first | exact bkd12 (bkm12 (by simp)) | exact bkd12 (bka12 (bkm12 (by simp)) _) | exact bkd12 (bka12 (bka12 (bkm12 (by simp)) _) _) | exact bkd12 (bka12 (bka12 (bka12 (bkm12 (by simp)) _) _) _) | exact bkd12 (bka12 (bka12 (bka12 (bka12 (bkm12 (by simp)) _) _) _) _), by first | exact bkd12 (bkm12 (by simp)) | exact bkd12 (bka12 (bkm12 (by simp)) _) | exact bkd12 (bka12 (bka12 (bkm12 (by simp)) _) _) | exact bkd12 (bka12 (bka12 (bka12 (bkm12 (by simp)) _) _) _) | exact bkd12 (bka12 (bka12 (bka12 (bka12 (bkm12 (by simp)) _) _) _) _), by first | exact bkd12 (bkm12 (by simp)) | exact bkd12 (bka12 (bkm12 (by simp)) _) | exact bkd12 (bka12 (bka12 (bkm12 (by simp)) _) _) | exact bkd12 (bka12 (bka12 (bka12 (bkm12 (by simp)) _) _) _) | exact bkd12 (bka12 (bka12 (bka12 (bka12 (bkm12 (by simp)) _) _) _) _), by first | exact bkd12 (bkm12 (by simp)) | exact bkd12 (bka12 (bkm12 (by simp)) _) | exact bkd12 (bka12 (bka12 (bkm12 (by simp)) _) _) | exact bkd12 (bka12 (bka12 (bka12 (bkm12 (by simp)) _) _) _) | exact bkd12 (bka12 (bka12 (bka12 (bka12 (bkm12 (by simp)) _) _) _) _)⟩⟩ | exact ⟨_, w.heap.size + 1 + 1, w.heap.size + 1 + 1 + 1 + 1, rfl, Lib.hid (((((((Fr.refl No w).alloc _).alloc _).alloc _).alloc _).alloc _).drew), Lib.hid ⟨by first | exact bkd12 (bkm12 (by simp)) | exact bkd12 (bka12 (bkm12 (by simp)) _) | exact bkd12 (bka12 (bka12 (bkm12 (by simp)) _) _) | exact bkd12 (bka12 (bka12 (bka12 (bkm12 (by simp)) _) _) _) | exact bkd12 (bka12 (bka12 (bka12 (bka12 (bkm12 (by simp)) _) _) _) _), by first | exact bkd12 (bkm12 (by simp)) | exact bkd12 (bka12 (bkm12 (by simp)) _) | exact bkd12 (bka12 (bka12 (bkm12 (by simp)) _) _) | exact bkd12 (bka12 (bka12 (bka12 (bkm12 (by simp)) _) _) _) | exact bkd12 (bka12 (bka12 (bka12 (bka12 (bkm12 (by simp)) _) _) _) _), by first | exact bkd12 (bkm12 (by simp)) | exact bkd12 (bka12 (bkm12 (by simp)) _) | exact bkd12 (bka12 (bka12 (bkm12 (by simp)) _) _) | exact bkd12 (bka12 (bka12 (bka12 (bkm12 (by simp)) _) _) _) | exact bkd12 (bka12 (bka12 (bka12 (bka12 (bkm12 (by simp)) _) _) _) _), by first | exact bkd12 (bkm12 (by simp)) | exact bkd12 (bka12 (bkm12 (by simp)) _) | exact bkd12 (bka12 (bka12 (bkm12 (by simp)) _) _) | exact bkd12 (bka12 (bka12 (bka12 (bkm12 (by simp)) _) _) _) | exact bkd12 (bka12 (bka12 (bka12 (bka12 (bkm12 (by simp)) _) _) _) _)⟩⟩ | exact ⟨_, w.heap.size + 1 + 1 + 1, w.heap.size + 1 + 1, rfl, Lib.hid (((((((Fr.refl No w).alloc _).alloc _).alloc _).alloc _).alloc _).drew), Lib.hid ⟨by first | exact bkd12 (bkm12 (by simp)) | exact bkd12 (bka12 (bkm12 (by simp)) _) | exact bkd12 (bka12 (bka12 (bkm12 (by simp)) _) _) | exact bkd12 (bka12 (bka12 (bka12 (bkm12 (by simp)) _) _) _) | exact bkd12 (bka12 (bka12 (bka12 (bka12 (bkm12 (by simp)) _) _) _) _), by first | exact bkd12 (bkm12 (by simp)) | exact bkd12 (bka12 (bkm12 (by simp)) _) | exact bkd12 (bka12 (bka12 (bkm12 (by simp)) _) _) | exact bkd12 (bka12 (bka12 (bka12 (bkm12 (by simp)) _) _) _) | exact bkd12 (bka12 (bka12 (bka12 (bka12 (bkm12 (by simp)) _) _) _) _), by first | exact bkd12 (bkm12 (by simp)) | exact bkd12 (bka12 (bkm12 (by simp)) _) | exact bkd12 (bka12 (bka12 (bkm12 (by simp)) _) _) | exact bkd12 (bka12 (bka12 (bka12 (bkm12 (by simp)) _) _) _) | exact bkd12 (bka12 (bka12 (bka12 (bka12 (bkm12 (by simp)) _) _) _) _), by first | exact bkd12 (bkm12 (by simp)) | exact bkd12 (bka12 (bkm12 (by simp)) _) | exact bkd12 (bka12 (bka12 (bkm12 (by simp)) _) _) | exact bkd12 (bka12 (bka12 (bka12 (bkm12 (by simp)) _) _) _) | exact bkd12 (bka12 (bka12 (bka12 (bka12 (bkm12 (by simp)) _) _) _) _)⟩⟩ | exact ⟨_, w.heap.size + 1 + 1 + 1, w.heap.size + 1 + 1 + 1 + 1, rfl, Lib.hid (((((((Fr.refl No w).alloc _).alloc _).alloc _).alloc _).alloc _).drew), Lib.hid ⟨by first | exact bkd12 (bkm12 (by simp)) | exact bkd12 (bka12 (bkm12 (by simp)) _) | exact bkd12 (bka12 (bka12 (bkm12 (by simp)) _) _) | exact bkd12 (bka12 (bka12 (bka12 (bkm12 (by simp)) _) _) _) | exact bkd12 (bka12 (bka12 (bka12 (bka12 (bkm12 (by simp)) _) _) _) _), by first | exact bkd12 (bkm12 (by simp)) | exact bkd12 (bka12 (bkm12 (by simp)) _) | exact bkd12 (bka12 (bka12 (bkm12 (by simp)) _) _) | exact bkd12 (bka12 (bka12 (bka12 (bkm12 (by simp)) _) _) _) | exact bkd12 (bka12 (bka12 (bka12 (bka12 (bkm12 (by simp)) _) _) _) _), by first | exact bkd12 (bkm12 (by simp)) | exact bkd12 (bka12 (bkm12 (by simp)) _) | exact bkd12 (bka12 (bka12 (bkm12 (by simp)) _) _) | exact bkd12 (bka12 (bka12 (bka12 (bkm12 (by simp)) _) _) _) | exact bkd12 (bka12 (bka12 (bka12 (bka12 (bkm12 (by simp)) _) _) _) _), by first | exact bkd12 (bkm12 (by simp)) | exact bkd12 (bka12 (bkm12 (by simp)) _) | exact bkd12 (bka12 (bka12 (bkm12 (by simp)) _) _) | exact bkd12 (bka12 (bka12 (bka12 (bkm12 (by simp)) _) _) _) | exact bkd12 (bka12 (bka12 (bka12 (bka12 (bkm12 (by simp)) _) _) _) _)⟩⟩ | exact ⟨_, w.heap.size + 1 + 1 + 1 + 1, w.heap.size + 1 + 1, rfl, Lib.hid (((((((Fr.refl No w).alloc _).alloc _).alloc _).alloc _).alloc _).drew), Lib.hid ⟨by first | exact bkd12 (bkm12 (by simp)) | exact bkd12 (bka12 (bkm12 (by simp)) _) | exact bkd12 (bka12 (bka12 (bkm12 (by simp)) _) _) | exact bkd12 (bka12 (bka12 (bka12 (bkm12 (by simp)) _) _) _) | exact bkd12 (bka12 (bka12 (bka12 (bka12 (bkm12 (by simp)) _) _) _) _), by first | exact bkd12 (bkm12 (by simp)) | exact bkd12 (bka12 (bkm12 (by simp)) _) | exact bkd12 (bka12 (bka12 (bkm12 (by simp)) _) _) | exact bkd12 (bka12 (bka12 (bka12 (bkm12 (by simp)) _) _) _) | exact bkd12 (bka12 (bka12 (bka12 (bka12 (bkm12 (by simp)) _) _) _) _), by first | exact bkd12 (bkm12 (by simp)) | exact bkd12 (bka12 (bkm12 (by simp)) _) | exact bkd12 (bka12 (bka12 (bkm12 (by simp)) _) _) | exact bkd12 (bka12 (bka12 (bka12 (bkm12 (by simp)) _) _) _) | exact bkd12 (bka12 (bka12 (bka12 (bka12 (bkm12 (by simp)) _) _) _) _), by first | exact bkd12 (bkm12 (by simp)) | exact bkd12 (bka12 (bkm12 (by simp)) _) | exact bkd12 (bka12 (bka12 (bkm12 (by simp)) _) _) | exact bkd12 (bka12 (bka12 (bka12 (bkm12 (by simp)) _) _) _) | exact bkd12 (bka12 (bka12 (bka12 (bka12 (bkm12 (by simp)) _) _) _) _)⟩⟩ | exact ⟨_, w.heap.size + 1 + 1 + 1 + 1, w.heap.size + 1 + 1 + 1, rfl, Lib.hid (((((((Fr.refl No w).alloc _).alloc _).alloc _).alloc _).alloc _).drew), Lib.hid ⟨by first | exact bkd12 (bkm12 (by simp)) | exact bkd12 (bka12 (bkm12 (by simp)) _) | exact bkd12 (bka12 (bka12 (bkm12 (by simp)) _) _) | exact bkd12 (bka12 (bka12 (bka12 (bkm12 (by simp)) _) _) _) | exact bkd12 (bka12 (bka12 (bka12 (bka12 (bkm12 (by simp)) _) _) _) _), by first | exact bkd12 (bkm12 (by simp)) | exact bkd12 (bka12 (bkm12 (by simp)) _) | exact bkd12 (bka12 (bka12 (bkm12 (by simp)) _) _) | exact bkd12 (bka12 (bka12 (bka12 (bkm12 (by simp)) _) _) _) | exact bkd12 (bka12 (bka12 (bka12 (bka12 (bkm12 (by simp)) _) _) _) _), by first | exact bkd12 (bkm12 (by simp)) | exact bkd12 (bka12 (bkm12 (by simp)) _) | exact bkd12 (bka12 (bka12 (bkm12 (by simp)) _) _) | exact bkd12 (bka12 (bka12 (bka12 (bkm12 (by simp)) _) _) _) | exact bkd12 (bka12 (bka12 (bka12 (bka12 (bkm12 (by simp)) _) _) _) _), by first | exact bkd12 (bkm12 (by simp)) | exact bkd12 (bka12 (bkm12 (by simp)) _) | exact bkd12 (bka12 (bka12 (bkm12 (by simp)) _) _) | exact bkd12 (bka12 (bka12 (bka12 (bkm12 (by simp)) _) _) _) | exact bkd12 (bka12 (bka12 (bka12 (bka12 (bkm12 (by simp)) _) _) _) _)⟩⟩
  case rest =>
    obtain ⟨C, A1, A2, rfl, hf, hE⟩ := hcut
    have l0 := hE.out.c.lt
    have y0 := hE.out.c.cell 0
    have y1 := hE.out.c.cell 1
    have y2 := hE.out.c.cell 2
    have y3 := hE.out.c.cell 3
    have y4 := hE.out.c.cell 4
    unfold cA12 at y0 y1 y2 y3 y4
    simp at y0 y1 y2 y3 y4
    have f1 : Fr No wc (wc.alloc (.cells #[.string ⟨#[97]⟩, .int .i64 0, .slice (some ⟨A1, 0, none⟩) 3 3, .slice (some ⟨A2, 0, none⟩) 3 3, .bool false] 59)) := (Fr.refl _ _).alloc _
    have hx : Clss (wc.alloc (.cells #[.string ⟨#[97]⟩, .int .i64 0, .slice (some ⟨A1, 0, none⟩) 3 3, .slice (some ⟨A2, 0, none⟩) 3 3, .bool false] 59)) (some ⟨wc.heap.size, 0, none⟩) [exC w.heap.size A1 A2] := by
      refine ⟨sl_bk12 (bkm12 rfl) rfl, fun c hc => ?_⟩
      rw [List.mem_singleton.1 hc]
      exact hE.out.ok.since f1
    have hp : Ctl.p ⟨some ⟨wc.heap.size, 0, none⟩, [exC w.heap.size A1 A2], 1, fun _ => 0⟩ = exP := rfl
    have C1 := open_any ⟨some ⟨wc.heap.size, 0, none⟩, [exC w.heap.size A1 A2], 1, fun _ => 0⟩ _ hx (nice_of_ok (by rw [hp]; exact ex_ok))
    rw [hp] at C1
    unfold Ctl.agg Ctl.arr brA at C1
    simp only [List.length_cons, List.length_nil, Nat.zero_add] at C1
    have HC1 := Lib.hid C1
    have HF1 := Lib.hid (hf.out.trans' f1 (fun _ _ e => e))
    clear hx hp C1 f1
    go_wp2_with fail
    refine (HC1.out).mono ?_
    rintro e w1 ⟨y, rfl, hy, hyc, f2⟩
    have hok : y.p.ok = true := by rw [hy]; exact opened_ok ex_ok
    have Hn := Lib.hid (nice_of_ok hok)
    obtain ⟨Y, hY⟩ : ∃ Y, Y = y.arr := ⟨_, rfl⟩
    have hY2 := hY.trans (Ctl.arr_eq y)
    have HF2 := Lib.hid (HF1.out.trans' f2 (fun _ _ e => e))
    have hyc1 := hyc w1 (Fr.refl _ _)
    have bY0 := Bk.made w1 26 (brA (.slice none 0 0) fun _ => 0)
    have hst := Lib.hid (st_cat (v' := .slice y.cA y.cls.length y.cc) (b' := y.b) rfl hY2 rfl bY0)
    obtain ⟨WF, hWF⟩ : ∃ WF, Hid (WF = (w1.alloc (.cells (brA (.slice none 0 0) fun _ => 0) 26)).setRow w1.heap.size Y) := ⟨_, Lib.hid rfl⟩
    rw [← hWF.out] at hst
    have bF : Bk WF w1.heap.size 26 Y := by rw [hWF.out]; exact bk_row12 bY0 _
    have fY : Fr No w1 WF := by rw [hWF.out]; exact fr_row12 ((Fr.refl _ _).alloc _) (.inr (Nat.le_refl _)) _
    have HLd : Hid (∀ V, Fr No WF V → LdO V 26 ⟨w1.heap.size, 0, none⟩ (.agg Y)) := Lib.hid (fun V hV => ld_cat hY2 (bF.fr hV (fun e => e)))
    have HM := Lib.hid (fun V (hV : Fr No w1 V) => may12_any y V (hyc1.since hV) Hn.out)
    have HB := Lib.hid (fun V (hV : Fr No w1 V) => breaks_any y V (hyc1.since hV) Hn.out.few)
    have HK := Lib.hid (fun V (hV : Fr No w1 V) => break_any y 0 0 1 V (hyc1.since hV) Hn.out.few)
    rw [hok] at HM
    rw [hy, ex_brks] at HB
    rw [hy, ex_brk] at HK
    unfold Ctl.agg at HM HB HK ⊢
    rw [← hY] at HM HB HK ⊢
    have HFY := Lib.hid fY
    clear hyc hyc1 hy hok hY hY2 bY0 bF fY f2 HC1
    have HL0 := Lib.hid (HLd.out _ (Fr.refl _ _))
    have HM1 := Lib.hid (HM.out _ HFY.out)
    unfold brA at hst
    go_wp2_with (first
      | ((with_reducible refine wpl_st ?_ ?_ ?_ hst.out ?_); (· rfl); (· rfl); (· rfl); simp only [Act.put])
      | ((with_reducible refine wpl_ld ?_ ?_ HL0.out ?_); (· rfl); (· rfl); simp only [Act.put, List.setIfInBounds_toArray, List.set_cons_zero, List.set_cons_succ]))
    refine (HM1.out).mono ?_
    rintro e w2 ⟨rfl, g2⟩
    have F2 := Lib.hid (g2)
    have HL2 := Lib.hid (HLd.out _ g2)
    have HB2 := Lib.hid (HB.out _ (HFY.out.trans' g2 (fun _ _ e => e)))
    clear g2
    go_wp2_with (first
      | ((with_reducible refine wpl_ldg ?_ ?_ HL2.out ?_); (· rfl); (· rfl); simp only [Act.put, List.setIfInBounds_toArray, List.set_cons_zero, List.set_cons_succ]))
    refine (HB2.out).mono ?_
    rintro e w3 ⟨rfl, g3⟩
    have F3 := Lib.hid (F2.out.trans' g3 (fun _ _ e => e))
    have HL3 := Lib.hid (HLd.out _ F3.out)
    have HK3 := Lib.hid (HK.out _ (HFY.out.trans' F3.out (fun _ _ e => e)))
    clear g3
    go_wp2_with (first
      | ((with_reducible refine wpl_ldg ?_ ?_ HL3.out ?_); (· rfl); (· rfl); simp only [Act.put, List.setIfInBounds_toArray, List.set_cons_zero, List.set_cons_succ]))
    refine (HK3.out).mono ?_
    rintro e w4 ⟨rfl, g4⟩
    go_wp2
    go_ret
    exact ⟨rfl, (HF2.out.trans' HFY.out (fun _ _ e => e)).trans' (F3.out.trans' g4 (fun _ _ e => e)) (fun _ _ e => e)⟩
end Go.Proofs.YtbemfomiiikpoaaGreat
