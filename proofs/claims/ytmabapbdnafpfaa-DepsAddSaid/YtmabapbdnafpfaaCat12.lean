/- Catalogues as they lie there; the document's bit of a number. -/
import Derived.Test.YtmabapbdnafpfaaCtp12
import Derived.WalkKit
import Derived.ChangeKeysEq
import Derived.Laws.StructEq
namespace Go.Proofs.Ytmabapbdnafpfaa
open Go.RowKit

structure Ctl where
  cA : Option Addr
  cls : List Cls
  cc : Nat
  b : Nat → Int
/-- Its cells: the classes' list, then row by row the breakpoints. -/
def brA (v : Value) (b : Nat → Int) : Array Value := #[v, .int .i64 (b 0), .int .i64 (b 1), .int .i64 (b 2), .int .i64 (b 3), .int .i64 (b 4), .int .i64 (b 5), .int .i64 (b 6), .int .i64 (b 7), .int .i64 (b 8), .int .i64 (b 9), .int .i64 (b 10), .int .i64 (b 11), .int .i64 (b 12), .int .i64 (b 13), .int .i64 (b 14), .int .i64 (b 15)]
def Ctl.arr (x : Ctl) : Array Value := brA (.slice x.cA x.cls.length x.cc) x.b
def Ctl.agg (x : Ctl) : Value := .agg x.arr
def Ctl.p (x : Ctl) : PCt := ⟨x.cls.map Cls.p, x.b⟩
theorem brA_at (v : Value) (b : Nat → Int) {j : Nat} (hj : j < 16) : (brA v b)[1 + j]? = some (.int .i64 (b j)) := by
  unfold brA
  have h : j = 0 ∨ j = 1 ∨ j = 2 ∨ j = 3 ∨ j = 4 ∨ j = 5 ∨ j = 6 ∨ j = 7 ∨ j = 8 ∨ j = 9 ∨ j = 10 ∨ j = 11 ∨ j = 12 ∨ j = 13 ∨ j = 14 ∨ j = 15 := by omega
  rcases h with rfl | rfl | rfl | rfl | rfl | rfl | rfl | rfl | rfl | rfl | rfl | rfl | rfl | rfl | rfl | rfl <;> rfl
theorem bk_br {w : World} {H : Nat} {t : TypeId} {v : Value} {b : Nat → Int} (h : Bk w H t (brA v b)) {j : Nat} (hj : j < 16) : w.cell? ⟨H, 1 + j, none⟩ = some (.int .i64 (b j)) := by
  rw [h.cell (1 + j)]
  exact brA_at v b hj
theorem bk_br2 {w : World} {H : Nat} {t : TypeId} {v : Value} {b : Nat → Int} (h : Bk w H t (brA v b)) {c d : Nat} (hc : c < 4) (hd : d < 4) : w.cell? ⟨H, 1 + c * 4 + d, none⟩ = some (.int .i64 (b (c * 4 + d))) := by
  rw [show 1 + c * 4 + d = 1 + (c * 4 + d) by omega]
  exact bk_br h (by omega)
structure Clss (w : World) (A : Option Addr) (l : List Cls) : Prop where
  sl : Sl w w.heap.size A (l.flatMap Cls.cells)
  all : ∀ c ∈ l, c.Ok w
theorem Clss.since {w W : World} {A : Option Addr} {l : List Cls} (h : Clss w A l) (hf : Fr No w W) : Clss W A l := ⟨h.sl.since hf, fun c hc => (h.all c hc).since hf⟩
theorem Sl.cls {w : World} {B : Nat} {A : Option Addr} {l : List Cls} (h : Sl w B A (l.flatMap Cls.cells)) {k : Nat} (hk : k < l.length) :
    ∃ ad, A = some ad ∧ ad.block < B ∧ w.cell? (ad.add (k * 5)) = some (.string l[k].name) ∧ w.cell? ⟨(ad.add (k * 5)).block, (ad.add (k * 5)).off + 1, none⟩ = some (.int .i64 l[k].args) ∧
      w.cell? ⟨(ad.add (k * 5)).block, (ad.add (k * 5)).off + 2, none⟩ = some (.slice l[k].sA l[k].steps.length l[k].sc) ∧ w.cell? ⟨(ad.add (k * 5)).block, (ad.add (k * 5)).off + 3, none⟩ = some (.slice l[k].uA l[k].comps.length l[k].uc) ∧
      w.cell? ⟨(ad.add (k * 5)).block, (ad.add (k * 5)).off + 4, none⟩ = some (.bool l[k].res) := by
  obtain ⟨ad, e, hb, hc⟩ := h.row 5 Cls.cells_len hk (by omega)
  exact ⟨ad, e, hb, hc 0 _ rfl, hc 1 _ rfl, hc 2 _ rfl, hc 3 _ rfl, hc 4 _ rfl⟩
theorem pct_at (x : Ctl) {i : Nat} (hi : i < x.cls.length) : x.p.at i = x.cls[i].p := by
  unfold PCt.at Ctl.p
  simp [List.getD, hi]

end Go.Proofs.Ytmabapbdnafpfaa
/- '==' of breakpoints: arrays of arrays, told cell by cell. -/
namespace Go.Proofs.Ytmabapbdnafpfaa
open Go.RowKit

/-- The breakpoints as a value. -/
def br16 (b : Nat → Int) : Array Value := #[.int .i64 (b 0), .int .i64 (b 1), .int .i64 (b 2), .int .i64 (b 3), .int .i64 (b 4), .int .i64 (b 5), .int .i64 (b 6), .int .i64 (b 7), .int .i64 (b 8), .int .i64 (b 9), .int .i64 (b 10), .int .i64 (b 11), .int .i64 (b 12), .int .i64 (b 13), .int .i64 (b 14), .int .i64 (b 15)]
theorem run_eqItems_gen {P : Program} {e : TypeId} {sz d : Nat} (xs ys : Array Value) (r : Nat → Bool) (vx vy : Nat → Value) (w : World) : ∀ is : List Nat, (∀ i ∈ is, (part e xs (i * sz)).run P w = .ok (vx i) w ∧ (part e ys (i * sz)).run P w = .ok (vy i) w ∧ (Op.equalIn d e (vx i) (vy i)).run P w = .ok (r i) w) →
    (Op.eqItems d e sz xs ys is).run P w = .ok (is.all r) w := by
  intro is
  induction is with
  | nil => intro _; rfl
  | cons i l ih =>
    intro hi
    obtain ⟨px, py, pe⟩ := hi i (by simp)
    simp only [Op.eqItems, Sem.run_bind, px, py, pe, Result.andThen_ok, List.all_cons]
    cases hb : r i
    · rfl
    · simp only [Bool.not_true, Bool.false_eq_true, if_false, Bool.true_and]
      exact ih (fun j hj => hi j (by simp [hj]))
end Go.Proofs.Ytmabapbdnafpfaa
/- The document's own: is there a breakpoint? -/
namespace Go.Proofs.Ytmabapbdnafpfaa
open Go.RowKit

end Go.Proofs.Ytmabapbdnafpfaa
