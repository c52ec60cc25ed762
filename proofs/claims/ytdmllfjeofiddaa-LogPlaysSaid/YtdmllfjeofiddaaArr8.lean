/- '==' on arrays of eight words, told cell by cell. -/
import Derived.WalkKit
import Derived.ChangeKeysEq
import Derived.Laws.StructEq
namespace Go.Proofs.Ytdmllfjeofiddaa
open Go.RowKit

section
variable {P : Program}
/-- Numbers as the cells of an array of words. -/
def w64 (xs : List Int) : Array Value := (xs.map (Value.int .u64)).toArray
theorem run_eqItems_words {e : TypeId} (he : P.underlying e = some (.int .u64)) (xs ys : List Int) (n : Nat) (hx : xs.length = n) (hy : ys.length = n) (w : World) :
    ∀ is : List Nat, (∀ i ∈ is, i < n) → (Op.eqItems 9999 e 1 (w64 xs) (w64 ys) is).run P w = .ok (is.all fun i => xs.getD i 0 == ys.getD i 0) w := by
  intro is
  induction is with
  | nil => intro _; rfl
  | cons i r ih =>
    intro hi
    have hin : i < n := hi i (by simp)
    have px : (part e (w64 xs) (i * 1)).run P w = .ok (.int .u64 (xs.getD i 0)) w := by
      simp [w64, part, isAgg, run_underlying he, List.getD, List.getElem?_eq_getElem (show i < xs.length by omega)]
    have py : (part e (w64 ys) (i * 1)).run P w = .ok (.int .u64 (ys.getD i 0)) w := by
      simp [w64, part, isAgg, run_underlying he, List.getD, List.getElem?_eq_getElem (show i < ys.length by omega)]
    have pe : (Op.equalIn 9999 e (.int .u64 (xs.getD i 0)) (.int .u64 (ys.getD i 0))).run P w = .ok (xs.getD i 0 == ys.getD i 0) w := run_equalIn_int w 9998 e .u64 .u64 _ _ he
    simp only [Op.eqItems, Sem.run_bind, px, py, pe, Result.andThen_ok, List.all_cons]
    cases hb : (xs.getD i 0 == ys.getD i 0)
    · rfl
    · simp only [Bool.not_true, Bool.false_eq_true, if_false, Bool.true_and]
      exact ih (fun j hj => hi j (by simp [hj]))
theorem run_equalIn_8 {t e : TypeId} {i : TypeInfo} (ht : P.underlying t = some (.array 8 e)) (he : P.underlying e = some (.int .u64)) (hi : P.info? e = some i) (hc : P.cellsOf e = 1) (a0 a1 a2 a3 a4 a5 a6 a7 b0 b1 b2 b3 b4 b5 b6 b7 : Int) (w : World) :
    (Op.equalIn 10000 t (.agg #[.int .u64 a0, .int .u64 a1, .int .u64 a2, .int .u64 a3, .int .u64 a4, .int .u64 a5, .int .u64 a6, .int .u64 a7]) (.agg #[.int .u64 b0, .int .u64 b1, .int .u64 b2, .int .u64 b3, .int .u64 b4, .int .u64 b5, .int .u64 b6, .int .u64 b7])).run P w =
      .ok (a0 == b0 && (a1 == b1 && (a2 == b2 && (a3 == b3 && (a4 == b4 && (a5 == b5 && (a6 == b6 && a7 == b7))))))) w := by
  rw [run_equalIn_array w 9999 _ _ ht hi, hc]
  have h := run_eqItems_words he [a0, a1, a2, a3, a4, a5, a6, a7] [b0, b1, b2, b3, b4, b5, b6, b7] 8 rfl rfl w (List.range 8) (fun i hi => by simpa using hi)
  refine h.trans ?_
  have hr : List.range 8 = [0, 1, 2, 3, 4, 5, 6, 7] := by decide
  rw [hr]
  simp [List.all]
end
end Go.Proofs.Ytdmllfjeofiddaa
