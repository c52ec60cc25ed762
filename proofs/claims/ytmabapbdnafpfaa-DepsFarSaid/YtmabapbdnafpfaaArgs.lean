/- Openers of arguments that are numbers, flags and texts; readers of bytes. -/
import Derived.Test.YtmabapbdnafpfaaRead
import Derived.Test.YtmabapbdnafpfaaRows
namespace Go.Proofs.Ytmabapbdnafpfaa
open Go.ChangeShapes Go.WideShapes Go.ChangeAt Go.RowKit

section
variable {H : Type} {enc : TypeId × Value → H} {P : Program} {w : World}
theorem rd_u8 {t : TypeId} (ht : P.underlying t = some (.int .u8)) : Rd enc P w t (fun n : Nat => [.int .u8 (n : Int)]) (fun n => n < 256) := by
  intro fuel cs y h
  obtain ⟨n, h1, h2⟩ := rd_int ht fuel cs y h
  have h3 : 0 ≤ n ∧ n ≤ 255 := by simpa [Lit.wf, IntKind.min, IntKind.max, IntKind.signed, IntKind.bits] using h2
  exact ⟨n.toNat, by subst h1; simp [Int.toNat_of_nonneg h3.1], by omega⟩
theorem arg_int {t : TypeId} {k : IntKind} {v : Value} {d : DataW H} {p : List MemPlace} {r : Reach} {b : Nat} (ht : P.underlying t = some (.int k)) (hv : Value.okWide P w r b t v) (h : DataW.Trod enc P w 0 (fun _ => true) true t v d p) :
    ∃ n : Int, v = .int k n ∧ (Lit.int k n).wf = true := by
  obtain ⟨n, rfl⟩ := Go.WideShapes.okWide_int ht hv
  obtain ⟨fuel, hf⟩ := h
  obtain ⟨m, h1, _, h2⟩ := DataW.trod_int ht hf
  obtain rfl : n = m := by simpa [Value.cells] using h1
  exact ⟨n, rfl, h2⟩
theorem arg_i64 {t : TypeId} {v : Value} {d : DataW H} {p : List MemPlace} {r : Reach} {b : Nat} (ht : P.underlying t = some (.int .i64)) (hv : Value.okWide P w r b t v) (h : DataW.Trod enc P w 0 (fun _ => true) true t v d p) :
    ∃ n : Int, v = .int .i64 n ∧ -9223372036854775808 ≤ n ∧ n < 9223372036854775808 := by
  obtain ⟨n, rfl, h2⟩ := arg_int ht hv h
  have h3 : -9223372036854775808 ≤ n ∧ n ≤ 9223372036854775807 := by simpa [Lit.wf, IntKind.min, IntKind.max, IntKind.signed, IntKind.bits] using h2
  exact ⟨n, rfl, by omega, by omega⟩
theorem arg_u64 {t : TypeId} {v : Value} {d : DataW H} {p : List MemPlace} {r : Reach} {b : Nat} (ht : P.underlying t = some (.int .u64)) (hv : Value.okWide P w r b t v) (h : DataW.Trod enc P w 0 (fun _ => true) true t v d p) :
    ∃ n : Nat, v = .int .u64 (n : Int) ∧ n < 18446744073709551616 := by
  obtain ⟨n, rfl, h2⟩ := arg_int ht hv h
  have h3 : 0 ≤ n ∧ n ≤ 18446744073709551615 := by simpa [Lit.wf, IntKind.min, IntKind.max, IntKind.signed, IntKind.bits] using h2
  exact ⟨n.toNat, by rw [Int.toNat_of_nonneg h3.1], by omega⟩
theorem arg_u8 {t : TypeId} {v : Value} {d : DataW H} {p : List MemPlace} {r : Reach} {b : Nat} (ht : P.underlying t = some (.int .u8)) (hv : Value.okWide P w r b t v) (h : DataW.Trod enc P w 0 (fun _ => true) true t v d p) :
    ∃ n : Nat, v = .int .u8 (n : Int) ∧ n < 256 := by
  obtain ⟨n, rfl, h2⟩ := arg_int ht hv h
  have h3 : 0 ≤ n ∧ n ≤ 255 := by simpa [Lit.wf, IntKind.min, IntKind.max, IntKind.signed, IntKind.bits] using h2
  exact ⟨n.toNat, by rw [Int.toNat_of_nonneg h3.1], by omega⟩
theorem arg_u16 {t : TypeId} {v : Value} {d : DataW H} {p : List MemPlace} {r : Reach} {b : Nat} (ht : P.underlying t = some (.int .u16)) (hv : Value.okWide P w r b t v) (h : DataW.Trod enc P w 0 (fun _ => true) true t v d p) :
    ∃ n : Nat, v = .int .u16 (n : Int) ∧ n < 65536 := by
  obtain ⟨n, rfl, h2⟩ := arg_int ht hv h
  have h3 : 0 ≤ n ∧ n ≤ 65535 := by simpa [Lit.wf, IntKind.min, IntKind.max, IntKind.signed, IntKind.bits] using h2
  exact ⟨n.toNat, by rw [Int.toNat_of_nonneg h3.1], by omega⟩
theorem arg_bool {t : TypeId} {v : Value} {r : Reach} {b : Nat} (ht : P.underlying t = some .bool) (hv : Value.okWide P w r b t v) : ∃ c : Bool, v = .bool c := Go.WideShapes.okWide_bool ht hv
end

theorem own_knob : ownKnob Try.prog.godebug = none := by kernel_rfl
theorem laid_out : laidOutB Try.prog = true := by kernel_rfl

end Go.Proofs.Ytmabapbdnafpfaa
