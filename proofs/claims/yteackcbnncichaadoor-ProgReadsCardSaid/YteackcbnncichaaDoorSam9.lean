/- Two programs that are the same, as the document has it. -/
import Derived.Test.YteackcbnncichaaDoorIdx9
import Derived.Test.YteackcbnncichaaDoorEq9
import Derived.Deep.QuietTactic
import Derived.BigQuiet
namespace Go.Proofs.YteackcbnncichaaDoor
open Go.RowKit

set_option maxHeartbeats 1000000 in
theorem same9_any (l : List Ins) (A B : Option Addr) (n c d : Nat) (w : World) (h1 : Sl w w.heap.size A (l.flatMap Ins.cells)) (h2 : Sl w w.heap.size B (l.flatMap Ins.cells)) (hn : l.length = n) (hnm : n ≤ 1099511627776) :
    Calls Tryd.prog 23 #[.slice A n c, .slice B n d] w (Has w true) := by
  have Hn := Lib.hid hn
  have H1 := Lib.hid h1
  have H2 := Lib.hid h2
  clear h1 h2 hn
  go_enter Tryd.func23, Tryd.ntmps23
  go_wp2
  go_loopw [5] (fun i wr => ∃ k : Nat, k ≤ n ∧ i = .int .i64 k ∧ Fr No w wr) (fun i _ => n - (intOf i).toNat)
  case atStart => exact ⟨0, Nat.zero_le _, rfl, Fr.refl _ _⟩
  case round =>
    obtain ⟨k, hk, rfl, hfr⟩ := hrel
    by_cases hlt : k < n
    · have hkl : k < l.length := by rw [Hn.out]; exact hlt
      obtain ⟨ad, rfl, hab, c0, c1, c2, c3, c4, c5, c6, c7, c8⟩ := (H1.out.since hfr).ins9 (k := k) hkl
      obtain ⟨ae, rfl, hae, e0, e1, e2, e3, e4, e5, e6, e7, e8⟩ := (H2.out.since hfr).ins9 (k := k) hkl
      generalize l[k] = i at *
      obtain ⟨o, a, b, cc, ka, kb, la, lb, x⟩ := i
      dsimp only at c0 c1 c2 c3 c4 c5 c6 c7 c8 e0 e1 e2 e3 e4 e5 e6 e7 e8
      have q := eqIns9 o a b cc ka kb la lb x o a b cc ka kb la lb x
      simp only [beq_self_eq_true, Bool.and_self] at q
      go_wp2
      go_quiet (fail)
      go_wp2
      go_roundw
      case rel => exact ⟨k + 1, by omega, by go_num, hfr.drewN _⟩
      case measure => simp [intOf]; omega
    · go_wp2
      go_ret
      exact ⟨rfl, hfr⟩
end Go.Proofs.YteackcbnncichaaDoor
