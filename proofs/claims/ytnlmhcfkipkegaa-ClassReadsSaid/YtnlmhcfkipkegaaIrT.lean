/- Package class: is all right in a reader? -/
import Derived.Test.YtnlmhcfkipkegaaRdq9
import Derived.Test.YtnlmhcfkipkegaaCls11
namespace Go.Proofs.Ytnlmhcfkipkegaa
open Go.RowKit

variable {G : Nat → Prop}
set_option maxRecDepth 100000 in
set_option maxHeartbeats 1000000 in
theorem isRight_any (p : Nat) (st : Option (List Nat)) (w : World) (hr : Rdq G w p st) :
    Calls Try.prog 23 #[.iface 24 (.pointer (some ⟨p, 0, none⟩))] w fun e w' => e = .returned (.bool st.isSome) ∧ w = w' := by
  have C1 := Lib.hid (qok_any p st w hr)
  have hta : ∀ W : World, (Instr.typeAssert (.iface 24 (.pointer (some ⟨p, 0, none⟩))) 20 89 true).run Try.prog W = .ok (.tuple #[.iface 24 (.pointer (some ⟨p, 0, none⟩)), .bool true]) W := fun W => by kernel_rfl
  go_enter Try.func23, Try.ntmps23
  go_wp2_with fail
  refine (C1.out).mono ?_
  rintro e w' ⟨rfl, rfl⟩
  go_wp2
  go_ret
  exact ⟨rfl, rfl⟩
end Go.Proofs.Ytnlmhcfkipkegaa
