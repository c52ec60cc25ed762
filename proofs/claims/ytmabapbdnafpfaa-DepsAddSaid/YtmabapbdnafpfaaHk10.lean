/- Whether a list has an element that a function tells: slices.ContainsFunc, as package foot calls it. -/
import Derived.Test.YtmabapbdnafpfaaIdx9
import Derived.Test.YtmabapbdnafpfaaRgt10
import Derived.Test.YtmabapbdnafpfaaMay9
namespace Go.Proofs.Ytmabapbdnafpfaa
open Go.RowKit

end Go.Proofs.Ytmabapbdnafpfaa
/- Which footprints package foot says may be. -/
namespace Go.Proofs.Ytmabapbdnafpfaa
open Go.RowKit

/-- Has a template a key for arguments? -/
def keyHas (gs : List Int) (k : Int × Int) : Bool := argsOk gs && keyOk k.1 k.2 gs.length
theorem keyV_has (gs : List Int) (x y : Int) : (keyV x y gs).2 = keyHas gs (x, y) := by
  unfold keyV keyHas
  cases argsOk gs && keyOk x y gs.length <;> rfl

/-- Has a span of templates both keys? -/
def fspHas (gs : List Int) (f : Fsp) : Bool := keyHas gs (f.la, f.lb) && keyHas gs (f.ha, f.hb)
theorem footRight_has (l : List Fsp) (gs : List Int) : footRight l gs = (decide (l.length ≤ 4) && (keyHas gs (-1, 0) && l.all (fspHas gs))) := by
  unfold footRight footOk
  cases ha : argsOk gs
  · have : keyHas gs (-1, 0) = false := by unfold keyHas; rw [ha]; rfl
    rw [this]
    simp
  · have h3 : gs.length ≤ 3 := by
      unfold argsOk at ha
      simp only [Bool.and_eq_true, decide_eq_true_eq] at ha
      omega
    have e0 : keyHas gs (-1, 0) = true := by
      unfold keyHas
      rw [ha]
      simp [keyOk]
      omega
    have e1 : decide (0 ≤ (gs.length : Int) ∧ (gs.length : Int) ≤ 3) = true := by simp; omega
    have e2 : (fun f => fspOk f gs.length) = fspHas gs := by
      funext f
      unfold fspOk fspHas keyHas
      rw [ha]
      simp
    rw [e0, e1, e2]
    simp

end Go.Proofs.Ytmabapbdnafpfaa
/- A footprint's span for arguments, as package foot has it; may it be, for so many? -/
namespace Go.Proofs.Ytmabapbdnafpfaa
open Go.RowKit

theorem keyV_of {x y : Int} {gs : List Int} (ha : argsOk gs = true) (hk : keyOk x y gs.length = true) : keyV x y gs = (keyOf x y gs, true) := by
  unfold keyV
  rw [ha, hk]
  rfl
theorem zeros_ok (n : Nat) (h : n ≤ 3) : argsOk (List.replicate n 0) = true := by
  unfold argsOk
  simp only [Bool.and_eq_true, decide_eq_true_eq, List.length_replicate, List.all_eq_true]
  refine ⟨?_, ?_⟩ <;> first | exact h | (intro a ha; rw [List.mem_replicate] at ha; simp [ha.2])
end Go.Proofs.Ytmabapbdnafpfaa
/- May a footprint be, for so many arguments, as package foot has it. -/
namespace Go.Proofs.Ytmabapbdnafpfaa
open Go.RowKit

theorem info_int10 : (Try.prog.info? 3).map (fun i => (i.zero, i.size, i.bytes)) = some (some (.int .i64 0), 1, 8) := by kernel_rfl
end Go.Proofs.Ytmabapbdnafpfaa
