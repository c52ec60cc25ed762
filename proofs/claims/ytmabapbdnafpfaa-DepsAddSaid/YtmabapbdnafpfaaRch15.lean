/- How many elements a slice has that was handed in: what the form's own reach says. -/
import Derived.Test.YtmabapbdnafpfaaRead
import Derived.SizedLaws
namespace Go.Proofs.Ytmabapbdnafpfaa
open Go.RowKit

theorem reach_len15 {H : Type} {enc : TypeId × Value → H} {P : Program} {W : World} {t e : TypeId} {ts : List TypeId} {ds : List (DataW H)} {j : Nat} {A : Option Addr} {len cap : Nat} {d : DataW H} {p : List MemPlace}
    (hsz : (DataW.weightsEach P ts ds).all (· ≤ reachBytes) = true) (hts : ts[j]? = some t) (hds : ds[j]? = some d) (ht : P.underlying t = some (.slice e)) (h : DataW.Trod enc P W 0 (fun _ => true) true t (.slice A len cap) d p) :
    len * P.bytesOf e ≤ 140737488351232 := by
  obtain ⟨fuel, hf⟩ := h
  have hc : (Value.slice A len cap).cells.toList = [.slice A len cap] := rfl
  rw [hc] at hf
  rcases Go.Deep.open_slice ht hf with ⟨h0, _⟩ | ⟨a, len', cap', k, n, D, Pl, h0, _, hl, _, hk, hx, _⟩
  · simp at h0
    obtain ⟨-, rfl, -⟩ := h0
    simp
  · simp at h0
    obtain ⟨-, rfl, -⟩ := h0
    simp only [Prod.mk.injEq] at hx
    have hd := hx.1
    rw [hd] at hds
    have := sized_slice hsz hts hds ht
    simp only [List.length_map, List.length_range] at this
    have hr : reachBytes = 140737488351232 := rfl
    rw [hr] at this
    refine Nat.le_trans (Nat.mul_le_mul_right _ ?_) this
    omega
end Go.Proofs.Ytmabapbdnafpfaa
