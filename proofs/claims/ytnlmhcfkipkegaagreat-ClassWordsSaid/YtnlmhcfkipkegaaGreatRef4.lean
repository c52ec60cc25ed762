/- The document's own sets of keys. -/
import Derived.Test.YtnlmhcfkipkegaaGreatRows
import Derived.Test.YtnlmhcfkipkegaaGreatKey4
namespace Go.Proofs.YtnlmhcfkipkegaaGreat
open Go.RowKit

theorem flags_congr (n : Nat) (d e : Nat → Bool) (h : ∀ i, i < n → d i = e i) : flags n d = flags n e := by
  unfold flags
  congr 1
  exact List.map_congr_left (fun i hi => by rw [h i (by simpa using hi)])
theorem Sl.span {w : World} {B : Nat} {A : Option Addr} {l : List Span} (h : Sl w B A (sps l)) {k : Nat} (hk : k < l.length) :
    ∃ ad, A = some ad ∧ ad.block < B ∧ w.cell? (ad.add (k * 2)) = some (.int .i64 l[k].1) ∧ w.cell? ⟨(ad.add (k * 2)).block, (ad.add (k * 2)).off + 1, none⟩ = some (.int .i64 l[k].2) := by
  obtain ⟨ad, e, hb, hc⟩ := h.row 2 spC_len hk (by omega)
  exact ⟨ad, e, hb, hc 0 _ rfl, hc 1 _ rfl⟩

/-- A new list of spans. -/
def NewS (w : World) (zs : List Span) (e : Ending) (w' : World) : Prop :=
  ∃ A c, e = .returned (.slice A zs.length c) ∧ Sl w' w'.heap.size A (sps zs) ∧ Fr No w w'

end Go.Proofs.YtnlmhcfkipkegaaGreat
