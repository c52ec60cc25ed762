/- Package keys: what two plain lists have in common. -/
import Derived.Test.YtnlmhcfkipkegaaMay4
import Derived.BigRegion
import Derived.Deep.CutRange
namespace Go.Proofs.Ytnlmhcfkipkegaa
open Go.RowKit

/-- A list that came in, and its capacity. -/
structure Cap4 (w : World) (B : Nat) (A : Option Addr) (n c : Nat) (l : List Span) : Prop where
  sl : Sl w B A (sps l)
  len : l.length = n
  cap : n ≤ c
theorem Cap4.fr {S : Nat → Prop} {w W : World} {B n c : Nat} {A : Option Addr} {l : List Span} (h : Cap4 w B A n c l) (hf : Fr S w W) (hB : B ≤ w.heap.size) (hS : ∀ k, k < B → ¬ S k) : Cap4 W B A n c l := by
  refine ⟨fun hn => ?_, h.len, h.cap⟩
  obtain ⟨ad, e, hb, hc⟩ := h.sl hn
  refine ⟨ad, e, hb, fun j u hu => ?_⟩
  rw [hf.cell (by rw [block_add]; omega) (by rw [block_add]; exact hS _ hb)]
  exact hc j u hu
theorem Cap4.first {w : World} {B n c : Nat} {A : Option Addr} {x : Span} {l : List Span} (h : Cap4 w B A n c (x :: l)) : ∃ ad, A = some ad ∧ ad.block < B ∧ w.cell? ad = some (.int .i64 x.1) ∧ w.cell? ⟨ad.block, ad.off + 1, none⟩ = some (.int .i64 x.2) := by
  obtain ⟨ad, e, hb, h0, h1⟩ := h.sl.span (k := 0) (by simp)
  simp only [Nat.zero_mul, List.getElem_cons_zero] at h0 h1
  exact ⟨ad, e, hb, h0, h1⟩
theorem Cap4.tail {w : World} {B n c : Nat} {A : Option Addr} {x : Span} {l : List Span} (h : Cap4 w B A n c (x :: l)) : Cap4 w B (if c = 1 then A else A.map (·.add 2)) (n - 1) (c - 1) l := by
  have hl := h.len
  have hc := h.cap
  simp at hl
  have h1 := h.sl.drop (k := 1) (n := n) (cap := c) (sz := 2) (by rw [sps_len, h.len]) (by omega) hc
  exact ⟨h1, by omega, by omega⟩

end Go.Proofs.Ytnlmhcfkipkegaa
