/- What is read as data: openers of arguments, by the types' shapes; no program is spoken of. -/
import Derived.Test.YtmeimhpllemjfaaGreatLib
import Derived.ProofKit
import Derived.OpenShut
import Derived.ShutString
import Derived.ChangeOld
import Derived.Deep.Slices
import Derived.Deep.Fields
import Derived.Test.YtmeimhpllemjfaaGreatRows
import Derived.SizedLaws
namespace Go.Proofs.YtmeimhpllemjfaaGreat
open Go.RowKit

section
variable {H : Type} (enc : TypeId × Value → H) (P : Program) (w : World)
def Rd {α : Type} (t : TypeId) (f : α → List Value) (Q : α → Prop) : Prop :=
 ∀ (fuel : Nat) (cs : List Value) (y : DataW H × List MemPlace), DataW.trod enc P w 0 (fun _ => true) true fuel t cs = some y → ∃ x : α, cs = f x ∧ Q x

structure Lst (α : Type) where
 A : Option Addr
 l : List α
 c : Nat
def Lst.cell {α : Type} (s : Lst α) : List Value := [.slice s.A s.l.length s.c]
structure Lst.Ok {α : Type} (w : World) (f : α → List Value) (Q : α → Prop) (s : Lst α) : Prop where
 sl : Sl w w.heap.size s.A (s.l.flatMap f)
 all : ∀ x ∈ s.l, Q x
 cap : s.l.length ≤ s.c ∧ s.c ≤ maxLen
 nil : s.A = none → s.l.length = 0 ∧ s.c = 0

variable {enc P w}
theorem rd_int {t : TypeId} {k : IntKind} (ht : P.underlying t = some (.int k)) : Rd enc P w t (fun n : Int => [.int k n]) (fun n => (Lit.int k n).wf = true) := by
 intro fuel cs y h
 obtain ⟨n, h1, _, h2⟩ := DataW.trod_int ht h
 exact ⟨n, h1, h2⟩
theorem rd_bool {t : TypeId} (ht : P.underlying t = some .bool) : Rd enc P w t (fun b : Bool => [.bool b]) (fun _ => True) := by
 intro fuel cs y h
 obtain ⟨b, h1, _⟩ := DataW.trod_bool ht h
 exact ⟨b, h1, trivial⟩
theorem rd_string {t : TypeId} (ht : P.underlying t = some .string) : Rd enc P w t (fun s : ByteArray => [.string s]) (fun s => s.size ≤ maxLen) := by
 intro fuel cs y h
 obtain ⟨s, h1, _, h2⟩ := DataW.trod_string ht h
 exact ⟨s, h1, h2⟩
theorem rd_i64 {t : TypeId} (ht : P.underlying t = some (.int .i64)) : Rd enc P w t (fun n : Int => [.int .i64 n]) (fun n => -9223372036854775808 ≤ n ∧ n < 9223372036854775808) := by
 intro fuel cs y h
 obtain ⟨n, h1, h2⟩ := rd_int ht fuel cs y h
 refine ⟨n, h1, ?_⟩
 have h3 : -9223372036854775808 ≤ n ∧ n ≤ 9223372036854775807 := by simpa [Lit.wf, IntKind.min, IntKind.max, IntKind.signed, IntKind.bits] using h2
 omega
theorem rd_slice {α : Type} {t e : TypeId} {f : α → List Value} {Q : α → Prop} {m : Nat} (ht : P.underlying t = some (.slice e)) (hm : P.cellsOf e = m) (h0 : 0 < m) (hlen : ∀ x, (f x).length = m) (hr : Rd enc P w e f Q) :
  Rd enc P w t (Lst.cell (α := α)) (Lst.Ok w f Q) := by
 intro fuel cs y h
 rcases Go.Deep.open_slice ht h with ⟨rfl, _⟩ | ⟨a, len, cap, k, n, D, Pl, rfl, _, hl, hc, hk, _, hi⟩
 ·exact ⟨⟨none, [], 0⟩, rfl, ⟨Sl.nil _ _ _, by simp, ⟨Nat.le_refl _, Nat.zero_le _⟩, fun _ => ⟨rfl, rfl⟩⟩⟩
 ·have hkl : len ≤ k := by rw [hk]; simp; omega
  have each : ∀ i, i < len → ∃ x : α, Q x ∧ ∀ j u, (f x)[j]? = some u → w.cell? ((a.add (i * m)).add j) = some u := by
   intro i hil
   obtain ⟨cs', h1, h2⟩ := hi i (by omega)
   obtain ⟨x, rfl, hq⟩ := hr _ _ _ h2
   obtain ⟨_, h4, h5⟩ := World.cells?_some h1
   refine ⟨x, hq, fun j u hu => ?_⟩
   have hj : j < m := by
    have := (List.getElem?_eq_some_iff.1 hu).1
    rwa [hlen] at this
   rw [hm] at h5
   rw [h5 j hj, hu]
  obtain ⟨g, hg⟩ : ∃ g : Nat → Option α, ∀ i, i < len → ∃ x, g i = some x ∧ Q x ∧ ∀ j u, (f x)[j]? = some u → w.cell? ((a.add (i * m)).add j) = some u := by
   refine ⟨fun i => if h : i < len then some (Classical.choose (each i h)) else none, fun i hil => ?_⟩
   exact ⟨Classical.choose (each i hil), by simp [hil], Classical.choose_spec (each i hil)⟩
  have hl2 : ∀ k, k ≤ len → ∃ l : List α, l.length = k ∧ (∀ x ∈ l, Q x) ∧ ∀ i (h : i < l.length), ∀ j u, (f l[i])[j]? = some u → w.cell? ((a.add (i * m)).add j) = some u := by
   intro k
   induction k with
   | zero => exact fun _ => ⟨[], rfl, by simp, fun i h => by simp at h⟩
   | succ k ih =>
    intro hk'
    obtain ⟨l, q1, q2, q3⟩ := ih (by omega)
    obtain ⟨x, _, q5, q6⟩ := hg k (by omega)
    refine ⟨l ++ [x], by simp [q1], ?_, ?_⟩
    ·intro z hz
     rcases List.mem_append.1 hz with hz | hz
     ·exact q2 z hz
     ·obtain rfl : z = x := by simpa using hz
      exact q5
    ·intro i h j u hu
     by_cases hik : i < l.length
     ·rw [List.getElem_append_left hik] at hu
      exact q3 i hik j u hu
     ·have : i = l.length := by simp at h; omega
      subst this
      simp at hu
      rw [q1]
      exact q6 j u hu
  obtain ⟨l, q1, q2, q3⟩ := hl2 len (Nat.le_refl _)
  refine ⟨⟨some a, l, cap⟩, by simp [Lst.cell, q1], ⟨?_, q2, ⟨by rw [q1]; exact hl, hc⟩, by simp⟩⟩
  intro hne
  have hpos : 0 < l.length := by
   rcases Nat.eq_zero_or_pos l.length with h1 | h1
   ·rw [List.eq_nil_of_length_eq_zero h1] at hne; simp at hne
   ·exact h1
  have hcell : ∀ j u, (l.flatMap f)[j]? = some u → w.cell? (a.add j) = some u := by
   intro j u hu
   have hj := (List.getElem?_eq_some_iff.1 hu).1
   rw [flat_len f m hlen] at hj
   have hi : j / m < l.length := (Nat.div_lt_iff_lt_mul h0).2 hj
   have e : j / m * m + j % m = j := by rw [Nat.mul_comm]; exact Nat.div_add_mod j m
   have h6 := q3 (j / m) hi (j % m) u (by rw [← flat_at f m hlen l (j / m) (j % m) hi (Nat.mod_lt _ h0), e]; exact hu)
   rwa [add_add', e] at h6
  refine ⟨a, rfl, ?_, hcell⟩
  have h7 : (l.flatMap f)[0]? = some ((l.flatMap f)[0]'(by rw [flat_len f m hlen]; exact Nat.mul_pos hpos h0)) := List.getElem?_eq_getElem _
  exact (block_add a 0) ▸ World.block_lt_of_cell? w _ (hcell 0 _ h7)
theorem rd_field {α : Type} {t u : TypeId} {fs : Array Field} {fuel : Nat} {cs : List Value} {y : DataW H × List MemPlace} (ht : P.underlying t = some (.struct fs)) (h : DataW.trod enc P w 0 (fun _ => true) true fuel t cs = some y)
  (i : Nat) (off n : Nat) {f : α → List Value} {Q : α → Prop} (hf : (fs[i]?).map (fun f => (f.type, f.offset)) = some (u, off)) (hn : P.cellsOf u = n) (hr : Rd enc P w u f Q) : ∃ x : α, (cs.drop off).take n = f x ∧ Q x := by
 obtain ⟨xs, k, _, _, _, hlen, hg⟩ := DataW.trod_struct ht h
 obtain ⟨fd, hfd, hfe⟩ := Option.map_eq_some_iff.1 hf
 simp only [Prod.mk.injEq] at hfe
 obtain ⟨rfl, rfl⟩ := hfe
 have h1 := hg i fd hfd
 have hi : i < xs.length := by rw [hlen]; exact (Array.getElem?_eq_some_iff.1 hfd).1
 rw [List.getElem?_eq_getElem hi, hn] at h1
 exact hr _ _ _ h1
theorem rd_size {t : TypeId} {fs : Array Field} {fuel : Nat} {cs : List Value} {y : DataW H × List MemPlace} (ht : P.underlying t = some (.struct fs)) (h : DataW.trod enc P w 0 (fun _ => true) true fuel t cs = some y) : cs.length = P.cellsOf t := by
 obtain ⟨_, _, _, _, h1, _, _⟩ := DataW.trod_struct ht h
 exact h1
theorem rd_arg_slice {α : Type} {t e : TypeId} {f : α → List Value} {Q : α → Prop} {m : Nat} {v : Value} {d : DataW H} {p : List MemPlace} {r : Reach} {b : Nat} (ht : P.underlying t = some (.slice e)) (hv : Value.okWide P w r b t v)
  (h : DataW.Trod enc P w 0 (fun _ => true) true t v d p) (hm : P.cellsOf e = m) (h0 : 0 < m) (hlen : ∀ x, (f x).length = m) (hr : Rd enc P w e f Q) : ∃ s : Lst α, v = .slice s.A s.l.length s.c ∧ s.Ok w f Q := by
 obtain ⟨a0, len, cap, rfl⟩ := Go.WideShapes.okWide_slice ht hv
 obtain ⟨fuel, hf⟩ := h
 obtain ⟨s, h1, h2⟩ := rd_slice ht hm h0 hlen hr _ _ _ hf
 refine ⟨s, ?_, h2⟩
 simpa [Value.cells, Lst.cell] using h1
end
end Go.Proofs.YtmeimhpllemjfaaGreat
/- Openers of arguments that are numbers, flags and texts; readers of bytes. -/
namespace Go.Proofs.YtmeimhpllemjfaaGreat
open Go.ChangeShapes Go.WideShapes Go.ChangeAt Go.RowKit

section
variable {H : Type} {enc : TypeId × Value → H} {P : Program} {w : World}
theorem arg_int {t : TypeId} {k : IntKind} {v : Value} {d : DataW H} {p : List MemPlace} {r : Reach} {b : Nat} (ht : P.underlying t = some (.int k)) (hv : Value.okWide P w r b t v) (h : DataW.Trod enc P w 0 (fun _ => true) true t v d p) :
  ∃ n : Int, v = .int k n ∧ (Lit.int k n).wf = true := by
 obtain ⟨n, rfl⟩ := Go.WideShapes.okWide_int ht hv
 obtain ⟨fuel, hf⟩ := h
 obtain ⟨m, h1, _, h2⟩ := DataW.trod_int ht hf
 obtain rfl : n = m := by simpa [Value.cells] using h1
 exact ⟨n, rfl, h2⟩
theorem arg_u8 {t : TypeId} {v : Value} {d : DataW H} {p : List MemPlace} {r : Reach} {b : Nat} (ht : P.underlying t = some (.int .u8)) (hv : Value.okWide P w r b t v) (h : DataW.Trod enc P w 0 (fun _ => true) true t v d p) :
  ∃ n : Nat, v = .int .u8 (n : Int) ∧ n < 256 := by
 obtain ⟨n, rfl, h2⟩ := arg_int ht hv h
 have h3 : 0 ≤ n ∧ n ≤ 255 := by simpa [Lit.wf, IntKind.min, IntKind.max, IntKind.signed, IntKind.bits] using h2
 exact ⟨n.toNat, by rw [Int.toNat_of_nonneg h3.1], by omega⟩
end

theorem own_knob : ownKnob Tryz.prog.godebug = none := by kernel_rfl
theorem laid_out : laidOutB Tryz.prog = true := by kernel_rfl

end Go.Proofs.YtmeimhpllemjfaaGreat
/- How many elements a slice has that was handed in: what the form's own reach says. -/
namespace Go.Proofs.YtmeimhpllemjfaaGreat
open Go.RowKit

end Go.Proofs.YtmeimhpllemjfaaGreat
