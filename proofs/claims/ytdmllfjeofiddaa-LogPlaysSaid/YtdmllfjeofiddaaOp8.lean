/- What is done to a log; both devices and both logs, while the devices alone move. -/
import Derived.Test.YtdmllfjeofiddaaSm8
namespace Go.Proofs.Ytdmllfjeofiddaa
open Go.RowKit

/-- What is done to a log. -/
structure Op8 where
  kind : Nat
  fk : Int
  fA : Option Addr
  fw : List Nat
  fc : Nat
  keep : List Bool
  A : Option Addr
  c : Nat
  i : Int
  s0 : Nat
  s1 : Nat
  s2 : Nat
  s3 : Nat
  s4 : Nat
  s5 : Nat
  s6 : Nat
  s7 : Nat
def Op8.fr (o : Op8) : FrV := ⟨o.fk, o.fA, o.fw, o.fc⟩
def Op8.cells (o : Op8) : List Value := [.int .u8 o.kind, .int .i64 o.fk, .slice o.fA o.fw.length o.fc, .slice o.A o.keep.length o.c, .int .i64 o.i, .int .u64 o.s0, .int .u64 o.s1, .int .u64 o.s2, .int .u64 o.s3, .int .u64 o.s4, .int .u64 o.s5, .int .u64 o.s6, .int .u64 o.s7]
theorem Op8.cells_len (o : Op8) : o.cells.length = 13 := rfl
structure Op8.Fit (w : World) (B : Nat) (o : Op8) : Prop where
  kind : o.kind < 256
  fr : o.fr.Fit w B
  sl : Sl w B o.A (bools o.keep)
  cap : o.keep.length ≤ o.c ∧ o.c ≤ maxLen
  i : -9223372036854775808 ≤ o.i ∧ o.i < 9223372036854775808
  sec : Sec [o.s0, o.s1, o.s2, o.s3, o.s4, o.s5, o.s6, o.s7]
theorem Op8.Fit.since {w W : World} {o : Op8} (h : o.Fit w w.heap.size) (hf : Fr No w W) : o.Fit W W.heap.size := ⟨h.kind, h.fr.since hf, h.sl.since hf, h.cap, h.i, h.sec⟩
/-- Ops one behind the other, as they lie there. -/
structure Ops8 (w : World) (A : Option Addr) (l : List Op8) : Prop where
  sl : Sl w w.heap.size A (l.flatMap Op8.cells)
  fit : ∀ o ∈ l, o.Fit w w.heap.size
theorem Ops8.since {w W : World} {A : Option Addr} {l : List Op8} (h : Ops8 w A l) (hf : Fr No w W) : Ops8 W A l := ⟨h.sl.since hf, fun o ho => (h.fit o ho).since hf⟩
theorem Ops8.at {w : World} {A : Option Addr} {l : List Op8} (h : Ops8 w A l) {k : Nat} (hk : k < l.length) :
    ∃ ad, A = some ad ∧ ad.block < w.heap.size ∧ ∀ j u, (l[k].cells)[j]? = some u → w.cell? ((ad.add (k * 13)).add j) = some u := h.sl.row 13 Op8.cells_len hk (by omega)
theorem op8_cells {w : World} {ad : Addr} {k : Nat} {o : Op8} (h : ∀ j u, (o.cells)[j]? = some u → w.cell? ((ad.add (k * 13)).add j) = some u) :
    w.cell? (ad.add (k * 13)) = some (.int .u8 o.kind) ∧ w.cell? ⟨(ad.add (k * 13)).block, (ad.add (k * 13)).off + 1, none⟩ = some (.int .i64 o.fk) ∧
    w.cell? ⟨(ad.add (k * 13)).block, (ad.add (k * 13)).off + 2, none⟩ = some (.slice o.fA o.fw.length o.fc) ∧ w.cell? ⟨(ad.add (k * 13)).block, (ad.add (k * 13)).off + 3, none⟩ = some (.slice o.A o.keep.length o.c) ∧
    w.cell? ⟨(ad.add (k * 13)).block, (ad.add (k * 13)).off + 4, none⟩ = some (.int .i64 o.i) ∧ w.cell? ⟨(ad.add (k * 13)).block, (ad.add (k * 13)).off + 5, none⟩ = some (.int .u64 o.s0) ∧
    w.cell? ⟨(ad.add (k * 13)).block, (ad.add (k * 13)).off + 6, none⟩ = some (.int .u64 o.s1) ∧ w.cell? ⟨(ad.add (k * 13)).block, (ad.add (k * 13)).off + 7, none⟩ = some (.int .u64 o.s2) ∧
    w.cell? ⟨(ad.add (k * 13)).block, (ad.add (k * 13)).off + 8, none⟩ = some (.int .u64 o.s3) ∧ w.cell? ⟨(ad.add (k * 13)).block, (ad.add (k * 13)).off + 9, none⟩ = some (.int .u64 o.s4) ∧
    w.cell? ⟨(ad.add (k * 13)).block, (ad.add (k * 13)).off + 10, none⟩ = some (.int .u64 o.s5) ∧ w.cell? ⟨(ad.add (k * 13)).block, (ad.add (k * 13)).off + 11, none⟩ = some (.int .u64 o.s6) ∧
    w.cell? ⟨(ad.add (k * 13)).block, (ad.add (k * 13)).off + 12, none⟩ = some (.int .u64 o.s7) := by
  refine ⟨?_, ?_, ?_, ?_, ?_, ?_, ?_, ?_, ?_, ?_, ?_, ?_, ?_⟩
  · exact h 0 _ rfl
  · exact h 1 _ rfl
  · exact h 2 _ rfl
  · exact h 3 _ rfl
  · exact h 4 _ rfl
  · exact h 5 _ rfl
  · exact h 6 _ rfl
  · exact h 7 _ rfl
  · exact h 8 _ rfl
  · exact h 9 _ rfl
  · exact h 10 _ rfl
  · exact h 11 _ rfl
  · exact h 12 _ rfl
section
variable {wb w w' : World} {S S' T B : Nat → Prop} {d l r gl gr gd lg a b : Nat} {D D' E : Dv} {M M' : Lg}
theorem LInv.same {D E : Dv} {M : Lg} (h : LInv D M) (hn : E.n = D.n) (hr : E.rd = D.rd) : LInv E M := ⟨by rw [hn]; exact h.fits, h.pos, h.small, h.num, h.ok, by rw [hr]; exact h.lies⟩
/-- The package's device alone has moved. -/
theorem JB.pdev (h : JB wb w S T B d l r gl gr gd lg D M D' M') (hd : DD w' S' d E a b) (hs : Step S S' w w') (hi : LInv E M) : JB wb w' S' T B d l r gl gr gd lg E M D' M' := by
  have hr := h.rd.lt
  have hb := h.rl.lt
  refine ⟨h.le.dstep hd hs hi, h.rd.fr hs.fr (fun k hk e => (h.ap k (.inl e)).1 hk), h.rl.fr hs.fr (fun k hk e => (h.ap k (.inl e)).2 hk), h.rn, h.ln, fun k hk => ?_, h.br⟩
  rcases hk with hk | hk
  · rcases hs.grow k hk with h1 | h1
    · exact h.ap k (.inl h1)
    · exact ⟨fun e => by have := hr k e; omega, fun e => by have := hb k e; omega⟩
  · exact h.ap k (.inr hk)
/-- The document's device alone has moved. -/
theorem JB.rdev (h : JB wb w S T B d l r gl gr gd lg D M D' M') (hd : RD w' r gl gr gd E) (hf : Fr (Rb r gl gr gd) w w') : JB wb w' S T B d l r gl gr gd lg D M E M' :=
  ⟨h.le.put hf (fun k hk e => (h.ap k (.inl hk)).1 e) (fun k hk e => (h.ap k (.inr hk)).1 e) (fun k e => h.rn k e), hd, h.rl.fr hf (fun k hk e => h.br k hk e), h.rn, h.ln, h.ap, h.br⟩
end
/-- What stands there behind an op: both logs, or both devices, whose logs are to be opened again. -/
def Sw8 (wb wx : World) (d r gl gr gd l lg q s N : Nat) (ep : Int) (v3 v18 : Value) : Prop :=
  (v3 = .int .i64 ep ∧ v18 = .bool false ∧ ∃ (S T B : Nat → Prop) (D : Dv) (M : Lg), JB wb wx S T B d l r gl gr gd lg D M D M ∧ M.q = q ∧ M.n = s ∧ M.ep = ep ∧ D.n = N) ∨
  (∃ ep' : Int, numOk ep' = true ∧ v3 = .int .i64 ep' ∧ v18 = .bool true ∧ ∃ (S : Nat → Prop) (D : Dv), JK wb wx S d r gl gr gd D D ∧ D.n = N)
/-- Both logs, of an epoch. -/
def Lg8 (wb wx : World) (d r gl gr gd q s N : Nat) (ep : Int) (v13 v15 : Value) : Prop :=
  ∃ (l lg : Nat) (S T B : Nat → Prop) (D : Dv) (M : Lg), v13 = .pointer (some ⟨l, 0, none⟩) ∧ v15 = .pointer (some ⟨lg, 0, none⟩) ∧ JB wb wx S T B d l r gl gr gd lg D M D M ∧ M.q = q ∧ M.n = s ∧ M.ep = ep ∧ D.n = N
end Go.Proofs.Ytdmllfjeofiddaa
