/- What package prog reads as a template, an instruction and a program. -/
import Derived.Test.YtmeimhpllemjfaaGreatRrd9
namespace Go.Proofs.YtmeimhpllemjfaaGreat
open Go.RowKit

section
variable {G : Nat → Prop}
end
end Go.Proofs.YtmeimhpllemjfaaGreat
/- What the document's own reader reads as a program. -/
namespace Go.Proofs.YtmeimhpllemjfaaGreat
open Go.RowKit

end Go.Proofs.YtmeimhpllemjfaaGreat
/- Footprints, purely: which may be; their words; what is read as one. -/
namespace Go.Proofs.YtmeimhpllemjfaaGreat
open Go.RowKit

structure Fsp where
 la : Int
 lb : Int
 ha : Int
 hb : Int
 wr : Bool
def Fsp.cells (f : Fsp) : List Value := [.int .i64 f.la, .int .i64 f.lb, .int .i64 f.ha, .int .i64 f.hb, .bool f.wr]
theorem Fsp.cells_len (f : Fsp) : f.cells.length = 5 := rfl
def Fsp.agg (f : Fsp) : Value := .agg #[.int .i64 f.la, .int .i64 f.lb, .int .i64 f.ha, .int .i64 f.hb, .bool f.wr]
structure Fsp.I (f : Fsp) : Prop where
 la : I64 f.la
 lb : I64 f.lb
 ha : I64 f.ha
 hb : I64 f.hb
theorem Sl.fsp {w : World} {B : Nat} {A : Option Addr} {l : List Fsp} (h : Sl w B A (l.flatMap Fsp.cells)) {k : Nat} (hk : k < l.length) :
  ∃ ad, A = some ad ∧ ad.block < B ∧ w.cell? (ad.add (k * 5)) = some (.int .i64 l[k].la) ∧ w.cell? ⟨(ad.add (k * 5)).block, (ad.add (k * 5)).off + 1, none⟩ = some (.int .i64 l[k].lb) ∧
   w.cell? ⟨(ad.add (k * 5)).block, (ad.add (k * 5)).off + 2, none⟩ = some (.int .i64 l[k].ha) ∧ w.cell? ⟨(ad.add (k * 5)).block, (ad.add (k * 5)).off + 3, none⟩ = some (.int .i64 l[k].hb) ∧
   w.cell? ⟨(ad.add (k * 5)).block, (ad.add (k * 5)).off + 4, none⟩ = some (.bool l[k].wr) := by
 obtain ⟨ad, e, hb, hc⟩ := h.row 5 Fsp.cells_len hk (by omega)
 exact ⟨ad, e, hb, hc 0 _ rfl, hc 1 _ rfl, hc 2 _ rfl, hc 3 _ rfl, hc 4 _ rfl⟩
def fspOk (f : Fsp) (n : Int) : Bool := keyOk f.la f.lb n && keyOk f.ha f.hb n
def footOk (l : List Fsp) (n : Int) : Bool := decide (0 ≤ n ∧ n ≤ 3) && (decide (l.length ≤ 4) && l.all fun f => fspOk f n)
def footRight (l : List Fsp) (gs : List Int) : Bool := argsOk gs && footOk l gs.length
end Go.Proofs.YtmeimhpllemjfaaGreat
/- What the document's own reader reads as a flag. -/
namespace Go.Proofs.YtmeimhpllemjfaaGreat
open Go.RowKit

end Go.Proofs.YtmeimhpllemjfaaGreat
/- What the document's own reader reads as a footprint. -/
namespace Go.Proofs.YtmeimhpllemjfaaGreat
open Go.RowKit

end Go.Proofs.YtmeimhpllemjfaaGreat
