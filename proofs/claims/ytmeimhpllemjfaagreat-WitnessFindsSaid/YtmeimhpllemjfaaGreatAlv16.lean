/- The document's example of a good history, and of one that isn't: purely. -/
import Derived.Test.YtmeimhpllemjfaaGreatRsg16
import Derived.Test.YtmeimhpllemjfaaGreatMyp12
import Derived.Test.YtmeimhpllemjfaaGreatDoc16
import Derived.Test.YtmeimhpllemjfaaGreatWls12
import Derived.Test.YtmeimhpllemjfaaGreatMyp14
import Derived.Test.YtmeimhpllemjfaaGreatMyu14
import Derived.Test.YtmeimhpllemjfaaGreatHand
import Derived.Deep.CutRange
namespace Go.Proofs.YtmeimhpllemjfaaGreat
open Go.RowKit

def exP16 : PCt := ⟨[⟨⟨#[97]⟩, 0, [([exI], []), ([exI], [])], [([], []), ([], [])], false⟩], fun _ => 0⟩
end Go.Proofs.YtmeimhpllemjfaaGreat
/- The document's example of a good history, and of one that isn't. -/
namespace Go.Proofs.YtmeimhpllemjfaaGreat
open Go.RowKit

def sA16 (H : Nat) : Array Value := #[.slice (some ⟨H, 0, none⟩) 1 1, .slice none 0 0, .slice (some ⟨H, 0, none⟩) 1 1, .slice none 0 0]
def zA16 : Array Value := #[.slice none 0 0, .slice none 0 0, .slice none 0 0, .slice none 0 0]
def cA16 (A1 A2 : Nat) : Array Value := #[.string ⟨#[97]⟩, .int .i64 0, .slice (some ⟨A1, 0, none⟩) 2 2, .slice (some ⟨A2, 0, none⟩) 2 2, .bool false]
def exC16 (H A1 A2 : Nat) : Cls := ⟨⟨#[97]⟩, 0, some ⟨A1, 0, none⟩, [exS H, exS H], 2, some ⟨A2, 0, none⟩, [exZ, exZ], 2, false⟩
def exX16 (H C A1 A2 : Nat) : Ctl := ⟨some ⟨C, 0, none⟩, [exC16 H A1 A2], 1, fun _ => 0⟩
theorem exX16_big (H C A1 A2 : Nat) : (exX16 H C A1 A2).Big := by
 refine ⟨show (1 : Nat) ≤ 1048576 by decide, fun c hc => ?_⟩
 have : c = exC16 H A1 A2 := by simpa [exX16] using hc
 rw [this]
 exact (few_of_ok12 (c := exC16 H A1 A2) (by kernel_rfl)).1
structure Ex16 (V : World) (H C A1 A2 X : Nat) : Prop where
 i : Bk V H 42 iA
 s : Bk V A1 46 (sA16 H)
 z : Bk V A2 46 zA16
 c : Bk V C 49 (cA16 A1 A2)
 x : Bk V X 26 (brA (.slice (some ⟨C, 0, none⟩) 1 1) fun _ => 0)
theorem Ex16.since {V W : World} {H C A1 A2 X : Nat} (h : Ex16 V H C A1 A2 X) (hf : Fr No V W) : Ex16 W H C A1 A2 X := ⟨h.i.fr hf (fun e => e), h.s.fr hf (fun e => e), h.z.fr hf (fun e => e), h.c.fr hf (fun e => e), h.x.fr hf (fun e => e)⟩
theorem Ex16.ok {V : World} {H C A1 A2 X : Nat} (h : Ex16 V H C A1 A2 X) : Clss V (some ⟨C, 0, none⟩) [exC16 H A1 A2] := by
 have hnil : ∀ B : Nat, Sl V B none ([] : List Value) := fun B h => absurd rfl h
 refine ⟨sl_bk12 h.c rfl, fun c hc => ?_⟩
 rw [List.mem_singleton.1 hc]
 refine ⟨⟨sl_bk12 h.s rfl, fun s hs => ?_⟩, ⟨sl_bk12 h.z rfl, fun s hs => ?_⟩⟩
 ·have : s = exS H := by simpa [exC16] using hs
  subst this
  exact ⟨sl_bk12 h.i rfl, hnil _⟩
 ·have : s = exZ := by simpa [exC16] using hs
  subst this
  exact ⟨hnil _, hnil _⟩
def zB16 : Array Value := brA (.slice none 0 0) fun _ => 0
end Go.Proofs.YtmeimhpllemjfaaGreat
