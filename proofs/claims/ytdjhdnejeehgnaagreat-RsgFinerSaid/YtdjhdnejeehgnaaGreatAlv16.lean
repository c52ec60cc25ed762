/- The document's example of a good history, and of one that isn't: purely. -/
import Derived.Test.YtdjhdnejeehgnaaGreatRsg16
import Derived.Test.YtdjhdnejeehgnaaGreatMyp12
import Derived.Test.YtdjhdnejeehgnaaGreatDoc16
import Derived.Test.YtdjhdnejeehgnaaGreatWls12
import Derived.Test.YtdjhdnejeehgnaaGreatMyp14
import Derived.Test.YtdjhdnejeehgnaaGreatMyu14
import Derived.Test.YtdjhdnejeehgnaaGreatHand
import Derived.Deep.CutRange
namespace Go.Proofs.YtdjhdnejeehgnaaGreat
open Go.RowKit

def exP16 : PCt := ⟨[⟨⟨#[97]⟩, 0, [([exI], []), ([exI], [])], [([], []), ([], [])], false⟩], fun _ => 0⟩
def exH16 : List Nd := [⟨1, 0, 0, false, [], [(5, 5)]⟩, ⟨2, 0, 0, false, [], [(5, 5)]⟩, ⟨2, 0, 1, false, [], [(6, 6)]⟩, ⟨1, 0, 1, false, [], [(6, 6)]⟩]
theorem ex16_good : goodH exP16 (exH16.take 3) = true := by kernel_rfl
theorem ex16_bad : goodH exP16 exH16 = false := by kernel_rfl
end Go.Proofs.YtdjhdnejeehgnaaGreat
/- The document's example of a good history, and of one that isn't. -/
namespace Go.Proofs.YtdjhdnejeehgnaaGreat
open Go.RowKit

def sA16 (H : Nat) : Array Value := #[.slice (some ⟨H, 0, none⟩) 1 1, .slice none 0 0, .slice (some ⟨H, 0, none⟩) 1 1, .slice none 0 0]
def zA16 : Array Value := #[.slice none 0 0, .slice none 0 0, .slice none 0 0, .slice none 0 0]
def cA16 (A1 A2 : Nat) : Array Value := #[.string ⟨#[97]⟩, .int .i64 0, .slice (some ⟨A1, 0, none⟩) 2 2, .slice (some ⟨A2, 0, none⟩) 2 2, .bool false]
def exC16 (H A1 A2 : Nat) : Cls := ⟨⟨#[97]⟩, 0, some ⟨A1, 0, none⟩, [exS H, exS H], 2, some ⟨A2, 0, none⟩, [exZ, exZ], 2, false⟩
def exX16 (H C A1 A2 : Nat) : Ctl := ⟨some ⟨C, 0, none⟩, [exC16 H A1 A2], 1, fun _ => 0⟩
theorem exX16_p (H C A1 A2 : Nat) : (exX16 H C A1 A2).p = exP16 := rfl
theorem exX16_big (H C A1 A2 : Nat) : (exX16 H C A1 A2).Big := by
 refine ⟨show (1 : Nat) ≤ 1048576 by decide, fun c hc => ?_⟩
 have : c = exC16 H A1 A2 := by simpa [exX16] using hc
 rw [this]
 exact (few_of_ok12 (c := exC16 H A1 A2) (by kernel_rfl)).1
structure Ex16 (V : World) (H C A1 A2 X : Nat) : Prop where
 i : Bk V H 51 iA
 s : Bk V A1 55 (sA16 H)
 z : Bk V A2 55 zA16
 c : Bk V C 46 (cA16 A1 A2)
 x : Bk V X 26 (brA (.slice (some ⟨C, 0, none⟩) 1 1) fun _ => 0)
theorem Ex16.since {V W : World} {H C A1 A2 X : Nat} (h : Ex16 V H C A1 A2 X) (hf : Fr No V W) : Ex16 W H C A1 A2 X := ⟨h.i.fr hf (fun e => e), h.s.fr hf (fun e => e), h.z.fr hf (fun e => e), h.c.fr hf (fun e => e), h.x.fr hf (fun e => e)⟩
theorem Ex16.ok {V : World} {H C A1 A2 X : Nat} (h : Ex16 V H C A1 A2 X) : Clss V (some ⟨C, 0, none⟩) [exC16 H A1 A2] := by
 have hnil : ∀ B : Nat, Sl V B none ([] : List Value) := fun B h => absurd rfl h
 refine ⟨sl_bk12 h.c rfl, fun c hc => ?_⟩
 rw [List.mem_singleton.1 hc]
 refine ⟨⟨sl_bk12 h.s rfl, fun s hs => ?_⟩, ⟨sl_bk12 h.z rfl, fun s hs => ?_⟩⟩
 ·have : s = exS H := by simpa [exC16] using hs
  subst this
  exact ⟨sl_bk12 h.i rfl, hnil _⟩
 ·have : s = exZ := by simpa [exC16] using hs
  subst this
  exact ⟨hnil _, hnil _⟩
def zB16 : Array Value := brA (.slice none 0 0) fun _ => 0
def hist16 (H : Nat) : List Ndl := [⟨⟨1, 0, 0, false, [], [(5, 5)]⟩, none, 0, some ⟨H, 0, none⟩, 1⟩, ⟨⟨2, 0, 0, false, [], [(5, 5)]⟩, none, 0, some ⟨H, 0, none⟩, 1⟩, ⟨⟨2, 0, 1, false, [], [(6, 6)]⟩, none, 0, some ⟨H + 1, 0, none⟩, 1⟩, ⟨⟨1, 0, 1, false, [], [(6, 6)]⟩, none, 0, some ⟨H + 1, 0, none⟩, 1⟩]
theorem ndsOf_hist16 (H : Nat) : ndsOf (hist16 H) = exH16 := rfl
def nA16 (H : Nat) : Array Value := #[.int .i64 1, .int .i64 0, .int .i64 0, .bool false, .slice none 0 0, .slice (some ⟨H, 0, none⟩) 1 1, .int .i64 2, .int .i64 0, .int .i64 0, .bool false, .slice none 0 0, .slice (some ⟨H, 0, none⟩) 1 1, .int .i64 2, .int .i64 0, .int .i64 1, .bool false, .slice none 0 0, .slice (some ⟨H + 1, 0, none⟩) 1 1, .int .i64 1, .int .i64 0, .int .i64 1, .bool false, .slice none 0 0, .slice (some ⟨H + 1, 0, none⟩) 1 1]
theorem hist16_few (H : Nat) : Nds.Few (hist16 H) := by
 refine ⟨fun x hx => ?_⟩
 unfold hist16 at hx
 simp only [List.mem_cons, List.not_mem_nil, or_false] at hx
 rcases hx with rfl | rfl | rfl | rfl <;> exact ⟨by simp, by simp⟩
theorem hist16_nds {V : World} {H : Nat} (h5 : Bk V H 57 #[.int .i64 5, .int .i64 5]) (h6 : Bk V (H + 1) 57 #[.int .i64 6, .int .i64 6]) (hn : Bk V (H + 2) 39 (nA16 H)) : Nds V (some ⟨H + 2, 0, none⟩) (hist16 H) ∧ Nds V (some ⟨H + 2, 0, none⟩) ((hist16 H).take 3) := by
 have hnil : Sl V V.heap.size none (sps []) := fun e => absurd rfl e
 have s5 : Sl V V.heap.size (some ⟨H, 0, none⟩) (sps [(5, 5)]) := sl_bk12 h5 rfl
 have s6 : Sl V V.heap.size (some ⟨H + 1, 0, none⟩) (sps [(6, 6)]) := sl_bk12 h6 rfl
 have hall : ∀ x ∈ hist16 H, x.Ok V := by
  intro x hx
  unfold hist16 at hx
  simp only [List.mem_cons, List.not_mem_nil, or_false] at hx
  rcases hx with rfl | rfl | rfl | rfl
  ·exact ⟨hnil, s5⟩
  ·exact ⟨hnil, s5⟩
  ·exact ⟨hnil, s6⟩
  ·exact ⟨hnil, s6⟩
 have hsl : Sl V V.heap.size (some ⟨H + 2, 0, none⟩) ((hist16 H).flatMap Ndl.cells) := sl_bk12 hn rfl
 exact ⟨⟨hsl, hall⟩, ⟨hsl.take 18, fun x hx => hall x (List.mem_of_mem_take hx)⟩⟩
set_option maxRecDepth 100000 in
set_option maxHeartbeats 8000000 in
theorem alive16 (w : World)
  (hgood : ∀ (x : Ctl) (h : List Ndl) (A : Option Addr) (n c : Nat) (w : World), Clss w x.cA x.cls → Nds w A h → h.length = n → n ≤ 24 → n ≤ c → x.Big → Nds.Few h → Calls Tryz.prog 14 #[x.agg, .slice A n c] w (Has w (goodH x.p (ndsOf h)))) :
  Calls Tryz.prog 8 #[] w (Has w true) := by
 obtain ⟨V0, hV0⟩ : ∃ V0, V0 = (w.alloc (.cells #[.int .i64 5, .int .i64 0, .int .i64 0, .int .i64 0, .int .i64 0, .int .i64 0, .int .i64 0, .int .i64 0, .int .i64 0] 51)).alloc (.cells #[.slice (some ⟨w.heap.size, 0, none⟩) 1 1, .slice none 0 0] 55) := ⟨_, rfl⟩
 have G0 : Hid (Fr No w V0) := Lib.hid (by rw [hV0]; exact ((Fr.refl _ _).alloc _).alloc _)
 have bI : Hid (Bk V0 w.heap.size 51 iA) := Lib.hid (by rw [hV0]; exact bka12 (Bk.made _ _ _) _)
 have bS : Bk V0 (w.heap.size + 1) 55 #[.slice (some ⟨w.heap.size, 0, none⟩) 1 1, .slice none 0 0] := by rw [hV0]; exact bkm12 (by simp)
 have n0 : Hid (V0.heap.size = w.heap.size + 2) := Lib.hid (by rw [hV0]; simp)
 have HS : Hid (∀ V, Fr (fun i => V0.heap.size ≤ i) V0 V → V.cell? ⟨w.heap.size + 1, 0, none⟩ = some (.slice (some ⟨w.heap.size, 0, none⟩) 1 1) ∧ V.cell? ⟨w.heap.size + 1, 1, none⟩ = some (.slice none 0 0)) := Lib.hid (fun V h => by
  have b := bS.fr h (fun e => by have := n0.out; omega)
  exact ⟨b.cell 0, b.cell 1⟩)
 have HGd := Lib.hid hgood
 clear bS hgood
 go_enter Tryz.func8, Tryz.ntmps8
 go_wp2_with fail
 rw [← hV0]
 clear hV0
 go_cut [2] from 9 to 16 (fun s2 wx => ∃ X C A1 A2 : Nat, s2 = .pointer (some ⟨X, 0, none⟩) ∧ w.heap.size ≤ X ∧ Hid (Fr No w wx) ∧ Hid (Ex16 wx w.heap.size C A1 A2 X))
 case first =>
  refine wp_region_held_drew (S := fun V => V.cell? ⟨w.heap.size + 1, 0, none⟩ = some (.slice (some ⟨w.heap.size, 0, none⟩) 1 1) ∧ V.cell? ⟨w.heap.size + 1, 1, none⟩ = some (.slice none 0 0)) (by kernel_rfl) (HS.out _ ((Fr.refl _ V0).drew)) (fun hHeld => ?_)
  refine any_tk 9 (.agg #[.slice (some ⟨w.heap.size, 0, none⟩) 1 1, .slice none 0 0]) (i := 0) rfl rfl (by kernel_rfl) (fun _ _ _ h => h) (by rfl) (by intro w hSw; (try dsimp only at hSw); go_simp; try with_reducible rfl) (by assumption) ?_
  simp only [Act.put, szA, szB, szC]
  refine any_tk 10 (.agg #[.slice (some ⟨w.heap.size, 0, none⟩) 1 1, .slice none 0 0]) (i := 1) rfl rfl (by kernel_rfl) (fun _ _ _ h => h) (by rfl) (by intro w hSw; (try dsimp only at hSw); go_simp; try with_reducible rfl) (by assumption) ?_
  simp only [Act.put, szA, szB, szC]
  have D0 : Hid (Fr No V0 V0.drew) := Lib.hid ((Fr.refl No V0).drew)
  have m0 : Hid (V0.drew.heap.size = V0.heap.size) := Lib.hid rfl
  refine wpAnyH_ready (rs := [2, 3, 7]) (by kernel_rfl) (by simp) ?_
  refine AllReadyH.cons rfl (fun K' hK => ?_) (AllReadyH.cons rfl (fun K' hK => ?_) (AllReadyH.cons rfl (fun K' hK => ?_) AllReadyH.nil))
  ·refine oneH_val (v := (.slice (some ⟨V0.drew.heap.size, 0, none⟩) 2 2)) (w' := V0.drew.alloc (.cells (sA16 w.heap.size) 55)) 11 rfl (by rfl) (by kernel_rfl) ?_
   simp only [Act.put, szA, szB, szC]
   obtain ⟨v1, e1⟩ : ∃ V, Hid (V = V0.drew.alloc (.cells (sA16 w.heap.size) 55)) := ⟨_, Lib.hid rfl⟩
   rw [← e1.out]
   have g1 : Hid (Fr No V0.drew v1) := Lib.hid (by rw [e1.out]; exact (Fr.refl _ _).alloc _)
   have q1 : Hid (Bk v1 V0.drew.heap.size 55 (sA16 w.heap.size)) := Lib.hid (by rw [e1.out]; exact Bk.made _ _ _)
   have n1 : Hid (v1.heap.size = V0.drew.heap.size + 1) := Lib.hid (by rw [e1.out]; simp)
   have D1 : Hid (Fr No V0 v1) := Lib.hid (D0.out.trans' g1.out (fun _ _ e => e))
   refine hK.out _ _ (HS.out _ (D1.out.weak (fun _ _ e => e.elim))) (fun hHeld => ?_)
   clear hK e1
   refine wpAnyH_ready (rs := [3, 7]) (by kernel_rfl) (by simp) ?_
   refine AllReadyH.cons rfl (fun K' hK => ?_) (AllReadyH.cons rfl (fun K' hK => ?_) AllReadyH.nil)
   ·refine oneH_val (v := (.slice (some ⟨v1.heap.size, 0, none⟩) 2 2)) (w' := v1.alloc (.cells zA16 55)) 12 rfl (by rfl) (by kernel_rfl) ?_
    simp only [Act.put, szA, szB, szC]
    obtain ⟨v2, e2⟩ : ∃ V, Hid (V = v1.alloc (.cells zA16 55)) := ⟨_, Lib.hid rfl⟩
    rw [← e2.out]
    have g2 : Hid (Fr No v1 v2) := Lib.hid (by rw [e2.out]; exact (Fr.refl _ _).alloc _)
    have q2 : Hid (Bk v2 v1.heap.size 55 zA16) := Lib.hid (by rw [e2.out]; exact Bk.made _ _ _)
    have n2 : Hid (v2.heap.size = v1.heap.size + 1) := Lib.hid (by rw [e2.out]; simp)
    have D2 : Hid (Fr No V0 v2) := Lib.hid (D1.out.trans' g2.out (fun _ _ e => e))
    refine hK.out _ _ (HS.out _ (D2.out.weak (fun _ _ e => e.elim))) (fun hHeld => ?_)
    clear hK e2
    refine any_tk 13 (.agg #[.string ⟨#[97]⟩, .int .i64 0, .slice (some ⟨V0.drew.heap.size, 0, none⟩) 2 2, .slice (some ⟨v1.heap.size, 0, none⟩) 2 2, .bool false]) (i := 4) rfl rfl (by kernel_rfl) (fun _ _ _ h => h) (by rfl) (by intro w hSw; kernel_rfl) (by assumption) ?_
    simp only [Act.put, szA, szB, szC]
    refine wpAnyH_ready (rs := [5, 7]) (by kernel_rfl) (by simp) ?_
    refine AllReadyH.cons rfl (fun K' hK => ?_) (AllReadyH.cons rfl (fun K' hK => ?_) AllReadyH.nil)
    ·refine oneH_val (v := (.slice (some ⟨v2.heap.size, 0, none⟩) 1 1)) (w' := v2.alloc (.cells (cA16 (V0.drew.heap.size) (v1.heap.size)) 46)) 14 rfl (by rfl) (by kernel_rfl) ?_
     simp only [Act.put, szA, szB, szC]
     obtain ⟨v3, e3⟩ : ∃ V, Hid (V = v2.alloc (.cells (cA16 (V0.drew.heap.size) (v1.heap.size)) 46)) := ⟨_, Lib.hid rfl⟩
     rw [← e3.out]
     have g3 : Hid (Fr No v2 v3) := Lib.hid (by rw [e3.out]; exact (Fr.refl _ _).alloc _)
     have q3 : Hid (Bk v3 v2.heap.size 46 (cA16 (V0.drew.heap.size) (v1.heap.size))) := Lib.hid (by rw [e3.out]; exact Bk.made _ _ _)
     have n3 : Hid (v3.heap.size = v2.heap.size + 1) := Lib.hid (by rw [e3.out]; simp)
     have D3 : Hid (Fr No V0 v3) := Lib.hid (D2.out.trans' g3.out (fun _ _ e => e))
     refine hK.out _ _ (HS.out _ (D3.out.weak (fun _ _ e => e.elim))) (fun hHeld => ?_)
     clear hK e3
     refine any_tk 15 (.agg (brA (.slice (some ⟨v2.heap.size, 0, none⟩) 1 1) fun _ => 0)) (i := 6) rfl rfl (by kernel_rfl) (fun _ _ _ h => h) (by rfl) (by intro w hSw; kernel_rfl) (by assumption) ?_
     simp only [Act.put, szA, szB, szC]
     refine wpAnyH_ready (rs := [7]) (by kernel_rfl) (by simp) ?_
     refine AllReadyH.cons rfl (fun K' hK => ?_) AllReadyH.nil
     refine oneH_val (v := (.pointer (some ⟨v3.heap.size, 0, none⟩))) (w' := v3.alloc (.cells zB16 26)) 2 rfl (by rfl) (by kernel_rfl) ?_
     simp only [Act.put, szA, szB, szC]
     obtain ⟨v4, e4⟩ : ∃ V, Hid (V = v3.alloc (.cells zB16 26)) := ⟨_, Lib.hid rfl⟩
     rw [← e4.out]
     have g4 : Hid (Fr No v3 v4) := Lib.hid (by rw [e4.out]; exact (Fr.refl _ _).alloc _)
     have q4 : Hid (Bk v4 v3.heap.size 26 zB16) := Lib.hid (by rw [e4.out]; exact Bk.made _ _ _)
     have n4 : Hid (v4.heap.size = v3.heap.size + 1) := Lib.hid (by rw [e4.out]; simp)
     have D4 : Hid (Fr No V0 v4) := Lib.hid (D3.out.trans' g4.out (fun _ _ e => e))
     refine hK.out _ _ (HS.out _ (D4.out.weak (fun _ _ e => e.elim))) (fun hHeld => ?_)
     clear hK e4
     have b4 := q4.out.fr (Fr.refl No v4) (fun e => e)
     have hsz : Hid (v1.heap.size = w.heap.size + 3 ∧ v2.heap.size = w.heap.size + 4 ∧ v3.heap.size = w.heap.size + 5 ∧ V0.drew.heap.size = w.heap.size + 2) := Lib.hid (by have := n0.out; have := m0.out; have := n1.out; have := n2.out; have := n3.out; omega)
     have st9 := st_cat (v' := .slice (some ⟨v2.heap.size, 0, none⟩) 1 1) (b' := fun _ => 0) rfl rfl rfl b4
     have x1 : Fr (Only (v3.heap.size)) v4 (v4.setRow (v3.heap.size) (brA (.slice (some ⟨v2.heap.size, 0, none⟩) 1 1) fun _ => 0)) := fr_row12 (Fr.refl (Only (v3.heap.size)) v4) (.inl rfl) _
     have HFin : Hid (Fr No w (v4.setRow (v3.heap.size) (brA (.slice (some ⟨v2.heap.size, 0, none⟩) 1 1) fun _ => 0))) := Lib.hid ((G0.out.trans' D4.out (fun _ _ e => e)).trans' x1 (fun i hi e => by have e : i = v3.heap.size := e; have := hsz.out; omega))
     have HEx : Hid (Ex16 (v4.setRow (v3.heap.size) (brA (.slice (some ⟨v2.heap.size, 0, none⟩) 1 1) fun _ => 0)) w.heap.size (v2.heap.size) (V0.drew.heap.size) (v1.heap.size) (v3.heap.size)) := Lib.hid ⟨(bI.out.fr D4.out (fun e => e)).fr x1 (fun e => by have e : w.heap.size = v3.heap.size := e; have := hsz.out; omega), (q1.out.fr ((((Fr.refl No v1).trans' g2.out (fun _ _ e => e)).trans' g3.out (fun _ _ e => e)).trans' g4.out (fun _ _ e => e)) (fun e => e)).fr x1 (fun e => by have e : V0.drew.heap.size = v3.heap.size := e; have := hsz.out; omega), (q2.out.fr (((Fr.refl No v2).trans' g3.out (fun _ _ e => e)).trans' g4.out (fun _ _ e => e)) (fun e => e)).fr x1 (fun e => by have e : v1.heap.size = v3.heap.size := e; have := hsz.out; omega), (q3.out.fr ((Fr.refl No v3).trans' g4.out (fun _ _ e => e)) (fun e => e)).fr x1 (fun e => by have e : v2.heap.size = v3.heap.size := e; have := hsz.out; omega), bk_row12 b4 _⟩
     have s9 := HS.out (v4.setRow (v3.heap.size) (brA (.slice (some ⟨v2.heap.size, 0, none⟩) 1 1) fun _ => 0)) ((D4.out.weak (fun _ _ e => e.elim)).trans' x1 (fun i _ e => by have e : i = v3.heap.size := e; have := hsz.out; have := n0.out; omega))
     have hle : w.heap.size ≤ v3.heap.size := by have := hsz.out; omega
     refine any_store12 (i := 8) (by kernel_rfl) rfl rfl (by rfl) (exec_st rfl rfl st9) s9 ?_
     refine wpAnyH_done (by kernel_rfl) ?_ _
     clear hHeld b4 st9 x1 s9
     go_wp2
     go_meet
     exact ⟨v3.heap.size, v2.heap.size, V0.drew.heap.size, v1.heap.size, rfl, hle, HFin, HEx⟩
    ·refine oneH_val (v := (.pointer (some ⟨v2.heap.size, 0, none⟩))) (w' := v2.alloc (.cells zB16 26)) 2 rfl (by rfl) (by kernel_rfl) ?_
     simp only [Act.put, szA, szB, szC]
     obtain ⟨v3, e3⟩ : ∃ V, Hid (V = v2.alloc (.cells zB16 26)) := ⟨_, Lib.hid rfl⟩
     rw [← e3.out]
     have g3 : Hid (Fr No v2 v3) := Lib.hid (by rw [e3.out]; exact (Fr.refl _ _).alloc _)
     have q3 : Hid (Bk v3 v2.heap.size 26 zB16) := Lib.hid (by rw [e3.out]; exact Bk.made _ _ _)
     have n3 : Hid (v3.heap.size = v2.heap.size + 1) := Lib.hid (by rw [e3.out]; simp)
     have D3 : Hid (Fr No V0 v3) := Lib.hid (D2.out.trans' g3.out (fun _ _ e => e))
     refine hK.out _ _ (HS.out _ (D3.out.weak (fun _ _ e => e.elim))) (fun hHeld => ?_)
     clear hK e3
     refine wpAnyH_ready (rs := [5]) (by kernel_rfl) (by simp) ?_
     refine AllReadyH.cons rfl (fun K' hK => ?_) AllReadyH.nil
     refine oneH_val (v := (.slice (some ⟨v3.heap.size, 0, none⟩) 1 1)) (w' := v3.alloc (.cells (cA16 (V0.drew.heap.size) (v1.heap.size)) 46)) 14 rfl (by rfl) (by kernel_rfl) ?_
     simp only [Act.put, szA, szB, szC]
     obtain ⟨v4, e4⟩ : ∃ V, Hid (V = v3.alloc (.cells (cA16 (V0.drew.heap.size) (v1.heap.size)) 46)) := ⟨_, Lib.hid rfl⟩
     rw [← e4.out]
     have g4 : Hid (Fr No v3 v4) := Lib.hid (by rw [e4.out]; exact (Fr.refl _ _).alloc _)
     have q4 : Hid (Bk v4 v3.heap.size 46 (cA16 (V0.drew.heap.size) (v1.heap.size))) := Lib.hid (by rw [e4.out]; exact Bk.made _ _ _)
     have n4 : Hid (v4.heap.size = v3.heap.size + 1) := Lib.hid (by rw [e4.out]; simp)
     have D4 : Hid (Fr No V0 v4) := Lib.hid (D3.out.trans' g4.out (fun _ _ e => e))
     refine hK.out _ _ (HS.out _ (D4.out.weak (fun _ _ e => e.elim))) (fun hHeld => ?_)
     clear hK e4
     refine any_tk 15 (.agg (brA (.slice (some ⟨v3.heap.size, 0, none⟩) 1 1) fun _ => 0)) (i := 6) rfl rfl (by kernel_rfl) (fun _ _ _ h => h) (by rfl) (by intro w hSw; kernel_rfl) (by assumption) ?_
     simp only [Act.put, szA, szB, szC]
     have b4 := q3.out.fr ((Fr.refl No v3).trans' g4.out (fun _ _ e => e)) (fun e => e)
     have hsz : Hid (v1.heap.size = w.heap.size + 3 ∧ v2.heap.size = w.heap.size + 4 ∧ v3.heap.size = w.heap.size + 5 ∧ V0.drew.heap.size = w.heap.size + 2) := Lib.hid (by have := n0.out; have := m0.out; have := n1.out; have := n2.out; have := n3.out; omega)
     have st9 := st_cat (v' := .slice (some ⟨v3.heap.size, 0, none⟩) 1 1) (b' := fun _ => 0) rfl rfl rfl b4
     have x1 : Fr (Only (v2.heap.size)) v4 (v4.setRow (v2.heap.size) (brA (.slice (some ⟨v3.heap.size, 0, none⟩) 1 1) fun _ => 0)) := fr_row12 (Fr.refl (Only (v2.heap.size)) v4) (.inl rfl) _
     have HFin : Hid (Fr No w (v4.setRow (v2.heap.size) (brA (.slice (some ⟨v3.heap.size, 0, none⟩) 1 1) fun _ => 0))) := Lib.hid ((G0.out.trans' D4.out (fun _ _ e => e)).trans' x1 (fun i hi e => by have e : i = v2.heap.size := e; have := hsz.out; omega))
     have HEx : Hid (Ex16 (v4.setRow (v2.heap.size) (brA (.slice (some ⟨v3.heap.size, 0, none⟩) 1 1) fun _ => 0)) w.heap.size (v3.heap.size) (V0.drew.heap.size) (v1.heap.size) (v2.heap.size)) := Lib.hid ⟨(bI.out.fr D4.out (fun e => e)).fr x1 (fun e => by have e : w.heap.size = v2.heap.size := e; have := hsz.out; omega), (q1.out.fr ((((Fr.refl No v1).trans' g2.out (fun _ _ e => e)).trans' g3.out (fun _ _ e => e)).trans' g4.out (fun _ _ e => e)) (fun e => e)).fr x1 (fun e => by have e : V0.drew.heap.size = v2.heap.size := e; have := hsz.out; omega), (q2.out.fr (((Fr.refl No v2).trans' g3.out (fun _ _ e => e)).trans' g4.out (fun _ _ e => e)) (fun e => e)).fr x1 (fun e => by have e : v1.heap.size = v2.heap.size := e; have := hsz.out; omega), (q4.out.fr (Fr.refl No v4) (fun e => e)).fr x1 (fun e => by have e : v3.heap.size = v2.heap.size := e; have := hsz.out; omega), bk_row12 b4 _⟩
     have s9 := HS.out (v4.setRow (v2.heap.size) (brA (.slice (some ⟨v3.heap.size, 0, none⟩) 1 1) fun _ => 0)) ((D4.out.weak (fun _ _ e => e.elim)).trans' x1 (fun i _ e => by have e : i = v2.heap.size := e; have := hsz.out; have := n0.out; omega))
     have hle : w.heap.size ≤ v2.heap.size := by have := hsz.out; omega
     refine any_store12 (i := 8) (by kernel_rfl) rfl rfl (by rfl) (exec_st rfl rfl st9) s9 ?_
     refine wpAnyH_done (by kernel_rfl) ?_ _
     clear hHeld b4 st9 x1 s9
     go_wp2
     go_meet
     exact ⟨v2.heap.size, v3.heap.size, V0.drew.heap.size, v1.heap.size, rfl, hle, HFin, HEx⟩
   ·refine oneH_val (v := (.pointer (some ⟨v1.heap.size, 0, none⟩))) (w' := v1.alloc (.cells zB16 26)) 2 rfl (by rfl) (by kernel_rfl) ?_
    simp only [Act.put, szA, szB, szC]
    obtain ⟨v2, e2⟩ : ∃ V, Hid (V = v1.alloc (.cells zB16 26)) := ⟨_, Lib.hid rfl⟩
    rw [← e2.out]
    have g2 : Hid (Fr No v1 v2) := Lib.hid (by rw [e2.out]; exact (Fr.refl _ _).alloc _)
    have q2 : Hid (Bk v2 v1.heap.size 26 zB16) := Lib.hid (by rw [e2.out]; exact Bk.made _ _ _)
    have n2 : Hid (v2.heap.size = v1.heap.size + 1) := Lib.hid (by rw [e2.out]; simp)
    have D2 : Hid (Fr No V0 v2) := Lib.hid (D1.out.trans' g2.out (fun _ _ e => e))
    refine hK.out _ _ (HS.out _ (D2.out.weak (fun _ _ e => e.elim))) (fun hHeld => ?_)
    clear hK e2
    refine wpAnyH_ready (rs := [3]) (by kernel_rfl) (by simp) ?_
    refine AllReadyH.cons rfl (fun K' hK => ?_) AllReadyH.nil
    refine oneH_val (v := (.slice (some ⟨v2.heap.size, 0, none⟩) 2 2)) (w' := v2.alloc (.cells zA16 55)) 12 rfl (by rfl) (by kernel_rfl) ?_
    simp only [Act.put, szA, szB, szC]
    obtain ⟨v3, e3⟩ : ∃ V, Hid (V = v2.alloc (.cells zA16 55)) := ⟨_, Lib.hid rfl⟩
    rw [← e3.out]
    have g3 : Hid (Fr No v2 v3) := Lib.hid (by rw [e3.out]; exact (Fr.refl _ _).alloc _)
    have q3 : Hid (Bk v3 v2.heap.size 55 zA16) := Lib.hid (by rw [e3.out]; exact Bk.made _ _ _)
    have n3 : Hid (v3.heap.size = v2.heap.size + 1) := Lib.hid (by rw [e3.out]; simp)
    have D3 : Hid (Fr No V0 v3) := Lib.hid (D2.out.trans' g3.out (fun _ _ e => e))
    refine hK.out _ _ (HS.out _ (D3.out.weak (fun _ _ e => e.elim))) (fun hHeld => ?_)
    clear hK e3
    refine any_tk 13 (.agg #[.string ⟨#[97]⟩, .int .i64 0, .slice (some ⟨V0.drew.heap.size, 0, none⟩) 2 2, .slice (some ⟨v2.heap.size, 0, none⟩) 2 2, .bool false]) (i := 4) rfl rfl (by kernel_rfl) (fun _ _ _ h => h) (by rfl) (by intro w hSw; kernel_rfl) (by assumption) ?_
    simp only [Act.put, szA, szB, szC]
    refine wpAnyH_ready (rs := [5]) (by kernel_rfl) (by simp) ?_
    refine AllReadyH.cons rfl (fun K' hK => ?_) AllReadyH.nil
    refine oneH_val (v := (.slice (some ⟨v3.heap.size, 0, none⟩) 1 1)) (w' := v3.alloc (.cells (cA16 (V0.drew.heap.size) (v2.heap.size)) 46)) 14 rfl (by rfl) (by kernel_rfl) ?_
    simp only [Act.put, szA, szB, szC]
    obtain ⟨v4, e4⟩ : ∃ V, Hid (V = v3.alloc (.cells (cA16 (V0.drew.heap.size) (v2.heap.size)) 46)) := ⟨_, Lib.hid rfl⟩
    rw [← e4.out]
    have g4 : Hid (Fr No v3 v4) := Lib.hid (by rw [e4.out]; exact (Fr.refl _ _).alloc _)
    have q4 : Hid (Bk v4 v3.heap.size 46 (cA16 (V0.drew.heap.size) (v2.heap.size))) := Lib.hid (by rw [e4.out]; exact Bk.made _ _ _)
    have n4 : Hid (v4.heap.size = v3.heap.size + 1) := Lib.hid (by rw [e4.out]; simp)
    have D4 : Hid (Fr No V0 v4) := Lib.hid (D3.out.trans' g4.out (fun _ _ e => e))
    refine hK.out _ _ (HS.out _ (D4.out.weak (fun _ _ e => e.elim))) (fun hHeld => ?_)
    clear hK e4
    refine any_tk 15 (.agg (brA (.slice (some ⟨v3.heap.size, 0, none⟩) 1 1) fun _ => 0)) (i := 6) rfl rfl (by kernel_rfl) (fun _ _ _ h => h) (by rfl) (by intro w hSw; kernel_rfl) (by assumption) ?_
    simp only [Act.put, szA, szB, szC]
    have b4 := q2.out.fr (((Fr.refl No v2).trans' g3.out (fun _ _ e => e)).trans' g4.out (fun _ _ e => e)) (fun e => e)
    have hsz : Hid (v1.heap.size = w.heap.size + 3 ∧ v2.heap.size = w.heap.size + 4 ∧ v3.heap.size = w.heap.size + 5 ∧ V0.drew.heap.size = w.heap.size + 2) := Lib.hid (by have := n0.out; have := m0.out; have := n1.out; have := n2.out; have := n3.out; omega)
    have st9 := st_cat (v' := .slice (some ⟨v3.heap.size, 0, none⟩) 1 1) (b' := fun _ => 0) rfl rfl rfl b4
    have x1 : Fr (Only (v1.heap.size)) v4 (v4.setRow (v1.heap.size) (brA (.slice (some ⟨v3.heap.size, 0, none⟩) 1 1) fun _ => 0)) := fr_row12 (Fr.refl (Only (v1.heap.size)) v4) (.inl rfl) _
    have HFin : Hid (Fr No w (v4.setRow (v1.heap.size) (brA (.slice (some ⟨v3.heap.size, 0, none⟩) 1 1) fun _ => 0))) := Lib.hid ((G0.out.trans' D4.out (fun _ _ e => e)).trans' x1 (fun i hi e => by have e : i = v1.heap.size := e; have := hsz.out; omega))
    have HEx : Hid (Ex16 (v4.setRow (v1.heap.size) (brA (.slice (some ⟨v3.heap.size, 0, none⟩) 1 1) fun _ => 0)) w.heap.size (v3.heap.size) (V0.drew.heap.size) (v2.heap.size) (v1.heap.size)) := Lib.hid ⟨(bI.out.fr D4.out (fun e => e)).fr x1 (fun e => by have e : w.heap.size = v1.heap.size := e; have := hsz.out; omega), (q1.out.fr ((((Fr.refl No v1).trans' g2.out (fun _ _ e => e)).trans' g3.out (fun _ _ e => e)).trans' g4.out (fun _ _ e => e)) (fun e => e)).fr x1 (fun e => by have e : V0.drew.heap.size = v1.heap.size := e; have := hsz.out; omega), (q3.out.fr ((Fr.refl No v3).trans' g4.out (fun _ _ e => e)) (fun e => e)).fr x1 (fun e => by have e : v2.heap.size = v1.heap.size := e; have := hsz.out; omega), (q4.out.fr (Fr.refl No v4) (fun e => e)).fr x1 (fun e => by have e : v3.heap.size = v1.heap.size := e; have := hsz.out; omega), bk_row12 b4 _⟩
    have s9 := HS.out (v4.setRow (v1.heap.size) (brA (.slice (some ⟨v3.heap.size, 0, none⟩) 1 1) fun _ => 0)) ((D4.out.weak (fun _ _ e => e.elim)).trans' x1 (fun i _ e => by have e : i = v1.heap.size := e; have := hsz.out; have := n0.out; omega))
    have hle : w.heap.size ≤ v1.heap.size := by have := hsz.out; omega
    refine any_store12 (i := 8) (by kernel_rfl) rfl rfl (by rfl) (exec_st rfl rfl st9) s9 ?_
    refine wpAnyH_done (by kernel_rfl) ?_ _
    clear hHeld b4 st9 x1 s9
    go_wp2
    go_meet
    exact ⟨v1.heap.size, v3.heap.size, V0.drew.heap.size, v2.heap.size, rfl, hle, HFin, HEx⟩
  ·refine oneH_val (v := (.slice (some ⟨V0.drew.heap.size, 0, none⟩) 2 2)) (w' := V0.drew.alloc (.cells zA16 55)) 12 rfl (by rfl) (by kernel_rfl) ?_
   simp only [Act.put, szA, szB, szC]
   obtain ⟨v1, e1⟩ : ∃ V, Hid (V = V0.drew.alloc (.cells zA16 55)) := ⟨_, Lib.hid rfl⟩
   rw [← e1.out]
   have g1 : Hid (Fr No V0.drew v1) := Lib.hid (by rw [e1.out]; exact (Fr.refl _ _).alloc _)
   have q1 : Hid (Bk v1 V0.drew.heap.size 55 zA16) := Lib.hid (by rw [e1.out]; exact Bk.made _ _ _)
   have n1 : Hid (v1.heap.size = V0.drew.heap.size + 1) := Lib.hid (by rw [e1.out]; simp)
   have D1 : Hid (Fr No V0 v1) := Lib.hid (D0.out.trans' g1.out (fun _ _ e => e))
   refine hK.out _ _ (HS.out _ (D1.out.weak (fun _ _ e => e.elim))) (fun hHeld => ?_)
   clear hK e1
   refine wpAnyH_ready (rs := [2, 7]) (by kernel_rfl) (by simp) ?_
   refine AllReadyH.cons rfl (fun K' hK => ?_) (AllReadyH.cons rfl (fun K' hK => ?_) AllReadyH.nil)
   ·refine oneH_val (v := (.slice (some ⟨v1.heap.size, 0, none⟩) 2 2)) (w' := v1.alloc (.cells (sA16 w.heap.size) 55)) 11 rfl (by rfl) (by kernel_rfl) ?_
    simp only [Act.put, szA, szB, szC]
    obtain ⟨v2, e2⟩ : ∃ V, Hid (V = v1.alloc (.cells (sA16 w.heap.size) 55)) := ⟨_, Lib.hid rfl⟩
    rw [← e2.out]
    have g2 : Hid (Fr No v1 v2) := Lib.hid (by rw [e2.out]; exact (Fr.refl _ _).alloc _)
    have q2 : Hid (Bk v2 v1.heap.size 55 (sA16 w.heap.size)) := Lib.hid (by rw [e2.out]; exact Bk.made _ _ _)
    have n2 : Hid (v2.heap.size = v1.heap.size + 1) := Lib.hid (by rw [e2.out]; simp)
    have D2 : Hid (Fr No V0 v2) := Lib.hid (D1.out.trans' g2.out (fun _ _ e => e))
    refine hK.out _ _ (HS.out _ (D2.out.weak (fun _ _ e => e.elim))) (fun hHeld => ?_)
    clear hK e2
    refine any_tk 13 (.agg #[.string ⟨#[97]⟩, .int .i64 0, .slice (some ⟨v1.heap.size, 0, none⟩) 2 2, .slice (some ⟨V0.drew.heap.size, 0, none⟩) 2 2, .bool false]) (i := 4) rfl rfl (by kernel_rfl) (fun _ _ _ h => h) (by rfl) (by intro w hSw; kernel_rfl) (by assumption) ?_
    simp only [Act.put, szA, szB, szC]
    refine wpAnyH_ready (rs := [5, 7]) (by kernel_rfl) (by simp) ?_
    refine AllReadyH.cons rfl (fun K' hK => ?_) (AllReadyH.cons rfl (fun K' hK => ?_) AllReadyH.nil)
    ·refine oneH_val (v := (.slice (some ⟨v2.heap.size, 0, none⟩) 1 1)) (w' := v2.alloc (.cells (cA16 (v1.heap.size) (V0.drew.heap.size)) 46)) 14 rfl (by rfl) (by kernel_rfl) ?_
     simp only [Act.put, szA, szB, szC]
     obtain ⟨v3, e3⟩ : ∃ V, Hid (V = v2.alloc (.cells (cA16 (v1.heap.size) (V0.drew.heap.size)) 46)) := ⟨_, Lib.hid rfl⟩
     rw [← e3.out]
     have g3 : Hid (Fr No v2 v3) := Lib.hid (by rw [e3.out]; exact (Fr.refl _ _).alloc _)
     have q3 : Hid (Bk v3 v2.heap.size 46 (cA16 (v1.heap.size) (V0.drew.heap.size))) := Lib.hid (by rw [e3.out]; exact Bk.made _ _ _)
     have n3 : Hid (v3.heap.size = v2.heap.size + 1) := Lib.hid (by rw [e3.out]; simp)
     have D3 : Hid (Fr No V0 v3) := Lib.hid (D2.out.trans' g3.out (fun _ _ e => e))
     refine hK.out _ _ (HS.out _ (D3.out.weak (fun _ _ e => e.elim))) (fun hHeld => ?_)
     clear hK e3
     refine any_tk 15 (.agg (brA (.slice (some ⟨v2.heap.size, 0, none⟩) 1 1) fun _ => 0)) (i := 6) rfl rfl (by kernel_rfl) (fun _ _ _ h => h) (by rfl) (by intro w hSw; kernel_rfl) (by assumption) ?_
     simp only [Act.put, szA, szB, szC]
     refine wpAnyH_ready (rs := [7]) (by kernel_rfl) (by simp) ?_
     refine AllReadyH.cons rfl (fun K' hK => ?_) AllReadyH.nil
     refine oneH_val (v := (.pointer (some ⟨v3.heap.size, 0, none⟩))) (w' := v3.alloc (.cells zB16 26)) 2 rfl (by rfl) (by kernel_rfl) ?_
     simp only [Act.put, szA, szB, szC]
     obtain ⟨v4, e4⟩ : ∃ V, Hid (V = v3.alloc (.cells zB16 26)) := ⟨_, Lib.hid rfl⟩
     rw [← e4.out]
     have g4 : Hid (Fr No v3 v4) := Lib.hid (by rw [e4.out]; exact (Fr.refl _ _).alloc _)
     have q4 : Hid (Bk v4 v3.heap.size 26 zB16) := Lib.hid (by rw [e4.out]; exact Bk.made _ _ _)
     have n4 : Hid (v4.heap.size = v3.heap.size + 1) := Lib.hid (by rw [e4.out]; simp)
     have D4 : Hid (Fr No V0 v4) := Lib.hid (D3.out.trans' g4.out (fun _ _ e => e))
     refine hK.out _ _ (HS.out _ (D4.out.weak (fun _ _ e => e.elim))) (fun hHeld => ?_)
     clear hK e4
     have b4 := q4.out.fr (Fr.refl No v4) (fun e => e)
     have hsz : Hid (v1.heap.size = w.heap.size + 3 ∧ v2.heap.size = w.heap.size + 4 ∧ v3.heap.size = w.heap.size + 5 ∧ V0.drew.heap.size = w.heap.size + 2) := Lib.hid (by have := n0.out; have := m0.out; have := n1.out; have := n2.out; have := n3.out; omega)
     have st9 := st_cat (v' := .slice (some ⟨v2.heap.size, 0, none⟩) 1 1) (b' := fun _ => 0) rfl rfl rfl b4
     have x1 : Fr (Only (v3.heap.size)) v4 (v4.setRow (v3.heap.size) (brA (.slice (some ⟨v2.heap.size, 0, none⟩) 1 1) fun _ => 0)) := fr_row12 (Fr.refl (Only (v3.heap.size)) v4) (.inl rfl) _
     have HFin : Hid (Fr No w (v4.setRow (v3.heap.size) (brA (.slice (some ⟨v2.heap.size, 0, none⟩) 1 1) fun _ => 0))) := Lib.hid ((G0.out.trans' D4.out (fun _ _ e => e)).trans' x1 (fun i hi e => by have e : i = v3.heap.size := e; have := hsz.out; omega))
     have HEx : Hid (Ex16 (v4.setRow (v3.heap.size) (brA (.slice (some ⟨v2.heap.size, 0, none⟩) 1 1) fun _ => 0)) w.heap.size (v2.heap.size) (v1.heap.size) (V0.drew.heap.size) (v3.heap.size)) := Lib.hid ⟨(bI.out.fr D4.out (fun e => e)).fr x1 (fun e => by have e : w.heap.size = v3.heap.size := e; have := hsz.out; omega), (q2.out.fr (((Fr.refl No v2).trans' g3.out (fun _ _ e => e)).trans' g4.out (fun _ _ e => e)) (fun e => e)).fr x1 (fun e => by have e : v1.heap.size = v3.heap.size := e; have := hsz.out; omega), (q1.out.fr ((((Fr.refl No v1).trans' g2.out (fun _ _ e => e)).trans' g3.out (fun _ _ e => e)).trans' g4.out (fun _ _ e => e)) (fun e => e)).fr x1 (fun e => by have e : V0.drew.heap.size = v3.heap.size := e; have := hsz.out; omega), (q3.out.fr ((Fr.refl No v3).trans' g4.out (fun _ _ e => e)) (fun e => e)).fr x1 (fun e => by have e : v2.heap.size = v3.heap.size := e; have := hsz.out; omega), bk_row12 b4 _⟩
     have s9 := HS.out (v4.setRow (v3.heap.size) (brA (.slice (some ⟨v2.heap.size, 0, none⟩) 1 1) fun _ => 0)) ((D4.out.weak (fun _ _ e => e.elim)).trans' x1 (fun i _ e => by have e : i = v3.heap.size := e; have := hsz.out; have := n0.out; omega))
     have hle : w.heap.size ≤ v3.heap.size := by have := hsz.out; omega
     refine any_store12 (i := 8) (by kernel_rfl) rfl rfl (by rfl) (exec_st rfl rfl st9) s9 ?_
     refine wpAnyH_done (by kernel_rfl) ?_ _
     clear hHeld b4 st9 x1 s9
     go_wp2
     go_meet
     exact ⟨v3.heap.size, v2.heap.size, v1.heap.size, V0.drew.heap.size, rfl, hle, HFin, HEx⟩
    ·refine oneH_val (v := (.pointer (some ⟨v2.heap.size, 0, none⟩))) (w' := v2.alloc (.cells zB16 26)) 2 rfl (by rfl) (by kernel_rfl) ?_
     simp only [Act.put, szA, szB, szC]
     obtain ⟨v3, e3⟩ : ∃ V, Hid (V = v2.alloc (.cells zB16 26)) := ⟨_, Lib.hid rfl⟩
     rw [← e3.out]
     have g3 : Hid (Fr No v2 v3) := Lib.hid (by rw [e3.out]; exact (Fr.refl _ _).alloc _)
     have q3 : Hid (Bk v3 v2.heap.size 26 zB16) := Lib.hid (by rw [e3.out]; exact Bk.made _ _ _)
     have n3 : Hid (v3.heap.size = v2.heap.size + 1) := Lib.hid (by rw [e3.out]; simp)
     have D3 : Hid (Fr No V0 v3) := Lib.hid (D2.out.trans' g3.out (fun _ _ e => e))
     refine hK.out _ _ (HS.out _ (D3.out.weak (fun _ _ e => e.elim))) (fun hHeld => ?_)
     clear hK e3
     refine wpAnyH_ready (rs := [5]) (by kernel_rfl) (by simp) ?_
     refine AllReadyH.cons rfl (fun K' hK => ?_) AllReadyH.nil
     refine oneH_val (v := (.slice (some ⟨v3.heap.size, 0, none⟩) 1 1)) (w' := v3.alloc (.cells (cA16 (v1.heap.size) (V0.drew.heap.size)) 46)) 14 rfl (by rfl) (by kernel_rfl) ?_
     simp only [Act.put, szA, szB, szC]
     obtain ⟨v4, e4⟩ : ∃ V, Hid (V = v3.alloc (.cells (cA16 (v1.heap.size) (V0.drew.heap.size)) 46)) := ⟨_, Lib.hid rfl⟩
     rw [← e4.out]
     have g4 : Hid (Fr No v3 v4) := Lib.hid (by rw [e4.out]; exact (Fr.refl _ _).alloc _)
     have q4 : Hid (Bk v4 v3.heap.size 46 (cA16 (v1.heap.size) (V0.drew.heap.size))) := Lib.hid (by rw [e4.out]; exact Bk.made _ _ _)
     have n4 : Hid (v4.heap.size = v3.heap.size + 1) := Lib.hid (by rw [e4.out]; simp)
     have D4 : Hid (Fr No V0 v4) := Lib.hid (D3.out.trans' g4.out (fun _ _ e => e))
     refine hK.out _ _ (HS.out _ (D4.out.weak (fun _ _ e => e.elim))) (fun hHeld => ?_)
     clear hK e4
     refine any_tk 15 (.agg (brA (.slice (some ⟨v3.heap.size, 0, none⟩) 1 1) fun _ => 0)) (i := 6) rfl rfl (by kernel_rfl) (fun _ _ _ h => h) (by rfl) (by intro w hSw; kernel_rfl) (by assumption) ?_
     simp only [Act.put, szA, szB, szC]
     have b4 := q3.out.fr ((Fr.refl No v3).trans' g4.out (fun _ _ e => e)) (fun e => e)
     have hsz : Hid (v1.heap.size = w.heap.size + 3 ∧ v2.heap.size = w.heap.size + 4 ∧ v3.heap.size = w.heap.size + 5 ∧ V0.drew.heap.size = w.heap.size + 2) := Lib.hid (by have := n0.out; have := m0.out; have := n1.out; have := n2.out; have := n3.out; omega)
     have st9 := st_cat (v' := .slice (some ⟨v3.heap.size, 0, none⟩) 1 1) (b' := fun _ => 0) rfl rfl rfl b4
     have x1 : Fr (Only (v2.heap.size)) v4 (v4.setRow (v2.heap.size) (brA (.slice (some ⟨v3.heap.size, 0, none⟩) 1 1) fun _ => 0)) := fr_row12 (Fr.refl (Only (v2.heap.size)) v4) (.inl rfl) _
     have HFin : Hid (Fr No w (v4.setRow (v2.heap.size) (brA (.slice (some ⟨v3.heap.size, 0, none⟩) 1 1) fun _ => 0))) := Lib.hid ((G0.out.trans' D4.out (fun _ _ e => e)).trans' x1 (fun i hi e => by have e : i = v2.heap.size := e; have := hsz.out; omega))
     have HEx : Hid (Ex16 (v4.setRow (v2.heap.size) (brA (.slice (some ⟨v3.heap.size, 0, none⟩) 1 1) fun _ => 0)) w.heap.size (v3.heap.size) (v1.heap.size) (V0.drew.heap.size) (v2.heap.size)) := Lib.hid ⟨(bI.out.fr D4.out (fun e => e)).fr x1 (fun e => by have e : w.heap.size = v2.heap.size := e; have := hsz.out; omega), (q2.out.fr (((Fr.refl No v2).trans' g3.out (fun _ _ e => e)).trans' g4.out (fun _ _ e => e)) (fun e => e)).fr x1 (fun e => by have e : v1.heap.size = v2.heap.size := e; have := hsz.out; omega), (q1.out.fr ((((Fr.refl No v1).trans' g2.out (fun _ _ e => e)).trans' g3.out (fun _ _ e => e)).trans' g4.out (fun _ _ e => e)) (fun e => e)).fr x1 (fun e => by have e : V0.drew.heap.size = v2.heap.size := e; have := hsz.out; omega), (q4.out.fr (Fr.refl No v4) (fun e => e)).fr x1 (fun e => by have e : v3.heap.size = v2.heap.size := e; have := hsz.out; omega), bk_row12 b4 _⟩
     have s9 := HS.out (v4.setRow (v2.heap.size) (brA (.slice (some ⟨v3.heap.size, 0, none⟩) 1 1) fun _ => 0)) ((D4.out.weak (fun _ _ e => e.elim)).trans' x1 (fun i _ e => by have e : i = v2.heap.size := e; have := hsz.out; have := n0.out; omega))
     have hle : w.heap.size ≤ v2.heap.size := by have := hsz.out; omega
     refine any_store12 (i := 8) (by kernel_rfl) rfl rfl (by rfl) (exec_st rfl rfl st9) s9 ?_
     refine wpAnyH_done (by kernel_rfl) ?_ _
     clear hHeld b4 st9 x1 s9
     go_wp2
     go_meet
     exact ⟨v2.heap.size, v3.heap.size, v1.heap.size, V0.drew.heap.size, rfl, hle, HFin, HEx⟩
   ·refine oneH_val (v := (.pointer (some ⟨v1.heap.size, 0, none⟩))) (w' := v1.alloc (.cells zB16 26)) 2 rfl (by rfl) (by kernel_rfl) ?_
    simp only [Act.put, szA, szB, szC]
    obtain ⟨v2, e2⟩ : ∃ V, Hid (V = v1.alloc (.cells zB16 26)) := ⟨_, Lib.hid rfl⟩
    rw [← e2.out]
    have g2 : Hid (Fr No v1 v2) := Lib.hid (by rw [e2.out]; exact (Fr.refl _ _).alloc _)
    have q2 : Hid (Bk v2 v1.heap.size 26 zB16) := Lib.hid (by rw [e2.out]; exact Bk.made _ _ _)
    have n2 : Hid (v2.heap.size = v1.heap.size + 1) := Lib.hid (by rw [e2.out]; simp)
    have D2 : Hid (Fr No V0 v2) := Lib.hid (D1.out.trans' g2.out (fun _ _ e => e))
    refine hK.out _ _ (HS.out _ (D2.out.weak (fun _ _ e => e.elim))) (fun hHeld => ?_)
    clear hK e2
    refine wpAnyH_ready (rs := [2]) (by kernel_rfl) (by simp) ?_
    refine AllReadyH.cons rfl (fun K' hK => ?_) AllReadyH.nil
    refine oneH_val (v := (.slice (some ⟨v2.heap.size, 0, none⟩) 2 2)) (w' := v2.alloc (.cells (sA16 w.heap.size) 55)) 11 rfl (by rfl) (by kernel_rfl) ?_
    simp only [Act.put, szA, szB, szC]
    obtain ⟨v3, e3⟩ : ∃ V, Hid (V = v2.alloc (.cells (sA16 w.heap.size) 55)) := ⟨_, Lib.hid rfl⟩
    rw [← e3.out]
    have g3 : Hid (Fr No v2 v3) := Lib.hid (by rw [e3.out]; exact (Fr.refl _ _).alloc _)
    have q3 : Hid (Bk v3 v2.heap.size 55 (sA16 w.heap.size)) := Lib.hid (by rw [e3.out]; exact Bk.made _ _ _)
    have n3 : Hid (v3.heap.size = v2.heap.size + 1) := Lib.hid (by rw [e3.out]; simp)
    have D3 : Hid (Fr No V0 v3) := Lib.hid (D2.out.trans' g3.out (fun _ _ e => e))
    refine hK.out _ _ (HS.out _ (D3.out.weak (fun _ _ e => e.elim))) (fun hHeld => ?_)
    clear hK e3
    refine any_tk 13 (.agg #[.string ⟨#[97]⟩, .int .i64 0, .slice (some ⟨v2.heap.size, 0, none⟩) 2 2, .slice (some ⟨V0.drew.heap.size, 0, none⟩) 2 2, .bool false]) (i := 4) rfl rfl (by kernel_rfl) (fun _ _ _ h => h) (by rfl) (by intro w hSw; kernel_rfl) (by assumption) ?_
    simp only [Act.put, szA, szB, szC]
    refine wpAnyH_ready (rs := [5]) (by kernel_rfl) (by simp) ?_
    refine AllReadyH.cons rfl (fun K' hK => ?_) AllReadyH.nil
    refine oneH_val (v := (.slice (some ⟨v3.heap.size, 0, none⟩) 1 1)) (w' := v3.alloc (.cells (cA16 (v2.heap.size) (V0.drew.heap.size)) 46)) 14 rfl (by rfl) (by kernel_rfl) ?_
    simp only [Act.put, szA, szB, szC]
    obtain ⟨v4, e4⟩ : ∃ V, Hid (V = v3.alloc (.cells (cA16 (v2.heap.size) (V0.drew.heap.size)) 46)) := ⟨_, Lib.hid rfl⟩
    rw [← e4.out]
    have g4 : Hid (Fr No v3 v4) := Lib.hid (by rw [e4.out]; exact (Fr.refl _ _).alloc _)
    have q4 : Hid (Bk v4 v3.heap.size 46 (cA16 (v2.heap.size) (V0.drew.heap.size))) := Lib.hid (by rw [e4.out]; exact Bk.made _ _ _)
    have n4 : Hid (v4.heap.size = v3.heap.size + 1) := Lib.hid (by rw [e4.out]; simp)
    have D4 : Hid (Fr No V0 v4) := Lib.hid (D3.out.trans' g4.out (fun _ _ e => e))
    refine hK.out _ _ (HS.out _ (D4.out.weak (fun _ _ e => e.elim))) (fun hHeld => ?_)
    clear hK e4
    refine any_tk 15 (.agg (brA (.slice (some ⟨v3.heap.size, 0, none⟩) 1 1) fun _ => 0)) (i := 6) rfl rfl (by kernel_rfl) (fun _ _ _ h => h) (by rfl) (by intro w hSw; kernel_rfl) (by assumption) ?_
    simp only [Act.put, szA, szB, szC]
    have b4 := q2.out.fr (((Fr.refl No v2).trans' g3.out (fun _ _ e => e)).trans' g4.out (fun _ _ e => e)) (fun e => e)
    have hsz : Hid (v1.heap.size = w.heap.size + 3 ∧ v2.heap.size = w.heap.size + 4 ∧ v3.heap.size = w.heap.size + 5 ∧ V0.drew.heap.size = w.heap.size + 2) := Lib.hid (by have := n0.out; have := m0.out; have := n1.out; have := n2.out; have := n3.out; omega)
    have st9 := st_cat (v' := .slice (some ⟨v3.heap.size, 0, none⟩) 1 1) (b' := fun _ => 0) rfl rfl rfl b4
    have x1 : Fr (Only (v1.heap.size)) v4 (v4.setRow (v1.heap.size) (brA (.slice (some ⟨v3.heap.size, 0, none⟩) 1 1) fun _ => 0)) := fr_row12 (Fr.refl (Only (v1.heap.size)) v4) (.inl rfl) _
    have HFin : Hid (Fr No w (v4.setRow (v1.heap.size) (brA (.slice (some ⟨v3.heap.size, 0, none⟩) 1 1) fun _ => 0))) := Lib.hid ((G0.out.trans' D4.out (fun _ _ e => e)).trans' x1 (fun i hi e => by have e : i = v1.heap.size := e; have := hsz.out; omega))
    have HEx : Hid (Ex16 (v4.setRow (v1.heap.size) (brA (.slice (some ⟨v3.heap.size, 0, none⟩) 1 1) fun _ => 0)) w.heap.size (v3.heap.size) (v2.heap.size) (V0.drew.heap.size) (v1.heap.size)) := Lib.hid ⟨(bI.out.fr D4.out (fun e => e)).fr x1 (fun e => by have e : w.heap.size = v1.heap.size := e; have := hsz.out; omega), (q3.out.fr ((Fr.refl No v3).trans' g4.out (fun _ _ e => e)) (fun e => e)).fr x1 (fun e => by have e : v2.heap.size = v1.heap.size := e; have := hsz.out; omega), (q1.out.fr ((((Fr.refl No v1).trans' g2.out (fun _ _ e => e)).trans' g3.out (fun _ _ e => e)).trans' g4.out (fun _ _ e => e)) (fun e => e)).fr x1 (fun e => by have e : V0.drew.heap.size = v1.heap.size := e; have := hsz.out; omega), (q4.out.fr (Fr.refl No v4) (fun e => e)).fr x1 (fun e => by have e : v3.heap.size = v1.heap.size := e; have := hsz.out; omega), bk_row12 b4 _⟩
    have s9 := HS.out (v4.setRow (v1.heap.size) (brA (.slice (some ⟨v3.heap.size, 0, none⟩) 1 1) fun _ => 0)) ((D4.out.weak (fun _ _ e => e.elim)).trans' x1 (fun i _ e => by have e : i = v1.heap.size := e; have := hsz.out; have := n0.out; omega))
    have hle : w.heap.size ≤ v1.heap.size := by have := hsz.out; omega
    refine any_store12 (i := 8) (by kernel_rfl) rfl rfl (by rfl) (exec_st rfl rfl st9) s9 ?_
    refine wpAnyH_done (by kernel_rfl) ?_ _
    clear hHeld b4 st9 x1 s9
    go_wp2
    go_meet
    exact ⟨v1.heap.size, v3.heap.size, v2.heap.size, V0.drew.heap.size, rfl, hle, HFin, HEx⟩
  ·refine oneH_val (v := (.pointer (some ⟨V0.drew.heap.size, 0, none⟩))) (w' := V0.drew.alloc (.cells zB16 26)) 2 rfl (by rfl) (by kernel_rfl) ?_
   simp only [Act.put, szA, szB, szC]
   obtain ⟨v1, e1⟩ : ∃ V, Hid (V = V0.drew.alloc (.cells zB16 26)) := ⟨_, Lib.hid rfl⟩
   rw [← e1.out]
   have g1 : Hid (Fr No V0.drew v1) := Lib.hid (by rw [e1.out]; exact (Fr.refl _ _).alloc _)
   have q1 : Hid (Bk v1 V0.drew.heap.size 26 zB16) := Lib.hid (by rw [e1.out]; exact Bk.made _ _ _)
   have n1 : Hid (v1.heap.size = V0.drew.heap.size + 1) := Lib.hid (by rw [e1.out]; simp)
   have D1 : Hid (Fr No V0 v1) := Lib.hid (D0.out.trans' g1.out (fun _ _ e => e))
   refine hK.out _ _ (HS.out _ (D1.out.weak (fun _ _ e => e.elim))) (fun hHeld => ?_)
   clear hK e1
   refine wpAnyH_ready (rs := [2, 3]) (by kernel_rfl) (by simp) ?_
   refine AllReadyH.cons rfl (fun K' hK => ?_) (AllReadyH.cons rfl (fun K' hK => ?_) AllReadyH.nil)
   ·refine oneH_val (v := (.slice (some ⟨v1.heap.size, 0, none⟩) 2 2)) (w' := v1.alloc (.cells (sA16 w.heap.size) 55)) 11 rfl (by rfl) (by kernel_rfl) ?_
    simp only [Act.put, szA, szB, szC]
    obtain ⟨v2, e2⟩ : ∃ V, Hid (V = v1.alloc (.cells (sA16 w.heap.size) 55)) := ⟨_, Lib.hid rfl⟩
    rw [← e2.out]
    have g2 : Hid (Fr No v1 v2) := Lib.hid (by rw [e2.out]; exact (Fr.refl _ _).alloc _)
    have q2 : Hid (Bk v2 v1.heap.size 55 (sA16 w.heap.size)) := Lib.hid (by rw [e2.out]; exact Bk.made _ _ _)
    have n2 : Hid (v2.heap.size = v1.heap.size + 1) := Lib.hid (by rw [e2.out]; simp)
    have D2 : Hid (Fr No V0 v2) := Lib.hid (D1.out.trans' g2.out (fun _ _ e => e))
    refine hK.out _ _ (HS.out _ (D2.out.weak (fun _ _ e => e.elim))) (fun hHeld => ?_)
    clear hK e2
    refine wpAnyH_ready (rs := [3]) (by kernel_rfl) (by simp) ?_
    refine AllReadyH.cons rfl (fun K' hK => ?_) AllReadyH.nil
    refine oneH_val (v := (.slice (some ⟨v2.heap.size, 0, none⟩) 2 2)) (w' := v2.alloc (.cells zA16 55)) 12 rfl (by rfl) (by kernel_rfl) ?_
    simp only [Act.put, szA, szB, szC]
    obtain ⟨v3, e3⟩ : ∃ V, Hid (V = v2.alloc (.cells zA16 55)) := ⟨_, Lib.hid rfl⟩
    rw [← e3.out]
    have g3 : Hid (Fr No v2 v3) := Lib.hid (by rw [e3.out]; exact (Fr.refl _ _).alloc _)
    have q3 : Hid (Bk v3 v2.heap.size 55 zA16) := Lib.hid (by rw [e3.out]; exact Bk.made _ _ _)
    have n3 : Hid (v3.heap.size = v2.heap.size + 1) := Lib.hid (by rw [e3.out]; simp)
    have D3 : Hid (Fr No V0 v3) := Lib.hid (D2.out.trans' g3.out (fun _ _ e => e))
    refine hK.out _ _ (HS.out _ (D3.out.weak (fun _ _ e => e.elim))) (fun hHeld => ?_)
    clear hK e3
    refine any_tk 13 (.agg #[.string ⟨#[97]⟩, .int .i64 0, .slice (some ⟨v1.heap.size, 0, none⟩) 2 2, .slice (some ⟨v2.heap.size, 0, none⟩) 2 2, .bool false]) (i := 4) rfl rfl (by kernel_rfl) (fun _ _ _ h => h) (by rfl) (by intro w hSw; kernel_rfl) (by assumption) ?_
    simp only [Act.put, szA, szB, szC]
    refine wpAnyH_ready (rs := [5]) (by kernel_rfl) (by simp) ?_
    refine AllReadyH.cons rfl (fun K' hK => ?_) AllReadyH.nil
    refine oneH_val (v := (.slice (some ⟨v3.heap.size, 0, none⟩) 1 1)) (w' := v3.alloc (.cells (cA16 (v1.heap.size) (v2.heap.size)) 46)) 14 rfl (by rfl) (by kernel_rfl) ?_
    simp only [Act.put, szA, szB, szC]
    obtain ⟨v4, e4⟩ : ∃ V, Hid (V = v3.alloc (.cells (cA16 (v1.heap.size) (v2.heap.size)) 46)) := ⟨_, Lib.hid rfl⟩
    rw [← e4.out]
    have g4 : Hid (Fr No v3 v4) := Lib.hid (by rw [e4.out]; exact (Fr.refl _ _).alloc _)
    have q4 : Hid (Bk v4 v3.heap.size 46 (cA16 (v1.heap.size) (v2.heap.size))) := Lib.hid (by rw [e4.out]; exact Bk.made _ _ _)
    have n4 : Hid (v4.heap.size = v3.heap.size + 1) := Lib.hid (by rw [e4.out]; simp)
    have D4 : Hid (Fr No V0 v4) := Lib.hid (D3.out.trans' g4.out (fun _ _ e => e))
    refine hK.out _ _ (HS.out _ (D4.out.weak (fun _ _ e => e.elim))) (fun hHeld => ?_)
    clear hK e4
    refine any_tk 15 (.agg (brA (.slice (some ⟨v3.heap.size, 0, none⟩) 1 1) fun _ => 0)) (i := 6) rfl rfl (by kernel_rfl) (fun _ _ _ h => h) (by rfl) (by intro w hSw; kernel_rfl) (by assumption) ?_
    simp only [Act.put, szA, szB, szC]
    have b4 := q1.out.fr ((((Fr.refl No v1).trans' g2.out (fun _ _ e => e)).trans' g3.out (fun _ _ e => e)).trans' g4.out (fun _ _ e => e)) (fun e => e)
    have hsz : Hid (v1.heap.size = w.heap.size + 3 ∧ v2.heap.size = w.heap.size + 4 ∧ v3.heap.size = w.heap.size + 5 ∧ V0.drew.heap.size = w.heap.size + 2) := Lib.hid (by have := n0.out; have := m0.out; have := n1.out; have := n2.out; have := n3.out; omega)
    have st9 := st_cat (v' := .slice (some ⟨v3.heap.size, 0, none⟩) 1 1) (b' := fun _ => 0) rfl rfl rfl b4
    have x1 : Fr (Only (V0.drew.heap.size)) v4 (v4.setRow (V0.drew.heap.size) (brA (.slice (some ⟨v3.heap.size, 0, none⟩) 1 1) fun _ => 0)) := fr_row12 (Fr.refl (Only (V0.drew.heap.size)) v4) (.inl rfl) _
    have HFin : Hid (Fr No w (v4.setRow (V0.drew.heap.size) (brA (.slice (some ⟨v3.heap.size, 0, none⟩) 1 1) fun _ => 0))) := Lib.hid ((G0.out.trans' D4.out (fun _ _ e => e)).trans' x1 (fun i hi e => by have e : i = V0.drew.heap.size := e; have := hsz.out; omega))
    have HEx : Hid (Ex16 (v4.setRow (V0.drew.heap.size) (brA (.slice (some ⟨v3.heap.size, 0, none⟩) 1 1) fun _ => 0)) w.heap.size (v3.heap.size) (v1.heap.size) (v2.heap.size) (V0.drew.heap.size)) := Lib.hid ⟨(bI.out.fr D4.out (fun e => e)).fr x1 (fun e => by have e : w.heap.size = V0.drew.heap.size := e; have := hsz.out; omega), (q2.out.fr (((Fr.refl No v2).trans' g3.out (fun _ _ e => e)).trans' g4.out (fun _ _ e => e)) (fun e => e)).fr x1 (fun e => by have e : v1.heap.size = V0.drew.heap.size := e; have := hsz.out; omega), (q3.out.fr ((Fr.refl No v3).trans' g4.out (fun _ _ e => e)) (fun e => e)).fr x1 (fun e => by have e : v2.heap.size = V0.drew.heap.size := e; have := hsz.out; omega), (q4.out.fr (Fr.refl No v4) (fun e => e)).fr x1 (fun e => by have e : v3.heap.size = V0.drew.heap.size := e; have := hsz.out; omega), bk_row12 b4 _⟩
    have s9 := HS.out (v4.setRow (V0.drew.heap.size) (brA (.slice (some ⟨v3.heap.size, 0, none⟩) 1 1) fun _ => 0)) ((D4.out.weak (fun _ _ e => e.elim)).trans' x1 (fun i _ e => by have e : i = V0.drew.heap.size := e; have := hsz.out; have := n0.out; omega))
    have hle : w.heap.size ≤ V0.drew.heap.size := by have := hsz.out; omega
    refine any_store12 (i := 8) (by kernel_rfl) rfl rfl (by rfl) (exec_st rfl rfl st9) s9 ?_
    refine wpAnyH_done (by kernel_rfl) ?_ _
    clear hHeld b4 st9 x1 s9
    go_wp2
    go_meet
    exact ⟨V0.drew.heap.size, v3.heap.size, v1.heap.size, v2.heap.size, rfl, hle, HFin, HEx⟩
   ·refine oneH_val (v := (.slice (some ⟨v1.heap.size, 0, none⟩) 2 2)) (w' := v1.alloc (.cells zA16 55)) 12 rfl (by rfl) (by kernel_rfl) ?_
    simp only [Act.put, szA, szB, szC]
    obtain ⟨v2, e2⟩ : ∃ V, Hid (V = v1.alloc (.cells zA16 55)) := ⟨_, Lib.hid rfl⟩
    rw [← e2.out]
    have g2 : Hid (Fr No v1 v2) := Lib.hid (by rw [e2.out]; exact (Fr.refl _ _).alloc _)
    have q2 : Hid (Bk v2 v1.heap.size 55 zA16) := Lib.hid (by rw [e2.out]; exact Bk.made _ _ _)
    have n2 : Hid (v2.heap.size = v1.heap.size + 1) := Lib.hid (by rw [e2.out]; simp)
    have D2 : Hid (Fr No V0 v2) := Lib.hid (D1.out.trans' g2.out (fun _ _ e => e))
    refine hK.out _ _ (HS.out _ (D2.out.weak (fun _ _ e => e.elim))) (fun hHeld => ?_)
    clear hK e2
    refine wpAnyH_ready (rs := [2]) (by kernel_rfl) (by simp) ?_
    refine AllReadyH.cons rfl (fun K' hK => ?_) AllReadyH.nil
    refine oneH_val (v := (.slice (some ⟨v2.heap.size, 0, none⟩) 2 2)) (w' := v2.alloc (.cells (sA16 w.heap.size) 55)) 11 rfl (by rfl) (by kernel_rfl) ?_
    simp only [Act.put, szA, szB, szC]
    obtain ⟨v3, e3⟩ : ∃ V, Hid (V = v2.alloc (.cells (sA16 w.heap.size) 55)) := ⟨_, Lib.hid rfl⟩
    rw [← e3.out]
    have g3 : Hid (Fr No v2 v3) := Lib.hid (by rw [e3.out]; exact (Fr.refl _ _).alloc _)
    have q3 : Hid (Bk v3 v2.heap.size 55 (sA16 w.heap.size)) := Lib.hid (by rw [e3.out]; exact Bk.made _ _ _)
    have n3 : Hid (v3.heap.size = v2.heap.size + 1) := Lib.hid (by rw [e3.out]; simp)
    have D3 : Hid (Fr No V0 v3) := Lib.hid (D2.out.trans' g3.out (fun _ _ e => e))
    refine hK.out _ _ (HS.out _ (D3.out.weak (fun _ _ e => e.elim))) (fun hHeld => ?_)
    clear hK e3
    refine any_tk 13 (.agg #[.string ⟨#[97]⟩, .int .i64 0, .slice (some ⟨v2.heap.size, 0, none⟩) 2 2, .slice (some ⟨v1.heap.size, 0, none⟩) 2 2, .bool false]) (i := 4) rfl rfl (by kernel_rfl) (fun _ _ _ h => h) (by rfl) (by intro w hSw; kernel_rfl) (by assumption) ?_
    simp only [Act.put, szA, szB, szC]
    refine wpAnyH_ready (rs := [5]) (by kernel_rfl) (by simp) ?_
    refine AllReadyH.cons rfl (fun K' hK => ?_) AllReadyH.nil
    refine oneH_val (v := (.slice (some ⟨v3.heap.size, 0, none⟩) 1 1)) (w' := v3.alloc (.cells (cA16 (v2.heap.size) (v1.heap.size)) 46)) 14 rfl (by rfl) (by kernel_rfl) ?_
    simp only [Act.put, szA, szB, szC]
    obtain ⟨v4, e4⟩ : ∃ V, Hid (V = v3.alloc (.cells (cA16 (v2.heap.size) (v1.heap.size)) 46)) := ⟨_, Lib.hid rfl⟩
    rw [← e4.out]
    have g4 : Hid (Fr No v3 v4) := Lib.hid (by rw [e4.out]; exact (Fr.refl _ _).alloc _)
    have q4 : Hid (Bk v4 v3.heap.size 46 (cA16 (v2.heap.size) (v1.heap.size))) := Lib.hid (by rw [e4.out]; exact Bk.made _ _ _)
    have n4 : Hid (v4.heap.size = v3.heap.size + 1) := Lib.hid (by rw [e4.out]; simp)
    have D4 : Hid (Fr No V0 v4) := Lib.hid (D3.out.trans' g4.out (fun _ _ e => e))
    refine hK.out _ _ (HS.out _ (D4.out.weak (fun _ _ e => e.elim))) (fun hHeld => ?_)
    clear hK e4
    refine any_tk 15 (.agg (brA (.slice (some ⟨v3.heap.size, 0, none⟩) 1 1) fun _ => 0)) (i := 6) rfl rfl (by kernel_rfl) (fun _ _ _ h => h) (by rfl) (by intro w hSw; kernel_rfl) (by assumption) ?_
    simp only [Act.put, szA, szB, szC]
    have b4 := q1.out.fr ((((Fr.refl No v1).trans' g2.out (fun _ _ e => e)).trans' g3.out (fun _ _ e => e)).trans' g4.out (fun _ _ e => e)) (fun e => e)
    have hsz : Hid (v1.heap.size = w.heap.size + 3 ∧ v2.heap.size = w.heap.size + 4 ∧ v3.heap.size = w.heap.size + 5 ∧ V0.drew.heap.size = w.heap.size + 2) := Lib.hid (by have := n0.out; have := m0.out; have := n1.out; have := n2.out; have := n3.out; omega)
    have st9 := st_cat (v' := .slice (some ⟨v3.heap.size, 0, none⟩) 1 1) (b' := fun _ => 0) rfl rfl rfl b4
    have x1 : Fr (Only (V0.drew.heap.size)) v4 (v4.setRow (V0.drew.heap.size) (brA (.slice (some ⟨v3.heap.size, 0, none⟩) 1 1) fun _ => 0)) := fr_row12 (Fr.refl (Only (V0.drew.heap.size)) v4) (.inl rfl) _
    have HFin : Hid (Fr No w (v4.setRow (V0.drew.heap.size) (brA (.slice (some ⟨v3.heap.size, 0, none⟩) 1 1) fun _ => 0))) := Lib.hid ((G0.out.trans' D4.out (fun _ _ e => e)).trans' x1 (fun i hi e => by have e : i = V0.drew.heap.size := e; have := hsz.out; omega))
    have HEx : Hid (Ex16 (v4.setRow (V0.drew.heap.size) (brA (.slice (some ⟨v3.heap.size, 0, none⟩) 1 1) fun _ => 0)) w.heap.size (v3.heap.size) (v2.heap.size) (v1.heap.size) (V0.drew.heap.size)) := Lib.hid ⟨(bI.out.fr D4.out (fun e => e)).fr x1 (fun e => by have e : w.heap.size = V0.drew.heap.size := e; have := hsz.out; omega), (q3.out.fr ((Fr.refl No v3).trans' g4.out (fun _ _ e => e)) (fun e => e)).fr x1 (fun e => by have e : v2.heap.size = V0.drew.heap.size := e; have := hsz.out; omega), (q2.out.fr (((Fr.refl No v2).trans' g3.out (fun _ _ e => e)).trans' g4.out (fun _ _ e => e)) (fun e => e)).fr x1 (fun e => by have e : v1.heap.size = V0.drew.heap.size := e; have := hsz.out; omega), (q4.out.fr (Fr.refl No v4) (fun e => e)).fr x1 (fun e => by have e : v3.heap.size = V0.drew.heap.size := e; have := hsz.out; omega), bk_row12 b4 _⟩
    have s9 := HS.out (v4.setRow (V0.drew.heap.size) (brA (.slice (some ⟨v3.heap.size, 0, none⟩) 1 1) fun _ => 0)) ((D4.out.weak (fun _ _ e => e.elim)).trans' x1 (fun i _ e => by have e : i = V0.drew.heap.size := e; have := hsz.out; have := n0.out; omega))
    have hle : w.heap.size ≤ V0.drew.heap.size := by have := hsz.out; omega
    refine any_store12 (i := 8) (by kernel_rfl) rfl rfl (by rfl) (exec_st rfl rfl st9) s9 ?_
    refine wpAnyH_done (by kernel_rfl) ?_ _
    clear hHeld b4 st9 x1 s9
    go_wp2
    go_meet
    exact ⟨V0.drew.heap.size, v3.heap.size, v2.heap.size, v1.heap.size, rfl, hle, HFin, HEx⟩
 case rest =>
  obtain ⟨X, C, A1, A2, rfl, hXw, hf, hE⟩ := hcut
  obtain ⟨V, hV⟩ : ∃ V, V = ((wc.alloc (.cells #[.int .i64 5, .int .i64 5] 57)).alloc (.cells #[.int .i64 6, .int .i64 6] 57)).alloc (.cells (nA16 wc.heap.size) 39) := ⟨_, rfl⟩
  have fV : Fr No wc V := by rw [hV]; exact (((Fr.refl _ _).alloc _).alloc _).alloc _
  have HN : Hid (Nds V (some ⟨wc.heap.size + 2, 0, none⟩) (hist16 wc.heap.size) ∧ Nds V (some ⟨wc.heap.size + 2, 0, none⟩) ((hist16 wc.heap.size).take 3)) := Lib.hid (by
   rw [hV]
   exact hist16_nds (bka12 (bka12 (bkm12 rfl) _) _) (bka12 (bkm12 (by simp)) _) (bkm12 (by simp)))
  have HE := Lib.hid (hE.out.since fV)
  have HFV := Lib.hid (hf.out.trans' fV (fun _ _ e => e))
  have C1 := Lib.hid (fun W (hW : Fr No V W) => HGd.out (exX16 w.heap.size C A1 A2) ((hist16 wc.heap.size).take 3) (some ⟨wc.heap.size + 2, 0, none⟩) 3 4 W (HE.out.since hW).ok (HN.out.2.since hW) rfl (by omega) (by omega) (exX16_big _ _ _ _) ⟨fun x hx => (hist16_few _).all x (List.mem_of_mem_take hx)⟩)
  have C2 := Lib.hid (fun W (hW : Fr No V W) => HGd.out (exX16 w.heap.size C A1 A2) (hist16 wc.heap.size) (some ⟨wc.heap.size + 2, 0, none⟩) 4 4 W (HE.out.since hW).ok (HN.out.1.since hW) rfl (by omega) (by omega) (exX16_big _ _ _ _) (hist16_few _))
  rw [exX16_p, show ndsOf ((hist16 wc.heap.size).take 3) = exH16.take 3 from rfl, ex16_good] at C1
  rw [exX16_p, ndsOf_hist16, ex16_bad] at C2
  unfold Ctl.agg at C1 C2
  obtain ⟨Z, hZ⟩ : ∃ Z, Z = Ctl.arr (exX16 w.heap.size C A1 A2) := ⟨_, rfl⟩
  rw [← hZ] at C1 C2
  have HLd := Lib.hid (fun W (hW : Fr No V W) => show LdO W 26 ⟨X, 0, none⟩ (.agg Z) from ld_cat (v := .slice (some ⟨C, 0, none⟩) 1 1) (b := fun _ => 0) hZ (by rw [hZ]; exact (HE.out.since hW).x))
  unfold nA16 at hV
  have hwe := hV.symm
  clear fV HN hE hf hZ HGd hV
  go_wp2_with fail
  try rw [hwe]
  clear hwe
  have FD := Lib.hid ((Fr.refl No V).drew)
  refine wp_region_held_drew (S := fun W => LdO W 26 ⟨X, 0, none⟩ (.agg Z)) (by kernel_rfl) (HLd.out _ FD.out) (fun hHeld => ?_)
  refine any_tk 29 (.agg Z) (i := 0) rfl rfl (by kernel_rfl) (fun _ _ _ h => h) (by rfl) (by intro w hSw; exact exec_ld rfl hSw) (by assumption) ?_
  simp only [Act.put, szA, szB, szC]
  refine any_tk 30 (.slice (some ⟨wc.heap.size + 2, 0, none⟩) 4 4) (i := 1) rfl rfl (by kernel_rfl) (fun _ _ _ h => h) (by rfl) (by intro w hSw; (try dsimp only at hSw); go_simp; try with_reducible rfl) (by assumption) ?_
  simp only [Act.put, szA, szB, szC]
  refine any_tk 31 (.slice (some ⟨wc.heap.size + 2, 0, none⟩) 3 4) (i := 2) rfl rfl (by kernel_rfl) (fun _ _ _ h => h) (by rfl) (by intro w hSw; (try dsimp only at hSw); go_simp; try with_reducible rfl) (by assumption) ?_
  simp only [Act.put, szA, szB, szC]
  refine wpAnyH_ready (rs := [3]) (by kernel_rfl) (by simp) ?_
  refine AllReadyH.cons rfl (fun K' hK => ?_) AllReadyH.nil
  go_simp
  go_at_call 14
  refine (C1.out _ FD.out).mono ?_
  rintro e' v2 ⟨rfl, g2⟩
  have F2 := Lib.hid (FD.out.trans' g2 (fun _ _ e => e))
  clear g2
  dsimp only
  refine hK.out _ _ (HLd.out _ F2.out) (fun hHeld => ?_)
  clear hK
  try simp only [Act.put, szA, szB, szC]
  refine any_tk 33 (.bool true) (i := 4) rfl rfl (by kernel_rfl) (fun _ _ _ h => h) (by rfl) (by intro w hSw; (try dsimp only at hSw); go_simp; try with_reducible rfl) (by assumption) ?_
  simp only [Act.put, szA, szB, szC]
  refine any_tk 34 (.agg Z) (i := 5) rfl rfl (by kernel_rfl) (fun _ _ _ h => h) (by rfl) (by intro w hSw; exact exec_ld rfl hSw) (by assumption) ?_
  simp only [Act.put, szA, szB, szC]
  refine any_tk 35 (.slice (some ⟨wc.heap.size + 2, 0, none⟩) 4 4) (i := 6) rfl rfl (by kernel_rfl) (fun _ _ _ h => h) (by rfl) (by intro w hSw; (try dsimp only at hSw); go_simp; try with_reducible rfl) (by assumption) ?_
  simp only [Act.put, szA, szB, szC]
  refine wpAnyH_ready (rs := [7]) (by kernel_rfl) (by simp) ?_
  refine AllReadyH.cons rfl (fun K' hK => ?_) AllReadyH.nil
  go_simp
  go_at_call 14
  refine (C2.out _ F2.out).mono ?_
  rintro e' v3 ⟨rfl, g3⟩
  have F3 := Lib.hid (F2.out.trans' g3 (fun _ _ e => e))
  clear g3
  dsimp only
  refine hK.out _ _ (HLd.out _ F3.out) (fun hHeld => ?_)
  clear hK
  try simp only [Act.put, szA, szB, szC]
  refine any_tk 37 (.bool true) (i := 8) rfl rfl (by kernel_rfl) (fun _ _ _ h => h) (by rfl) (by intro w hSw; (try dsimp only at hSw); go_simp; try with_reducible rfl) (by assumption) ?_
  simp only [Act.put, szA, szB, szC]
  refine any_tk 38 (.bool true) (i := 9) rfl rfl (by kernel_rfl) (fun _ _ _ h => h) (by rfl) (by intro w hSw; (try dsimp only at hSw); go_simp; try with_reducible rfl) (by assumption) ?_
  simp only [Act.put, szA, szB, szC]
  refine any_tk 0 (.bool true) (i := 10) rfl rfl (by kernel_rfl) (fun _ _ _ h => h) (by rfl) (by intro w hSw; (try dsimp only at hSw); go_simp; try with_reducible rfl) (by assumption) ?_
  simp only [Act.put, szA, szB]
  refine wpAnyH_done (by kernel_rfl) ?_ _
  clear hHeld
  go_wp2
  go_ret
  exact ⟨rfl, HFV.out.trans' F3.out (fun _ _ e => e)⟩
theorem aliveG16 (hG : GoodC16) (w : World) : Calls Tryz.prog 8 #[] w (Has w true) :=
 alive16 w (fun x h A n c w h1 h2 h3 h4 h5 h6 h7 => hG x h A n c w ⟨h1, h2, h3, h4, h5, h6, h7⟩)
end Go.Proofs.YtdjhdnejeehgnaaGreat
