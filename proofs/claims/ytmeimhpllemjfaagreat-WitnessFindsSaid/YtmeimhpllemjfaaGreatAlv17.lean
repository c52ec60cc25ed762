/- The document's example of a fair order, and of one that isn't. -/
import Derived.Test.YtmeimhpllemjfaaGreatAlv16
import Derived.Test.YtmeimhpllemjfaaGreatWpk17
namespace Go.Proofs.YtmeimhpllemjfaaGreat
open Go.RowKit

def exH17 : List Nd := [⟨1, 0, 0, false, [], [(5, 5)]⟩, ⟨2, 0, 0, false, [], [(5, 5)]⟩, ⟨1, 0, 1, false, [], [(6, 6)]⟩, ⟨2, 0, 1, false, [], [(7, 7)]⟩]
theorem ex17_may : mayH exP16 exH17 = true := by kernel_rfl
theorem ex17_one : isOrd 4 [0, 2, 1, 3] = true := by kernel_rfl
theorem ex17_keep : keepP exH17 (plc [0, 2, 1, 3]) := fun i k hk hi hc => by
 have key : ((List.range 4).all fun i => (List.range 4).all fun k => !(decide (k < i) && (decide ((ndAt exH17 i).saga = (ndAt exH17 k).saga) || confN (ndAt exH17 i) (ndAt exH17 k))) || decide (plc [0, 2, 1, 3] k ≤ plc [0, 2, 1, 3] i)) = true := by kernel_rfl
 have hi : i < 4 := hi
 have q := List.all_eq_true.1 (List.all_eq_true.1 key i (List.mem_range.2 hi)) k (List.mem_range.2 (by omega))
 have hb : (decide (k < i) && (decide ((ndAt exH17 i).saga = (ndAt exH17 k).saga) || confN (ndAt exH17 i) (ndAt exH17 k))) = true := by
  rw [Bool.and_eq_true, Bool.or_eq_true, decide_eq_true_eq, decide_eq_true_eq]
  exact ⟨hk, hc⟩
 rw [hb] at q
 simpa using q
theorem ex17_fair : fairP exP16 exH17 (plc [0, 2, 1, 3]) := saga_fair ex17_keep fun a o b ha ho hb e p q => by
 have key : ((List.range 4).all fun a => (List.range 4).all fun o => (List.range 4).all fun b => !(decide ((ndAt exH17 a).saga = (ndAt exH17 b).saga) && decide (plc [0, 2, 1, 3] a ≤ plc [0, 2, 1, 3] o) && decide (plc [0, 2, 1, 3] o ≤ plc [0, 2, 1, 3] b)) || decide ((ndAt exH17 o).saga = (ndAt exH17 a).saga)) = true := by kernel_rfl
 have q2 := List.all_eq_true.1 (List.all_eq_true.1 (List.all_eq_true.1 key a (List.mem_range.2 ha)) o (List.mem_range.2 ho)) b (List.mem_range.2 hb)
 rw [decide_eq_true e, decide_eq_true p, decide_eq_true q] at q2
 simpa using q2
theorem ex17_bad : ¬ fairP exP16 exH17 (plc [0, 1, 2, 3]) := fun q => by
 have := (q.2 1 0 2 0 (by decide) (by decide) (by decide) (by decide) (by decide) (by kernel_rfl) (by decide) (by decide) (by kernel_rfl)).2
 have h2 := (q.2 1 0 2 0 (by decide) (by decide) (by decide) (by decide) (by decide) (by kernel_rfl) (by decide) (by decide) (by kernel_rfl)).1
 have e : (depB exH17 1 0 || depB exH17 0 1) = true := by kernel_rfl
 rw [this, h2] at e
 cases e
def hist17 (a b c d : Nat) : List Ndl := [⟨⟨1, 0, 0, false, [], [(5, 5)]⟩, none, 0, some ⟨a, 0, none⟩, 1⟩, ⟨⟨2, 0, 0, false, [], [(5, 5)]⟩, none, 0, some ⟨b, 0, none⟩, 1⟩, ⟨⟨1, 0, 1, false, [], [(6, 6)]⟩, none, 0, some ⟨c, 0, none⟩, 1⟩, ⟨⟨2, 0, 1, false, [], [(7, 7)]⟩, none, 0, some ⟨d, 0, none⟩, 1⟩]
def nA17 (a b c d : Nat) : Array Value := #[.int .i64 1, .int .i64 0, .int .i64 0, .bool false, .slice none 0 0, .slice (some ⟨a, 0, none⟩) 1 1, .int .i64 2, .int .i64 0, .int .i64 0, .bool false, .slice none 0 0, .slice (some ⟨b, 0, none⟩) 1 1, .int .i64 1, .int .i64 0, .int .i64 1, .bool false, .slice none 0 0, .slice (some ⟨c, 0, none⟩) 1 1, .int .i64 2, .int .i64 0, .int .i64 1, .bool false, .slice none 0 0, .slice (some ⟨d, 0, none⟩) 1 1]
theorem hist17_few (a b c d : Nat) : Nds.Few (hist17 a b c d) := by
 refine ⟨fun x hx => ?_⟩
 unfold hist17 at hx
 simp only [List.mem_cons, List.not_mem_nil, or_false] at hx
 rcases hx with rfl | rfl | rfl | rfl <;> exact ⟨by simp, by simp⟩
theorem hist17_nds {V : World} {a b c d H : Nat} (h1 : Bk V a 51 #[.int .i64 5, .int .i64 5]) (h2 : Bk V b 51 #[.int .i64 5, .int .i64 5]) (h3 : Bk V c 51 #[.int .i64 6, .int .i64 6]) (h4 : Bk V d 51 #[.int .i64 7, .int .i64 7]) (hn : Bk V H 37 (nA17 a b c d)) : Nds V (some ⟨H, 0, none⟩) (hist17 a b c d) := by
 have hnil : Sl V V.heap.size none (sps []) := fun e => absurd rfl e
 have s1 : Sl V V.heap.size (some ⟨a, 0, none⟩) (sps [(5, 5)]) := sl_bk12 h1 rfl
 have s2 : Sl V V.heap.size (some ⟨b, 0, none⟩) (sps [(5, 5)]) := sl_bk12 h2 rfl
 have s3 : Sl V V.heap.size (some ⟨c, 0, none⟩) (sps [(6, 6)]) := sl_bk12 h3 rfl
 have s4 : Sl V V.heap.size (some ⟨d, 0, none⟩) (sps [(7, 7)]) := sl_bk12 h4 rfl
 have hall : ∀ x ∈ hist17 a b c d, x.Ok V := by
  intro x hx
  unfold hist17 at hx
  simp only [List.mem_cons, List.not_mem_nil, or_false] at hx
  rcases hx with rfl | rfl | rfl | rfl
  ·exact ⟨hnil, s1⟩
  ·exact ⟨hnil, s2⟩
  ·exact ⟨hnil, s3⟩
  ·exact ⟨hnil, s4⟩
 have hsl : Sl V V.heap.size (some ⟨H, 0, none⟩) ((hist17 a b c d).flatMap Ndl.cells) := sl_bk12 hn rfl
 exact ⟨hsl, hall⟩
theorem kspan17 (n : Int) (W : World) : Calls Tryz.prog 18 #[.int .i64 n] W (fun e w' => e = .returned (.slice (some ⟨W.heap.size, 0, none⟩) 1 1) ∧ w' = W.alloc (.cells #[.int .i64 n, .int .i64 n] 51)) := by
 go_enter Tryz.func18, Tryz.ntmps18
 go_wp2
 go_ret
 exact ⟨rfl, rfl⟩
set_option maxRecDepth 100000 in
set_option maxHeartbeats 8000000 in
theorem aliveF17 (hF : FairC17) (w : World) : Calls Tryz.prog 7 #[] w (Has w true) := by
 obtain ⟨V0, hV0⟩ : ∃ V0, V0 = (w.alloc (.cells #[.int .i64 5, .int .i64 0, .int .i64 0, .int .i64 0, .int .i64 0, .int .i64 0, .int .i64 0, .int .i64 0, .int .i64 0] 42)).alloc (.cells #[.slice (some ⟨w.heap.size, 0, none⟩) 1 1, .slice none 0 0] 46) := ⟨_, rfl⟩
 have G0 : Hid (Fr No w V0) := Lib.hid (by rw [hV0]; exact ((Fr.refl _ _).alloc _).alloc _)
 have bI : Hid (Bk V0 w.heap.size 42 iA) := Lib.hid (by rw [hV0]; exact bka12 (Bk.made _ _ _) _)
 have bS : Bk V0 (w.heap.size + 1) 46 #[.slice (some ⟨w.heap.size, 0, none⟩) 1 1, .slice none 0 0] := by rw [hV0]; exact bkm12 (by simp)
 have n0 : Hid (V0.heap.size = w.heap.size + 2) := Lib.hid (by rw [hV0]; simp)
 have HS : Hid (∀ V, Fr (fun i => V0.heap.size ≤ i) V0 V → V.cell? ⟨w.heap.size + 1, 0, none⟩ = some (.slice (some ⟨w.heap.size, 0, none⟩) 1 1) ∧ V.cell? ⟨w.heap.size + 1, 1, none⟩ = some (.slice none 0 0)) := Lib.hid (fun V h => by
  have b := bS.fr h (fun e => by have := n0.out; omega)
  exact ⟨b.cell 0, b.cell 1⟩)
 have HFd := Lib.hid hF
 clear bS hF
 go_enter Tryz.func7, Tryz.ntmps7
 go_wp2_with fail
 rw [← hV0]
 clear hV0
 go_cut [2] from 8 to 15 (fun s2 wx => ∃ X C A1 A2 : Nat, s2 = .pointer (some ⟨X, 0, none⟩) ∧ w.heap.size ≤ X ∧ Hid (Fr No w wx) ∧ Hid (Ex16 wx w.heap.size C A1 A2 X))
 case first =>
  refine wp_region_held_drew (S := fun V => V.cell? ⟨w.heap.size + 1, 0, none⟩ = some (.slice (some ⟨w.heap.size, 0, none⟩) 1 1) ∧ V.cell? ⟨w.heap.size + 1, 1, none⟩ = some (.slice none 0 0)) (by kernel_rfl) (HS.out _ ((Fr.refl _ V0).drew)) (fun hHeld => ?_)
  refine any_u 8 (.agg #[.slice (some ⟨w.heap.size, 0, none⟩) 1 1, .slice none 0 0]) (i := 0) rfl rfl ?_
  simp only [Act.put, szA, szB, szC]
  refine any_u 9 (.agg #[.slice (some ⟨w.heap.size, 0, none⟩) 1 1, .slice none 0 0]) (i := 1) rfl rfl ?_
  simp only [Act.put, szA, szB, szC]
  have D0 : Hid (Fr No V0 V0.drew) := Lib.hid ((Fr.refl No V0).drew)
  have m0 : Hid (V0.drew.heap.size = V0.heap.size) := Lib.hid rfl
  refine wpAnyH_ready (rs := [2, 3, 7]) (by kernel_rfl) (by simp) ?_
  refine AllReadyH.cons rfl (fun K' hK => ?_) (AllReadyH.cons rfl (fun K' hK => ?_) (AllReadyH.cons rfl (fun K' hK => ?_) AllReadyH.nil))
  ·refine oneH_val (v := (.slice (some ⟨V0.drew.heap.size, 0, none⟩) 2 2)) (w' := V0.drew.alloc (.cells (sA16 w.heap.size) 46)) 10 rfl (by rfl) (by kernel_rfl) ?_
   simp only [Act.put, szA, szB, szC]
   obtain ⟨v1, e1⟩ : ∃ V, Hid (V = V0.drew.alloc (.cells (sA16 w.heap.size) 46)) := ⟨_, Lib.hid rfl⟩
   rw [← e1.out]
   have g1 : Hid (Fr No V0.drew v1) := Lib.hid (by rw [e1.out]; exact (Fr.refl _ _).alloc _)
   have q1 : Hid (Bk v1 V0.drew.heap.size 46 (sA16 w.heap.size)) := Lib.hid (by rw [e1.out]; exact Bk.made _ _ _)
   have n1 : Hid (v1.heap.size = V0.drew.heap.size + 1) := Lib.hid (by rw [e1.out]; simp)
   have D1 : Hid (Fr No V0 v1) := Lib.hid (D0.out.trans' g1.out (fun _ _ e => e))
   refine hK.out _ _ (HS.out _ (D1.out.weak (fun _ _ e => e.elim))) (fun hHeld => ?_)
   clear hK e1
   refine wpAnyH_ready (rs := [3, 7]) (by kernel_rfl) (by simp) ?_
   refine AllReadyH.cons rfl (fun K' hK => ?_) (AllReadyH.cons rfl (fun K' hK => ?_) AllReadyH.nil)
   ·refine oneH_val (v := (.slice (some ⟨v1.heap.size, 0, none⟩) 2 2)) (w' := v1.alloc (.cells zA16 46)) 11 rfl (by rfl) (by kernel_rfl) ?_
    simp only [Act.put, szA, szB, szC]
    obtain ⟨v2, e2⟩ : ∃ V, Hid (V = v1.alloc (.cells zA16 46)) := ⟨_, Lib.hid rfl⟩
    rw [← e2.out]
    have g2 : Hid (Fr No v1 v2) := Lib.hid (by rw [e2.out]; exact (Fr.refl _ _).alloc _)
    have q2 : Hid (Bk v2 v1.heap.size 46 zA16) := Lib.hid (by rw [e2.out]; exact Bk.made _ _ _)
    have n2 : Hid (v2.heap.size = v1.heap.size + 1) := Lib.hid (by rw [e2.out]; simp)
    have D2 : Hid (Fr No V0 v2) := Lib.hid (D1.out.trans' g2.out (fun _ _ e => e))
    refine hK.out _ _ (HS.out _ (D2.out.weak (fun _ _ e => e.elim))) (fun hHeld => ?_)
    clear hK e2
    refine any_tk 12 (.agg #[.string ⟨#[97]⟩, .int .i64 0, .slice (some ⟨V0.drew.heap.size, 0, none⟩) 2 2, .slice (some ⟨v1.heap.size, 0, none⟩) 2 2, .bool false]) (i := 4) rfl rfl (by kernel_rfl) (fun _ _ _ h => h) (by rfl) (by intro w hSw; kernel_rfl) (by assumption) ?_
    simp only [Act.put, szA, szB, szC]
    refine wpAnyH_ready (rs := [5, 7]) (by kernel_rfl) (by simp) ?_
    refine AllReadyH.cons rfl (fun K' hK => ?_) (AllReadyH.cons rfl (fun K' hK => ?_) AllReadyH.nil)
    ·refine oneH_val (v := (.slice (some ⟨v2.heap.size, 0, none⟩) 1 1)) (w' := v2.alloc (.cells (cA16 (V0.drew.heap.size) (v1.heap.size)) 49)) 13 rfl (by rfl) (by kernel_rfl) ?_
     simp only [Act.put, szA, szB, szC]
     obtain ⟨v3, e3⟩ : ∃ V, Hid (V = v2.alloc (.cells (cA16 (V0.drew.heap.size) (v1.heap.size)) 49)) := ⟨_, Lib.hid rfl⟩
     rw [← e3.out]
     have g3 : Hid (Fr No v2 v3) := Lib.hid (by rw [e3.out]; exact (Fr.refl _ _).alloc _)
     have q3 : Hid (Bk v3 v2.heap.size 49 (cA16 (V0.drew.heap.size) (v1.heap.size))) := Lib.hid (by rw [e3.out]; exact Bk.made _ _ _)
     have n3 : Hid (v3.heap.size = v2.heap.size + 1) := Lib.hid (by rw [e3.out]; simp)
     have D3 : Hid (Fr No V0 v3) := Lib.hid (D2.out.trans' g3.out (fun _ _ e => e))
     refine hK.out _ _ (HS.out _ (D3.out.weak (fun _ _ e => e.elim))) (fun hHeld => ?_)
     clear hK e3
     refine any_tk 14 (.agg (brA (.slice (some ⟨v2.heap.size, 0, none⟩) 1 1) fun _ => 0)) (i := 6) rfl rfl (by kernel_rfl) (fun _ _ _ h => h) (by rfl) (by intro w hSw; kernel_rfl) (by assumption) ?_
     simp only [Act.put, szA, szB, szC]
     refine wpAnyH_ready (rs := [7]) (by kernel_rfl) (by simp) ?_
     refine AllReadyH.cons rfl (fun K' hK => ?_) AllReadyH.nil
     refine oneH_val (v := (.pointer (some ⟨v3.heap.size, 0, none⟩))) (w' := v3.alloc (.cells zB16 26)) 2 rfl (by rfl) (by kernel_rfl) ?_
     simp only [Act.put, szA, szB, szC]
     obtain ⟨v4, e4⟩ : ∃ V, Hid (V = v3.alloc (.cells zB16 26)) := ⟨_, Lib.hid rfl⟩
     rw [← e4.out]
     have g4 : Hid (Fr No v3 v4) := Lib.hid (by rw [e4.out]; exact (Fr.refl _ _).alloc _)
     have q4 : Hid (Bk v4 v3.heap.size 26 zB16) := Lib.hid (by rw [e4.out]; exact Bk.made _ _ _)
     have n4 : Hid (v4.heap.size = v3.heap.size + 1) := Lib.hid (by rw [e4.out]; simp)
     have D4 : Hid (Fr No V0 v4) := Lib.hid (D3.out.trans' g4.out (fun _ _ e => e))
     refine hK.out _ _ (HS.out _ (D4.out.weak (fun _ _ e => e.elim))) (fun hHeld => ?_)
     clear hK e4
     have b4 := q4.out.fr (Fr.refl No v4) (fun e => e)
     have hsz : Hid (v1.heap.size = w.heap.size + 3 ∧ v2.heap.size = w.heap.size + 4 ∧ v3.heap.size = w.heap.size + 5 ∧ V0.drew.heap.size = w.heap.size + 2) := Lib.hid (by have := n0.out; have := m0.out; have := n1.out; have := n2.out; have := n3.out; omega)
     have st9 := st_cat (v' := .slice (some ⟨v2.heap.size, 0, none⟩) 1 1) (b' := fun _ => 0) rfl rfl rfl b4
     have x1 : Fr (Only (v3.heap.size)) v4 (v4.setRow (v3.heap.size) (brA (.slice (some ⟨v2.heap.size, 0, none⟩) 1 1) fun _ => 0)) := fr_row12 (Fr.refl (Only (v3.heap.size)) v4) (.inl rfl) _
     have HFin : Hid (Fr No w (v4.setRow (v3.heap.size) (brA (.slice (some ⟨v2.heap.size, 0, none⟩) 1 1) fun _ => 0))) := Lib.hid ((G0.out.trans' D4.out (fun _ _ e => e)).trans' x1 (fun i hi e => by have e : i = v3.heap.size := e; have := hsz.out; omega))
     have HEx : Hid (Ex16 (v4.setRow (v3.heap.size) (brA (.slice (some ⟨v2.heap.size, 0, none⟩) 1 1) fun _ => 0)) w.heap.size (v2.heap.size) (V0.drew.heap.size) (v1.heap.size) (v3.heap.size)) := Lib.hid ⟨(bI.out.fr D4.out (fun e => e)).fr x1 (fun e => by have e : w.heap.size = v3.heap.size := e; have := hsz.out; omega), (q1.out.fr ((((Fr.refl No v1).trans' g2.out (fun _ _ e => e)).trans' g3.out (fun _ _ e => e)).trans' g4.out (fun _ _ e => e)) (fun e => e)).fr x1 (fun e => by have e : V0.drew.heap.size = v3.heap.size := e; have := hsz.out; omega), (q2.out.fr (((Fr.refl No v2).trans' g3.out (fun _ _ e => e)).trans' g4.out (fun _ _ e => e)) (fun e => e)).fr x1 (fun e => by have e : v1.heap.size = v3.heap.size := e; have := hsz.out; omega), (q3.out.fr ((Fr.refl No v3).trans' g4.out (fun _ _ e => e)) (fun e => e)).fr x1 (fun e => by have e : v2.heap.size = v3.heap.size := e; have := hsz.out; omega), bk_row12 b4 _⟩
     have s9 := HS.out (v4.setRow (v3.heap.size) (brA (.slice (some ⟨v2.heap.size, 0, none⟩) 1 1) fun _ => 0)) ((D4.out.weak (fun _ _ e => e.elim)).trans' x1 (fun i _ e => by have e : i = v3.heap.size := e; have := hsz.out; have := n0.out; omega))
     have hle : w.heap.size ≤ v3.heap.size := by have := hsz.out; omega
     refine any_store12 (i := 8) (by kernel_rfl) rfl rfl (by rfl) (exec_st rfl rfl st9) s9 ?_
     refine wpAnyH_done (by kernel_rfl) ?_ _
     clear hHeld b4 st9 x1 s9
     go_wp2
     go_meet
     exact ⟨v3.heap.size, v2.heap.size, V0.drew.heap.size, v1.heap.size, rfl, hle, HFin, HEx⟩
    ·refine oneH_val (v := (.pointer (some ⟨v2.heap.size, 0, none⟩))) (w' := v2.alloc (.cells zB16 26)) 2 rfl (by rfl) (by kernel_rfl) ?_
     simp only [Act.put, szA, szB, szC]
     obtain ⟨v3, e3⟩ : ∃ V, Hid (V = v2.alloc (.cells zB16 26)) := ⟨_, Lib.hid rfl⟩
     rw [← e3.out]
     have g3 : Hid (Fr No v2 v3) := Lib.hid (by rw [e3.out]; exact (Fr.refl _ _).alloc _)
     have q3 : Hid (Bk v3 v2.heap.size 26 zB16) := Lib.hid (by rw [e3.out]; exact Bk.made _ _ _)
     have n3 : Hid (v3.heap.size = v2.heap.size + 1) := Lib.hid (by rw [e3.out]; simp)
     have D3 : Hid (Fr No V0 v3) := Lib.hid (D2.out.trans' g3.out (fun _ _ e => e))
     refine hK.out _ _ (HS.out _ (D3.out.weak (fun _ _ e => e.elim))) (fun hHeld => ?_)
     clear hK e3
     refine wpAnyH_ready (rs := [5]) (by kernel_rfl) (by simp) ?_
     refine AllReadyH.cons rfl (fun K' hK => ?_) AllReadyH.nil
     refine oneH_val (v := (.slice (some ⟨v3.heap.size, 0, none⟩) 1 1)) (w' := v3.alloc (.cells (cA16 (V0.drew.heap.size) (v1.heap.size)) 49)) 13 rfl (by rfl) (by kernel_rfl) ?_
     simp only [Act.put, szA, szB, szC]
     obtain ⟨v4, e4⟩ : ∃ V, Hid (V = v3.alloc (.cells (cA16 (V0.drew.heap.size) (v1.heap.size)) 49)) := ⟨_, Lib.hid rfl⟩
     rw [← e4.out]
     have g4 : Hid (Fr No v3 v4) := Lib.hid (by rw [e4.out]; exact (Fr.refl _ _).alloc _)
     have q4 : Hid (Bk v4 v3.heap.size 49 (cA16 (V0.drew.heap.size) (v1.heap.size))) := Lib.hid (by rw [e4.out]; exact Bk.made _ _ _)
     have n4 : Hid (v4.heap.size = v3.heap.size + 1) := Lib.hid (by rw [e4.out]; simp)
     have D4 : Hid (Fr No V0 v4) := Lib.hid (D3.out.trans' g4.out (fun _ _ e => e))
     refine hK.out _ _ (HS.out _ (D4.out.weak (fun _ _ e => e.elim))) (fun hHeld => ?_)
     clear hK e4
     refine any_tk 14 (.agg (brA (.slice (some ⟨v3.heap.size, 0, none⟩) 1 1) fun _ => 0)) (i := 6) rfl rfl (by kernel_rfl) (fun _ _ _ h => h) (by rfl) (by intro w hSw; kernel_rfl) (by assumption) ?_
     simp only [Act.put, szA, szB, szC]
     have b4 := q3.out.fr ((Fr.refl No v3).trans' g4.out (fun _ _ e => e)) (fun e => e)
     have hsz : Hid (v1.heap.size = w.heap.size + 3 ∧ v2.heap.size = w.heap.size + 4 ∧ v3.heap.size = w.heap.size + 5 ∧ V0.drew.heap.size = w.heap.size + 2) := Lib.hid (by have := n0.out; have := m0.out; have := n1.out; have := n2.out; have := n3.out; omega)
     have st9 := st_cat (v' := .slice (some ⟨v3.heap.size, 0, none⟩) 1 1) (b' := fun _ => 0) rfl rfl rfl b4
     have x1 : Fr (Only (v2.heap.size)) v4 (v4.setRow (v2.heap.size) (brA (.slice (some ⟨v3.heap.size, 0, none⟩) 1 1) fun _ => 0)) := fr_row12 (Fr.refl (Only (v2.heap.size)) v4) (.inl rfl) _
     have HFin : Hid (Fr No w (v4.setRow (v2.heap.size) (brA (.slice (some ⟨v3.heap.size, 0, none⟩) 1 1) fun _ => 0))) := Lib.hid ((G0.out.trans' D4.out (fun _ _ e => e)).trans' x1 (fun i hi e => by have e : i = v2.heap.size := e; have := hsz.out; omega))
     have HEx : Hid (Ex16 (v4.setRow (v2.heap.size) (brA (.slice (some ⟨v3.heap.size, 0, none⟩) 1 1) fun _ => 0)) w.heap.size (v3.heap.size) (V0.drew.heap.size) (v1.heap.size) (v2.heap.size)) := Lib.hid ⟨(bI.out.fr D4.out (fun e => e)).fr x1 (fun e => by have e : w.heap.size = v2.heap.size := e; have := hsz.out; omega), (q1.out.fr ((((Fr.refl No v1).trans' g2.out (fun _ _ e => e)).trans' g3.out (fun _ _ e => e)).trans' g4.out (fun _ _ e => e)) (fun e => e)).fr x1 (fun e => by have e : V0.drew.heap.size = v2.heap.size := e; have := hsz.out; omega), (q2.out.fr (((Fr.refl No v2).trans' g3.out (fun _ _ e => e)).trans' g4.out (fun _ _ e => e)) (fun e => e)).fr x1 (fun e => by have e : v1.heap.size = v2.heap.size := e; have := hsz.out; omega), (q4.out.fr (Fr.refl No v4) (fun e => e)).fr x1 (fun e => by have e : v3.heap.size = v2.heap.size := e; have := hsz.out; omega), bk_row12 b4 _⟩
     have s9 := HS.out (v4.setRow (v2.heap.size) (brA (.slice (some ⟨v3.heap.size, 0, none⟩) 1 1) fun _ => 0)) ((D4.out.weak (fun _ _ e => e.elim)).trans' x1 (fun i _ e => by have e : i = v2.heap.size := e; have := hsz.out; have := n0.out; omega))
     have hle : w.heap.size ≤ v2.heap.size := by have := hsz.out; omega
     refine any_store12 (i := 8) (by kernel_rfl) rfl rfl (by rfl) (exec_st rfl rfl st9) s9 ?_
     refine wpAnyH_done (by kernel_rfl) ?_ _
     clear hHeld b4 st9 x1 s9
     go_wp2
     go_meet
     exact ⟨v2.heap.size, v3.heap.size, V0.drew.heap.size, v1.heap.size, rfl, hle, HFin, HEx⟩
   ·refine oneH_val (v := (.pointer (some ⟨v1.heap.size, 0, none⟩))) (w' := v1.alloc (.cells zB16 26)) 2 rfl (by rfl) (by kernel_rfl) ?_
    simp only [Act.put, szA, szB, szC]
    obtain ⟨v2, e2⟩ : ∃ V, Hid (V = v1.alloc (.cells zB16 26)) := ⟨_, Lib.hid rfl⟩
    rw [← e2.out]
    have g2 : Hid (Fr No v1 v2) := Lib.hid (by rw [e2.out]; exact (Fr.refl _ _).alloc _)
    have q2 : Hid (Bk v2 v1.heap.size 26 zB16) := Lib.hid (by rw [e2.out]; exact Bk.made _ _ _)
    have n2 : Hid (v2.heap.size = v1.heap.size + 1) := Lib.hid (by rw [e2.out]; simp)
    have D2 : Hid (Fr No V0 v2) := Lib.hid (D1.out.trans' g2.out (fun _ _ e => e))
    refine hK.out _ _ (HS.out _ (D2.out.weak (fun _ _ e => e.elim))) (fun hHeld => ?_)
    clear hK e2
    refine wpAnyH_ready (rs := [3]) (by kernel_rfl) (by simp) ?_
    refine AllReadyH.cons rfl (fun K' hK => ?_) AllReadyH.nil
    refine oneH_val (v := (.slice (some ⟨v2.heap.size, 0, none⟩) 2 2)) (w' := v2.alloc (.cells zA16 46)) 11 rfl (by rfl) (by kernel_rfl) ?_
    simp only [Act.put, szA, szB, szC]
    obtain ⟨v3, e3⟩ : ∃ V, Hid (V = v2.alloc (.cells zA16 46)) := ⟨_, Lib.hid rfl⟩
    rw [← e3.out]
    have g3 : Hid (Fr No v2 v3) := Lib.hid (by rw [e3.out]; exact (Fr.refl _ _).alloc _)
    have q3 : Hid (Bk v3 v2.heap.size 46 zA16) := Lib.hid (by rw [e3.out]; exact Bk.made _ _ _)
    have n3 : Hid (v3.heap.size = v2.heap.size + 1) := Lib.hid (by rw [e3.out]; simp)
    have D3 : Hid (Fr No V0 v3) := Lib.hid (D2.out.trans' g3.out (fun _ _ e => e))
    refine hK.out _ _ (HS.out _ (D3.out.weak (fun _ _ e => e.elim))) (fun hHeld => ?_)
    clear hK e3
    refine any_tk 12 (.agg #[.string ⟨#[97]⟩, .int .i64 0, .slice (some ⟨V0.drew.heap.size, 0, none⟩) 2 2, .slice (some ⟨v2.heap.size, 0, none⟩) 2 2, .bool false]) (i := 4) rfl rfl (by kernel_rfl) (fun _ _ _ h => h) (by rfl) (by intro w hSw; kernel_rfl) (by assumption) ?_
    simp only [Act.put, szA, szB, szC]
    refine wpAnyH_ready (rs := [5]) (by kernel_rfl) (by simp) ?_
    refine AllReadyH.cons rfl (fun K' hK => ?_) AllReadyH.nil
    refine oneH_val (v := (.slice (some ⟨v3.heap.size, 0, none⟩) 1 1)) (w' := v3.alloc (.cells (cA16 (V0.drew.heap.size) (v2.heap.size)) 49)) 13 rfl (by rfl) (by kernel_rfl) ?_
    simp only [Act.put, szA, szB, szC]
    obtain ⟨v4, e4⟩ : ∃ V, Hid (V = v3.alloc (.cells (cA16 (V0.drew.heap.size) (v2.heap.size)) 49)) := ⟨_, Lib.hid rfl⟩
    rw [← e4.out]
    have g4 : Hid (Fr No v3 v4) := Lib.hid (by rw [e4.out]; exact (Fr.refl _ _).alloc _)
    have q4 : Hid (Bk v4 v3.heap.size 49 (cA16 (V0.drew.heap.size) (v2.heap.size))) := Lib.hid (by rw [e4.out]; exact Bk.made _ _ _)
    have n4 : Hid (v4.heap.size = v3.heap.size + 1) := Lib.hid (by rw [e4.out]; simp)
    have D4 : Hid (Fr No V0 v4) := Lib.hid (D3.out.trans' g4.out (fun _ _ e => e))
    refine hK.out _ _ (HS.out _ (D4.out.weak (fun _ _ e => e.elim))) (fun hHeld => ?_)
    clear hK e4
    refine any_tk 14 (.agg (brA (.slice (some ⟨v3.heap.size, 0, none⟩) 1 1) fun _ => 0)) (i := 6) rfl rfl (by kernel_rfl) (fun _ _ _ h => h) (by rfl) (by intro w hSw; kernel_rfl) (by assumption) ?_
    simp only [Act.put, szA, szB, szC]
    have b4 := q2.out.fr (((Fr.refl No v2).trans' g3.out (fun _ _ e => e)).trans' g4.out (fun _ _ e => e)) (fun e => e)
    have hsz : Hid (v1.heap.size = w.heap.size + 3 ∧ v2.heap.size = w.heap.size + 4 ∧ v3.heap.size = w.heap.size + 5 ∧ V0.drew.heap.size = w.heap.size + 2) := Lib.hid (by have := n0.out; have := m0.out; have := n1.out; have := n2.out; have := n3.out; omega)
    have st9 := st_cat (v' := .slice (some ⟨v3.heap.size, 0, none⟩) 1 1) (b' := fun _ => 0) rfl rfl rfl b4
    have x1 : Fr (Only (v1.heap.size)) v4 (v4.setRow (v1.heap.size) (brA (.slice (some ⟨v3.heap.size, 0, none⟩) 1 1) fun _ => 0)) := fr_row12 (Fr.refl (Only (v1.heap.size)) v4) (.inl rfl) _
    have HFin : Hid (Fr No w (v4.setRow (v1.heap.size) (brA (.slice (some ⟨v3.heap.size, 0, none⟩) 1 1) fun _ => 0))) := Lib.hid ((G0.out.trans' D4.out (fun _ _ e => e)).trans' x1 (fun i hi e => by have e : i = v1.heap.size := e; have := hsz.out; omega))
    have HEx : Hid (Ex16 (v4.setRow (v1.heap.size) (brA (.slice (some ⟨v3.heap.size, 0, none⟩) 1 1) fun _ => 0)) w.heap.size (v3.heap.size) (V0.drew.heap.size) (v2.heap.size) (v1.heap.size)) := Lib.hid ⟨(bI.out.fr D4.out (fun e => e)).fr x1 (fun e => by have e : w.heap.size = v1.heap.size := e; have := hsz.out; omega), (q1.out.fr ((((Fr.refl No v1).trans' g2.out (fun _ _ e => e)).trans' g3.out (fun _ _ e => e)).trans' g4.out (fun _ _ e => e)) (fun e => e)).fr x1 (fun e => by have e : V0.drew.heap.size = v1.heap.size := e; have := hsz.out; omega), (q3.out.fr ((Fr.refl No v3).trans' g4.out (fun _ _ e => e)) (fun e => e)).fr x1 (fun e => by have e : v2.heap.size = v1.heap.size := e; have := hsz.out; omega), (q4.out.fr (Fr.refl No v4) (fun e => e)).fr x1 (fun e => by have e : v3.heap.size = v1.heap.size := e; have := hsz.out; omega), bk_row12 b4 _⟩
    have s9 := HS.out (v4.setRow (v1.heap.size) (brA (.slice (some ⟨v3.heap.size, 0, none⟩) 1 1) fun _ => 0)) ((D4.out.weak (fun _ _ e => e.elim)).trans' x1 (fun i _ e => by have e : i = v1.heap.size := e; have := hsz.out; have := n0.out; omega))
    have hle : w.heap.size ≤ v1.heap.size := by have := hsz.out; omega
    refine any_store12 (i := 8) (by kernel_rfl) rfl rfl (by rfl) (exec_st rfl rfl st9) s9 ?_
    refine wpAnyH_done (by kernel_rfl) ?_ _
    clear hHeld b4 st9 x1 s9
    go_wp2
    go_meet
    exact ⟨v1.heap.size, v3.heap.size, V0.drew.heap.size, v2.heap.size, rfl, hle, HFin, HEx⟩
  ·refine oneH_val (v := (.slice (some ⟨V0.drew.heap.size, 0, none⟩) 2 2)) (w' := V0.drew.alloc (.cells zA16 46)) 11 rfl (by rfl) (by kernel_rfl) ?_
   simp only [Act.put, szA, szB, szC]
   obtain ⟨v1, e1⟩ : ∃ V, Hid (V = V0.drew.alloc (.cells zA16 46)) := ⟨_, Lib.hid rfl⟩
   rw [← e1.out]
   have g1 : Hid (Fr No V0.drew v1) := Lib.hid (by rw [e1.out]; exact (Fr.refl _ _).alloc _)
   have q1 : Hid (Bk v1 V0.drew.heap.size 46 zA16) := Lib.hid (by rw [e1.out]; exact Bk.made _ _ _)
   have n1 : Hid (v1.heap.size = V0.drew.heap.size + 1) := Lib.hid (by rw [e1.out]; simp)
   have D1 : Hid (Fr No V0 v1) := Lib.hid (D0.out.trans' g1.out (fun _ _ e => e))
   refine hK.out _ _ (HS.out _ (D1.out.weak (fun _ _ e => e.elim))) (fun hHeld => ?_)
   clear hK e1
   refine wpAnyH_ready (rs := [2, 7]) (by kernel_rfl) (by simp) ?_
   refine AllReadyH.cons rfl (fun K' hK => ?_) (AllReadyH.cons rfl (fun K' hK => ?_) AllReadyH.nil)
   ·refine oneH_val (v := (.slice (some ⟨v1.heap.size, 0, none⟩) 2 2)) (w' := v1.alloc (.cells (sA16 w.heap.size) 46)) 10 rfl (by rfl) (by kernel_rfl) ?_
    simp only [Act.put, szA, szB, szC]
    obtain ⟨v2, e2⟩ : ∃ V, Hid (V = v1.alloc (.cells (sA16 w.heap.size) 46)) := ⟨_, Lib.hid rfl⟩
    rw [← e2.out]
    have g2 : Hid (Fr No v1 v2) := Lib.hid (by rw [e2.out]; exact (Fr.refl _ _).alloc _)
    have q2 : Hid (Bk v2 v1.heap.size 46 (sA16 w.heap.size)) := Lib.hid (by rw [e2.out]; exact Bk.made _ _ _)
    have n2 : Hid (v2.heap.size = v1.heap.size + 1) := Lib.hid (by rw [e2.out]; simp)
    have D2 : Hid (Fr No V0 v2) := Lib.hid (D1.out.trans' g2.out (fun _ _ e => e))
    refine hK.out _ _ (HS.out _ (D2.out.weak (fun _ _ e => e.elim))) (fun hHeld => ?_)
    clear hK e2
    refine any_tk 12 (.agg #[.string ⟨#[97]⟩, .int .i64 0, .slice (some ⟨v1.heap.size, 0, none⟩) 2 2, .slice (some ⟨V0.drew.heap.size, 0, none⟩) 2 2, .bool false]) (i := 4) rfl rfl (by kernel_rfl) (fun _ _ _ h => h) (by rfl) (by intro w hSw; kernel_rfl) (by assumption) ?_
    simp only [Act.put, szA, szB, szC]
    refine wpAnyH_ready (rs := [5, 7]) (by kernel_rfl) (by simp) ?_
    refine AllReadyH.cons rfl (fun K' hK => ?_) (AllReadyH.cons rfl (fun K' hK => ?_) AllReadyH.nil)
    ·refine oneH_val (v := (.slice (some ⟨v2.heap.size, 0, none⟩) 1 1)) (w' := v2.alloc (.cells (cA16 (v1.heap.size) (V0.drew.heap.size)) 49)) 13 rfl (by rfl) (by kernel_rfl) ?_
     simp only [Act.put, szA, szB, szC]
     obtain ⟨v3, e3⟩ : ∃ V, Hid (V = v2.alloc (.cells (cA16 (v1.heap.size) (V0.drew.heap.size)) 49)) := ⟨_, Lib.hid rfl⟩
     rw [← e3.out]
     have g3 : Hid (Fr No v2 v3) := Lib.hid (by rw [e3.out]; exact (Fr.refl _ _).alloc _)
     have q3 : Hid (Bk v3 v2.heap.size 49 (cA16 (v1.heap.size) (V0.drew.heap.size))) := Lib.hid (by rw [e3.out]; exact Bk.made _ _ _)
     have n3 : Hid (v3.heap.size = v2.heap.size + 1) := Lib.hid (by rw [e3.out]; simp)
     have D3 : Hid (Fr No V0 v3) := Lib.hid (D2.out.trans' g3.out (fun _ _ e => e))
     refine hK.out _ _ (HS.out _ (D3.out.weak (fun _ _ e => e.elim))) (fun hHeld => ?_)
     clear hK e3
     refine any_tk 14 (.agg (brA (.slice (some ⟨v2.heap.size, 0, none⟩) 1 1) fun _ => 0)) (i := 6) rfl rfl (by kernel_rfl) (fun _ _ _ h => h) (by rfl) (by intro w hSw; kernel_rfl) (by assumption) ?_
     simp only [Act.put, szA, szB, szC]
     refine wpAnyH_ready (rs := [7]) (by kernel_rfl) (by simp) ?_
     refine AllReadyH.cons rfl (fun K' hK => ?_) AllReadyH.nil
     refine oneH_val (v := (.pointer (some ⟨v3.heap.size, 0, none⟩))) (w' := v3.alloc (.cells zB16 26)) 2 rfl (by rfl) (by kernel_rfl) ?_
     simp only [Act.put, szA, szB, szC]
     obtain ⟨v4, e4⟩ : ∃ V, Hid (V = v3.alloc (.cells zB16 26)) := ⟨_, Lib.hid rfl⟩
     rw [← e4.out]
     have g4 : Hid (Fr No v3 v4) := Lib.hid (by rw [e4.out]; exact (Fr.refl _ _).alloc _)
     have q4 : Hid (Bk v4 v3.heap.size 26 zB16) := Lib.hid (by rw [e4.out]; exact Bk.made _ _ _)
     have n4 : Hid (v4.heap.size = v3.heap.size + 1) := Lib.hid (by rw [e4.out]; simp)
     have D4 : Hid (Fr No V0 v4) := Lib.hid (D3.out.trans' g4.out (fun _ _ e => e))
     refine hK.out _ _ (HS.out _ (D4.out.weak (fun _ _ e => e.elim))) (fun hHeld => ?_)
     clear hK e4
     have b4 := q4.out.fr (Fr.refl No v4) (fun e => e)
     have hsz : Hid (v1.heap.size = w.heap.size + 3 ∧ v2.heap.size = w.heap.size + 4 ∧ v3.heap.size = w.heap.size + 5 ∧ V0.drew.heap.size = w.heap.size + 2) := Lib.hid (by have := n0.out; have := m0.out; have := n1.out; have := n2.out; have := n3.out; omega)
     have st9 := st_cat (v' := .slice (some ⟨v2.heap.size, 0, none⟩) 1 1) (b' := fun _ => 0) rfl rfl rfl b4
     have x1 : Fr (Only (v3.heap.size)) v4 (v4.setRow (v3.heap.size) (brA (.slice (some ⟨v2.heap.size, 0, none⟩) 1 1) fun _ => 0)) := fr_row12 (Fr.refl (Only (v3.heap.size)) v4) (.inl rfl) _
     have HFin : Hid (Fr No w (v4.setRow (v3.heap.size) (brA (.slice (some ⟨v2.heap.size, 0, none⟩) 1 1) fun _ => 0))) := Lib.hid ((G0.out.trans' D4.out (fun _ _ e => e)).trans' x1 (fun i hi e => by have e : i = v3.heap.size := e; have := hsz.out; omega))
     have HEx : Hid (Ex16 (v4.setRow (v3.heap.size) (brA (.slice (some ⟨v2.heap.size, 0, none⟩) 1 1) fun _ => 0)) w.heap.size (v2.heap.size) (v1.heap.size) (V0.drew.heap.size) (v3.heap.size)) := Lib.hid ⟨(bI.out.fr D4.out (fun e => e)).fr x1 (fun e => by have e : w.heap.size = v3.heap.size := e; have := hsz.out; omega), (q2.out.fr (((Fr.refl No v2).trans' g3.out (fun _ _ e => e)).trans' g4.out (fun _ _ e => e)) (fun e => e)).fr x1 (fun e => by have e : v1.heap.size = v3.heap.size := e; have := hsz.out; omega), (q1.out.fr ((((Fr.refl No v1).trans' g2.out (fun _ _ e => e)).trans' g3.out (fun _ _ e => e)).trans' g4.out (fun _ _ e => e)) (fun e => e)).fr x1 (fun e => by have e : V0.drew.heap.size = v3.heap.size := e; have := hsz.out; omega), (q3.out.fr ((Fr.refl No v3).trans' g4.out (fun _ _ e => e)) (fun e => e)).fr x1 (fun e => by have e : v2.heap.size = v3.heap.size := e; have := hsz.out; omega), bk_row12 b4 _⟩
     have s9 := HS.out (v4.setRow (v3.heap.size) (brA (.slice (some ⟨v2.heap.size, 0, none⟩) 1 1) fun _ => 0)) ((D4.out.weak (fun _ _ e => e.elim)).trans' x1 (fun i _ e => by have e : i = v3.heap.size := e; have := hsz.out; have := n0.out; omega))
     have hle : w.heap.size ≤ v3.heap.size := by have := hsz.out; omega
     refine any_store12 (i := 8) (by kernel_rfl) rfl rfl (by rfl) (exec_st rfl rfl st9) s9 ?_
     refine wpAnyH_done (by kernel_rfl) ?_ _
     clear hHeld b4 st9 x1 s9
     go_wp2
     go_meet
     exact ⟨v3.heap.size, v2.heap.size, v1.heap.size, V0.drew.heap.size, rfl, hle, HFin, HEx⟩
    ·refine oneH_val (v := (.pointer (some ⟨v2.heap.size, 0, none⟩))) (w' := v2.alloc (.cells zB16 26)) 2 rfl (by rfl) (by kernel_rfl) ?_
     simp only [Act.put, szA, szB, szC]
     obtain ⟨v3, e3⟩ : ∃ V, Hid (V = v2.alloc (.cells zB16 26)) := ⟨_, Lib.hid rfl⟩
     rw [← e3.out]
     have g3 : Hid (Fr No v2 v3) := Lib.hid (by rw [e3.out]; exact (Fr.refl _ _).alloc _)
     have q3 : Hid (Bk v3 v2.heap.size 26 zB16) := Lib.hid (by rw [e3.out]; exact Bk.made _ _ _)
     have n3 : Hid (v3.heap.size = v2.heap.size + 1) := Lib.hid (by rw [e3.out]; simp)
     have D3 : Hid (Fr No V0 v3) := Lib.hid (D2.out.trans' g3.out (fun _ _ e => e))
     refine hK.out _ _ (HS.out _ (D3.out.weak (fun _ _ e => e.elim))) (fun hHeld => ?_)
     clear hK e3
     refine wpAnyH_ready (rs := [5]) (by kernel_rfl) (by simp) ?_
     refine AllReadyH.cons rfl (fun K' hK => ?_) AllReadyH.nil
     refine oneH_val (v := (.slice (some ⟨v3.heap.size, 0, none⟩) 1 1)) (w' := v3.alloc (.cells (cA16 (v1.heap.size) (V0.drew.heap.size)) 49)) 13 rfl (by rfl) (by kernel_rfl) ?_
     simp only [Act.put, szA, szB, szC]
     obtain ⟨v4, e4⟩ : ∃ V, Hid (V = v3.alloc (.cells (cA16 (v1.heap.size) (V0.drew.heap.size)) 49)) := ⟨_, Lib.hid rfl⟩
     rw [← e4.out]
     have g4 : Hid (Fr No v3 v4) := Lib.hid (by rw [e4.out]; exact (Fr.refl _ _).alloc _)
     have q4 : Hid (Bk v4 v3.heap.size 49 (cA16 (v1.heap.size) (V0.drew.heap.size))) := Lib.hid (by rw [e4.out]; exact Bk.made _ _ _)
     have n4 : Hid (v4.heap.size = v3.heap.size + 1) := Lib.hid (by rw [e4.out]; simp)
     have D4 : Hid (Fr No V0 v4) := Lib.hid (D3.out.trans' g4.out (fun _ _ e => e))
     refine hK.out _ _ (HS.out _ (D4.out.weak (fun _ _ e => e.elim))) (fun hHeld => ?_)
     clear hK e4
     refine any_tk 14 (.agg (brA (.slice (some ⟨v3.heap.size, 0, none⟩) 1 1) fun _ => 0)) (i := 6) rfl rfl (by kernel_rfl) (fun _ _ _ h => h) (by rfl) (by intro w hSw; kernel_rfl) (by assumption) ?_
     simp only [Act.put, szA, szB, szC]
     have b4 := q3.out.fr ((Fr.refl No v3).trans' g4.out (fun _ _ e => e)) (fun e => e)
     have hsz : Hid (v1.heap.size = w.heap.size + 3 ∧ v2.heap.size = w.heap.size + 4 ∧ v3.heap.size = w.heap.size + 5 ∧ V0.drew.heap.size = w.heap.size + 2) := Lib.hid (by have := n0.out; have := m0.out; have := n1.out; have := n2.out; have := n3.out; omega)
     have st9 := st_cat (v' := .slice (some ⟨v3.heap.size, 0, none⟩) 1 1) (b' := fun _ => 0) rfl rfl rfl b4
     have x1 : Fr (Only (v2.heap.size)) v4 (v4.setRow (v2.heap.size) (brA (.slice (some ⟨v3.heap.size, 0, none⟩) 1 1) fun _ => 0)) := fr_row12 (Fr.refl (Only (v2.heap.size)) v4) (.inl rfl) _
     have HFin : Hid (Fr No w (v4.setRow (v2.heap.size) (brA (.slice (some ⟨v3.heap.size, 0, none⟩) 1 1) fun _ => 0))) := Lib.hid ((G0.out.trans' D4.out (fun _ _ e => e)).trans' x1 (fun i hi e => by have e : i = v2.heap.size := e; have := hsz.out; omega))
     have HEx : Hid (Ex16 (v4.setRow (v2.heap.size) (brA (.slice (some ⟨v3.heap.size, 0, none⟩) 1 1) fun _ => 0)) w.heap.size (v3.heap.size) (v1.heap.size) (V0.drew.heap.size) (v2.heap.size)) := Lib.hid ⟨(bI.out.fr D4.out (fun e => e)).fr x1 (fun e => by have e : w.heap.size = v2.heap.size := e; have := hsz.out; omega), (q2.out.fr (((Fr.refl No v2).trans' g3.out (fun _ _ e => e)).trans' g4.out (fun _ _ e => e)) (fun e => e)).fr x1 (fun e => by have e : v1.heap.size = v2.heap.size := e; have := hsz.out; omega), (q1.out.fr ((((Fr.refl No v1).trans' g2.out (fun _ _ e => e)).trans' g3.out (fun _ _ e => e)).trans' g4.out (fun _ _ e => e)) (fun e => e)).fr x1 (fun e => by have e : V0.drew.heap.size = v2.heap.size := e; have := hsz.out; omega), (q4.out.fr (Fr.refl No v4) (fun e => e)).fr x1 (fun e => by have e : v3.heap.size = v2.heap.size := e; have := hsz.out; omega), bk_row12 b4 _⟩
     have s9 := HS.out (v4.setRow (v2.heap.size) (brA (.slice (some ⟨v3.heap.size, 0, none⟩) 1 1) fun _ => 0)) ((D4.out.weak (fun _ _ e => e.elim)).trans' x1 (fun i _ e => by have e : i = v2.heap.size := e; have := hsz.out; have := n0.out; omega))
     have hle : w.heap.size ≤ v2.heap.size := by have := hsz.out; omega
     refine any_store12 (i := 8) (by kernel_rfl) rfl rfl (by rfl) (exec_st rfl rfl st9) s9 ?_
     refine wpAnyH_done (by kernel_rfl) ?_ _
     clear hHeld b4 st9 x1 s9
     go_wp2
     go_meet
     exact ⟨v2.heap.size, v3.heap.size, v1.heap.size, V0.drew.heap.size, rfl, hle, HFin, HEx⟩
   ·refine oneH_val (v := (.pointer (some ⟨v1.heap.size, 0, none⟩))) (w' := v1.alloc (.cells zB16 26)) 2 rfl (by rfl) (by kernel_rfl) ?_
    simp only [Act.put, szA, szB, szC]
    obtain ⟨v2, e2⟩ : ∃ V, Hid (V = v1.alloc (.cells zB16 26)) := ⟨_, Lib.hid rfl⟩
    rw [← e2.out]
    have g2 : Hid (Fr No v1 v2) := Lib.hid (by rw [e2.out]; exact (Fr.refl _ _).alloc _)
    have q2 : Hid (Bk v2 v1.heap.size 26 zB16) := Lib.hid (by rw [e2.out]; exact Bk.made _ _ _)
    have n2 : Hid (v2.heap.size = v1.heap.size + 1) := Lib.hid (by rw [e2.out]; simp)
    have D2 : Hid (Fr No V0 v2) := Lib.hid (D1.out.trans' g2.out (fun _ _ e => e))
    refine hK.out _ _ (HS.out _ (D2.out.weak (fun _ _ e => e.elim))) (fun hHeld => ?_)
    clear hK e2
    refine wpAnyH_ready (rs := [2]) (by kernel_rfl) (by simp) ?_
    refine AllReadyH.cons rfl (fun K' hK => ?_) AllReadyH.nil
    refine oneH_val (v := (.slice (some ⟨v2.heap.size, 0, none⟩) 2 2)) (w' := v2.alloc (.cells (sA16 w.heap.size) 46)) 10 rfl (by rfl) (by kernel_rfl) ?_
    simp only [Act.put, szA, szB, szC]
    obtain ⟨v3, e3⟩ : ∃ V, Hid (V = v2.alloc (.cells (sA16 w.heap.size) 46)) := ⟨_, Lib.hid rfl⟩
    rw [← e3.out]
    have g3 : Hid (Fr No v2 v3) := Lib.hid (by rw [e3.out]; exact (Fr.refl _ _).alloc _)
    have q3 : Hid (Bk v3 v2.heap.size 46 (sA16 w.heap.size)) := Lib.hid (by rw [e3.out]; exact Bk.made _ _ _)
    have n3 : Hid (v3.heap.size = v2.heap.size + 1) := Lib.hid (by rw [e3.out]; simp)
    have D3 : Hid (Fr No V0 v3) := Lib.hid (D2.out.trans' g3.out (fun _ _ e => e))
    refine hK.out _ _ (HS.out _ (D3.out.weak (fun _ _ e => e.elim))) (fun hHeld => ?_)
    clear hK e3
    refine any_tk 12 (.agg #[.string ⟨#[97]⟩, .int .i64 0, .slice (some ⟨v2.heap.size, 0, none⟩) 2 2, .slice (some ⟨V0.drew.heap.size, 0, none⟩) 2 2, .bool false]) (i := 4) rfl rfl (by kernel_rfl) (fun _ _ _ h => h) (by rfl) (by intro w hSw; kernel_rfl) (by assumption) ?_
    simp only [Act.put, szA, szB, szC]
    refine wpAnyH_ready (rs := [5]) (by kernel_rfl) (by simp) ?_
    refine AllReadyH.cons rfl (fun K' hK => ?_) AllReadyH.nil
    refine oneH_val (v := (.slice (some ⟨v3.heap.size, 0, none⟩) 1 1)) (w' := v3.alloc (.cells (cA16 (v2.heap.size) (V0.drew.heap.size)) 49)) 13 rfl (by rfl) (by kernel_rfl) ?_
    simp only [Act.put, szA, szB, szC]
    obtain ⟨v4, e4⟩ : ∃ V, Hid (V = v3.alloc (.cells (cA16 (v2.heap.size) (V0.drew.heap.size)) 49)) := ⟨_, Lib.hid rfl⟩
    rw [← e4.out]
    have g4 : Hid (Fr No v3 v4) := Lib.hid (by rw [e4.out]; exact (Fr.refl _ _).alloc _)
    have q4 : Hid (Bk v4 v3.heap.size 49 (cA16 (v2.heap.size) (V0.drew.heap.size))) := Lib.hid (by rw [e4.out]; exact Bk.made _ _ _)
    have n4 : Hid (v4.heap.size = v3.heap.size + 1) := Lib.hid (by rw [e4.out]; simp)
    have D4 : Hid (Fr No V0 v4) := Lib.hid (D3.out.trans' g4.out (fun _ _ e => e))
    refine hK.out _ _ (HS.out _ (D4.out.weak (fun _ _ e => e.elim))) (fun hHeld => ?_)
    clear hK e4
    refine any_tk 14 (.agg (brA (.slice (some ⟨v3.heap.size, 0, none⟩) 1 1) fun _ => 0)) (i := 6) rfl rfl (by kernel_rfl) (fun _ _ _ h => h) (by rfl) (by intro w hSw; kernel_rfl) (by assumption) ?_
    simp only [Act.put, szA, szB, szC]
    have b4 := q2.out.fr (((Fr.refl No v2).trans' g3.out (fun _ _ e => e)).trans' g4.out (fun _ _ e => e)) (fun e => e)
    have hsz : Hid (v1.heap.size = w.heap.size + 3 ∧ v2.heap.size = w.heap.size + 4 ∧ v3.heap.size = w.heap.size + 5 ∧ V0.drew.heap.size = w.heap.size + 2) := Lib.hid (by have := n0.out; have := m0.out; have := n1.out; have := n2.out; have := n3.out; omega)
    have st9 := st_cat (v' := .slice (some ⟨v3.heap.size, 0, none⟩) 1 1) (b' := fun _ => 0) rfl rfl rfl b4
    have x1 : Fr (Only (v1.heap.size)) v4 (v4.setRow (v1.heap.size) (brA (.slice (some ⟨v3.heap.size, 0, none⟩) 1 1) fun _ => 0)) := fr_row12 (Fr.refl (Only (v1.heap.size)) v4) (.inl rfl) _
    have HFin : Hid (Fr No w (v4.setRow (v1.heap.size) (brA (.slice (some ⟨v3.heap.size, 0, none⟩) 1 1) fun _ => 0))) := Lib.hid ((G0.out.trans' D4.out (fun _ _ e => e)).trans' x1 (fun i hi e => by have e : i = v1.heap.size := e; have := hsz.out; omega))
    have HEx : Hid (Ex16 (v4.setRow (v1.heap.size) (brA (.slice (some ⟨v3.heap.size, 0, none⟩) 1 1) fun _ => 0)) w.heap.size (v3.heap.size) (v2.heap.size) (V0.drew.heap.size) (v1.heap.size)) := Lib.hid ⟨(bI.out.fr D4.out (fun e => e)).fr x1 (fun e => by have e : w.heap.size = v1.heap.size := e; have := hsz.out; omega), (q3.out.fr ((Fr.refl No v3).trans' g4.out (fun _ _ e => e)) (fun e => e)).fr x1 (fun e => by have e : v2.heap.size = v1.heap.size := e; have := hsz.out; omega), (q1.out.fr ((((Fr.refl No v1).trans' g2.out (fun _ _ e => e)).trans' g3.out (fun _ _ e => e)).trans' g4.out (fun _ _ e => e)) (fun e => e)).fr x1 (fun e => by have e : V0.drew.heap.size = v1.heap.size := e; have := hsz.out; omega), (q4.out.fr (Fr.refl No v4) (fun e => e)).fr x1 (fun e => by have e : v3.heap.size = v1.heap.size := e; have := hsz.out; omega), bk_row12 b4 _⟩
    have s9 := HS.out (v4.setRow (v1.heap.size) (brA (.slice (some ⟨v3.heap.size, 0, none⟩) 1 1) fun _ => 0)) ((D4.out.weak (fun _ _ e => e.elim)).trans' x1 (fun i _ e => by have e : i = v1.heap.size := e; have := hsz.out; have := n0.out; omega))
    have hle : w.heap.size ≤ v1.heap.size := by have := hsz.out; omega
    refine any_store12 (i := 8) (by kernel_rfl) rfl rfl (by rfl) (exec_st rfl rfl st9) s9 ?_
    refine wpAnyH_done (by kernel_rfl) ?_ _
    clear hHeld b4 st9 x1 s9
    go_wp2
    go_meet
    exact ⟨v1.heap.size, v3.heap.size, v2.heap.size, V0.drew.heap.size, rfl, hle, HFin, HEx⟩
  ·refine oneH_val (v := (.pointer (some ⟨V0.drew.heap.size, 0, none⟩))) (w' := V0.drew.alloc (.cells zB16 26)) 2 rfl (by rfl) (by kernel_rfl) ?_
   simp only [Act.put, szA, szB, szC]
   obtain ⟨v1, e1⟩ : ∃ V, Hid (V = V0.drew.alloc (.cells zB16 26)) := ⟨_, Lib.hid rfl⟩
   rw [← e1.out]
   have g1 : Hid (Fr No V0.drew v1) := Lib.hid (by rw [e1.out]; exact (Fr.refl _ _).alloc _)
   have q1 : Hid (Bk v1 V0.drew.heap.size 26 zB16) := Lib.hid (by rw [e1.out]; exact Bk.made _ _ _)
   have n1 : Hid (v1.heap.size = V0.drew.heap.size + 1) := Lib.hid (by rw [e1.out]; simp)
   have D1 : Hid (Fr No V0 v1) := Lib.hid (D0.out.trans' g1.out (fun _ _ e => e))
   refine hK.out _ _ (HS.out _ (D1.out.weak (fun _ _ e => e.elim))) (fun hHeld => ?_)
   clear hK e1
   refine wpAnyH_ready (rs := [2, 3]) (by kernel_rfl) (by simp) ?_
   refine AllReadyH.cons rfl (fun K' hK => ?_) (AllReadyH.cons rfl (fun K' hK => ?_) AllReadyH.nil)
   ·refine oneH_val (v := (.slice (some ⟨v1.heap.size, 0, none⟩) 2 2)) (w' := v1.alloc (.cells (sA16 w.heap.size) 46)) 10 rfl (by rfl) (by kernel_rfl) ?_
    simp only [Act.put, szA, szB, szC]
    obtain ⟨v2, e2⟩ : ∃ V, Hid (V = v1.alloc (.cells (sA16 w.heap.size) 46)) := ⟨_, Lib.hid rfl⟩
    rw [← e2.out]
    have g2 : Hid (Fr No v1 v2) := Lib.hid (by rw [e2.out]; exact (Fr.refl _ _).alloc _)
    have q2 : Hid (Bk v2 v1.heap.size 46 (sA16 w.heap.size)) := Lib.hid (by rw [e2.out]; exact Bk.made _ _ _)
    have n2 : Hid (v2.heap.size = v1.heap.size + 1) := Lib.hid (by rw [e2.out]; simp)
    have D2 : Hid (Fr No V0 v2) := Lib.hid (D1.out.trans' g2.out (fun _ _ e => e))
    refine hK.out _ _ (HS.out _ (D2.out.weak (fun _ _ e => e.elim))) (fun hHeld => ?_)
    clear hK e2
    refine wpAnyH_ready (rs := [3]) (by kernel_rfl) (by simp) ?_
    refine AllReadyH.cons rfl (fun K' hK => ?_) AllReadyH.nil
    refine oneH_val (v := (.slice (some ⟨v2.heap.size, 0, none⟩) 2 2)) (w' := v2.alloc (.cells zA16 46)) 11 rfl (by rfl) (by kernel_rfl) ?_
    simp only [Act.put, szA, szB, szC]
    obtain ⟨v3, e3⟩ : ∃ V, Hid (V = v2.alloc (.cells zA16 46)) := ⟨_, Lib.hid rfl⟩
    rw [← e3.out]
    have g3 : Hid (Fr No v2 v3) := Lib.hid (by rw [e3.out]; exact (Fr.refl _ _).alloc _)
    have q3 : Hid (Bk v3 v2.heap.size 46 zA16) := Lib.hid (by rw [e3.out]; exact Bk.made _ _ _)
    have n3 : Hid (v3.heap.size = v2.heap.size + 1) := Lib.hid (by rw [e3.out]; simp)
    have D3 : Hid (Fr No V0 v3) := Lib.hid (D2.out.trans' g3.out (fun _ _ e => e))
    refine hK.out _ _ (HS.out _ (D3.out.weak (fun _ _ e => e.elim))) (fun hHeld => ?_)
    clear hK e3
    refine any_tk 12 (.agg #[.string ⟨#[97]⟩, .int .i64 0, .slice (some ⟨v1.heap.size, 0, none⟩) 2 2, .slice (some ⟨v2.heap.size, 0, none⟩) 2 2, .bool false]) (i := 4) rfl rfl (by kernel_rfl) (fun _ _ _ h => h) (by rfl) (by intro w hSw; kernel_rfl) (by assumption) ?_
    simp only [Act.put, szA, szB, szC]
    refine wpAnyH_ready (rs := [5]) (by kernel_rfl) (by simp) ?_
    refine AllReadyH.cons rfl (fun K' hK => ?_) AllReadyH.nil
    refine oneH_val (v := (.slice (some ⟨v3.heap.size, 0, none⟩) 1 1)) (w' := v3.alloc (.cells (cA16 (v1.heap.size) (v2.heap.size)) 49)) 13 rfl (by rfl) (by kernel_rfl) ?_
    simp only [Act.put, szA, szB, szC]
    obtain ⟨v4, e4⟩ : ∃ V, Hid (V = v3.alloc (.cells (cA16 (v1.heap.size) (v2.heap.size)) 49)) := ⟨_, Lib.hid rfl⟩
    rw [← e4.out]
    have g4 : Hid (Fr No v3 v4) := Lib.hid (by rw [e4.out]; exact (Fr.refl _ _).alloc _)
    have q4 : Hid (Bk v4 v3.heap.size 49 (cA16 (v1.heap.size) (v2.heap.size))) := Lib.hid (by rw [e4.out]; exact Bk.made _ _ _)
    have n4 : Hid (v4.heap.size = v3.heap.size + 1) := Lib.hid (by rw [e4.out]; simp)
    have D4 : Hid (Fr No V0 v4) := Lib.hid (D3.out.trans' g4.out (fun _ _ e => e))
    refine hK.out _ _ (HS.out _ (D4.out.weak (fun _ _ e => e.elim))) (fun hHeld => ?_)
    clear hK e4
    refine any_tk 14 (.agg (brA (.slice (some ⟨v3.heap.size, 0, none⟩) 1 1) fun _ => 0)) (i := 6) rfl rfl (by kernel_rfl) (fun _ _ _ h => h) (by rfl) (by intro w hSw; kernel_rfl) (by assumption) ?_
    simp only [Act.put, szA, szB, szC]
    have b4 := q1.out.fr ((((Fr.refl No v1).trans' g2.out (fun _ _ e => e)).trans' g3.out (fun _ _ e => e)).trans' g4.out (fun _ _ e => e)) (fun e => e)
    have hsz : Hid (v1.heap.size = w.heap.size + 3 ∧ v2.heap.size = w.heap.size + 4 ∧ v3.heap.size = w.heap.size + 5 ∧ V0.drew.heap.size = w.heap.size + 2) := Lib.hid (by have := n0.out; have := m0.out; have := n1.out; have := n2.out; have := n3.out; omega)
    have st9 := st_cat (v' := .slice (some ⟨v3.heap.size, 0, none⟩) 1 1) (b' := fun _ => 0) rfl rfl rfl b4
    have x1 : Fr (Only (V0.drew.heap.size)) v4 (v4.setRow (V0.drew.heap.size) (brA (.slice (some ⟨v3.heap.size, 0, none⟩) 1 1) fun _ => 0)) := fr_row12 (Fr.refl (Only (V0.drew.heap.size)) v4) (.inl rfl) _
    have HFin : Hid (Fr No w (v4.setRow (V0.drew.heap.size) (brA (.slice (some ⟨v3.heap.size, 0, none⟩) 1 1) fun _ => 0))) := Lib.hid ((G0.out.trans' D4.out (fun _ _ e => e)).trans' x1 (fun i hi e => by have e : i = V0.drew.heap.size := e; have := hsz.out; omega))
    have HEx : Hid (Ex16 (v4.setRow (V0.drew.heap.size) (brA (.slice (some ⟨v3.heap.size, 0, none⟩) 1 1) fun _ => 0)) w.heap.size (v3.heap.size) (v1.heap.size) (v2.heap.size) (V0.drew.heap.size)) := Lib.hid ⟨(bI.out.fr D4.out (fun e => e)).fr x1 (fun e => by have e : w.heap.size = V0.drew.heap.size := e; have := hsz.out; omega), (q2.out.fr (((Fr.refl No v2).trans' g3.out (fun _ _ e => e)).trans' g4.out (fun _ _ e => e)) (fun e => e)).fr x1 (fun e => by have e : v1.heap.size = V0.drew.heap.size := e; have := hsz.out; omega), (q3.out.fr ((Fr.refl No v3).trans' g4.out (fun _ _ e => e)) (fun e => e)).fr x1 (fun e => by have e : v2.heap.size = V0.drew.heap.size := e; have := hsz.out; omega), (q4.out.fr (Fr.refl No v4) (fun e => e)).fr x1 (fun e => by have e : v3.heap.size = V0.drew.heap.size := e; have := hsz.out; omega), bk_row12 b4 _⟩
    have s9 := HS.out (v4.setRow (V0.drew.heap.size) (brA (.slice (some ⟨v3.heap.size, 0, none⟩) 1 1) fun _ => 0)) ((D4.out.weak (fun _ _ e => e.elim)).trans' x1 (fun i _ e => by have e : i = V0.drew.heap.size := e; have := hsz.out; have := n0.out; omega))
    have hle : w.heap.size ≤ V0.drew.heap.size := by have := hsz.out; omega
    refine any_store12 (i := 8) (by kernel_rfl) rfl rfl (by rfl) (exec_st rfl rfl st9) s9 ?_
    refine wpAnyH_done (by kernel_rfl) ?_ _
    clear hHeld b4 st9 x1 s9
    go_wp2
    go_meet
    exact ⟨V0.drew.heap.size, v3.heap.size, v1.heap.size, v2.heap.size, rfl, hle, HFin, HEx⟩
   ·refine oneH_val (v := (.slice (some ⟨v1.heap.size, 0, none⟩) 2 2)) (w' := v1.alloc (.cells zA16 46)) 11 rfl (by rfl) (by kernel_rfl) ?_
    simp only [Act.put, szA, szB, szC]
    obtain ⟨v2, e2⟩ : ∃ V, Hid (V = v1.alloc (.cells zA16 46)) := ⟨_, Lib.hid rfl⟩
    rw [← e2.out]
    have g2 : Hid (Fr No v1 v2) := Lib.hid (by rw [e2.out]; exact (Fr.refl _ _).alloc _)
    have q2 : Hid (Bk v2 v1.heap.size 46 zA16) := Lib.hid (by rw [e2.out]; exact Bk.made _ _ _)
    have n2 : Hid (v2.heap.size = v1.heap.size + 1) := Lib.hid (by rw [e2.out]; simp)
    have D2 : Hid (Fr No V0 v2) := Lib.hid (D1.out.trans' g2.out (fun _ _ e => e))
    refine hK.out _ _ (HS.out _ (D2.out.weak (fun _ _ e => e.elim))) (fun hHeld => ?_)
    clear hK e2
    refine wpAnyH_ready (rs := [2]) (by kernel_rfl) (by simp) ?_
    refine AllReadyH.cons rfl (fun K' hK => ?_) AllReadyH.nil
    refine oneH_val (v := (.slice (some ⟨v2.heap.size, 0, none⟩) 2 2)) (w' := v2.alloc (.cells (sA16 w.heap.size) 46)) 10 rfl (by rfl) (by kernel_rfl) ?_
    simp only [Act.put, szA, szB, szC]
    obtain ⟨v3, e3⟩ : ∃ V, Hid (V = v2.alloc (.cells (sA16 w.heap.size) 46)) := ⟨_, Lib.hid rfl⟩
    rw [← e3.out]
    have g3 : Hid (Fr No v2 v3) := Lib.hid (by rw [e3.out]; exact (Fr.refl _ _).alloc _)
    have q3 : Hid (Bk v3 v2.heap.size 46 (sA16 w.heap.size)) := Lib.hid (by rw [e3.out]; exact Bk.made _ _ _)
    have n3 : Hid (v3.heap.size = v2.heap.size + 1) := Lib.hid (by rw [e3.out]; simp)
    have D3 : Hid (Fr No V0 v3) := Lib.hid (D2.out.trans' g3.out (fun _ _ e => e))
    refine hK.out _ _ (HS.out _ (D3.out.weak (fun _ _ e => e.elim))) (fun hHeld => ?_)
    clear hK e3
    refine any_tk 12 (.agg #[.string ⟨#[97]⟩, .int .i64 0, .slice (some ⟨v2.heap.size, 0, none⟩) 2 2, .slice (some ⟨v1.heap.size, 0, none⟩) 2 2, .bool false]) (i := 4) rfl rfl (by kernel_rfl) (fun _ _ _ h => h) (by rfl) (by intro w hSw; kernel_rfl) (by assumption) ?_
    simp only [Act.put, szA, szB, szC]
    refine wpAnyH_ready (rs := [5]) (by kernel_rfl) (by simp) ?_
    refine AllReadyH.cons rfl (fun K' hK => ?_) AllReadyH.nil
    refine oneH_val (v := (.slice (some ⟨v3.heap.size, 0, none⟩) 1 1)) (w' := v3.alloc (.cells (cA16 (v2.heap.size) (v1.heap.size)) 49)) 13 rfl (by rfl) (by kernel_rfl) ?_
    simp only [Act.put, szA, szB, szC]
    obtain ⟨v4, e4⟩ : ∃ V, Hid (V = v3.alloc (.cells (cA16 (v2.heap.size) (v1.heap.size)) 49)) := ⟨_, Lib.hid rfl⟩
    rw [← e4.out]
    have g4 : Hid (Fr No v3 v4) := Lib.hid (by rw [e4.out]; exact (Fr.refl _ _).alloc _)
    have q4 : Hid (Bk v4 v3.heap.size 49 (cA16 (v2.heap.size) (v1.heap.size))) := Lib.hid (by rw [e4.out]; exact Bk.made _ _ _)
    have n4 : Hid (v4.heap.size = v3.heap.size + 1) := Lib.hid (by rw [e4.out]; simp)
    have D4 : Hid (Fr No V0 v4) := Lib.hid (D3.out.trans' g4.out (fun _ _ e => e))
    refine hK.out _ _ (HS.out _ (D4.out.weak (fun _ _ e => e.elim))) (fun hHeld => ?_)
    clear hK e4
    refine any_tk 14 (.agg (brA (.slice (some ⟨v3.heap.size, 0, none⟩) 1 1) fun _ => 0)) (i := 6) rfl rfl (by kernel_rfl) (fun _ _ _ h => h) (by rfl) (by intro w hSw; kernel_rfl) (by assumption) ?_
    simp only [Act.put, szA, szB, szC]
    have b4 := q1.out.fr ((((Fr.refl No v1).trans' g2.out (fun _ _ e => e)).trans' g3.out (fun _ _ e => e)).trans' g4.out (fun _ _ e => e)) (fun e => e)
    have hsz : Hid (v1.heap.size = w.heap.size + 3 ∧ v2.heap.size = w.heap.size + 4 ∧ v3.heap.size = w.heap.size + 5 ∧ V0.drew.heap.size = w.heap.size + 2) := Lib.hid (by have := n0.out; have := m0.out; have := n1.out; have := n2.out; have := n3.out; omega)
    have st9 := st_cat (v' := .slice (some ⟨v3.heap.size, 0, none⟩) 1 1) (b' := fun _ => 0) rfl rfl rfl b4
    have x1 : Fr (Only (V0.drew.heap.size)) v4 (v4.setRow (V0.drew.heap.size) (brA (.slice (some ⟨v3.heap.size, 0, none⟩) 1 1) fun _ => 0)) := fr_row12 (Fr.refl (Only (V0.drew.heap.size)) v4) (.inl rfl) _
    have HFin : Hid (Fr No w (v4.setRow (V0.drew.heap.size) (brA (.slice (some ⟨v3.heap.size, 0, none⟩) 1 1) fun _ => 0))) := Lib.hid ((G0.out.trans' D4.out (fun _ _ e => e)).trans' x1 (fun i hi e => by have e : i = V0.drew.heap.size := e; have := hsz.out; omega))
    have HEx : Hid (Ex16 (v4.setRow (V0.drew.heap.size) (brA (.slice (some ⟨v3.heap.size, 0, none⟩) 1 1) fun _ => 0)) w.heap.size (v3.heap.size) (v2.heap.size) (v1.heap.size) (V0.drew.heap.size)) := Lib.hid ⟨(bI.out.fr D4.out (fun e => e)).fr x1 (fun e => by have e : w.heap.size = V0.drew.heap.size := e; have := hsz.out; omega), (q3.out.fr ((Fr.refl No v3).trans' g4.out (fun _ _ e => e)) (fun e => e)).fr x1 (fun e => by have e : v2.heap.size = V0.drew.heap.size := e; have := hsz.out; omega), (q2.out.fr (((Fr.refl No v2).trans' g3.out (fun _ _ e => e)).trans' g4.out (fun _ _ e => e)) (fun e => e)).fr x1 (fun e => by have e : v1.heap.size = V0.drew.heap.size := e; have := hsz.out; omega), (q4.out.fr (Fr.refl No v4) (fun e => e)).fr x1 (fun e => by have e : v3.heap.size = V0.drew.heap.size := e; have := hsz.out; omega), bk_row12 b4 _⟩
    have s9 := HS.out (v4.setRow (V0.drew.heap.size) (brA (.slice (some ⟨v3.heap.size, 0, none⟩) 1 1) fun _ => 0)) ((D4.out.weak (fun _ _ e => e.elim)).trans' x1 (fun i _ e => by have e : i = V0.drew.heap.size := e; have := hsz.out; have := n0.out; omega))
    have hle : w.heap.size ≤ V0.drew.heap.size := by have := hsz.out; omega
    refine any_store12 (i := 8) (by kernel_rfl) rfl rfl (by rfl) (exec_st rfl rfl st9) s9 ?_
    refine wpAnyH_done (by kernel_rfl) ?_ _
    clear hHeld b4 st9 x1 s9
    go_wp2
    go_meet
    exact ⟨V0.drew.heap.size, v3.heap.size, v2.heap.size, v1.heap.size, rfl, hle, HFin, HEx⟩
 case rest =>
  obtain ⟨X, C, A1, A2, rfl, hXw, hf, hE⟩ := hcut
  have mk := fun (n : Int) (W : World) => show ∀ W', W' = W.alloc (.cells #[.int .i64 n, .int .i64 n] 51) → Hid (Bk W' W.heap.size 51 #[.int .i64 n, .int .i64 n]) ∧ Hid (Fr No W W') from fun W' e => by rw [e]; exact ⟨Lib.hid (Bk.made _ _ _), Lib.hid ((Fr.refl _ _).alloc _)⟩
  go_wp2_with fail
  refine (kspan17 5 _).mono ?_
  rintro e v1 ⟨rfl, e1⟩
  obtain ⟨b1, f1⟩ := mk 5 _ v1 e1
  clear e1
  go_wp2_with fail
  refine (kspan17 5 _).mono ?_
  rintro e v2 ⟨rfl, e2⟩
  obtain ⟨b2, f2⟩ := mk 5 _ v2 e2
  clear e2
  go_wp2_with fail
  refine (kspan17 6 _).mono ?_
  rintro e v3 ⟨rfl, e3⟩
  obtain ⟨b3, f3⟩ := mk 6 _ v3 e3
  clear e3
  go_wp2_with fail
  refine (kspan17 7 _).mono ?_
  rintro e v4 ⟨rfl, e4⟩
  obtain ⟨b4, f4⟩ := mk 7 _ v4 e4
  clear e4 mk
  obtain ⟨a, ha⟩ : ∃ a, wc.heap.size = a := ⟨_, rfl⟩
  obtain ⟨b, hb⟩ : ∃ a, v1.heap.size = a := ⟨_, rfl⟩
  obtain ⟨c, hc⟩ : ∃ a, v2.heap.size = a := ⟨_, rfl⟩
  obtain ⟨d, hd⟩ : ∃ a, v3.heap.size = a := ⟨_, rfl⟩
  rw [ha] at b1
  rw [hb] at b2
  rw [hc] at b3
  rw [hd] at b4
  simp only [ha, hb, hc, hd]
  clear ha hb hc hd
  obtain ⟨V, hV⟩ : ∃ V, V = v4.alloc (.cells (nA17 a b c d) 37) := ⟨_, rfl⟩
  have f5 : Fr No v4 V := by rw [hV]; exact (Fr.refl _ _).alloc _
  have g34 := f4.out.trans' f5 (fun _ _ e => e)
  have g2 := f3.out.trans' g34 (fun _ _ e => e)
  have g1 := f2.out.trans' g2 (fun _ _ e => e)
  have g0 := f1.out.trans' g1 (fun _ _ e => e)
  have HN : Hid (Nds V (some ⟨v4.heap.size, 0, none⟩) (hist17 a b c d)) := Lib.hid (hist17_nds (b1.out.fr g1 (fun e => e)) (b2.out.fr g2 (fun e => e)) (b3.out.fr g34 (fun e => e)) (b4.out.fr f5 (fun e => e)) (by rw [hV]; exact Bk.made _ _ _))
  have HE := Lib.hid (hE.out.since g0)
  have HFV := Lib.hid (hf.out.trans' g0 (fun _ _ e => e))
  have HC := Lib.hid (fun (l : List Int) (r : Bool) (hr : r = true ↔ isOrd 4 l = true ∧ fairP exP16 exH17 (plc l)) (L : Option Addr) (lc : Nat) W (hW : Fr No V W) (hs : Sl W W.heap.size L (ints l)) (hl : l.length = 4) => HFd.out (exX16 w.heap.size C A1 A2) (hist17 a b c d) (some ⟨v4.heap.size, 0, none⟩) 4 4 l L 4 lc W ⟨(HE.out.since hW).ok, HN.out.since hW, rfl, by omega, by omega, exX16_big _ _ _ _, hist17_few _ _ _ _⟩ hs hl (by omega) r (hr.trans ⟨fun q => ⟨ex17_may, q⟩, fun q => q.2⟩))
  unfold Ctl.agg at HC
  obtain ⟨Z, hZ⟩ : ∃ Z, Z = Ctl.arr (exX16 w.heap.size C A1 A2) := ⟨_, rfl⟩
  rw [← hZ] at HC
  have HLd := Lib.hid (fun W (hW : Fr No V W) => show LdO W 26 ⟨X, 0, none⟩ (.agg Z) from ld_cat (v := .slice (some ⟨C, 0, none⟩) 1 1) (b := fun _ => 0) hZ (by rw [hZ]; exact (HE.out.since hW).x))
  unfold nA17 at hV
  clear HN hE hf hZ HFd f5 g34 g2 g1 g0 b1 b2 b3 b4 f1 f2 f3 f4
  obtain ⟨U1, hU1⟩ : ∃ U, U = V.alloc (.cells #[.int .i64 0, .int .i64 2, .int .i64 1, .int .i64 3] 3) := ⟨_, rfl⟩
  have HU1 : Hid (Fr No V U1) := Lib.hid (by rw [hU1]; exact (Fr.refl _ _).alloc _)
  have HS1 : Hid (Sl U1 U1.heap.size (some ⟨V.heap.size, 0, none⟩) (ints [0, 2, 1, 3])) := Lib.hid (by rw [hU1, show (V.alloc (.cells #[.int .i64 0, .int .i64 2, .int .i64 1, .int .i64 3] 3)).heap.size = V.heap.size + 1 by simp]; exact Sl.made V 3 #[.int .i64 0, .int .i64 2, .int .i64 1, .int .i64 3])
  have HLw := Lib.hid (HLd.out U1 HU1.out)
  have HLv := Lib.hid (HLd.out V (Fr.refl _ _))
  have hwe := hV.symm
  have hue := hU1.symm
  clear hV hU1
  go_wp2_with (first
   | rw [hwe]
   | ((with_reducible refine wpl_ld ?_ ?_ HLv.out ?_); (· rfl); (· rfl); simp only [Act.put, szA, szB, szC])
   | rw [hue])
  refine (HC.out [0, 2, 1, 3] true ⟨fun _ => ⟨ex17_one, ex17_fair⟩, fun _ => rfl⟩ _ _ _ HU1.out HS1.out rfl).mono ?_
  rintro e w5 ⟨rfl, f5⟩
  have F5 := Lib.hid (HU1.out.trans' f5 (fun _ _ e => e))
  clear f5 HLw HLv HS1 HU1 hwe hue
  have HLw := Lib.hid (HLd.out _ F5.out)
  obtain ⟨U2, hU2⟩ : ∃ U, U = w5.alloc (.cells #[.int .i64 0, .int .i64 1, .int .i64 2, .int .i64 3] 3) := ⟨_, rfl⟩
  have HU2 : Hid (Fr No V U2) := Lib.hid (F5.out.trans' (by rw [hU2]; exact (Fr.refl No w5).alloc _) (fun _ _ e => e))
  have HS2 : Hid (Sl U2 U2.heap.size (some ⟨w5.heap.size, 0, none⟩) (ints [0, 1, 2, 3])) := Lib.hid (by rw [hU2, show (w5.alloc (.cells #[.int .i64 0, .int .i64 1, .int .i64 2, .int .i64 3] 3)).heap.size = w5.heap.size + 1 by simp]; exact Sl.made w5 3 #[.int .i64 0, .int .i64 1, .int .i64 2, .int .i64 3])
  have hue := hU2.symm
  clear hU2
  go_wp2_with (first
   | ((with_reducible refine wpl_ld ?_ ?_ HLw.out ?_); (· rfl); (· rfl); simp only [Act.put, szA, szB, szC])
   | ((with_reducible refine wpl_ldg ?_ ?_ HLw.out ?_); (· rfl); (· rfl); simp only [Act.put, szA, szB, szC])
   | rw [hue])
  refine (HC.out [0, 1, 2, 3] false ⟨fun e => Bool.noConfusion e, fun q => absurd q.2 ex17_bad⟩ _ _ _ HU2.out HS2.out rfl).mono ?_
  rintro e w6 ⟨rfl, f6⟩
  have F6 := Lib.hid (HU2.out.trans' f6 (fun _ _ e => e))
  clear f6
  go_wp2
  go_ret
  exact ⟨rfl, HFV.out.trans' F6.out (fun _ _ e => e)⟩
end Go.Proofs.YtmeimhpllemjfaaGreat
