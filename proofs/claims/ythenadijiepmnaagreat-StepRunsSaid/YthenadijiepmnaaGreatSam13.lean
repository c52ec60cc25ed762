/- Package step: do two outcomes conflict? -/
import Derived.Test.YthenadijiepmnaaGreatKeys4
import Derived.Test.YthenadijiepmnaaGreatHand
import Derived.Test.YthenadijiepmnaaGreatMpc13
import Derived.Test.YthenadijiepmnaaGreatCov10
import Derived.Test.YthenadijiepmnaaGreatRpa13
namespace Go.Proofs.YthenadijiepmnaaGreat
open Go.RowKit

theorem Otcs.since {w w' : World} {o : Otc} (h : Otcs w w.heap.size o) (hf : Fr No w w') : Otcs w' w'.heap.size o := ⟨h.rd.since hf, h.wt.since hf, h.ch.since hf⟩
/-- The keys that an outcome read, and wrote. -/
def Otc.kr (o : Otc) : Nat → Bool := keysOf o.p.rd
def Otc.kw (o : Otc) : Nat → Bool := keysOf o.p.wt
/-- Few enough. -/
def Otc.Few (o : Otc) : Prop := o.p.rd.length ≤ 1048576 ∧ o.p.wt.length ≤ 1048576
theorem touched_any (o : Otc) (w : World) (h : Otcs w w.heap.size o) (hF : o.Few) : Calls Tryz.prog 42 #[o.agg] w (NewS w (plainOf fun k => o.kr k || o.kw k)) := by
  have HU := Lib.hid (fun W (hW : Fr No w W) => kUnion_any o.p.rd o.p.wt o.rA o.wA o.p.rd.length o.rc o.p.wt.length o.wc W ⟨h.rd.since hW, rfl, hF.1⟩ ⟨h.wt.since hW, rfl, hF.2⟩)
  unfold Otc.kr Otc.kw
  unfold Otc.agg
  have f0 : Fr No w (w.alloc (.cells #[.int .i64 o.p.code, .int .i64 o.p.at_, .int .i64 (o.p.r 0), .int .i64 (o.p.r 1), .int .i64 (o.p.r 2), .int .i64 (o.p.r 3), .slice o.rA o.p.rd.length o.rc, .slice o.wA o.p.wt.length o.wc, .slice o.cA o.p.ch.length o.cc] 39)) := (Fr.refl _ _).alloc _
  have HF := Lib.hid f0
  obtain ⟨zs, hz⟩ : ∃ zs, zs = (plainOf fun k => keysOf o.p.rd k || keysOf o.p.wt k) := ⟨_, rfl⟩
  rw [← hz] at HU ⊢
  generalize o.p.rd.length = n1 at *
  generalize o.p.wt.length = n2 at *
  generalize o.p.ch.length = n3 at *
  clear h hF f0 hz
  go_enter Tryz.func42, Tryz.ntmps42
  go_wp2_with fail
  refine (HU.out _ HF.out).mono ?_
  rintro e w2 ⟨A2, c2, rfl, hs, hf⟩
  have Hs := Lib.hid hs
  have HF2 := Lib.hid (HF.out.trans' hf (fun _ _ e => e))
  clear hs hf
  go_wp2
  go_ret
  exact ⟨A2, c2, rfl, Hs.out, HF2.out⟩
/-- Do they conflict? -/
def conf (a b : Otc) : Bool := meets a.kw (fun k => b.kr k || b.kw k) || meets b.kw (fun k => a.kr k || a.kw k)
theorem meets_congr13 {s t s' t' : Nat → Bool} (h : ∀ k, k < 1000 → s k = s' k ∧ t k = t' k) : meets s t = meets s' t' := by
  have key : ∀ n, n ≤ 1000 → meetTo s t n = meetTo s' t' n := by
    intro n hn
    induction n with
    | zero => rfl
    | succ n ih =>
      rw [meetTo, meetTo, ih (by omega), (h n (by omega)).1, (h n (by omega)).2]
  exact key 1000 (Nat.le_refl _)
theorem meet_plain (s : Nat → Bool) (t : Nat → Bool) : meets s (keysOf (plainOf t)) = meets s t := meets_congr13 fun k hk => ⟨rfl, keysOf_plain t k hk⟩
set_option maxRecDepth 100000 in
set_option maxHeartbeats 4000000 in
theorem conflict_any (a b : Otc) (w : World) (ha : Otcs w w.heap.size a) (hb : Otcs w w.heap.size b) (hFa : a.Few) (hFb : b.Few) : Calls Tryz.prog 22 #[a.agg, b.agg] w (Has w (conf a b)) := by
  have HTb := Lib.hid (fun W (hW : Fr No w W) => touched_any b W (hb.since hW) hFb)
  have HTa := Lib.hid (fun W (hW : Fr No w W) => touched_any a W (ha.since hW) hFa)
  have HMa := Lib.hid (fun W (hW : Fr No w W) (A : Option Addr) (c : Nat) (hs : Sl W W.heap.size A (sps (plainOf fun k => b.kr k || b.kw k))) => kMeet_any a.p.wt (plainOf fun k => b.kr k || b.kw k) a.wA A a.p.wt.length a.wc (plainOf fun k => b.kr k || b.kw k).length c W ⟨ha.wt.since hW, rfl, hFa.2⟩ ⟨hs, rfl, Nat.le_trans (plainTo_len _ 1000) (by omega)⟩)
  have HMb := Lib.hid (fun W (hW : Fr No w W) (A : Option Addr) (c : Nat) (hs : Sl W W.heap.size A (sps (plainOf fun k => a.kr k || a.kw k))) => kMeet_any b.p.wt (plainOf fun k => a.kr k || a.kw k) b.wA A b.p.wt.length b.wc (plainOf fun k => a.kr k || a.kw k).length c W ⟨hb.wt.since hW, rfl, hFb.2⟩ ⟨hs, rfl, Nat.le_trans (plainTo_len _ 1000) (by omega)⟩)
  rw [meet_plain] at HMa HMb
  unfold conf
  change Hid (∀ W (_ : Fr No w W) A c (_ : Sl W W.heap.size A (sps (plainOf fun k => b.kr k || b.kw k))), Calls Tryz.prog 41 #[.slice a.wA a.p.wt.length a.wc, .slice A (plainOf fun k => b.kr k || b.kw k).length c] W fun e w' => e = .returned (.bool (meets a.kw fun k => b.kr k || b.kw k)) ∧ Fr No W w') at HMa
  change Hid (∀ W (_ : Fr No w W) A c (_ : Sl W W.heap.size A (sps (plainOf fun k => a.kr k || a.kw k))), Calls Tryz.prog 41 #[.slice b.wA b.p.wt.length b.wc, .slice A (plainOf fun k => a.kr k || a.kw k).length c] W fun e w' => e = .returned (.bool (meets b.kw fun k => a.kr k || a.kw k)) ∧ Fr No W w') at HMb
  generalize (meets a.kw fun k => b.kr k || b.kw k) = m1 at *
  generalize (meets b.kw fun k => a.kr k || a.kw k) = m2 at *
  generalize (plainOf fun k => b.kr k || b.kw k) = zb at *
  generalize (plainOf fun k => a.kr k || a.kw k) = za at *
  obtain ⟨q, hq⟩ : ∃ q, w.heap.size = q := ⟨_, rfl⟩
  have f0 : Fr No w ((w.alloc (.cells #[.int .i64 a.p.code, .int .i64 a.p.at_, .int .i64 (a.p.r 0), .int .i64 (a.p.r 1), .int .i64 (a.p.r 2), .int .i64 (a.p.r 3), .slice a.rA a.p.rd.length a.rc, .slice a.wA a.p.wt.length a.wc, .slice a.cA a.p.ch.length a.cc] 39)).alloc (.cells #[.int .i64 b.p.code, .int .i64 b.p.at_, .int .i64 (b.p.r 0), .int .i64 (b.p.r 1), .int .i64 (b.p.r 2), .int .i64 (b.p.r 3), .slice b.rA b.p.rd.length b.rc, .slice b.wA b.p.wt.length b.wc, .slice b.cA b.p.ch.length b.cc] 39)).drew := (((Fr.refl _ _).alloc _).alloc _).drew
  have bA : Bk ((w.alloc (.cells #[.int .i64 a.p.code, .int .i64 a.p.at_, .int .i64 (a.p.r 0), .int .i64 (a.p.r 1), .int .i64 (a.p.r 2), .int .i64 (a.p.r 3), .slice a.rA a.p.rd.length a.rc, .slice a.wA a.p.wt.length a.wc, .slice a.cA a.p.ch.length a.cc] 39)).alloc (.cells #[.int .i64 b.p.code, .int .i64 b.p.at_, .int .i64 (b.p.r 0), .int .i64 (b.p.r 1), .int .i64 (b.p.r 2), .int .i64 (b.p.r 3), .slice b.rA b.p.rd.length b.rc, .slice b.wA b.p.wt.length b.wc, .slice b.cA b.p.ch.length b.cc] 39)).drew w.heap.size 39 #[.int .i64 a.p.code, .int .i64 a.p.at_, .int .i64 (a.p.r 0), .int .i64 (a.p.r 1), .int .i64 (a.p.r 2), .int .i64 (a.p.r 3), .slice a.rA a.p.rd.length a.rc, .slice a.wA a.p.wt.length a.wc, .slice a.cA a.p.ch.length a.cc] := ((Bk.made w _ _).alloc _).fr ((Fr.refl No _).drew) (fun e => e)
  have bB : Bk ((w.alloc (.cells #[.int .i64 a.p.code, .int .i64 a.p.at_, .int .i64 (a.p.r 0), .int .i64 (a.p.r 1), .int .i64 (a.p.r 2), .int .i64 (a.p.r 3), .slice a.rA a.p.rd.length a.rc, .slice a.wA a.p.wt.length a.wc, .slice a.cA a.p.ch.length a.cc] 39)).alloc (.cells #[.int .i64 b.p.code, .int .i64 b.p.at_, .int .i64 (b.p.r 0), .int .i64 (b.p.r 1), .int .i64 (b.p.r 2), .int .i64 (b.p.r 3), .slice b.rA b.p.rd.length b.rc, .slice b.wA b.p.wt.length b.wc, .slice b.cA b.p.ch.length b.cc] 39)).drew (w.heap.size + 1) 39 #[.int .i64 b.p.code, .int .i64 b.p.at_, .int .i64 (b.p.r 0), .int .i64 (b.p.r 1), .int .i64 (b.p.r 2), .int .i64 (b.p.r 3), .slice b.rA b.p.rd.length b.rc, .slice b.wA b.p.wt.length b.wc, .slice b.cA b.p.ch.length b.cc] := by
    have h := Bk.made (w.alloc (.cells #[.int .i64 a.p.code, .int .i64 a.p.at_, .int .i64 (a.p.r 0), .int .i64 (a.p.r 1), .int .i64 (a.p.r 2), .int .i64 (a.p.r 3), .slice a.rA a.p.rd.length a.rc, .slice a.wA a.p.wt.length a.wc, .slice a.cA a.p.ch.length a.cc] 39)) 39 #[.int .i64 b.p.code, .int .i64 b.p.at_, .int .i64 (b.p.r 0), .int .i64 (b.p.r 1), .int .i64 (b.p.r 2), .int .i64 (b.p.r 3), .slice b.rA b.p.rd.length b.rc, .slice b.wA b.p.wt.length b.wc, .slice b.cA b.p.ch.length b.cc]
    simp only [World.size_alloc] at h
    exact h.fr ((Fr.refl No _).drew) (fun e => e)
  rw [hq] at bA bB
  have HF0 := Lib.hid f0
  have HbA := Lib.hid (fun W (h : Fr No ((w.alloc (.cells #[.int .i64 a.p.code, .int .i64 a.p.at_, .int .i64 (a.p.r 0), .int .i64 (a.p.r 1), .int .i64 (a.p.r 2), .int .i64 (a.p.r 3), .slice a.rA a.p.rd.length a.rc, .slice a.wA a.p.wt.length a.wc, .slice a.cA a.p.ch.length a.cc] 39)).alloc (.cells #[.int .i64 b.p.code, .int .i64 b.p.at_, .int .i64 (b.p.r 0), .int .i64 (b.p.r 1), .int .i64 (b.p.r 2), .int .i64 (b.p.r 3), .slice b.rA b.p.rd.length b.rc, .slice b.wA b.p.wt.length b.wc, .slice b.cA b.p.ch.length b.cc] 39)).drew W) => bA.fr h (fun e => e))
  have HbB := Lib.hid (fun W (h : Fr No ((w.alloc (.cells #[.int .i64 a.p.code, .int .i64 a.p.at_, .int .i64 (a.p.r 0), .int .i64 (a.p.r 1), .int .i64 (a.p.r 2), .int .i64 (a.p.r 3), .slice a.rA a.p.rd.length a.rc, .slice a.wA a.p.wt.length a.wc, .slice a.cA a.p.ch.length a.cc] 39)).alloc (.cells #[.int .i64 b.p.code, .int .i64 b.p.at_, .int .i64 (b.p.r 0), .int .i64 (b.p.r 1), .int .i64 (b.p.r 2), .int .i64 (b.p.r 3), .slice b.rA b.p.rd.length b.rc, .slice b.wA b.p.wt.length b.wc, .slice b.cA b.p.ch.length b.cc] 39)).drew W) => bB.fr h (fun e => e))
  unfold Otc.agg at HTa HTb ⊢
  clear ha hb hFa hFb f0
  generalize a.p.code = cda at *
  generalize a.p.at_ = ata at *
  generalize a.p.r 0 = r0a at *
  generalize a.p.r 1 = r1a at *
  generalize a.p.r 2 = r2a at *
  generalize a.p.r 3 = r3a at *
  generalize a.p.rd.length = na at *
  generalize a.p.wt.length = ma at *
  generalize a.p.ch.length = la at *
  generalize a.rA = Ra at *
  generalize a.wA = Wa at *
  generalize a.cA = Ca at *
  generalize a.rc = rca at *
  generalize a.wc = wca at *
  generalize a.cc = cca at *
  generalize b.p.code = cdb at *
  generalize b.p.at_ = atb at *
  generalize b.p.r 0 = r0b at *
  generalize b.p.r 1 = r1b at *
  generalize b.p.r 2 = r2b at *
  generalize b.p.r 3 = r3b at *
  generalize b.p.rd.length = nb at *
  generalize b.p.wt.length = mb at *
  generalize b.p.ch.length = lb at *
  generalize b.rA = Rb at *
  generalize b.wA = Wb at *
  generalize b.cA = Cb at *
  generalize b.rc = rcb at *
  generalize b.wc = wcb at *
  generalize b.cc = ccb at *
  have uaz := HbA.out _ (Fr.refl No _)
  have a0z := uaz.cell 0
  have a1z := uaz.cell 1
  have a2z := uaz.cell 2
  have a3z := uaz.cell 3
  have a4z := uaz.cell 4
  have a5z := uaz.cell 5
  have a6z := uaz.cell 6
  have a7z := uaz.cell 7
  have a8z := uaz.cell 8
  simp only [List.getElem?_toArray, List.getElem?_cons_zero, List.getElem?_cons_succ] at a0z a1z a2z a3z a4z a5z a6z a7z a8z
  have ubz := HbB.out _ (Fr.refl No _)
  have b0z := ubz.cell 0
  have b1z := ubz.cell 1
  have b2z := ubz.cell 2
  have b3z := ubz.cell 3
  have b4z := ubz.cell 4
  have b5z := ubz.cell 5
  have b6z := ubz.cell 6
  have b7z := ubz.cell 7
  have b8z := ubz.cell 8
  simp only [List.getElem?_toArray, List.getElem?_cons_zero, List.getElem?_cons_succ] at b0z b1z b2z b3z b4z b5z b6z b7z b8z
  cases m1
  · simp only [Bool.false_or]
    go_enter Tryz.func22, Tryz.ntmps22
    go_wp2_with fail
    refine wp_region_held_drew (S := fun w' => w'.cell? ⟨q, 0, none⟩ = some (.int .i64 cda) ∧ w'.cell? ⟨q, 1, none⟩ = some (.int .i64 ata) ∧ w'.cell? ⟨q, 2, none⟩ = some (.int .i64 r0a) ∧ w'.cell? ⟨q, 3, none⟩ = some (.int .i64 r1a) ∧ w'.cell? ⟨q, 4, none⟩ = some (.int .i64 r2a) ∧ w'.cell? ⟨q, 5, none⟩ = some (.int .i64 r3a) ∧ w'.cell? ⟨q, 6, none⟩ = some (.slice Ra na rca) ∧ w'.cell? ⟨q, 7, none⟩ = some (.slice Wa ma wca) ∧ w'.cell? ⟨q, 8, none⟩ = some (.slice Ca la cca) ∧ w'.cell? ⟨q + 1, 0, none⟩ = some (.int .i64 cdb) ∧ w'.cell? ⟨q + 1, 1, none⟩ = some (.int .i64 atb) ∧ w'.cell? ⟨q + 1, 2, none⟩ = some (.int .i64 r0b) ∧ w'.cell? ⟨q + 1, 3, none⟩ = some (.int .i64 r1b) ∧ w'.cell? ⟨q + 1, 4, none⟩ = some (.int .i64 r2b) ∧ w'.cell? ⟨q + 1, 5, none⟩ = some (.int .i64 r3b) ∧ w'.cell? ⟨q + 1, 6, none⟩ = some (.slice Rb nb rcb) ∧ w'.cell? ⟨q + 1, 7, none⟩ = some (.slice Wb mb wcb) ∧ w'.cell? ⟨q + 1, 8, none⟩ = some (.slice Cb lb ccb)) (by kernel_rfl) (⟨a0z, a1z, a2z, a3z, a4z, a5z, a6z, a7z, a8z, b0z, b1z, b2z, b3z, b4z, b5z, b6z, b7z, b8z⟩) (fun hHeld => ?_)
    refine any_take 5 (.pointer (some ⟨q, 7, none⟩)) (i := 0) rfl rfl (by kernel_rfl) (by kernel_rfl) (by kernel_rfl) (fun _ _ _ h => h) (by rfl) (by intro w hSw; (try dsimp only at hSw); go_simp; try with_reducible rfl) (by assumption) ?_
    simp only [Act.put, List.setIfInBounds_toArray, List.set_cons_zero, List.set_cons_succ]
    refine any_take 6 (.slice Wa ma wca) (i := 1) rfl rfl (by kernel_rfl) (by kernel_rfl) (by kernel_rfl) (fun _ _ _ h => h) (by rfl) (by intro w hSw; (try dsimp only at hSw); go_simp; try with_reducible rfl) (by assumption) ?_
    simp only [Act.put, List.setIfInBounds_toArray, List.set_cons_zero, List.set_cons_succ]
    refine any_take 7 (.agg #[.int .i64 cdb, .int .i64 atb, .int .i64 r0b, .int .i64 r1b, .int .i64 r2b, .int .i64 r3b, .slice Rb nb rcb, .slice Wb mb wcb, .slice Cb lb ccb]) (i := 2) rfl rfl (by kernel_rfl) (by kernel_rfl) (by kernel_rfl) (fun _ _ _ h => h) (by rfl) (by intro w hSw; (try dsimp only at hSw); go_simp; try with_reducible rfl) (by assumption) ?_
    simp only [Act.put, List.setIfInBounds_toArray, List.set_cons_zero, List.set_cons_succ]
    refine wpAnyH_ready (rs := [3]) (by kernel_rfl) (by simp) ?_
    refine AllReadyH.cons rfl (fun K' hK => ?_) AllReadyH.nil
    go_simp
    go_at_call 42
    refine (HTb.out _ HF0.out).mono ?_
    rintro e' w1 ⟨A1, c1, rfl, hs1, f1⟩
    have F1 := (Fr.refl No _).trans' f1 (fun _ _ e => e)
    have uaw1 := HbA.out _ (F1)
    have a0w1 := uaw1.cell 0
    have a1w1 := uaw1.cell 1
    have a2w1 := uaw1.cell 2
    have a3w1 := uaw1.cell 3
    have a4w1 := uaw1.cell 4
    have a5w1 := uaw1.cell 5
    have a6w1 := uaw1.cell 6
    have a7w1 := uaw1.cell 7
    have a8w1 := uaw1.cell 8
    simp only [List.getElem?_toArray, List.getElem?_cons_zero, List.getElem?_cons_succ] at a0w1 a1w1 a2w1 a3w1 a4w1 a5w1 a6w1 a7w1 a8w1
    have ubw1 := HbB.out _ (F1)
    have b0w1 := ubw1.cell 0
    have b1w1 := ubw1.cell 1
    have b2w1 := ubw1.cell 2
    have b3w1 := ubw1.cell 3
    have b4w1 := ubw1.cell 4
    have b5w1 := ubw1.cell 5
    have b6w1 := ubw1.cell 6
    have b7w1 := ubw1.cell 7
    have b8w1 := ubw1.cell 8
    simp only [List.getElem?_toArray, List.getElem?_cons_zero, List.getElem?_cons_succ] at b0w1 b1w1 b2w1 b3w1 b4w1 b5w1 b6w1 b7w1 b8w1
    try dsimp only
    refine hK.out _ _ ⟨a0w1, a1w1, a2w1, a3w1, a4w1, a5w1, a6w1, a7w1, a8w1, b0w1, b1w1, b2w1, b3w1, b4w1, b5w1, b6w1, b7w1, b8w1⟩ (fun hHeld => ?_)
    clear hK
    try simp only [Act.put, List.setIfInBounds_toArray, List.set_cons_zero, List.set_cons_succ]
    refine wpAnyH_ready (rs := [4]) (by kernel_rfl) (by simp) ?_
    refine AllReadyH.cons rfl (fun K' hK => ?_) AllReadyH.nil
    go_simp
    go_at_call 41
    refine (HMa.out _ (HF0.out.trans' F1 (fun _ _ e => e)) _ _ hs1).mono ?_
    rintro e' w2 ⟨rfl, f2⟩
    have F2 := F1.trans' f2 (fun _ _ e => e)
    have uaw2 := HbA.out _ (F2)
    have a0w2 := uaw2.cell 0
    have a1w2 := uaw2.cell 1
    have a2w2 := uaw2.cell 2
    have a3w2 := uaw2.cell 3
    have a4w2 := uaw2.cell 4
    have a5w2 := uaw2.cell 5
    have a6w2 := uaw2.cell 6
    have a7w2 := uaw2.cell 7
    have a8w2 := uaw2.cell 8
    simp only [List.getElem?_toArray, List.getElem?_cons_zero, List.getElem?_cons_succ] at a0w2 a1w2 a2w2 a3w2 a4w2 a5w2 a6w2 a7w2 a8w2
    have ubw2 := HbB.out _ (F2)
    have b0w2 := ubw2.cell 0
    have b1w2 := ubw2.cell 1
    have b2w2 := ubw2.cell 2
    have b3w2 := ubw2.cell 3
    have b4w2 := ubw2.cell 4
    have b5w2 := ubw2.cell 5
    have b6w2 := ubw2.cell 6
    have b7w2 := ubw2.cell 7
    have b8w2 := ubw2.cell 8
    simp only [List.getElem?_toArray, List.getElem?_cons_zero, List.getElem?_cons_succ] at b0w2 b1w2 b2w2 b3w2 b4w2 b5w2 b6w2 b7w2 b8w2
    try dsimp only
    refine hK.out _ _ ⟨a0w2, a1w2, a2w2, a3w2, a4w2, a5w2, a6w2, a7w2, a8w2, b0w2, b1w2, b2w2, b3w2, b4w2, b5w2, b6w2, b7w2, b8w2⟩ (fun hHeld => ?_)
    clear hK
    try simp only [Act.put, List.setIfInBounds_toArray, List.set_cons_zero, List.set_cons_succ]
    refine any_take 10 (.bool false) (i := 5) rfl rfl (by kernel_rfl) (by kernel_rfl) (by kernel_rfl) (fun _ _ _ h => h) (by rfl) (by intro w hSw; (try dsimp only at hSw); go_simp; try with_reducible rfl) (by assumption) ?_
    simp only [Act.put, List.setIfInBounds_toArray, List.set_cons_zero, List.set_cons_succ]
    refine any_take 11 (.pointer (some ⟨q + 1, 7, none⟩)) (i := 6) rfl rfl (by kernel_rfl) (by kernel_rfl) (by kernel_rfl) (fun _ _ _ h => h) (by rfl) (by intro w hSw; (try dsimp only at hSw); go_simp; try with_reducible rfl) (by assumption) ?_
    simp only [Act.put, List.setIfInBounds_toArray, List.set_cons_zero, List.set_cons_succ]
    refine any_take 12 (.slice Wb mb wcb) (i := 7) rfl rfl (by kernel_rfl) (by kernel_rfl) (by kernel_rfl) (fun _ _ _ h => h) (by rfl) (by intro w hSw; (try dsimp only at hSw); go_simp; try with_reducible rfl) (by assumption) ?_
    simp only [Act.put, List.setIfInBounds_toArray, List.set_cons_zero, List.set_cons_succ]
    refine any_take 13 (.agg #[.int .i64 cda, .int .i64 ata, .int .i64 r0a, .int .i64 r1a, .int .i64 r2a, .int .i64 r3a, .slice Ra na rca, .slice Wa ma wca, .slice Ca la cca]) (i := 8) rfl rfl (by kernel_rfl) (by kernel_rfl) (by kernel_rfl) (fun _ _ _ h => h) (by rfl) (by intro w hSw; (try dsimp only at hSw); go_simp; try with_reducible rfl) (by assumption) ?_
    simp only [Act.put, List.setIfInBounds_toArray, List.set_cons_zero, List.set_cons_succ]
    refine wpAnyH_ready (rs := [9]) (by kernel_rfl) (by simp) ?_
    refine AllReadyH.cons rfl (fun K' hK => ?_) AllReadyH.nil
    go_simp
    go_at_call 42
    refine (HTa.out _ (HF0.out.trans' F2 (fun _ _ e => e))).mono ?_
    rintro e' w3 ⟨A3, c3, rfl, hs3, f3⟩
    have F3 := F2.trans' f3 (fun _ _ e => e)
    have uaw3 := HbA.out _ (F3)
    have a0w3 := uaw3.cell 0
    have a1w3 := uaw3.cell 1
    have a2w3 := uaw3.cell 2
    have a3w3 := uaw3.cell 3
    have a4w3 := uaw3.cell 4
    have a5w3 := uaw3.cell 5
    have a6w3 := uaw3.cell 6
    have a7w3 := uaw3.cell 7
    have a8w3 := uaw3.cell 8
    simp only [List.getElem?_toArray, List.getElem?_cons_zero, List.getElem?_cons_succ] at a0w3 a1w3 a2w3 a3w3 a4w3 a5w3 a6w3 a7w3 a8w3
    have ubw3 := HbB.out _ (F3)
    have b0w3 := ubw3.cell 0
    have b1w3 := ubw3.cell 1
    have b2w3 := ubw3.cell 2
    have b3w3 := ubw3.cell 3
    have b4w3 := ubw3.cell 4
    have b5w3 := ubw3.cell 5
    have b6w3 := ubw3.cell 6
    have b7w3 := ubw3.cell 7
    have b8w3 := ubw3.cell 8
    simp only [List.getElem?_toArray, List.getElem?_cons_zero, List.getElem?_cons_succ] at b0w3 b1w3 b2w3 b3w3 b4w3 b5w3 b6w3 b7w3 b8w3
    try dsimp only
    refine hK.out _ _ ⟨a0w3, a1w3, a2w3, a3w3, a4w3, a5w3, a6w3, a7w3, a8w3, b0w3, b1w3, b2w3, b3w3, b4w3, b5w3, b6w3, b7w3, b8w3⟩ (fun hHeld => ?_)
    clear hK
    try simp only [Act.put, List.setIfInBounds_toArray, List.set_cons_zero, List.set_cons_succ]
    refine wpAnyH_ready (rs := [10]) (by kernel_rfl) (by simp) ?_
    refine AllReadyH.cons rfl (fun K' hK => ?_) AllReadyH.nil
    go_simp
    go_at_call 41
    refine (HMb.out _ (HF0.out.trans' F3 (fun _ _ e => e)) _ _ hs3).mono ?_
    rintro e' w4 ⟨rfl, f4⟩
    have F4 := F3.trans' f4 (fun _ _ e => e)
    have uaw4 := HbA.out _ (F4)
    have a0w4 := uaw4.cell 0
    have a1w4 := uaw4.cell 1
    have a2w4 := uaw4.cell 2
    have a3w4 := uaw4.cell 3
    have a4w4 := uaw4.cell 4
    have a5w4 := uaw4.cell 5
    have a6w4 := uaw4.cell 6
    have a7w4 := uaw4.cell 7
    have a8w4 := uaw4.cell 8
    simp only [List.getElem?_toArray, List.getElem?_cons_zero, List.getElem?_cons_succ] at a0w4 a1w4 a2w4 a3w4 a4w4 a5w4 a6w4 a7w4 a8w4
    have ubw4 := HbB.out _ (F4)
    have b0w4 := ubw4.cell 0
    have b1w4 := ubw4.cell 1
    have b2w4 := ubw4.cell 2
    have b3w4 := ubw4.cell 3
    have b4w4 := ubw4.cell 4
    have b5w4 := ubw4.cell 5
    have b6w4 := ubw4.cell 6
    have b7w4 := ubw4.cell 7
    have b8w4 := ubw4.cell 8
    simp only [List.getElem?_toArray, List.getElem?_cons_zero, List.getElem?_cons_succ] at b0w4 b1w4 b2w4 b3w4 b4w4 b5w4 b6w4 b7w4 b8w4
    try dsimp only
    refine hK.out _ _ ⟨a0w4, a1w4, a2w4, a3w4, a4w4, a5w4, a6w4, a7w4, a8w4, b0w4, b1w4, b2w4, b3w4, b4w4, b5w4, b6w4, b7w4, b8w4⟩ (fun hHeld => ?_)
    clear hK
    try simp only [Act.put, List.setIfInBounds_toArray, List.set_cons_zero, List.set_cons_succ]
    refine any_take 16 (.bool m2) (i := 11) rfl rfl (by kernel_rfl) (by kernel_rfl) (by kernel_rfl) (fun _ _ _ h => h) (by rfl) (by intro w hSw; (try dsimp only at hSw); go_simp; try with_reducible rfl) (by assumption) ?_
    simp only [Act.put, List.setIfInBounds_toArray, List.set_cons_zero, List.set_cons_succ]
    refine any_take 4 (.bool m2) (i := 12) rfl rfl (by kernel_rfl) (by kernel_rfl) (by kernel_rfl) (fun _ _ _ h => h) (by rfl) (by intro w hSw; (try dsimp only at hSw); go_simp; try with_reducible rfl) (by assumption) ?_
    simp only [Act.put, List.setIfInBounds_toArray, List.set_cons_zero, List.set_cons_succ]
    refine wpAnyH_done (by kernel_rfl) ?_ _
    clear hHeld
    go_wp2
    go_ret
    exact ⟨rfl, HF0.out.trans' F4 (fun _ _ e => e)⟩
  · simp only [Bool.true_or]
    go_enter Tryz.func22, Tryz.ntmps22
    go_wp2_with fail
    refine wp_region_held_drew (S := fun w' => w'.cell? ⟨q, 0, none⟩ = some (.int .i64 cda) ∧ w'.cell? ⟨q, 1, none⟩ = some (.int .i64 ata) ∧ w'.cell? ⟨q, 2, none⟩ = some (.int .i64 r0a) ∧ w'.cell? ⟨q, 3, none⟩ = some (.int .i64 r1a) ∧ w'.cell? ⟨q, 4, none⟩ = some (.int .i64 r2a) ∧ w'.cell? ⟨q, 5, none⟩ = some (.int .i64 r3a) ∧ w'.cell? ⟨q, 6, none⟩ = some (.slice Ra na rca) ∧ w'.cell? ⟨q, 7, none⟩ = some (.slice Wa ma wca) ∧ w'.cell? ⟨q, 8, none⟩ = some (.slice Ca la cca) ∧ w'.cell? ⟨q + 1, 0, none⟩ = some (.int .i64 cdb) ∧ w'.cell? ⟨q + 1, 1, none⟩ = some (.int .i64 atb) ∧ w'.cell? ⟨q + 1, 2, none⟩ = some (.int .i64 r0b) ∧ w'.cell? ⟨q + 1, 3, none⟩ = some (.int .i64 r1b) ∧ w'.cell? ⟨q + 1, 4, none⟩ = some (.int .i64 r2b) ∧ w'.cell? ⟨q + 1, 5, none⟩ = some (.int .i64 r3b) ∧ w'.cell? ⟨q + 1, 6, none⟩ = some (.slice Rb nb rcb) ∧ w'.cell? ⟨q + 1, 7, none⟩ = some (.slice Wb mb wcb) ∧ w'.cell? ⟨q + 1, 8, none⟩ = some (.slice Cb lb ccb)) (by kernel_rfl) (⟨a0z, a1z, a2z, a3z, a4z, a5z, a6z, a7z, a8z, b0z, b1z, b2z, b3z, b4z, b5z, b6z, b7z, b8z⟩) (fun hHeld => ?_)
    refine any_take 5 (.pointer (some ⟨q, 7, none⟩)) (i := 0) rfl rfl (by kernel_rfl) (by kernel_rfl) (by kernel_rfl) (fun _ _ _ h => h) (by rfl) (by intro w hSw; (try dsimp only at hSw); go_simp; try with_reducible rfl) (by assumption) ?_
    simp only [Act.put, List.setIfInBounds_toArray, List.set_cons_zero, List.set_cons_succ]
    refine any_take 6 (.slice Wa ma wca) (i := 1) rfl rfl (by kernel_rfl) (by kernel_rfl) (by kernel_rfl) (fun _ _ _ h => h) (by rfl) (by intro w hSw; (try dsimp only at hSw); go_simp; try with_reducible rfl) (by assumption) ?_
    simp only [Act.put, List.setIfInBounds_toArray, List.set_cons_zero, List.set_cons_succ]
    refine any_take 7 (.agg #[.int .i64 cdb, .int .i64 atb, .int .i64 r0b, .int .i64 r1b, .int .i64 r2b, .int .i64 r3b, .slice Rb nb rcb, .slice Wb mb wcb, .slice Cb lb ccb]) (i := 2) rfl rfl (by kernel_rfl) (by kernel_rfl) (by kernel_rfl) (fun _ _ _ h => h) (by rfl) (by intro w hSw; (try dsimp only at hSw); go_simp; try with_reducible rfl) (by assumption) ?_
    simp only [Act.put, List.setIfInBounds_toArray, List.set_cons_zero, List.set_cons_succ]
    refine wpAnyH_ready (rs := [3]) (by kernel_rfl) (by simp) ?_
    refine AllReadyH.cons rfl (fun K' hK => ?_) AllReadyH.nil
    go_simp
    go_at_call 42
    refine (HTb.out _ HF0.out).mono ?_
    rintro e' w1 ⟨A1, c1, rfl, hs1, f1⟩
    have F1 := (Fr.refl No _).trans' f1 (fun _ _ e => e)
    have uaw1 := HbA.out _ (F1)
    have a0w1 := uaw1.cell 0
    have a1w1 := uaw1.cell 1
    have a2w1 := uaw1.cell 2
    have a3w1 := uaw1.cell 3
    have a4w1 := uaw1.cell 4
    have a5w1 := uaw1.cell 5
    have a6w1 := uaw1.cell 6
    have a7w1 := uaw1.cell 7
    have a8w1 := uaw1.cell 8
    simp only [List.getElem?_toArray, List.getElem?_cons_zero, List.getElem?_cons_succ] at a0w1 a1w1 a2w1 a3w1 a4w1 a5w1 a6w1 a7w1 a8w1
    have ubw1 := HbB.out _ (F1)
    have b0w1 := ubw1.cell 0
    have b1w1 := ubw1.cell 1
    have b2w1 := ubw1.cell 2
    have b3w1 := ubw1.cell 3
    have b4w1 := ubw1.cell 4
    have b5w1 := ubw1.cell 5
    have b6w1 := ubw1.cell 6
    have b7w1 := ubw1.cell 7
    have b8w1 := ubw1.cell 8
    simp only [List.getElem?_toArray, List.getElem?_cons_zero, List.getElem?_cons_succ] at b0w1 b1w1 b2w1 b3w1 b4w1 b5w1 b6w1 b7w1 b8w1
    try dsimp only
    refine hK.out _ _ ⟨a0w1, a1w1, a2w1, a3w1, a4w1, a5w1, a6w1, a7w1, a8w1, b0w1, b1w1, b2w1, b3w1, b4w1, b5w1, b6w1, b7w1, b8w1⟩ (fun hHeld => ?_)
    clear hK
    try simp only [Act.put, List.setIfInBounds_toArray, List.set_cons_zero, List.set_cons_succ]
    refine wpAnyH_ready (rs := [4]) (by kernel_rfl) (by simp) ?_
    refine AllReadyH.cons rfl (fun K' hK => ?_) AllReadyH.nil
    go_simp
    go_at_call 41
    refine (HMa.out _ (HF0.out.trans' F1 (fun _ _ e => e)) _ _ hs1).mono ?_
    rintro e' w2 ⟨rfl, f2⟩
    have F2 := F1.trans' f2 (fun _ _ e => e)
    have uaw2 := HbA.out _ (F2)
    have a0w2 := uaw2.cell 0
    have a1w2 := uaw2.cell 1
    have a2w2 := uaw2.cell 2
    have a3w2 := uaw2.cell 3
    have a4w2 := uaw2.cell 4
    have a5w2 := uaw2.cell 5
    have a6w2 := uaw2.cell 6
    have a7w2 := uaw2.cell 7
    have a8w2 := uaw2.cell 8
    simp only [List.getElem?_toArray, List.getElem?_cons_zero, List.getElem?_cons_succ] at a0w2 a1w2 a2w2 a3w2 a4w2 a5w2 a6w2 a7w2 a8w2
    have ubw2 := HbB.out _ (F2)
    have b0w2 := ubw2.cell 0
    have b1w2 := ubw2.cell 1
    have b2w2 := ubw2.cell 2
    have b3w2 := ubw2.cell 3
    have b4w2 := ubw2.cell 4
    have b5w2 := ubw2.cell 5
    have b6w2 := ubw2.cell 6
    have b7w2 := ubw2.cell 7
    have b8w2 := ubw2.cell 8
    simp only [List.getElem?_toArray, List.getElem?_cons_zero, List.getElem?_cons_succ] at b0w2 b1w2 b2w2 b3w2 b4w2 b5w2 b6w2 b7w2 b8w2
    try dsimp only
    refine hK.out _ _ ⟨a0w2, a1w2, a2w2, a3w2, a4w2, a5w2, a6w2, a7w2, a8w2, b0w2, b1w2, b2w2, b3w2, b4w2, b5w2, b6w2, b7w2, b8w2⟩ (fun hHeld => ?_)
    clear hK
    try simp only [Act.put, List.setIfInBounds_toArray, List.set_cons_zero, List.set_cons_succ]
    refine any_take 10 (.bool true) (i := 5) rfl rfl (by kernel_rfl) (by kernel_rfl) (by kernel_rfl) (fun _ _ _ h => h) (by rfl) (by intro w hSw; (try dsimp only at hSw); go_simp; try with_reducible rfl) (by assumption) ?_
    simp only [Act.put, List.setIfInBounds_toArray, List.set_cons_zero, List.set_cons_succ]
    refine any_skip 11 (i := 6) rfl rfl (by kernel_rfl) (by kernel_rfl) (by kernel_rfl) (fun _ _ _ h => h) (by rfl) (by assumption) ?_
    simp only [Act.put, List.setIfInBounds_toArray, List.set_cons_zero, List.set_cons_succ]
    refine any_skip 12 (i := 7) rfl rfl (by kernel_rfl) (by kernel_rfl) (by kernel_rfl) (fun _ _ _ h => h) (by rfl) (by assumption) ?_
    simp only [Act.put, List.setIfInBounds_toArray, List.set_cons_zero, List.set_cons_succ]
    refine any_skip 13 (i := 8) rfl rfl (by kernel_rfl) (by kernel_rfl) (by kernel_rfl) (fun _ _ _ h => h) (by rfl) (by assumption) ?_
    simp only [Act.put, List.setIfInBounds_toArray, List.set_cons_zero, List.set_cons_succ]
    refine any_skip 14 (i := 9) rfl rfl (by kernel_rfl) (by kernel_rfl) (by kernel_rfl) (fun _ _ _ h => h) (by rfl) (by assumption) ?_
    simp only [Act.put, List.setIfInBounds_toArray, List.set_cons_zero, List.set_cons_succ]
    refine any_skip 15 (i := 10) rfl rfl (by kernel_rfl) (by kernel_rfl) (by kernel_rfl) (fun _ _ _ h => h) (by rfl) (by assumption) ?_
    simp only [Act.put, List.setIfInBounds_toArray, List.set_cons_zero, List.set_cons_succ]
    refine any_take 16 (.bool true) (i := 11) rfl rfl (by kernel_rfl) (by kernel_rfl) (by kernel_rfl) (fun _ _ _ h => h) (by rfl) (by intro w hSw; (try dsimp only at hSw); go_simp; try with_reducible rfl) (by assumption) ?_
    simp only [Act.put, List.setIfInBounds_toArray, List.set_cons_zero, List.set_cons_succ]
    refine any_take 4 (.bool true) (i := 12) rfl rfl (by kernel_rfl) (by kernel_rfl) (by kernel_rfl) (fun _ _ _ h => h) (by rfl) (by intro w hSw; (try dsimp only at hSw); go_simp; try with_reducible rfl) (by assumption) ?_
    simp only [Act.put, List.setIfInBounds_toArray, List.set_cons_zero, List.set_cons_succ]
    refine wpAnyH_done (by kernel_rfl) ?_ _
    clear hHeld
    go_wp2
    go_ret
    exact ⟨rfl, HF0.out.trans' F2 (fun _ _ e => e)⟩
end Go.Proofs.YthenadijiepmnaaGreat
/- The document's own outcomes: are two the same? -/
namespace Go.Proofs.YthenadijiepmnaaGreat
open Go.RowKit

def chgEqB (x y : Chg) : Bool := decide (x = y)
theorem eqChg (a c : Int) (g : Bool) (a' c' : Int) (g' : Bool) (w : World) : (Op.equalIn 10000 57 (.agg #[.int .i64 a, .bool g, .int .i64 c]) (.agg #[.int .i64 a', .bool g', .int .i64 c'])).run Tryz.prog w = .ok (chgEqB ⟨a, g, c⟩ ⟨a', g', c'⟩) w := by
  have u3 := Tryz.underlying3
  have a3 : ∀ w, (isAgg 3).run Tryz.prog w = .ok false w := fun w => by simp [isAgg, run_underlying Tryz.underlying3]
  have u4 := Tryz.underlying2
  have a4 : ∀ w, (isAgg 2).run Tryz.prog w = .ok false w := fun w => by simp [isAgg, run_underlying Tryz.underlying2]
  have u5 := Tryz.underlying4
  have a5 : ∀ w, (isAgg 4).run Tryz.prog w = .ok false w := fun w => by simp [isAgg, run_underlying Tryz.underlying4]
  have hs : Tryz.prog.underlying 57 = some (.struct (Tryz.prog.fieldsOf 57)) := by kernel_rfl
  rw [run_equalIn_agg w 9999 57 _ _ hs (by kernel_rfl)]
  simp only [Program.fieldsOf, Tryz.underlying57]
  go_simp
  unfold chgEqB
  by_cases h1 : a = a' <;> by_cases h2 : g = g' <;> by_cases h3 : c = c' <;> simp [h1, h2, h3]
set_option maxRecDepth 100000 in
set_option maxHeartbeats 2000000 in
theorem refChanges13_any (xs ys : List Chg) (A1 A2 : Option Addr) (n m c1 c2 : Nat) (w : World) (h1 : Sl w w.heap.size A1 (xs.flatMap Chg.cells)) (h2 : Sl w w.heap.size A2 (ys.flatMap Chg.cells)) (hn : xs.length = n) (hm : ys.length = m) (hn1 : n ≤ 1099511627776) (hm1 : m ≤ 1099511627776) :
    Calls Tryz.prog 31 #[.slice A1 n c1, .slice A2 m c2] w (Has w (decide (xs = ys))) := by
  have Hn := Lib.hid hn
  have Hm := Lib.hid hm
  clear hn hm
  have q2 := eqChg
  by_cases hnm : n = m
  · subst hnm
    go_enter Tryz.func31, Tryz.ntmps31
    go_wp2
    go_loopw [5] (fun i wr => ∃ k : Nat, k ≤ n ∧ i = .int .i64 k ∧ Hid (xs.take k = ys.take k) ∧ Hid (∃ q, wr = w.drewN q)) (fun i _ => n - (intOf i).toNat)
    case atStart => exact ⟨0, Nat.zero_le _, rfl, Lib.hid (by simp), Lib.hid ⟨0, rfl⟩⟩
    case round =>
      obtain ⟨k, hk, rfl, hpre, hwr⟩ := hrel
      obtain ⟨q, rfl⟩ := hwr.out
      clear hwr
      by_cases hlt : k < n
      · have hkx : k < xs.length := by rw [Hn.out]; exact hlt
        have hky : k < ys.length := by rw [Hm.out]; exact hlt
        obtain ⟨ad1, rfl, -, x0, x1, x2⟩ := h1.chg hkx
        obtain ⟨ad2, rfl, -, y0, y1, y2⟩ := h2.chg hky
        have hx := List.take_succ_eq_append_getElem hkx
        have hy := List.take_succ_eq_append_getElem hky
        have hgx := List.getElem?_eq_getElem hkx
        have hgy := List.getElem?_eq_getElem hky
        generalize xs[k] = x at *
        generalize ys[k] = y at *
        obtain ⟨xa, xb, xc⟩ := x
        obtain ⟨ya, yb, yc⟩ := y
        simp only at x0 x1 x2 y0 y1 y2
        by_cases hxy : (⟨xa, xb, xc⟩ : Chg) = ⟨ya, yb, yc⟩
        · have Hr : Hid (xs.take (k + 1) = ys.take (k + 1)) := Lib.hid (by rw [hx, hy, hpre.out, hxy])
          have hd : chgEqB ⟨xa, xb, xc⟩ ⟨ya, yb, yc⟩ = true := decide_eq_true hxy
          clear hx hy hgx hgy hxy
          go_wp2
          go_quiet (fail)
          go_wp2
          go_roundw
          case rel => exact ⟨k + 1, by omega, by go_num, Hr, Lib.hid ⟨_, rfl⟩⟩
          case measure => simp [intOf]; omega
        · have Hr : Hid (xs ≠ ys) := Lib.hid (by
            rintro rfl
            rw [hgx] at hgy
            injection hgy with hgy
            exact hxy hgy)
          have hd : chgEqB ⟨xa, xb, xc⟩ ⟨ya, yb, yc⟩ = false := decide_eq_false hxy
          clear hx hy hgx hgy hxy
          go_wp2
          go_quiet (fail)
          go_wp2
          go_ret
          exact ⟨by simp [Hr.out], ((Fr.refl _ _).drewN _).drewN _⟩
      · have Hr : Hid (xs = ys) := Lib.hid (by
          have h := hpre.out
          rwa [List.take_of_length_le (by rw [Hn.out]; omega), List.take_of_length_le (by rw [Hm.out]; omega)] at h)
        go_wp2
        go_ret
        exact ⟨by simp [Hr.out], (Fr.refl _ _).drewN _⟩
  · have Hr : Hid (xs ≠ ys) := Lib.hid (by rintro rfl; exact hnm (Hn.out.symm.trans Hm.out))
    have hb : ((n : Int) != (m : Int)) = true := by rw [bne_iff_ne]; omega
    clear hnm
    go_enter Tryz.func31, Tryz.ntmps31
    go_wp2
    go_ret
    exact ⟨by simp [Hr.out], Fr.refl _ _⟩
theorem run_eqItems13 {P : Program} {e : TypeId} {sz d : Nat} (xs ys : Array Value) (r : Nat → Bool) (vx vy : Nat → Value) (w : World) : ∀ is : List Nat, (∀ i ∈ is, (part e xs (i * sz)).run P w = .ok (vx i) w ∧ (part e ys (i * sz)).run P w = .ok (vy i) w ∧ (Op.equalIn d e (vx i) (vy i)).run P w = .ok (r i) w) →
    (Op.eqItems d e sz xs ys is).run P w = .ok (is.all r) w := by
  intro is
  induction is with
  | nil => intro _; rfl
  | cons i l ih =>
    intro hi
    obtain ⟨px, py, pe⟩ := hi i (by simp)
    simp only [Op.eqItems, Sem.run_bind, px, py, pe, Result.andThen_ok, List.all_cons]
    cases hb : r i
    · rfl
    · simp only [Bool.not_true, Bool.false_eq_true, if_false, Bool.true_and]
      exact ih (fun j hj => hi j (by simp [hj]))
theorem eqRegs (a b : Nat → Int) (w : World) : (Op.equalIn 10000 27 (.agg #[.int .i64 (a 0), .int .i64 (a 1), .int .i64 (a 2), .int .i64 (a 3)]) (.agg #[.int .i64 (b 0), .int .i64 (b 1), .int .i64 (b 2), .int .i64 (b 3)])).run Tryz.prog w = .ok ((List.range 4).all fun i => a i == b i) w := by
  obtain ⟨i, hi, -⟩ := Option.map_eq_some_iff.1 (show (Tryz.prog.info? 2).map (·.size) = some 1 by kernel_rfl)
  rw [run_equalIn_array w 9999 _ _ Tryz.underlying27 hi, show Tryz.prog.cellsOf 2 = 1 by kernel_rfl]
  refine run_eqItems13 _ _ (fun i => a i == b i) (fun i => .int .i64 (a i)) (fun i => .int .i64 (b i)) w _ (fun j hj => ?_)
  have hj : j = 0 ∨ j = 1 ∨ j = 2 ∨ j = 3 := by have := List.mem_range.1 hj; omega
  rcases hj with rfl | rfl | rfl | rfl <;> exact ⟨by kernel_rfl, by kernel_rfl, run_equalIn_int w 9998 _ .i64 .i64 _ _ Tryz.underlying2⟩
/-- Are two outcomes the same? -/
def samePo (a b : Po) : Bool := (a.code == b.code) && ((a.at_ == b.at_) && (((List.range 4).all fun i => a.r i == b.r i) && (decide (a.rd = b.rd) && (decide (a.wt = b.wt) && decide (a.ch = b.ch)))))
theorem samePo_refl (a : Po) : samePo a a = true := by simp [samePo]
def Otc.Small (o : Otc) : Prop := o.p.rd.length ≤ 1048576 ∧ o.p.wt.length ≤ 1048576 ∧ o.p.ch.length ≤ 1048576
set_option maxRecDepth 100000 in
set_option maxHeartbeats 8000000 in
theorem refSame13_any (a b : Otc) (w : World) (ha : Otcs w w.heap.size a) (hb : Otcs w w.heap.size b) (hFa : a.Small) (hFb : b.Small) : Calls Tryz.prog 13 #[a.agg, b.agg] w (Has w (samePo a.p b.p)) := by
  have HR := Lib.hid (fun W (hW : Fr No w W) => refSame4_any a.p.rd b.p.rd a.rA b.rA a.p.rd.length b.p.rd.length a.rc b.rc W (ha.rd.since hW) (hb.rd.since hW) rfl rfl (Nat.le_trans hFa.1 (by omega)) (Nat.le_trans hFb.1 (by omega)))
  have HW := Lib.hid (fun W (hW : Fr No w W) => refSame4_any a.p.wt b.p.wt a.wA b.wA a.p.wt.length b.p.wt.length a.wc b.wc W (ha.wt.since hW) (hb.wt.since hW) rfl rfl (Nat.le_trans hFa.2.1 (by omega)) (Nat.le_trans hFb.2.1 (by omega)))
  have HC := Lib.hid (fun W (hW : Fr No w W) => refChanges13_any a.p.ch b.p.ch a.cA b.cA a.p.ch.length b.p.ch.length a.cc b.cc W (ha.ch.since hW) (hb.ch.since hW) rfl rfl (Nat.le_trans hFa.2.2 (by omega)) (Nat.le_trans hFb.2.2 (by omega)))
  have hq := eqRegs a.p.r b.p.r
  unfold samePo
  have f0 : Fr No w ((w.alloc (.cells #[.int .i64 a.p.code, .int .i64 a.p.at_, .int .i64 (a.p.r 0), .int .i64 (a.p.r 1), .int .i64 (a.p.r 2), .int .i64 (a.p.r 3), .slice a.rA a.p.rd.length a.rc, .slice a.wA a.p.wt.length a.wc, .slice a.cA a.p.ch.length a.cc] 39)).alloc (.cells #[.int .i64 b.p.code, .int .i64 b.p.at_, .int .i64 (b.p.r 0), .int .i64 (b.p.r 1), .int .i64 (b.p.r 2), .int .i64 (b.p.r 3), .slice b.rA b.p.rd.length b.rc, .slice b.wA b.p.wt.length b.wc, .slice b.cA b.p.ch.length b.cc] 39)) := ((Fr.refl _ _).alloc _).alloc _
  have bA := (Bk.made w 39 #[.int .i64 a.p.code, .int .i64 a.p.at_, .int .i64 (a.p.r 0), .int .i64 (a.p.r 1), .int .i64 (a.p.r 2), .int .i64 (a.p.r 3), .slice a.rA a.p.rd.length a.rc, .slice a.wA a.p.wt.length a.wc, .slice a.cA a.p.ch.length a.cc]).alloc (.cells #[.int .i64 b.p.code, .int .i64 b.p.at_, .int .i64 (b.p.r 0), .int .i64 (b.p.r 1), .int .i64 (b.p.r 2), .int .i64 (b.p.r 3), .slice b.rA b.p.rd.length b.rc, .slice b.wA b.p.wt.length b.wc, .slice b.cA b.p.ch.length b.cc] 39)
  have bB := Bk.made (w.alloc (.cells #[.int .i64 a.p.code, .int .i64 a.p.at_, .int .i64 (a.p.r 0), .int .i64 (a.p.r 1), .int .i64 (a.p.r 2), .int .i64 (a.p.r 3), .slice a.rA a.p.rd.length a.rc, .slice a.wA a.p.wt.length a.wc, .slice a.cA a.p.ch.length a.cc] 39)) 39 #[.int .i64 b.p.code, .int .i64 b.p.at_, .int .i64 (b.p.r 0), .int .i64 (b.p.r 1), .int .i64 (b.p.r 2), .int .i64 (b.p.r 3), .slice b.rA b.p.rd.length b.rc, .slice b.wA b.p.wt.length b.wc, .slice b.cA b.p.ch.length b.cc]
  simp only [World.size_alloc] at bB
  obtain ⟨q, hq0⟩ : ∃ q, w.heap.size = q := ⟨_, rfl⟩
  rw [hq0] at bA bB
  obtain ⟨W0, hW0⟩ : ∃ W0, (w.alloc (.cells #[.int .i64 a.p.code, .int .i64 a.p.at_, .int .i64 (a.p.r 0), .int .i64 (a.p.r 1), .int .i64 (a.p.r 2), .int .i64 (a.p.r 3), .slice a.rA a.p.rd.length a.rc, .slice a.wA a.p.wt.length a.wc, .slice a.cA a.p.ch.length a.cc] 39)).alloc (.cells #[.int .i64 b.p.code, .int .i64 b.p.at_, .int .i64 (b.p.r 0), .int .i64 (b.p.r 1), .int .i64 (b.p.r 2), .int .i64 (b.p.r 3), .slice b.rA b.p.rd.length b.rc, .slice b.wA b.p.wt.length b.wc, .slice b.cA b.p.ch.length b.cc] 39) = W0 := ⟨_, rfl⟩
  rw [hW0] at bA bB f0
  have HF0 := Lib.hid f0
  have HbA := Lib.hid (fun W (h : Fr No W0 W) => bA.fr h (fun e => e))
  have HbB := Lib.hid (fun W (h : Fr No W0 W) => bB.fr h (fun e => e))
  unfold Otc.agg
  generalize ((List.range 4).all fun i => a.p.r i == b.p.r i) = e3 at *
  unfold Has at HC
  generalize decide (a.p.rd = b.p.rd) = e4 at *
  generalize decide (a.p.wt = b.p.wt) = e5 at *
  generalize decide (a.p.ch = b.p.ch) = e6 at *
  clear ha hb hFa hFb f0
  generalize a.p.code = cda at *
  generalize a.p.at_ = ata at *
  generalize a.p.r 0 = r0a at *
  generalize a.p.r 1 = r1a at *
  generalize a.p.r 2 = r2a at *
  generalize a.p.r 3 = r3a at *
  generalize a.p.rd.length = na at *
  generalize a.p.wt.length = ma at *
  generalize a.p.ch.length = la at *
  generalize a.rA = Ra at *
  generalize a.wA = Wa at *
  generalize a.cA = Ca at *
  generalize a.rc = rca at *
  generalize a.wc = wca at *
  generalize a.cc = cca at *
  generalize b.p.code = cdb at *
  generalize b.p.at_ = atb at *
  generalize b.p.r 0 = r0b at *
  generalize b.p.r 1 = r1b at *
  generalize b.p.r 2 = r2b at *
  generalize b.p.r 3 = r3b at *
  generalize b.p.rd.length = nb at *
  generalize b.p.wt.length = mb at *
  generalize b.p.ch.length = lb at *
  generalize b.rA = Rb at *
  generalize b.wA = Wb at *
  generalize b.cA = Cb at *
  generalize b.rc = rcb at *
  generalize b.wc = wcb at *
  generalize b.cc = ccb at *
  have uaz := HbA.out _ (Fr.refl No _)
  have a0z := uaz.cell 0
  have a1z := uaz.cell 1
  have a2z := uaz.cell 2
  have a3z := uaz.cell 3
  have a4z := uaz.cell 4
  have a5z := uaz.cell 5
  have a6z := uaz.cell 6
  have a7z := uaz.cell 7
  have a8z := uaz.cell 8
  simp only [List.getElem?_toArray, List.getElem?_cons_zero, List.getElem?_cons_succ] at a0z a1z a2z a3z a4z a5z a6z a7z a8z
  have ubz := HbB.out _ (Fr.refl No _)
  have b0z := ubz.cell 0
  have b1z := ubz.cell 1
  have b2z := ubz.cell 2
  have b3z := ubz.cell 3
  have b4z := ubz.cell 4
  have b5z := ubz.cell 5
  have b6z := ubz.cell 6
  have b7z := ubz.cell 7
  have b8z := ubz.cell 8
  simp only [List.getElem?_toArray, List.getElem?_cons_zero, List.getElem?_cons_succ] at b0z b1z b2z b3z b4z b5z b6z b7z b8z
  obtain ⟨e1, h1⟩ : ∃ e, (cda == cdb) = e := ⟨_, rfl⟩
  obtain ⟨e2, h2⟩ : ∃ e, (ata == atb) = e := ⟨_, rfl⟩
  rw [h1, h2]
  cases e1
  · go_enter Tryz.func13, Tryz.ntmps13
    go_wp2
    go_ret
    exact ⟨by simp, HF0.out⟩
  cases e2
  · go_enter Tryz.func13, Tryz.ntmps13
    go_wp2
    go_ret
    exact ⟨by simp, HF0.out⟩
  cases e3
  · go_enter Tryz.func13, Tryz.ntmps13
    go_wp2
    go_ret
    exact ⟨by simp, HF0.out⟩
  cases e4
  · go_enter Tryz.func13, Tryz.ntmps13
    go_wp2_with fail
    refine (HR.out _ (HF0.out.trans' (Fr.refl No W0) (fun _ _ e => e))).mono ?_
    rintro e w1 ⟨rfl, f1⟩
    have F1 : Fr No W0 w1 := (Fr.refl No W0).trans' f1 (fun _ _ e => e)
    go_wp2
    go_ret
    exact ⟨by simp, HF0.out.trans' F1 (fun _ _ e => e)⟩
  cases e5
  · go_enter Tryz.func13, Tryz.ntmps13
    go_wp2_with fail
    refine (HR.out _ (HF0.out.trans' (Fr.refl No W0) (fun _ _ e => e))).mono ?_
    rintro e w1 ⟨rfl, f1⟩
    have F1 : Fr No W0 w1 := (Fr.refl No W0).trans' f1 (fun _ _ e => e)
    have uas0 := HbA.out _ (F1)
    have a7s0 := uas0.cell 7
    simp only [List.getElem?_toArray, List.getElem?_cons_zero, List.getElem?_cons_succ] at a7s0
    have ubs0 := HbB.out _ (F1)
    have b7s0 := ubs0.cell 7
    simp only [List.getElem?_toArray, List.getElem?_cons_zero, List.getElem?_cons_succ] at b7s0
    go_wp2_with fail
    refine (HW.out _ (HF0.out.trans' F1 (fun _ _ e => e))).mono ?_
    rintro e w2 ⟨rfl, f2⟩
    have F2 : Fr No W0 w2 := F1.trans' f2 (fun _ _ e => e)
    go_wp2
    go_ret
    exact ⟨by simp, HF0.out.trans' F2 (fun _ _ e => e)⟩
  go_enter Tryz.func13, Tryz.ntmps13
  go_wp2_with fail
  refine (HR.out _ (HF0.out.trans' (Fr.refl No W0) (fun _ _ e => e))).mono ?_
  rintro e w1 ⟨rfl, f1⟩
  have F1 : Fr No W0 w1 := (Fr.refl No W0).trans' f1 (fun _ _ e => e)
  have uas0 := HbA.out _ (F1)
  have a7s0 := uas0.cell 7
  simp only [List.getElem?_toArray, List.getElem?_cons_zero, List.getElem?_cons_succ] at a7s0
  have ubs0 := HbB.out _ (F1)
  have b7s0 := ubs0.cell 7
  simp only [List.getElem?_toArray, List.getElem?_cons_zero, List.getElem?_cons_succ] at b7s0
  go_wp2_with fail
  refine (HW.out _ (HF0.out.trans' F1 (fun _ _ e => e))).mono ?_
  rintro e w2 ⟨rfl, f2⟩
  have F2 : Fr No W0 w2 := F1.trans' f2 (fun _ _ e => e)
  have uas1 := HbA.out _ (F2)
  have a8s1 := uas1.cell 8
  simp only [List.getElem?_toArray, List.getElem?_cons_zero, List.getElem?_cons_succ] at a8s1
  have ubs1 := HbB.out _ (F2)
  have b8s1 := ubs1.cell 8
  simp only [List.getElem?_toArray, List.getElem?_cons_zero, List.getElem?_cons_succ] at b8s1
  go_wp2_with fail
  refine (HC.out _ (HF0.out.trans' F2 (fun _ _ e => e))).mono ?_
  rintro e w3 ⟨rfl, f3⟩
  have F3 : Fr No W0 w3 := F2.trans' f3 (fun _ _ e => e)
  go_wp2
  go_ret
  exact ⟨by simp, HF0.out.trans' F3 (fun _ _ e => e)⟩
end Go.Proofs.YthenadijiepmnaaGreat
