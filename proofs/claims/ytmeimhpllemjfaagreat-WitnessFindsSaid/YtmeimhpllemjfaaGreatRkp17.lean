/- The document's own: does an order keep a history? -/
import Derived.Test.YtmeimhpllemjfaaGreatOrd17
import Derived.Test.YtmeimhpllemjfaaGreatWls12
namespace Go.Proofs.YtmeimhpllemjfaaGreat
open Go.RowKit

theorem ld_nd17 {W : World} {p : Addr} {s c t : Int} {k : Bool} {v1 v2 : Value} (c0 : W.cell? p = some (.int .i64 s)) (c1 : W.cell? ⟨p.block, p.off + 1, none⟩ = some (.int .i64 c)) (c2 : W.cell? ⟨p.block, p.off + 2, none⟩ = some (.int .i64 t)) (c3 : W.cell? ⟨p.block, p.off + 3, none⟩ = some (.bool k)) (c4 : W.cell? ⟨p.block, p.off + 4, none⟩ = some v1) (c5 : W.cell? ⟨p.block, p.off + 5, none⟩ = some v2) :
  LdO W 37 p (.agg #[.int .i64 s, .int .i64 c, .int .i64 t, .bool k, v1, v2]) := by
 unfold LdO
 have hu := Tryz.underlying37
 go_simp
set_option maxRecDepth 100000 in
set_option maxHeartbeats 8000000 in
theorem refKeeps17 (h : List Ndl) (A : Option Addr) (n c : Nat) (l : List Int) (AO : Option Addr) (m co : Nat) (w : World) (hs : Nds w A h) (hh : h.length = n) (hnm : n ≤ 1048576) (ho : Sl w w.heap.size AO (ints l)) (hl : l.length = m) (hm : m ≤ 1048576)
  (hC : ∀ (a b : Nat) (ha : a < h.length) (hb : b < h.length) W, Fr No w W → Calls Tryz.prog 28 #[h[a].agg, h[b].agg] W (Has W (confN h[a].n h[b].n)))
  (r : Bool) (hr : r = true ↔ isOrd n l = true ∧ keepP (ndsOf h) (plc l)) :
  Calls Tryz.prog 11 #[.slice A n c, .slice AO m co] w (Has w r) := by
 have HPl := Lib.hid (refPlaces17 n l AO m co w ho hl hnm hm)
 have Hh := Lib.hid hh
 have HCf := Lib.hid hC
 have Hnd := Lib.hid (fun (k : Nat) (hk : k < h.length) W (hW : Fr No w W) => (hs.since hW).sl.nd hk)
 have Hno := Lib.hid (fun (e : isOrd n l = false) => show r = false by
  cases q : r
  ·rfl
  ·rw [hr.1 q |>.1] at e
   cases e)
 have Hbad := Lib.hid (fun (i k : Nat) (hk : k < i) (hi : i < h.length) (hc : (h[i].n.saga = (h[k]'(Nat.lt_trans hk hi)).n.saga ∨ confN h[i].n (h[k]'(Nat.lt_trans hk hi)).n = true)) (hp : ¬ plc l k ≤ plc l i) => show r = false by
  cases q : r
  ·rfl
  ·have := (hr.1 q).2 i k hk (by rw [ndsOf_len]; exact hi) (by rw [ndsOf_at hi, ndsOf_at (show k < h.length by omega)]; exact hc)
   exact absurd this hp)
 have Hyes := Lib.hid (fun (e : isOrd n l = true) (hk : ∀ i k (hk : k < i) (hi : i < h.length), (h[i].n.saga = (h[k]'(Nat.lt_trans hk hi)).n.saga ∨ confN h[i].n (h[k]'(Nat.lt_trans hk hi)).n = true) → plc l k ≤ plc l i) => show r = true from hr.2 ⟨e, fun i k h1 h2 h3 => by
  rw [ndsOf_len] at h2
  rw [ndsOf_at h2, ndsOf_at (show k < h.length by omega)] at h3
  exact hk i k h1 h2 h3⟩)
 generalize plc l = p at *
 generalize isOrd n l = ob at *
 clear hs hh ho hl hm hC hr
 go_enter Tryz.func11, Tryz.ntmps11
 go_wp2_with fail
 refine (HPl.out).mono ?_
 rintro e w1 ⟨S, rfl, hS, f1⟩
 have HF1 := Lib.hid f1
 have HS := Lib.hid hS
 clear f1 hS HPl
 cases ob
 ·have HRf := Hno.out rfl
  clear HS Hbad Hyes Hno
  go_wp2
  go_ret
  exact ⟨by rw [HRf]; rfl, HF1.out⟩
 ·obtain ⟨G, rfl, hG⟩ := HS.out rfl
  have HG := Lib.hid hG
  have HY := Lib.hid (fun hk => Hyes.out rfl hk)
  clear hG HS Hno Hyes
  go_wp2
  go_loopw [7] (fun iv wr => ∃ i : Nat, i ≤ n ∧ iv = .int .i64 (i : Int) ∧ Hid (∀ i' k (hk : k < i') (hi : i' < h.length), i' < i → (h[i'].n.saga = (h[k]'(Nat.lt_trans hk hi)).n.saga ∨ confN h[i'].n (h[k]'(Nat.lt_trans hk hi)).n = true) → p k ≤ p i') ∧ Hid (Fr No w1 wr)) (fun iv _ => n - (Go.RowKit.intOf iv).toNat)
  case atStart => exact ⟨0, Nat.zero_le _, rfl, Lib.hid (fun i' k _ _ h2 => by omega), Lib.hid (Fr.refl _ _)⟩
  case round =>
   obtain ⟨i, hi, rfl, hpre, hfr⟩ := hrel
   by_cases hlt : i < n
   ·have hil : i < h.length := by rw [Hh.out]; exact hlt
    have hin : ((i : Nat) : Int) < (n : Int) := by omega
    go_wp2
    go_loopw [8] (fun kv wv => ∃ k : Nat, k ≤ i ∧ kv = .int .i64 (k : Int) ∧ Hid (∀ k' (hk : k' < i), k' < k → (h[i].n.saga = (h[k']'(Nat.lt_trans hk hil)).n.saga ∨ confN h[i].n (h[k']'(Nat.lt_trans hk hil)).n = true) → p k' ≤ p i) ∧ Hid (Fr No w1 wv)) (fun kv _ => i - (Go.RowKit.intOf kv).toNat)
    case atStart => exact ⟨0, Nat.zero_le _, rfl, Lib.hid (fun k' _ h2 => by omega), hfr⟩
    case round =>
     clear hfr
     obtain ⟨k, hk, rfl, hin2, hfr⟩ := hrel
     by_cases hki : k < i
     ·have hkl : k < h.length := by omega
      have hkn : ((k : Nat) : Int) < (i : Int) := by omega
      have hkn2 : ((k : Nat) : Int) < (n : Int) := by omega
      have HFw := Lib.hid (HF1.out.trans' hfr.out (fun _ _ e => e))
      obtain ⟨ad, rfl, -, -⟩ := Hnd.out i hil wr HFw.out
      have hNx := fun (q : (h[i].n.saga = h[k].n.saga ∨ confN h[i].n h[k].n = true) → p k ≤ p i) => show ∀ k' (hk : k' < i), k' < k + 1 → (h[i].n.saga = (h[k']'(Nat.lt_trans hk hil)).n.saga ∨ confN h[i].n (h[k']'(Nat.lt_trans hk hil)).n = true) → p k' ≤ p i from fun k' h1 h2 h3 => by
       by_cases e : k' = k
       ·subst e; exact q h3
       ·exact hin2.out k' h1 (by omega) h3
      have hBd := fun q hp => Hbad.out i k hki hil q hp
      have HC := Lib.hid (fun W (hW : Fr No wr W) => HCf.out i k hil hkl W (HFw.out.trans' hW (fun _ _ e => e)))
      have HH0 := Lib.hid (fun V (hV : Fr No wr V) => show (V.cell? (ad.add (i * 6)) = some (.int .i64 h[i].n.saga) ∧ V.cell? (ad.add (k * 6)) = some (.int .i64 h[k].n.saga)) ∧ (LdO V 37 (ad.add (i * 6)) h[i].agg ∧ LdO V 37 (ad.add (k * 6)) h[k].agg) ∧ V.cell? ⟨G, k, none⟩ = some (.int .i64 (p k)) ∧ V.cell? ⟨G, i, none⟩ = some (.int .i64 (p i)) by
       have hV2 := HFw.out.trans' hV (fun _ _ e => e)
       obtain ⟨ad1, e1, -, a0, a1, a2, a3, a4, a5⟩ := Hnd.out i hil V hV2
       obtain ⟨ad2, e2, -, b0, b1, b2, b3, b4, b5⟩ := Hnd.out k hkl V hV2
       injection e1 with e1
       injection e2 with e2
       subst e1
       subst e2
       have hGV := (HG.out.fr hfr.out (fun e => e)).fr hV (fun e => e)
       exact ⟨⟨a0, b0⟩, ⟨ld_nd17 a0 a1 a2 a3 a4 a5, ld_nd17 b0 b1 b2 b3 b4 b5⟩, by rw [hGV.cell, intsA_at n _ (by omega)], by rw [hGV.cell, intsA_at n _ hlt]⟩)
      unfold Ndl.agg Ndl.arr at HC HH0
      have HH := HH0
      generalize p k = pk at *
      generalize p i = pi at *
      generalize confN h[i].n h[k].n = cf at *
      generalize h[i].n.saga = sx at *
      generalize h[i].n.cls = cx at *
      generalize h[i].n.step = tx at *
      generalize h[i].n.back = kx at *
      generalize h[i].n.rd.length = nx at *
      generalize h[i].n.wt.length = mx at *
      generalize h[i].rA = Rx at *
      generalize h[i].rc = rcx at *
      generalize h[i].wA = Vx at *
      generalize h[i].wc = wcx at *
      generalize h[k].n.saga = sy at *
      generalize h[k].n.cls = cy at *
      generalize h[k].n.step = ty at *
      generalize h[k].n.back = ky at *
      generalize h[k].n.rd.length = ny at *
      generalize h[k].n.wt.length = my at *
      generalize h[k].rA = Ry at *
      generalize h[k].rc = rcy at *
      generalize h[k].wA = Vy at *
      generalize h[k].wc = wcy at *
      clear HH0 hin2
      by_cases heq : sx = sy
      ·subst heq
       by_cases hgt : pi < pk
       ·have HRf := hBd (.inl rfl) (by omega)
        clear hNx hBd HC
        go_wp2_with fail
        refine wp_region_held_drew (S := fun V => (V.cell? (ad.add (i * 6)) = some (.int .i64 sx) ∧ V.cell? (ad.add (k * 6)) = some (.int .i64 sx)) ∧ (LdO V 37 (ad.add (i * 6)) (.agg #[.int .i64 sx, .int .i64 cx, .int .i64 tx, .bool kx, .slice Rx nx rcx, .slice Vx mx wcx]) ∧ LdO V 37 (ad.add (k * 6)) (.agg #[.int .i64 sx, .int .i64 cy, .int .i64 ty, .bool ky, .slice Ry ny rcy, .slice Vy my wcy])) ∧ V.cell? ⟨G, k, none⟩ = some (.int .i64 pk) ∧ V.cell? ⟨G, i, none⟩ = some (.int .i64 pi)) (by kernel_rfl) (HH.out _ ((Fr.refl No wr).drew)) (fun hHeld => ?_)
        refine any_u 29 (.slice (some ad) n c) (i := 0) rfl rfl ?_
        simp only [Act.put, szA, szB, szC]
        refine any_u 30 (.int .i64 ((i : Nat) : Int)) (i := 1) rfl rfl ?_
        simp only [Act.put, szA, szB, szC]
        refine any_u 31 (.pointer (some (ad.add (i * 6)))) (i := 2) rfl rfl ?_
        simp only [Act.put, szA, szB, szC]
        refine any_u 32 (.pointer (some (ad.add (i * 6)))) (i := 3) rfl rfl ?_
        simp only [Act.put, szA, szB, szC]
        refine any_u 33 (.int .i64 sx) (i := 4) rfl rfl ?_
        simp only [Act.put, szA, szB, szC]
        refine any_u 34 (.slice (some ad) n c) (i := 5) rfl rfl ?_
        simp only [Act.put, szA, szB, szC]
        refine any_u 35 (.int .i64 ((k : Nat) : Int)) (i := 6) rfl rfl ?_
        simp only [Act.put, szA, szB, szC]
        refine any_u 36 (.pointer (some (ad.add (k * 6)))) (i := 7) rfl rfl ?_
        simp only [Act.put, szA, szB, szC]
        refine any_u 37 (.pointer (some (ad.add (k * 6)))) (i := 8) rfl rfl ?_
        simp only [Act.put, szA, szB, szC]
        refine any_u 38 (.int .i64 sx) (i := 9) rfl rfl ?_
        simp only [Act.put, szA, szB, szC]
        refine any_u 39 (.bool true) (i := 10) rfl rfl ?_
        simp only [Act.put, szA, szB, szC]
        refine any_u 40 (.bool true) (i := 11) rfl rfl ?_
        simp only [Act.put, szA, szB, szC]
        refine any_v 41 (i := 12) rfl rfl ?_
        simp only [Act.put, szA, szB, szC]
        refine any_v 42 (i := 13) rfl rfl ?_
        simp only [Act.put, szA, szB, szC]
        refine any_v 43 (i := 14) rfl rfl ?_
        simp only [Act.put, szA, szB, szC]
        refine any_v 44 (i := 15) rfl rfl ?_
        simp only [Act.put, szA, szB, szC]
        refine any_v 45 (i := 16) rfl rfl ?_
        simp only [Act.put, szA, szB, szC]
        refine any_v 46 (i := 17) rfl rfl ?_
        simp only [Act.put, szA, szB, szC]
        refine any_v 47 (i := 18) rfl rfl ?_
        simp only [Act.put, szA, szB, szC]
        refine any_v 48 (i := 19) rfl rfl ?_
        simp only [Act.put, szA, szB, szC]
        refine any_v 49 (i := 20) rfl rfl ?_
        simp only [Act.put, szA, szB, szC]
        refine any_u 50 (.bool true) (i := 21) rfl rfl ?_
        simp only [Act.put, szA, szB, szC]
        refine any_u 51 (.bool true) (i := 22) rfl rfl ?_
        simp only [Act.put, szA, szB, szC]
        refine any_u 52 (.slice (some ⟨G, 0, none⟩) n n) (i := 23) rfl rfl ?_
        simp only [Act.put, szA, szB, szC]
        refine any_u 53 (.int .i64 ((k : Nat) : Int)) (i := 24) rfl rfl ?_
        simp only [Act.put, szA, szB, szC]
        refine any_u 54 (.pointer (some ⟨G, k, none⟩)) (i := 25) rfl rfl ?_
        simp only [Act.put, szA, szB, szC]
        refine any_u 55 (.int .i64 pk) (i := 26) rfl rfl ?_
        simp only [Act.put, szA, szB, szC]
        refine any_u 56 (.slice (some ⟨G, 0, none⟩) n n) (i := 27) rfl rfl ?_
        simp only [Act.put, szA, szB, szC]
        refine any_u 57 (.int .i64 ((i : Nat) : Int)) (i := 28) rfl rfl ?_
        simp only [Act.put, szA, szB, szC]
        refine any_u 58 (.pointer (some ⟨G, i, none⟩)) (i := 29) rfl rfl ?_
        simp only [Act.put, szA, szB, szC]
        refine any_u 59 (.int .i64 pi) (i := 30) rfl rfl ?_
        simp only [Act.put, szA, szB, szC]
        refine any_u 60 (.bool true) (i := 31) rfl rfl ?_
        simp only [Act.put, szA, szB, szC]
        refine any_u 61 (.bool true) (i := 32) rfl rfl ?_
        simp only [Act.put, szA, szB, szC]
        refine wpAnyH_done (by kernel_rfl) ?_ _
        clear hHeld
        have HFx := Lib.hid (hfr.out.trans' ((Fr.refl No wr).drew) (fun _ _ e => e))
        clear hfr
        go_wp2
        go_ret
        exact ⟨by rw [HRf]; rfl, HF1.out.trans' HFx.out (fun _ _ e => e)⟩
       ·have HNx := Lib.hid (hNx (fun _ => by omega))
        clear hNx hBd HC
        go_wp2_with fail
        refine wp_region_held_drew (S := fun V => (V.cell? (ad.add (i * 6)) = some (.int .i64 sx) ∧ V.cell? (ad.add (k * 6)) = some (.int .i64 sx)) ∧ (LdO V 37 (ad.add (i * 6)) (.agg #[.int .i64 sx, .int .i64 cx, .int .i64 tx, .bool kx, .slice Rx nx rcx, .slice Vx mx wcx]) ∧ LdO V 37 (ad.add (k * 6)) (.agg #[.int .i64 sx, .int .i64 cy, .int .i64 ty, .bool ky, .slice Ry ny rcy, .slice Vy my wcy])) ∧ V.cell? ⟨G, k, none⟩ = some (.int .i64 pk) ∧ V.cell? ⟨G, i, none⟩ = some (.int .i64 pi)) (by kernel_rfl) (HH.out _ ((Fr.refl No wr).drew)) (fun hHeld => ?_)
        refine any_u 29 (.slice (some ad) n c) (i := 0) rfl rfl ?_
        simp only [Act.put, szA, szB, szC]
        refine any_u 30 (.int .i64 ((i : Nat) : Int)) (i := 1) rfl rfl ?_
        simp only [Act.put, szA, szB, szC]
        refine any_u 31 (.pointer (some (ad.add (i * 6)))) (i := 2) rfl rfl ?_
        simp only [Act.put, szA, szB, szC]
        refine any_u 32 (.pointer (some (ad.add (i * 6)))) (i := 3) rfl rfl ?_
        simp only [Act.put, szA, szB, szC]
        refine any_u 33 (.int .i64 sx) (i := 4) rfl rfl ?_
        simp only [Act.put, szA, szB, szC]
        refine any_u 34 (.slice (some ad) n c) (i := 5) rfl rfl ?_
        simp only [Act.put, szA, szB, szC]
        refine any_u 35 (.int .i64 ((k : Nat) : Int)) (i := 6) rfl rfl ?_
        simp only [Act.put, szA, szB, szC]
        refine any_u 36 (.pointer (some (ad.add (k * 6)))) (i := 7) rfl rfl ?_
        simp only [Act.put, szA, szB, szC]
        refine any_u 37 (.pointer (some (ad.add (k * 6)))) (i := 8) rfl rfl ?_
        simp only [Act.put, szA, szB, szC]
        refine any_u 38 (.int .i64 sx) (i := 9) rfl rfl ?_
        simp only [Act.put, szA, szB, szC]
        refine any_u 39 (.bool true) (i := 10) rfl rfl ?_
        simp only [Act.put, szA, szB, szC]
        refine any_u 40 (.bool true) (i := 11) rfl rfl ?_
        simp only [Act.put, szA, szB, szC]
        refine any_v 41 (i := 12) rfl rfl ?_
        simp only [Act.put, szA, szB, szC]
        refine any_v 42 (i := 13) rfl rfl ?_
        simp only [Act.put, szA, szB, szC]
        refine any_v 43 (i := 14) rfl rfl ?_
        simp only [Act.put, szA, szB, szC]
        refine any_v 44 (i := 15) rfl rfl ?_
        simp only [Act.put, szA, szB, szC]
        refine any_v 45 (i := 16) rfl rfl ?_
        simp only [Act.put, szA, szB, szC]
        refine any_v 46 (i := 17) rfl rfl ?_
        simp only [Act.put, szA, szB, szC]
        refine any_v 47 (i := 18) rfl rfl ?_
        simp only [Act.put, szA, szB, szC]
        refine any_v 48 (i := 19) rfl rfl ?_
        simp only [Act.put, szA, szB, szC]
        refine any_v 49 (i := 20) rfl rfl ?_
        simp only [Act.put, szA, szB, szC]
        refine any_u 50 (.bool true) (i := 21) rfl rfl ?_
        simp only [Act.put, szA, szB, szC]
        refine any_u 51 (.bool true) (i := 22) rfl rfl ?_
        simp only [Act.put, szA, szB, szC]
        refine any_u 52 (.slice (some ⟨G, 0, none⟩) n n) (i := 23) rfl rfl ?_
        simp only [Act.put, szA, szB, szC]
        refine any_u 53 (.int .i64 ((k : Nat) : Int)) (i := 24) rfl rfl ?_
        simp only [Act.put, szA, szB, szC]
        refine any_u 54 (.pointer (some ⟨G, k, none⟩)) (i := 25) rfl rfl ?_
        simp only [Act.put, szA, szB, szC]
        refine any_u 55 (.int .i64 pk) (i := 26) rfl rfl ?_
        simp only [Act.put, szA, szB, szC]
        refine any_u 56 (.slice (some ⟨G, 0, none⟩) n n) (i := 27) rfl rfl ?_
        simp only [Act.put, szA, szB, szC]
        refine any_u 57 (.int .i64 ((i : Nat) : Int)) (i := 28) rfl rfl ?_
        simp only [Act.put, szA, szB, szC]
        refine any_u 58 (.pointer (some ⟨G, i, none⟩)) (i := 29) rfl rfl ?_
        simp only [Act.put, szA, szB, szC]
        refine any_u 59 (.int .i64 pi) (i := 30) rfl rfl ?_
        simp only [Act.put, szA, szB, szC]
        refine any_u 60 (.bool false) (i := 31) rfl rfl ?_
        simp only [Act.put, szA, szB, szC]
        refine any_u 61 (.bool false) (i := 32) rfl rfl ?_
        simp only [Act.put, szA, szB, szC]
        refine wpAnyH_done (by kernel_rfl) ?_ _
        clear hHeld
        have HFx := Lib.hid (hfr.out.trans' ((Fr.refl No wr).drew) (fun _ _ e => e))
        clear hfr
        go_wp2
        go_roundw
        case rel => exact ⟨k + 1, by omega, by go_num, HNx, HFx⟩
        case measure => simp [Go.RowKit.intOf]; omega
      ·have d1 : (sx == sy) = false := by simpa using heq
       cases cf
       ·have HNx := Lib.hid (hNx (fun q => by rcases q with q | q; exact absurd q heq; cases q))
        clear hNx hBd
        go_wp2_with fail
        refine wp_region_held_drew (S := fun V => (V.cell? (ad.add (i * 6)) = some (.int .i64 sx) ∧ V.cell? (ad.add (k * 6)) = some (.int .i64 sy)) ∧ (LdO V 37 (ad.add (i * 6)) (.agg #[.int .i64 sx, .int .i64 cx, .int .i64 tx, .bool kx, .slice Rx nx rcx, .slice Vx mx wcx]) ∧ LdO V 37 (ad.add (k * 6)) (.agg #[.int .i64 sy, .int .i64 cy, .int .i64 ty, .bool ky, .slice Ry ny rcy, .slice Vy my wcy])) ∧ V.cell? ⟨G, k, none⟩ = some (.int .i64 pk) ∧ V.cell? ⟨G, i, none⟩ = some (.int .i64 pi)) (by kernel_rfl) (HH.out _ ((Fr.refl No wr).drew)) (fun hHeld => ?_)
        refine any_u 29 (.slice (some ad) n c) (i := 0) rfl rfl ?_
        simp only [Act.put, szA, szB, szC]
        refine any_u 30 (.int .i64 ((i : Nat) : Int)) (i := 1) rfl rfl ?_
        simp only [Act.put, szA, szB, szC]
        refine any_u 31 (.pointer (some (ad.add (i * 6)))) (i := 2) rfl rfl ?_
        simp only [Act.put, szA, szB, szC]
        refine any_u 32 (.pointer (some (ad.add (i * 6)))) (i := 3) rfl rfl ?_
        simp only [Act.put, szA, szB, szC]
        refine any_u 33 (.int .i64 sx) (i := 4) rfl rfl ?_
        simp only [Act.put, szA, szB, szC]
        refine any_u 34 (.slice (some ad) n c) (i := 5) rfl rfl ?_
        simp only [Act.put, szA, szB, szC]
        refine any_u 35 (.int .i64 ((k : Nat) : Int)) (i := 6) rfl rfl ?_
        simp only [Act.put, szA, szB, szC]
        refine any_u 36 (.pointer (some (ad.add (k * 6)))) (i := 7) rfl rfl ?_
        simp only [Act.put, szA, szB, szC]
        refine any_u 37 (.pointer (some (ad.add (k * 6)))) (i := 8) rfl rfl ?_
        simp only [Act.put, szA, szB, szC]
        refine any_u 38 (.int .i64 sy) (i := 9) rfl rfl ?_
        simp only [Act.put, szA, szB, szC]
        refine any_u 39 (.bool false) (i := 10) rfl rfl ?_
        simp only [Act.put, szA, szB, szC]
        refine any_u 40 (.bool false) (i := 11) rfl rfl ?_
        simp only [Act.put, szA, szB, szC]
        refine any_u 41 (.slice (some ad) n c) (i := 12) rfl rfl ?_
        simp only [Act.put, szA, szB, szC]
        refine any_u 42 (.int .i64 ((i : Nat) : Int)) (i := 13) rfl rfl ?_
        simp only [Act.put, szA, szB, szC]
        refine any_u 43 (.pointer (some (ad.add (i * 6)))) (i := 14) rfl rfl ?_
        simp only [Act.put, szA, szB, szC]
        refine any_tk 44 (.agg #[.int .i64 sx, .int .i64 cx, .int .i64 tx, .bool kx, .slice Rx nx rcx, .slice Vx mx wcx]) (i := 15) rfl rfl (by kernel_rfl) (fun _ _ _ h => h) (by rfl) (by intro w hSw; exact exec_ld rfl hSw.2.1.1) (by assumption) ?_
        simp only [Act.put, szA, szB, szC]
        refine any_u 45 (.slice (some ad) n c) (i := 16) rfl rfl ?_
        simp only [Act.put, szA, szB, szC]
        refine any_u 46 (.int .i64 ((k : Nat) : Int)) (i := 17) rfl rfl ?_
        simp only [Act.put, szA, szB, szC]
        refine any_u 47 (.pointer (some (ad.add (k * 6)))) (i := 18) rfl rfl ?_
        simp only [Act.put, szA, szB, szC]
        refine any_tk 48 (.agg #[.int .i64 sy, .int .i64 cy, .int .i64 ty, .bool ky, .slice Ry ny rcy, .slice Vy my wcy]) (i := 19) rfl rfl (by kernel_rfl) (fun _ _ _ h => h) (by rfl) (by intro w hSw; exact exec_ld rfl hSw.2.1.2) (by assumption) ?_
        simp only [Act.put, szA, szB, szC]
        refine wpAnyH_ready (rs := [20]) (by kernel_rfl) (by simp) ?_
        refine AllReadyH.cons rfl (fun K' hK => ?_) AllReadyH.nil
        go_simp
        go_at_call 28
        refine (HC.out _ ((Fr.refl No wr).drew)).mono ?_
        rintro e' V1 ⟨rfl, g1⟩
        have F1 : Fr No wr V1 := ((Fr.refl No wr).drew).trans' g1 (fun _ _ e => e)
        refine hK.out _ _ (HH.out _ F1) (fun hHeld => ?_)
        clear hK
        try simp only [Act.put, szA, szB, szC]
        refine any_u 50 (.bool false) (i := 21) rfl rfl ?_
        simp only [Act.put, szA, szB, szC]
        refine any_u 51 (.bool false) (i := 22) rfl rfl ?_
        simp only [Act.put, szA, szB, szC]
        refine any_v 52 (i := 23) rfl rfl ?_
        simp only [Act.put, szA, szB, szC]
        refine any_v 53 (i := 24) rfl rfl ?_
        simp only [Act.put, szA, szB, szC]
        refine any_v 54 (i := 25) rfl rfl ?_
        simp only [Act.put, szA, szB, szC]
        refine any_v 55 (i := 26) rfl rfl ?_
        simp only [Act.put, szA, szB, szC]
        refine any_v 56 (i := 27) rfl rfl ?_
        simp only [Act.put, szA, szB, szC]
        refine any_v 57 (i := 28) rfl rfl ?_
        simp only [Act.put, szA, szB, szC]
        refine any_v 58 (i := 29) rfl rfl ?_
        simp only [Act.put, szA, szB, szC]
        refine any_v 59 (i := 30) rfl rfl ?_
        simp only [Act.put, szA, szB, szC]
        refine any_v 60 (i := 31) rfl rfl ?_
        simp only [Act.put, szA, szB, szC]
        refine any_u 61 (.bool false) (i := 32) rfl rfl ?_
        simp only [Act.put, szA, szB, szC]
        refine wpAnyH_done (by kernel_rfl) ?_ _
        clear hHeld
        have HFx := Lib.hid (hfr.out.trans' F1 (fun _ _ e => e))
        clear hfr
        go_wp2
        go_roundw
        case rel => exact ⟨k + 1, by omega, by go_num, HNx, HFx⟩
        case measure => simp [Go.RowKit.intOf]; omega
       ·by_cases hgt : pi < pk
        ·have HRf := hBd (.inr rfl) (by omega)
         clear hNx hBd
         go_wp2_with fail
         refine wp_region_held_drew (S := fun V => (V.cell? (ad.add (i * 6)) = some (.int .i64 sx) ∧ V.cell? (ad.add (k * 6)) = some (.int .i64 sy)) ∧ (LdO V 37 (ad.add (i * 6)) (.agg #[.int .i64 sx, .int .i64 cx, .int .i64 tx, .bool kx, .slice Rx nx rcx, .slice Vx mx wcx]) ∧ LdO V 37 (ad.add (k * 6)) (.agg #[.int .i64 sy, .int .i64 cy, .int .i64 ty, .bool ky, .slice Ry ny rcy, .slice Vy my wcy])) ∧ V.cell? ⟨G, k, none⟩ = some (.int .i64 pk) ∧ V.cell? ⟨G, i, none⟩ = some (.int .i64 pi)) (by kernel_rfl) (HH.out _ ((Fr.refl No wr).drew)) (fun hHeld => ?_)
         refine any_u 29 (.slice (some ad) n c) (i := 0) rfl rfl ?_
         simp only [Act.put, szA, szB, szC]
         refine any_u 30 (.int .i64 ((i : Nat) : Int)) (i := 1) rfl rfl ?_
         simp only [Act.put, szA, szB, szC]
         refine any_u 31 (.pointer (some (ad.add (i * 6)))) (i := 2) rfl rfl ?_
         simp only [Act.put, szA, szB, szC]
         refine any_u 32 (.pointer (some (ad.add (i * 6)))) (i := 3) rfl rfl ?_
         simp only [Act.put, szA, szB, szC]
         refine any_u 33 (.int .i64 sx) (i := 4) rfl rfl ?_
         simp only [Act.put, szA, szB, szC]
         refine any_u 34 (.slice (some ad) n c) (i := 5) rfl rfl ?_
         simp only [Act.put, szA, szB, szC]
         refine any_u 35 (.int .i64 ((k : Nat) : Int)) (i := 6) rfl rfl ?_
         simp only [Act.put, szA, szB, szC]
         refine any_u 36 (.pointer (some (ad.add (k * 6)))) (i := 7) rfl rfl ?_
         simp only [Act.put, szA, szB, szC]
         refine any_u 37 (.pointer (some (ad.add (k * 6)))) (i := 8) rfl rfl ?_
         simp only [Act.put, szA, szB, szC]
         refine any_u 38 (.int .i64 sy) (i := 9) rfl rfl ?_
         simp only [Act.put, szA, szB, szC]
         refine any_u 39 (.bool false) (i := 10) rfl rfl ?_
         simp only [Act.put, szA, szB, szC]
         refine any_u 40 (.bool false) (i := 11) rfl rfl ?_
         simp only [Act.put, szA, szB, szC]
         refine any_u 41 (.slice (some ad) n c) (i := 12) rfl rfl ?_
         simp only [Act.put, szA, szB, szC]
         refine any_u 42 (.int .i64 ((i : Nat) : Int)) (i := 13) rfl rfl ?_
         simp only [Act.put, szA, szB, szC]
         refine any_u 43 (.pointer (some (ad.add (i * 6)))) (i := 14) rfl rfl ?_
         simp only [Act.put, szA, szB, szC]
         refine any_tk 44 (.agg #[.int .i64 sx, .int .i64 cx, .int .i64 tx, .bool kx, .slice Rx nx rcx, .slice Vx mx wcx]) (i := 15) rfl rfl (by kernel_rfl) (fun _ _ _ h => h) (by rfl) (by intro w hSw; exact exec_ld rfl hSw.2.1.1) (by assumption) ?_
         simp only [Act.put, szA, szB, szC]
         refine any_u 45 (.slice (some ad) n c) (i := 16) rfl rfl ?_
         simp only [Act.put, szA, szB, szC]
         refine any_u 46 (.int .i64 ((k : Nat) : Int)) (i := 17) rfl rfl ?_
         simp only [Act.put, szA, szB, szC]
         refine any_u 47 (.pointer (some (ad.add (k * 6)))) (i := 18) rfl rfl ?_
         simp only [Act.put, szA, szB, szC]
         refine any_tk 48 (.agg #[.int .i64 sy, .int .i64 cy, .int .i64 ty, .bool ky, .slice Ry ny rcy, .slice Vy my wcy]) (i := 19) rfl rfl (by kernel_rfl) (fun _ _ _ h => h) (by rfl) (by intro w hSw; exact exec_ld rfl hSw.2.1.2) (by assumption) ?_
         simp only [Act.put, szA, szB, szC]
         refine wpAnyH_ready (rs := [20]) (by kernel_rfl) (by simp) ?_
         refine AllReadyH.cons rfl (fun K' hK => ?_) AllReadyH.nil
         go_simp
         go_at_call 28
         refine (HC.out _ ((Fr.refl No wr).drew)).mono ?_
         rintro e' V1 ⟨rfl, g1⟩
         have F1 : Fr No wr V1 := ((Fr.refl No wr).drew).trans' g1 (fun _ _ e => e)
         refine hK.out _ _ (HH.out _ F1) (fun hHeld => ?_)
         clear hK
         try simp only [Act.put, szA, szB, szC]
         refine any_u 50 (.bool true) (i := 21) rfl rfl ?_
         simp only [Act.put, szA, szB, szC]
         refine any_u 51 (.bool true) (i := 22) rfl rfl ?_
         simp only [Act.put, szA, szB, szC]
         refine any_u 52 (.slice (some ⟨G, 0, none⟩) n n) (i := 23) rfl rfl ?_
         simp only [Act.put, szA, szB, szC]
         refine any_u 53 (.int .i64 ((k : Nat) : Int)) (i := 24) rfl rfl ?_
         simp only [Act.put, szA, szB, szC]
         refine any_u 54 (.pointer (some ⟨G, k, none⟩)) (i := 25) rfl rfl ?_
         simp only [Act.put, szA, szB, szC]
         refine any_u 55 (.int .i64 pk) (i := 26) rfl rfl ?_
         simp only [Act.put, szA, szB, szC]
         refine any_u 56 (.slice (some ⟨G, 0, none⟩) n n) (i := 27) rfl rfl ?_
         simp only [Act.put, szA, szB, szC]
         refine any_u 57 (.int .i64 ((i : Nat) : Int)) (i := 28) rfl rfl ?_
         simp only [Act.put, szA, szB, szC]
         refine any_u 58 (.pointer (some ⟨G, i, none⟩)) (i := 29) rfl rfl ?_
         simp only [Act.put, szA, szB, szC]
         refine any_u 59 (.int .i64 pi) (i := 30) rfl rfl ?_
         simp only [Act.put, szA, szB, szC]
         refine any_u 60 (.bool true) (i := 31) rfl rfl ?_
         simp only [Act.put, szA, szB, szC]
         refine any_u 61 (.bool true) (i := 32) rfl rfl ?_
         simp only [Act.put, szA, szB, szC]
         refine wpAnyH_done (by kernel_rfl) ?_ _
         clear hHeld
         have HFx := Lib.hid (hfr.out.trans' F1 (fun _ _ e => e))
         clear hfr
         go_wp2
         go_ret
         exact ⟨by rw [HRf]; rfl, HF1.out.trans' HFx.out (fun _ _ e => e)⟩
        ·have HNx := Lib.hid (hNx (fun _ => by omega))
         clear hNx hBd
         go_wp2_with fail
         refine wp_region_held_drew (S := fun V => (V.cell? (ad.add (i * 6)) = some (.int .i64 sx) ∧ V.cell? (ad.add (k * 6)) = some (.int .i64 sy)) ∧ (LdO V 37 (ad.add (i * 6)) (.agg #[.int .i64 sx, .int .i64 cx, .int .i64 tx, .bool kx, .slice Rx nx rcx, .slice Vx mx wcx]) ∧ LdO V 37 (ad.add (k * 6)) (.agg #[.int .i64 sy, .int .i64 cy, .int .i64 ty, .bool ky, .slice Ry ny rcy, .slice Vy my wcy])) ∧ V.cell? ⟨G, k, none⟩ = some (.int .i64 pk) ∧ V.cell? ⟨G, i, none⟩ = some (.int .i64 pi)) (by kernel_rfl) (HH.out _ ((Fr.refl No wr).drew)) (fun hHeld => ?_)
         refine any_u 29 (.slice (some ad) n c) (i := 0) rfl rfl ?_
         simp only [Act.put, szA, szB, szC]
         refine any_u 30 (.int .i64 ((i : Nat) : Int)) (i := 1) rfl rfl ?_
         simp only [Act.put, szA, szB, szC]
         refine any_u 31 (.pointer (some (ad.add (i * 6)))) (i := 2) rfl rfl ?_
         simp only [Act.put, szA, szB, szC]
         refine any_u 32 (.pointer (some (ad.add (i * 6)))) (i := 3) rfl rfl ?_
         simp only [Act.put, szA, szB, szC]
         refine any_u 33 (.int .i64 sx) (i := 4) rfl rfl ?_
         simp only [Act.put, szA, szB, szC]
         refine any_u 34 (.slice (some ad) n c) (i := 5) rfl rfl ?_
         simp only [Act.put, szA, szB, szC]
         refine any_u 35 (.int .i64 ((k : Nat) : Int)) (i := 6) rfl rfl ?_
         simp only [Act.put, szA, szB, szC]
         refine any_u 36 (.pointer (some (ad.add (k * 6)))) (i := 7) rfl rfl ?_
         simp only [Act.put, szA, szB, szC]
         refine any_u 37 (.pointer (some (ad.add (k * 6)))) (i := 8) rfl rfl ?_
         simp only [Act.put, szA, szB, szC]
         refine any_u 38 (.int .i64 sy) (i := 9) rfl rfl ?_
         simp only [Act.put, szA, szB, szC]
         refine any_u 39 (.bool false) (i := 10) rfl rfl ?_
         simp only [Act.put, szA, szB, szC]
         refine any_u 40 (.bool false) (i := 11) rfl rfl ?_
         simp only [Act.put, szA, szB, szC]
         refine any_u 41 (.slice (some ad) n c) (i := 12) rfl rfl ?_
         simp only [Act.put, szA, szB, szC]
         refine any_u 42 (.int .i64 ((i : Nat) : Int)) (i := 13) rfl rfl ?_
         simp only [Act.put, szA, szB, szC]
         refine any_u 43 (.pointer (some (ad.add (i * 6)))) (i := 14) rfl rfl ?_
         simp only [Act.put, szA, szB, szC]
         refine any_tk 44 (.agg #[.int .i64 sx, .int .i64 cx, .int .i64 tx, .bool kx, .slice Rx nx rcx, .slice Vx mx wcx]) (i := 15) rfl rfl (by kernel_rfl) (fun _ _ _ h => h) (by rfl) (by intro w hSw; exact exec_ld rfl hSw.2.1.1) (by assumption) ?_
         simp only [Act.put, szA, szB, szC]
         refine any_u 45 (.slice (some ad) n c) (i := 16) rfl rfl ?_
         simp only [Act.put, szA, szB, szC]
         refine any_u 46 (.int .i64 ((k : Nat) : Int)) (i := 17) rfl rfl ?_
         simp only [Act.put, szA, szB, szC]
         refine any_u 47 (.pointer (some (ad.add (k * 6)))) (i := 18) rfl rfl ?_
         simp only [Act.put, szA, szB, szC]
         refine any_tk 48 (.agg #[.int .i64 sy, .int .i64 cy, .int .i64 ty, .bool ky, .slice Ry ny rcy, .slice Vy my wcy]) (i := 19) rfl rfl (by kernel_rfl) (fun _ _ _ h => h) (by rfl) (by intro w hSw; exact exec_ld rfl hSw.2.1.2) (by assumption) ?_
         simp only [Act.put, szA, szB, szC]
         refine wpAnyH_ready (rs := [20]) (by kernel_rfl) (by simp) ?_
         refine AllReadyH.cons rfl (fun K' hK => ?_) AllReadyH.nil
         go_simp
         go_at_call 28
         refine (HC.out _ ((Fr.refl No wr).drew)).mono ?_
         rintro e' V1 ⟨rfl, g1⟩
         have F1 : Fr No wr V1 := ((Fr.refl No wr).drew).trans' g1 (fun _ _ e => e)
         refine hK.out _ _ (HH.out _ F1) (fun hHeld => ?_)
         clear hK
         try simp only [Act.put, szA, szB, szC]
         refine any_u 50 (.bool true) (i := 21) rfl rfl ?_
         simp only [Act.put, szA, szB, szC]
         refine any_u 51 (.bool true) (i := 22) rfl rfl ?_
         simp only [Act.put, szA, szB, szC]
         refine any_u 52 (.slice (some ⟨G, 0, none⟩) n n) (i := 23) rfl rfl ?_
         simp only [Act.put, szA, szB, szC]
         refine any_u 53 (.int .i64 ((k : Nat) : Int)) (i := 24) rfl rfl ?_
         simp only [Act.put, szA, szB, szC]
         refine any_u 54 (.pointer (some ⟨G, k, none⟩)) (i := 25) rfl rfl ?_
         simp only [Act.put, szA, szB, szC]
         refine any_u 55 (.int .i64 pk) (i := 26) rfl rfl ?_
         simp only [Act.put, szA, szB, szC]
         refine any_u 56 (.slice (some ⟨G, 0, none⟩) n n) (i := 27) rfl rfl ?_
         simp only [Act.put, szA, szB, szC]
         refine any_u 57 (.int .i64 ((i : Nat) : Int)) (i := 28) rfl rfl ?_
         simp only [Act.put, szA, szB, szC]
         refine any_u 58 (.pointer (some ⟨G, i, none⟩)) (i := 29) rfl rfl ?_
         simp only [Act.put, szA, szB, szC]
         refine any_u 59 (.int .i64 pi) (i := 30) rfl rfl ?_
         simp only [Act.put, szA, szB, szC]
         refine any_u 60 (.bool false) (i := 31) rfl rfl ?_
         simp only [Act.put, szA, szB, szC]
         refine any_u 61 (.bool false) (i := 32) rfl rfl ?_
         simp only [Act.put, szA, szB, szC]
         refine wpAnyH_done (by kernel_rfl) ?_ _
         clear hHeld
         have HFx := Lib.hid (hfr.out.trans' F1 (fun _ _ e => e))
         clear hfr
         go_wp2
         go_roundw
         case rel => exact ⟨k + 1, by omega, by go_num, HNx, HFx⟩
         case measure => simp [Go.RowKit.intOf]; omega
     ·obtain rfl : k = i := by omega
      have HPre : Hid (∀ i' k' (hk : k' < i') (hi : i' < h.length), i' < k + 1 → (h[i'].n.saga = (h[k']'(Nat.lt_trans hk hi)).n.saga ∨ confN h[i'].n (h[k']'(Nat.lt_trans hk hi)).n = true) → p k' ≤ p i') := Lib.hid (fun i' k' h1 h2 h3 h4 => by
       by_cases e : i' = k
       ·subst e; exact hin2.out k' h1 h1 h4
       ·exact hpre.out i' k' h1 h2 (by omega) h4)
      clear hin2 hpre
      go_wp2
      go_roundw
      case rel => exact ⟨k + 1, by omega, by go_num, HPre, hfr⟩
      case measure => simp [Go.RowKit.intOf]; omega
   ·obtain rfl : i = n := by omega
    have HR := HY.out (fun i' k h1 h2 h3 => hpre.out i' k h1 h2 (by rw [← Hh.out]; exact h2) h3)
    clear hpre HY
    go_wp2
    go_ret
    exact ⟨by rw [HR]; rfl, HF1.out.trans' hfr.out (fun _ _ e => e)⟩
end Go.Proofs.YtmeimhpllemjfaaGreat
