/- The document's own log: Open. -/
import Derived.Test.YtdmllfjeofiddaaRop8
import Derived.Test.YtdmllfjeofiddaaLib2
namespace Go.Proofs.Ytdmllfjeofiddaa
open Go.RowKit

/-- What the document's Open answers: what stands there, opened. -/
def OpenR (r gl gr gd : Nat) (D : Dv) (q n : Nat) (ep : Int) (w : World) (e : Ending) (w' : World) : Prop :=
  ∃ (B : Nat → Prop) (lg k : Nat) (fs : List Frm), e = .returned (.pointer (some ⟨lg, 0, none⟩)) ∧ Told ep (partW D.rd q n) fs k ∧ RD w' r gl gr gd (openD D q n k) ∧ RL w' B lg r ⟨q, n, ep, fs⟩ ∧ Fr (Rb r gl gr gd) w w' ∧ (∀ j, B j → w.heap.size ≤ j)
theorem clrD_n (D : Dv) (q m e : Nat) : (clrD D q m e).n = D.n := rfl
theorem clrD_new (D : Dv) (q m e : Nat) : (clrD D q m e).rd (q + m) = D.rd (q + m) := by
  show (if q ≤ q + m ∧ q + m < q + m then _ else D.rd (q + m)) = _
  rw [if_neg (by omega)]
set_option maxRecDepth 100000 in
set_option maxHeartbeats 4000000 in
theorem refOpen8_any (r gl gr gd : Nat) (D : Dv) (q n : Nat) (ep : Int) (hq : q + n ≤ D.n) (hD : D.n ≤ 4096) (w : World) (h : RD w r gl gr gd D) :
    Calls Try.prog 13 #[.pointer (some ⟨r, 0, none⟩), .int .i64 q, .int .i64 n, .int .i64 ep] w (OpenR r gl gr gd D q n ep w) := by
  have HW := Lib.hid (refWords8_any r gl gr gd D q n hq hD w h)
  have h64 := partW_lt (f := D.rd) (q := q) (n := n) (fun i hi => h.ok.rd _ (by omega))
  have HA : Hid (∀ W A c, Sl W W.heap.size A (u64s (partW D.rd q n)) → 8 * n ≤ c → c ≤ maxLen → Calls Try.prog 30 #[.int .i64 ep, .slice A (8 * n : Nat) c] W (AllN ep (partW D.rd q n) W)) := Lib.hid (fun W A c hs h1 h2 => refAllN_any ep _ h64 (8 * n) A c W hs (partW_len _ _ _) h1 h2 (by omega))
  have HD := Lib.hid (fun W (hW : Fr No w W) => h.fr hW (fun _ _ e => e))
  have Hlt := Lib.hid h.lt
  have Hok := Lib.hid h.ok
  clear h h64
  go_enter Try.func13, Try.ntmps13
  go_wp2_with fail
  refine HW.out.mono ?_
  rintro e w1 ⟨A1, c1, rfl, hown, hf1⟩
  rw [partW_len] at hown ⊢
  have hsl := Sl.ofOwn hown
  obtain ⟨A3, c3, hv3, hc3, hc4, -⟩ := own_shape hown
  injection hv3 with h1 h2 h3
  subst h1 h3
  clear h2
  have CA := HA.out w1 A1 c1 hsl hc3 hc4
  clear HW HA hown hc3 hc4 hsl
  go_wp2_with fail
  refine CA.mono ?_
  rintro e w2 ⟨xs, A, c, k, rfl, ht, hfo, hnx⟩
  have hk8 : k ≤ 8 * n := by have := (stepsF_len ht.1).2; rwa [partW_len] at this
  have HT := Lib.hid ht
  have HF2 := Lib.hid (hf1.trans' hfo.fr (fun _ _ e => e))
  have HX : Hid (Frs w2 A xs) := Lib.hid hfo.frs
  have HC : Hid (xs.length ≤ c ∧ c ≤ maxLen) := Lib.hid hfo.cap
  have HB : Hid (∀ j, FB A xs j → w.heap.size ≤ j) := Lib.hid (by
    rintro j (⟨ad, e, hn, rfl⟩ | ⟨x, hx, ad, e, hn, rfl⟩)
    · subst e
      have hl : 0 < xs.length := List.length_pos_iff.2 hn
      obtain ⟨g, cap, hv, hg, _⟩ := hfo.own.form hl
      injection hv with e1 e2 e3
      injection e1 with e1
      subst e1
      exact Nat.le_trans hf1.size hg
    · exact Nat.le_trans hf1.size (hnx x hx ad e hn))
  have HD2 := Lib.hid (HD.out w2 HF2.out)
  clear ht hfo hnx CA hf1 HD
  obtain ⟨xl, Hxl⟩ : ∃ xl, Hid (xs.length = xl) := ⟨_, Lib.hid rfl⟩
  rw [Hxl.out]
  go_wp2
  go_loopw [11, 12] (fun sv iv wr => ∃ i : Nat, i ≤ n ∧ iv = .int .i64 i ∧ sv = .bool (clrAny D q i k) ∧ Hid (RD wr r gl gr gd (clrD D q i k)) ∧ Hid (Fr (Rb r gl gr gd) w2 wr)) (fun _ iv _ => n - (intOf iv).toNat)
  case atStart => exact ⟨0, by omega, rfl, rfl, Lib.hid (by rw [clrD_zero]; exact HD2.out), Lib.hid (Fr.refl _ _)⟩
  case round =>
    obtain ⟨i, hi, rfl, rfl, HDr, HFr⟩ := hrel
    by_cases hlt : i < n
    · have hsec := HDr.out.ok.rd (q + i) (by show q + i < D.n; omega)
      rw [clrD_new] at hsec
      obtain ⟨s0, s1, s2, s3, s4, s5, s6, s7, hs⟩ := sec_lit hsec
      obtain ⟨x0, x1, x2, x3, x4, x5, x6, x7⟩ := HDr.out.rd.sec8 HDr.out.len.2 (show q + i < (clrD D q i k).n by show q + i < D.n; omega) ((clrD_new D q i k).trans hs)
      have c1' : wr.cell? ⟨r, 1, none⟩ = some (.slice (some ⟨gr, 0, none⟩) D.n D.n) := by rw [HDr.out.self.cell 1]; rfl
      have Hs0 : Hid (clrK i k 0 (D.rd (q + i)) = [s0, s1, s2, s3, s4, s5, s6, s7]) := Lib.hid (by rw [clrK_zero hsec]; exact hs)
      have Hsec := Lib.hid hsec
      have Hss := Lib.hid hs
      have hb0 := Bk.made wr 41 #[.int .u64 s0, .int .u64 s1, .int .u64 s2, .int .u64 s3, .int .u64 s4, .int .u64 s5, .int .u64 s6, .int .u64 s7]
      have HB0 : Hid (Bk (wr.alloc (.cells #[.int .u64 s0, .int .u64 s1, .int .u64 s2, .int .u64 s3, .int .u64 s4, .int .u64 s5, .int .u64 s6, .int .u64 s7] 41)) wr.heap.size 41 (secA (clrK i k 0 (D.rd (q + i))))) := Lib.hid (by rw [Hs0.out]; exact hb0)
      have HDa := Lib.hid (HDr.out.alloc (.cells #[.int .u64 s0, .int .u64 s1, .int .u64 s2, .int .u64 s3, .int .u64 s4, .int .u64 s5, .int .u64 s6, .int .u64 s7] 41))
      have HFa : Hid (Fr (Rb r gl gr gd) w2 (wr.alloc (.cells #[.int .u64 s0, .int .u64 s1, .int .u64 s2, .int .u64 s3, .int .u64 s4, .int .u64 s5, .int .u64 s6, .int .u64 s7] 41))) := Lib.hid (HFr.out.alloc _)
      have Hbx : Hid (w2.heap.size ≤ wr.heap.size) := Lib.hid HFr.out.size
      have Hnr : Hid (∀ j, Rb r gl gr gd j → j < w2.heap.size) := Lib.hid (fun j hj => Nat.lt_of_lt_of_le (Hlt.out j hj) HF2.out.size)
      clear hsec hs hb0 HDr HFr
      generalize hbx : wr.heap.size = bx at *
      obtain ⟨wa, Hwa⟩ : ∃ wa, Hid (wa = wr.alloc (.cells #[.int .u64 s0, .int .u64 s1, .int .u64 s2, .int .u64 s3, .int .u64 s4, .int .u64 s5, .int .u64 s6, .int .u64 s7] 41)) := ⟨_, Lib.hid rfl⟩
      rw [← Hwa.out] at HB0 HDa HFa
      go_wp2
      rw [← Hwa.out]
      clear x0 x1 x2 x3 x4 x5 x6 x7 c1' Hwa hbx
      go_loopw [14, 15] (fun tv kv wi => ∃ z : Nat, z ≤ 8 ∧ kv = .int .i64 z ∧ tv = .bool (decide (clrK i k z (D.rd (q + i)) ≠ D.rd (q + i))) ∧ Hid (Bk wi bx 41 (secA (clrK i k z (D.rd (q + i))))) ∧ Hid (Fr (fun j => j = bx) wa wi)) (fun _ kv _ => 8 - (intOf kv).toNat)
      case atStart =>
        refine ⟨0, by omega, rfl, ?_, HB0, Lib.hid (Fr.refl _ _)⟩
        rw [clrK_zero Hsec.out]
        simp
      case round =>
        obtain ⟨z, hz, rfl, rfl, HBz, HFz⟩ := hrel
        obtain ⟨bv, Hbv⟩ : ∃ bv, Hid (decide (clrK i k z (D.rd (q + i)) ≠ D.rd (q + i)) = bv) := ⟨_, Lib.hid rfl⟩
        rw [Hbv.out]
        by_cases hz8 : z < 8
        · have cz := clrK_word HBz.out hz8
          have yz := HBz.out.frozen z
          obtain ⟨u, Hu⟩ : ∃ u, Hid ((D.rd (q + i)).getD z 0 = u) := ⟨_, Lib.hid rfl⟩
          rw [Hu.out] at cz
          by_cases he : k ≤ 8 * i + z
          · by_cases hu : u = 0
            · have Hk : Hid (clrK i k (z + 1) (D.rd (q + i)) = clrK i k z (D.rd (q + i))) := Lib.hid (clrK_zero_word i k z _ (Hu.out.trans hu))
              subst hu
              go_wp2
              go_roundw
              case rel => exact ⟨z + 1, by omega, by go_num, by rw [Hk.out, Hbv.out], Lib.hid (by rw [Hk.out]; exact HBz.out), HFz⟩
              case measure => simp [intOf]; omega
            · have hd : ((u : Int) != 0) = true := by simp; omega
              have Hk := Lib.hid (clrK_put i k z (D.rd (q + i)) hz8 he)
              have Hn := Lib.hid (clrK_ne i k z (D.rd (q + i)) hz8 he (by rw [Hu.out]; exact hu))
              go_wp2
              go_roundw
              case rel => exact ⟨z + 1, by omega, by go_num, by rw [decide_eq_true Hn.out], Lib.hid (by rw [← Hk.out]; exact HBz.out.put z _), Lib.hid (HFz.out.setCell (p := ⟨bx, z, none⟩) (.inl rfl) _)⟩
              case measure => simp [intOf]; omega
          · have Hk : Hid (clrK i k (z + 1) (D.rd (q + i)) = clrK i k z (D.rd (q + i))) := Lib.hid (clrK_skip i k z _ he)
            have hd := decide_eq_false (show ¬ ((k : Int) ≤ 8 * (i : Int) + (z : Int)) by omega)
            go_wp2
            go_roundw
            case rel => exact ⟨z + 1, by omega, by go_num, by rw [Hk.out, Hbv.out], Lib.hid (by rw [Hk.out]; exact HBz.out), HFz⟩
            case measure => simp [intOf]; omega
        · obtain rfl : z = 8 := by omega
          have hb8 := HBz.out
          rw [clrK_all] at hb8 Hbv
          have HDz : Hid (RD _ r gl gr gd (clrD D q i k)) := Lib.hid (HDa.out.fr HFz.out (fun j hj e => by have := Hnr.out j hj; have := Hbx.out; omega))
          have HFz2 : Hid (Fr (Rb r gl gr gd) w2 _) := Lib.hid (HFa.out.trans' HFz.out (fun j hj e => by have := Hbx.out; omega))
          by_cases hc : clrS i k (D.rd (q + i)) ≠ D.rd (q + i)
          · obtain rfl : bv = true := by rw [← Hbv.out, decide_eq_true hc]
            have hsc := clrS_sec Hsec.out i k
            have CW0 := fun W hW => refWrite_any r gl gr gd (clrD D q i k) (q + i) (clrS i k (D.rd (q + i))) W hW (by show q + i < D.n; omega) (by show D.n ≤ 4096; exact hD) hsc
            have Hds := Lib.hid (clrD_succ D q i k)
            rw [if_pos hc] at Hds
            have Has := Lib.hid (clrAny_succ D q i k)
            rw [decide_eq_true hc, Bool.or_true] at Has
            obtain ⟨t0, t1, t2, t3, t4, t5, t6, t7, ht⟩ := sec_lit hsc
            rw [ht] at CW0 hb8 Hds
            simp only [secV, secA, u64s, List.map_cons, List.map_nil, Int.natCast_add] at CW0 hb8
            obtain ⟨x0, x1, x2, x3, x4, x5, x6, x7⟩ := bk8 hb8
            have CW := Lib.hid CW0
            clear CW0 hb8 ht hsc hc hz8 hz HBz HFz HDa HFa HB0
            go_wp2_with fail
            refine (CW.out _ HDz.out).mono ?_
            rintro e w5 ⟨rfl, hD5, hf5⟩
            rw [← Hds.out] at hD5
            have HD5 := Lib.hid hD5
            have HF5 : Hid (Fr (Rb r gl gr gd) w2 w5) := Lib.hid (HFz2.out.trans' hf5 (fun _ _ e => e))
            clear hD5 hf5 HDz HFz2 CW x0 x1 x2 x3 x4 x5 x6 x7
            go_wp2
            go_roundw
            case rel => exact ⟨i + 1, by omega, by go_num, by rw [Has.out], HD5, HF5⟩
            case measure => simp [intOf]; omega
          · obtain rfl : bv = false := by rw [← Hbv.out, decide_eq_false hc]
            have Hds := Lib.hid (clrD_succ D q i k)
            rw [if_neg hc] at Hds
            have Has := Lib.hid (clrAny_succ D q i k)
            rw [decide_eq_false hc, Bool.or_false] at Has
            clear hb8 hc hz8 hz HBz HFz HDa HFa HB0
            go_wp2
            go_roundw
            case rel => exact ⟨i + 1, by omega, by go_num, by rw [Has.out], Lib.hid (by rw [Hds.out]; exact HDz.out), HFz2⟩
            case measure => simp [intOf]; omega
    · obtain rfl : i = n := by omega
      obtain ⟨cA, HcA⟩ : ∃ cA, Hid (clrAny D q i k = cA) := ⟨_, Lib.hid rfl⟩
      rw [HcA.out]
      clear hlt hi
      cases cA with
      | true =>
        have CS := Lib.hid (refSync_any r gl gr gd (clrD D q i k) wr HDr.out hD)
        go_wp2_with fail
        refine CS.out.mono ?_
        rintro e w5 ⟨rfl, hD5, hf5⟩
        have HD3 := Lib.hid hD5
        have HF3 : Hid (Fr (Rb r gl gr gd) w2 w5) := Lib.hid (HFr.out.trans' hf5 (fun _ _ e => e))
        clear hD5 hf5 CS HFr HDr
        go_wp2
        go_ret
        have hxw := HX.out.frS (HF3.out) (fun j hj e => by have := HB.out j hj; have := Hlt.out j e; omega)
        have fa : Fr No w5 (w5.alloc (.cells #[.pointer (some ⟨r, 0, none⟩), .int .i64 q, .int .i64 i, .int .i64 ep, .slice A xl c] 69)) := (Fr.refl _ _).alloc _
        refine ⟨fun j => j = w5.heap.size ∨ FB A xs j, w5.heap.size, k, xs.map FrV.f, rfl, HT.out, ?_, ⟨A, c, xs, ?_, hxw.since fa, rfl, ?_, HC.out.2, fun _ => Iff.rfl, fun hj => by have := hxw.lt _ hj; omega⟩, ?_, ?_⟩
        · rw [show openD D q i k = _ from if_pos HcA.out]
          exact HD3.out.fr fa (fun _ _ e => e)
        · rw [Hxl.out]
          exact Bk.made w5 _ _
        · exact HC.out.1
        · exact (HF2.out.weak (fun _ _ e => e.elim)).trans' (HF3.out.trans' fa (fun _ _ e => e.elim)) (fun _ _ e => e)
        · rintro j (rfl | hj)
          · exact Nat.le_trans HF2.out.size HF3.out.size
          · exact HB.out j hj
      | false =>
        have HD3 := HDr
        have HF3 := HFr
        clear HFr HDr
        go_wp2
        go_ret
        have hxw := HX.out.frS (HF3.out) (fun j hj e => by have := HB.out j hj; have := Hlt.out j e; omega)
        have fa : Fr No wr (wr.alloc (.cells #[.pointer (some ⟨r, 0, none⟩), .int .i64 q, .int .i64 i, .int .i64 ep, .slice A xl c] 69)) := (Fr.refl _ _).alloc _
        refine ⟨fun j => j = wr.heap.size ∨ FB A xs j, wr.heap.size, k, xs.map FrV.f, rfl, HT.out, ?_, ⟨A, c, xs, ?_, hxw.since fa, rfl, ?_, HC.out.2, fun _ => Iff.rfl, fun hj => by have := hxw.lt _ hj; omega⟩, ?_, ?_⟩
        · rw [show openD D q i k = _ from if_neg (by rw [HcA.out]; simp)]
          exact HD3.out.fr fa (fun _ _ e => e)
        · rw [Hxl.out]
          exact Bk.made wr _ _
        · exact HC.out.1
        · exact (HF2.out.weak (fun _ _ e => e.elim)).trans' (HF3.out.trans' fa (fun _ _ e => e.elim)) (fun _ _ e => e)
        · rintro j (rfl | hj)
          · exact Nat.le_trans HF2.out.size HF3.out.size
          · exact HB.out j hj
end Go.Proofs.Ytdmllfjeofiddaa
