/- The law 'PagesOrder'. -/
import Derived.Test.YtenmiociinogeaaOrm5
namespace Go.Proofs.Ytenmiociinogeaa
open Go.RowKit

set_option maxRecDepth 100000 in
set_option maxHeartbeats 8000000 in
theorem order5_any (l : List (Int × Int)) (A : Option Addr) (n c : Nat) (mk mv : Int) (w : World) (hsl : Sl w w.heap.size A (prs2 l)) (hn : l.length = n) (hv : ∀ x ∈ l, -9223372036854775808 ≤ x.2 ∧ x.2 < 9223372036854775808) (hm : -9223372036854775808 ≤ mv ∧ mv < 9223372036854775808) :
    Calls Try.prog 7 #[.slice A n c, .agg #[.int .i64 mk, .int .i64 mv]] w fun e w' => e = .returned (.bool true) ∧ Fr No w w' := by
  have Hn := Lib.hid hn
  have Hv := Lib.hid hv
  have Hm := Lib.hid hm
  have g0 := (Fr.refl No w).alloc (.cells #[.int .i64 mk, .int .i64 mv] 50)
  have hbox := fun W (hW : Fr No (w.alloc (.cells #[.int .i64 mk, .int .i64 mv] 50)) W) => (Bk.made w 50 #[.int .i64 mk, .int .i64 mv]).fr hW (fun e => e)
  clear hn hv hm
  by_cases h60 : 60 < n
  · go_enter Try.func7, Try.ntmps7
    go_wp2_with fail
    refine (alive5_any _).mono ?_
    rintro e w1 ⟨rfl, f1⟩
    have g1 := g0.trans' f1 (fun _ _ e => e)
    clear hbox f1 g0
    go_wp2
    go_ret
    exact ⟨rfl, g1⟩
  · obtain ⟨b, Hb⟩ : ∃ b, Hid (b = w.heap.size) := ⟨_, Lib.hid rfl⟩
    go_enter Try.func7, Try.ntmps7
    go_wp2_with fail
    refine (alive5_any _).mono ?_
    rintro e w1 ⟨rfl, f1⟩
    have g1 := g0.trans' f1 (fun _ _ e => e)
    have hbk : ∀ W, Fr No w1 W → W.cell? ⟨b, 0, none⟩ = some (.int .i64 mk) ∧ W.cell? ⟨b, 1, none⟩ = some (.int .i64 mv) := fun W hW => by
      have h1 := hbox W (f1.trans' hW (fun _ _ e => e))
      rw [← Hb.out] at h1
      have h2 := h1.cell 0
      have h3 := h1.cell 1
      simp at h2 h3
      exact ⟨h2, h3⟩
    have hs1 := hsl.since g1
    rw [← Hb.out]
    clear hbox f1 g0 hsl
    go_wp2
    go_loopw [5] (fun iv wr => ∃ j : Nat, j ≤ n ∧ iv = .int .i64 j ∧ Hid (∀ x ∈ l.take j, x.1 ≠ mk) ∧ Hid (Unlike (l.take j)) ∧ Fr No w1 wr) (fun i _ => n - (intOf i).toNat)
    case atStart => exact ⟨0, by omega, rfl, Lib.hid (fun x h => by simp at h), Lib.hid (by simp), Fr.refl _ _⟩
    case round =>
      obtain ⟨j, hj, rfl, Hne, Hun, hfr⟩ := hrel
      by_cases hlt : j < n
      · have hjl : j < l.length := by rw [Hn.out]; exact hlt
        obtain ⟨ad, rfl, hadB, d0, d1⟩ := hs1.pair2 hjl
        have hcx : ∀ W, Fr No w1 W → W.cell? (ad.add (j * 2)) = some (.int .i64 l[j].1) := fun W h => (h.cell (p := ad.add (j * 2)) (by rw [block_add]; exact hadB) (fun e => e)).trans d0
        have hky : ∀ m (hm : m < l.length) W, Fr No w1 W → W.cell? (ad.add (m * 2)) = some (.int .i64 l[m].1) := fun m hm W h => by
          obtain ⟨ad2, e2, hb2, e0, -⟩ := hs1.pair2 hm
          injection e2 with e2
          subst e2
          exact (h.cell (p := ad.add (m * 2)) (by rw [block_add]; exact hb2) (fun e => e)).trans e0
        have Hs : Hid (l.take (j + 1) = l.take j ++ [l[j]]) := Lib.hid (List.take_succ_eq_append_getElem hjl)
        clear d0 d1
        obtain ⟨m0, m1⟩ := hbk _ hfr
        have x0 := hcx _ hfr
        by_cases hkm : l[j].1 = mk
        · have hkb : (l[j].1 == mk) = true := by simpa using hkm
          generalize l[j].1 = jk at *
          clear hky hcx
          go_wp2
          go_quiet (fail)
          go_wp2
          go_ret
          exact ⟨rfl, (g1.trans' hfr (fun _ _ e => e)).drewN _⟩
        · have hkb : (l[j].1 == mk) = false := by simpa using hkm
          go_wp2
          go_quiet (fail)
          go_wp2
          go_loopw [6] (fun kv wr => ∃ k : Nat, k ≤ j ∧ kv = .int .i64 k ∧ Hid (∀ x ∈ l.take k, x.1 ≠ l[j].1) ∧ Fr No w1 wr) (fun kv _ => j - (intOf kv).toNat)
          case atStart => exact ⟨0, by omega, rfl, Lib.hid (fun x h => by simp at h), hfr.drewN _⟩
          case round =>
            obtain ⟨k, hk, rfl, Hk, hfr2⟩ := hrel
            by_cases hkj : k < j
            · have hkl : k < l.length := by omega
              have y0 := hky k hkl _ hfr2
              have y1 := hcx _ hfr2
              by_cases hkk : l[k].1 = l[j].1
              · have hkb2 : (l[k].1 == l[j].1) = true := by simpa using hkk
                go_wp2
                go_quiet (fail)
                go_wp2
                go_ret
                exact ⟨rfl, (g1.trans' hfr2 (fun _ _ e => e)).drewN _⟩
              · have hkb2 : (l[k].1 == l[j].1) = false := by simpa using hkk
                go_wp2
                go_quiet (fail)
                go_wp2
                go_roundw
                case rel =>
                  refine ⟨k + 1, by omega, by go_num, Lib.hid (fun x hx => ?_), hfr2.drewN _⟩
                  rw [List.take_succ_eq_append_getElem hkl, List.mem_append, List.mem_singleton] at hx
                  rcases hx with hx | rfl
                  · exact Hk.out x hx
                  · exact hkk
                case measure => simp [intOf]; omega
            · obtain rfl : k = j := by omega
              go_wp2
              go_roundw
              case rel =>
                refine ⟨k + 1, by omega, by go_num, Lib.hid (fun x hx => ?_), Lib.hid ?_, hfr2⟩
                · rw [Hs.out, List.mem_append, List.mem_singleton] at hx
                  rcases hx with hx | rfl
                  · exact Hne.out x hx
                  · exact hkm
                · rw [Hs.out]
                  refine List.pairwise_append.2 ⟨Hun.out, List.pairwise_singleton _ _, fun x hx y hy => ?_⟩
                  rw [List.mem_singleton.1 hy]
                  exact Hk.out x hx
              case measure => simp [intOf]; omega
      · obtain rfl : j = n := by omega
        have hl0 : l.take j = l := List.take_of_length_le (by rw [Hn.out]; exact Nat.le_refl _)
        rw [hl0] at Hne Hun
        clear hl0
        go_wp2
        go_loopw [7, 8] (fun lv iv wr => ∃ (k m : Nat) (B : Option Addr) (cb : Nat) (z : Int), Hid (z = (k : Int) - 1) ∧ iv = .int .i64 z ∧ lv = .slice B m cb ∧ m + k = j ∧ wr.ownsRow w1.heap.size 50 2 (.slice B m cb) m (prs2 (l.drop k).reverse) ∧ Fr No w1 wr) (fun _ iv _ => (intOf iv + 1).toNat)
        case atStart => exact ⟨j, 0, none, 0, _, Lib.hid rfl, rfl, rfl, by omega, by rw [List.drop_of_length_le (by rw [Hn.out]; exact Nat.le_refl _)]; exact World.ownsRow_nil _ _ _ _, hfr⟩
        case round =>
          clear hfr
          obtain ⟨k, m, B, cb, z, Hz, rfl, rfl, hmk, hown, hfr⟩ := hrel
          cases k with
          | succ k =>
            obtain rfl : z = (k : Int) := by have := Hz.out; omega
            clear Hz
            have hkl : k < l.length := by rw [Hn.out]; omega
            obtain ⟨ad, rfl, hadB, d0, d1⟩ := hs1.pair2 hkl
            have y0 : wr.cell? (ad.add (k * 2)) = some (.int .i64 l[k].1) := (hfr.cell (p := ad.add (k * 2)) (by rw [block_add]; exact hadB) (fun e => e)).trans d0
            have y1 : wr.cell? ⟨(ad.add (k * 2)).block, (ad.add (k * 2)).off + 1, none⟩ = some (.int .i64 l[k].2) := (hfr.cell (p := ⟨(ad.add (k * 2)).block, (ad.add (k * 2)).off + 1, none⟩) (by rw [block_add]; exact hadB) (fun e => e)).trans d1
            have Hr : Hid (prs2 (l.drop k).reverse = prs2 (l.drop (k + 1)).reverse ++ [.int .i64 l[k].1, .int .i64 l[k].2]) := Lib.hid (prs2_back hkl)
            clear d0 d1
            generalize l[k] = x at *
            obtain ⟨xk, xv⟩ := x
            simp only at y0 y1 Hr
            go_wp2_with (at_builtin; refine wpList_app1 (w0 := w1) rfl _ _ _ rfl 50 (.agg #[.int .i64 0, .int .i64 0]) 2 16 Try.underlying47 info_pair rfl (by omega) (.slice B m cb) m _ #[.int .i64 xk, .int .i64 xv] rfl (by intro u hu; simp at hu; rcases hu with rfl | rfl <;> rfl) rfl wr.heap.size (by simp) rfl hown hfr (by unfold maxLen; omega) (by omega) ?r1)
            case r1 =>
              intro A2 c2 w2 own2 f2 g2
              clear g2 hown hfr y0 y1
              go_wp2
              go_roundw
              case rel => exact ⟨k, m + 1, A2, c2, _, Lib.hid rfl, by go_num, rfl, by omega, by rw [Hr.out]; exact own2, f2⟩
              case measure => simp [intOf]
          | zero =>
            obtain rfl : z = -1 := by have := Hz.out; omega
            obtain rfl : m = j := by omega
            clear Hz
            have hsb := Sl.ofOwn hown
            have hsl := hs1.since hfr
            have hnr : l.reverse.length = m := by rw [List.length_reverse]; exact Hn.out
            rw [List.drop_zero] at hsb
            clear hown
            go_wp2_with fail
            refine (pOf_any l A m c _ hsl Hn.out (by omega) Hv.out).mono ?_
            rintro e w2 ⟨s, Sa, rfl, hA, hAlo, f2⟩
            have hsb2 := hsb.since f2
            have g2 := hfr.trans' f2 (fun _ _ e => e)
            clear hsb hsl f2 hfr
            go_wp2_with fail
            refine (pOf_any l.reverse B m cb _ hsb2 hnr (by omega) (fun x hx => Hv.out x (List.mem_reverse.1 hx))).mono ?_
            rintro e w3 ⟨t, Sb, rfl, hB, hBlo, f3⟩
            have hA3 := hA.fr f3 (fun _ _ e => e)
            have g3 := g2.trans' f3 (fun _ _ e => e)
            have Hd : Hid (∀ k, Sa k → ¬ Sb k) := Lib.hid (fun k e1 e2 => by have := hA.lt k e1; have := hBlo k e2; omega)
            have Hlo : Hid (∀ k, Sb k → w1.heap.size ≤ k) := Lib.hid (fun k e => by have := hBlo k e; have := g2.size; omega)
            have i1 := ofP_inv _ l rfl
            have i2 := ofP_inv _ l.reverse rfl
            have hrev := ofP_rev l Hun.out
            have hoff := val_off l.reverse (unlike_rev Hun.out) mk (fun x hx => Hne.out x (List.mem_reverse.1 hx))
            obtain ⟨m0, m1⟩ := hbk _ g3
            clear hA hAlo hBlo hsb2 f3 g2 hs1 hnr Hne Hun
            by_cases hk : 0 ≤ mk ∧ mk ≤ 999
            · obtain ⟨kk, rfl⟩ : ∃ kk : Nat, mk = kk := ⟨mk.toNat, by omega⟩
              have hkk : kk < 1000 := by omega
              obtain ⟨q1, q2, q3⟩ := put_del i2 hkk mv (hoff kk hkk rfl)
              have hsame : ((ofP l).flatten = (delQ (putP (ofP l.reverse) kk mv) kk).flatten) = True := by rw [q2, hrev]; simp
              clear hoff hrev q2
              go_wp2_with fail
              refine (pPut_any kk hkk mv i2 hB).mono ?_
              rintro e w4 ⟨rfl, hL⟩
              obtain ⟨Sb4, hB4, hA4, hd4, hlo4, g4⟩ := Left.two hA3 Hd.out Hlo.out g3 hL
              have Hd4 := Lib.hid hd4
              have Hlo4 := Lib.hid hlo4
              obtain ⟨m4, -⟩ := hbk _ g4
              clear hL hB hA3 Hd Hlo g3 m0 m1 hd4 hlo4
              go_wp2_with fail
              refine (pDel_any kk hkk (putP_inv i2 hkk mv) hB4).mono ?_
              rintro e w5 ⟨rfl, hL⟩
              obtain ⟨Sb5, hB5, hA5, -, -, g5⟩ := Left.two hA4 Hd4.out Hlo4.out g4 hL
              rw [q1]
              clear hL hB4 hA4 Hd4 Hlo4 g4 m4
              go_wp2_with fail
              refine (pSame_any i1 q3 hA5 hB5).mono ?_
              rintro e w6 ⟨rfl, f6⟩
              have g6 := g5.trans' f6 (fun _ _ e => e)
              rw [decide_eq_true (of_eq_true hsame)]
              clear hA5 hB5 f6 g5
              go_wp2
              go_ret
              exact ⟨rfl, g1.trans' g6 (fun _ _ e => e)⟩
            · have hkn : mk < 0 ∨ 999 < mk := by omega
              go_wp2_with fail
              refine (pPut_no mk mv hkn _ _).mono ?_
              rintro e w4 ⟨rfl, f4⟩
              have hA4 := hA3.fr f4 (fun _ _ e => e)
              have hB4 := hB.fr f4 (fun _ _ e => e)
              have g4 := g3.trans' f4 (fun _ _ e => e)
              obtain ⟨m4, -⟩ := hbk _ g4
              clear hB hA3 g3 m0 m1 f4
              go_wp2_with fail
              refine (pDel_no mk hkn _ _).mono ?_
              rintro e w5 ⟨rfl, f5⟩
              have hA5 := hA4.fr f5 (fun _ _ e => e)
              have hB5 := hB4.fr f5 (fun _ _ e => e)
              have g5 := g4.trans' f5 (fun _ _ e => e)
              clear hB4 hA4 g4 m4 f5
              go_wp2_with fail
              refine (pSame_any i1 i2 hA5 hB5).mono ?_
              rintro e w6 ⟨rfl, f6⟩
              have g6 := g5.trans' f6 (fun _ _ e => e)
              rw [decide_eq_true hrev]
              clear hA5 hB5 f6 g5
              go_wp2
              go_ret
              exact ⟨rfl, g1.trans' g6 (fun _ _ e => e)⟩
end Go.Proofs.Ytenmiociinogeaa
