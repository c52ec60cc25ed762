/- The law 'PagesFew'. -/
import Derived.Test.YtenmiociinogeaaFem5
namespace Go.Proofs.Ytenmiociinogeaa
open Go.RowKit

set_option maxRecDepth 100000 in
set_option maxHeartbeats 16000000 in
theorem few5_any (l : List Op5) (A : Option Addr) (n c : Nat) (w : World) (hsl : Sl w w.heap.size A (l.flatMap Op5.cells)) (hn : l.length = n) (hml : n ≤ 9223372036854775807) (hfit : ∀ o ∈ l, o.Fit) :
    Calls Try.prog 5 #[.slice A n c] w fun e w' => e = .returned (.bool true) ∧ Fr No w w' := by
  have Hn := Lib.hid hn
  have Hfit := Lib.hid hfit
  clear hn hfit
  obtain ⟨cs, hz, hps⟩ := ps_zero
  have z1 := zero_nums
  have z2 := zero_bools
  go_enter Try.func5, Try.ntmps5
  go_wp2_with fail
  refine (alive5_any _).mono ?_
  rintro e w1 ⟨rfl, g1⟩
  have hs1 := hsl.since g1
  obtain ⟨s, gl, gi, Hs, Hl, Hi⟩ : ∃ s gl gi, Hid (s = w1.heap.size) ∧ Hid (gl = w1.heap.size + 1) ∧ Hid (gi = w1.heap.size + 1 + 1) := ⟨_, _, _, Lib.hid rfl, Lib.hid rfl, Lib.hid rfl⟩
  have F0 : Hid (Few w1 (((w1.alloc (.cells cs 28)).alloc (.cells (tab 1000 fun _ => .int .i64 0) 56)).alloc (.cells (tab 1000 fun _ => .bool false) 57)) s gl gi (fun k => k = s) [] (fun _ => 0)) := Lib.hid (by
    rw [Hs.out, Hl.out, Hi.out]
    have b0 := (((Bk.made w1 28 cs).alloc (.cells (tab 1000 fun _ => .int .i64 0) 56))).alloc (.cells (tab 1000 fun _ => .bool false) 57)
    have b1 := (Bk.made1 w1 (.cells cs 28) 56 (tab 1000 fun _ => .int .i64 0)).alloc (.cells (tab 1000 fun _ => .bool false) 57)
    have b2 := Bk.made1 (w1.alloc (.cells cs 28)) (.cells (tab 1000 fun _ => .int .i64 0) 56) 57 (tab 1000 fun _ => .bool false)
    rw [World.size_alloc] at b2
    exact ⟨InvP.nil, hps _ _ b0, fun k e => by omega, fun e => by omega, fun e => by omega, b1, b2, fun k v e => by simp [valP] at e, (((Fr.refl No w1).alloc _).alloc _).alloc _, by omega, by omega⟩)
  clear hps
  go_wp2
  rw [← Hi.out, ← Hl.out, ← Hs.out]
  go_loopw [6] (fun iv wr => ∃ (j : Nat) (S : Nat → Prop) (P : List Pg) (f : Nat → Int), j ≤ n ∧ j ≤ 150 ∧ iv = .int .i64 j ∧ Hid (Few w1 wr s gl gi S P f)) (fun i _ => n - (intOf i).toNat)
  case atStart => exact ⟨0, _, _, _, by omega, by omega, rfl, F0⟩
  case round =>
    clear F0 hz z1 z2
    obtain ⟨j, S, P, f, hj, hj5, rfl, hF⟩ := hrel
    by_cases hjn : j < n
    · by_cases hj1 : j < 150
      · have hjl : j < l.length := by rw [Hn.out]; exact hjn
        obtain ⟨ad, rfl, hadB, d0, d1, d2⟩ := hs1.op5 hjl
        have hft := Hfit.out _ (List.getElem_mem hjl)
        generalize l[j] = o at *
        obtain ⟨kind, k, v⟩ := o
        have hv := hft.v
        have hkd := hft.kind
        simp only at d0 d1 d2 hv hkd
        have Hv := Lib.hid hv
        have hcw : ∀ W, Fr No w1 W → W.cell? (ad.add (j * 3)) = some (.int .u8 kind) ∧ W.cell? ⟨(ad.add (j * 3)).block, (ad.add (j * 3)).off + 1, none⟩ = some (.int .i64 k) ∧ W.cell? ⟨(ad.add (j * 3)).block, (ad.add (j * 3)).off + 2, none⟩ = some (.int .i64 v) := fun W h =>
          ⟨(h.cell (p := ad.add (j * 3)) (by rw [block_add]; exact hadB) (fun e => e)).trans d0, (h.cell (p := ⟨(ad.add (j * 3)).block, (ad.add (j * 3)).off + 1, none⟩) (by rw [block_add]; exact hadB) (fun e => e)).trans d1,
            (h.cell (p := ⟨(ad.add (j * 3)).block, (ad.add (j * 3)).off + 2, none⟩) (by rw [block_add]; exact hadB) (fun e => e)).trans d2⟩
        have hfar : ∀ x, w1.heap.size ≤ x → x ≠ (ad.add (j * 3)).block := fun x h => by rw [block_add]; omega
        have hgl := hfar gl hF.out.hl
        obtain ⟨c0, c1, c2⟩ := hcw _ hF.out.fr
        clear hft hv d0 d1 d2 hfar
        by_cases hk0 : k < 0
        · clear c0 c2 hcw
          go_wp2
          go_roundw
          case rel => exact ⟨j + 1, S, P, f, by omega, by omega, by go_num, hF⟩
          case measure => simp [intOf]; omega
        · obtain ⟨kk, rfl⟩ := Int.eq_ofNat_of_zero_le (show 0 ≤ k by omega)
          by_cases hk9 : 999 < kk
          · clear c0 c2 hcw
            go_wp2
            go_roundw
            case rel => exact ⟨j + 1, S, P, f, by omega, by omega, by go_num, hF⟩
            case measure => simp [intOf]; omega
          · have hkk : kk < 1000 := by omega
            by_cases k4 : kind % 8 = 4
            · have e4 : (((kind : Int) % 8) == 4) = true := by rw [beq_iff_eq]; omega
              clear k4
              go_wp2_with fail
              refine (pDel_any kk hkk hF.out.inv hF.out.ps).mono ?_
              rintro e w2 ⟨rfl, hL⟩
              obtain ⟨S2, b2, f2, F2⟩ := hF.out.del hL
              have HF2 := Lib.hid F2
              have y0 := b2.cell kk
              have y1 := b2.frozen kk
              rw [tab_at _ _ _ hkk] at y0
              generalize (valP P.flatten kk).isSome = old at y0
              have hg : getA (delQ P kk) kk = (0, 5) := by unfold getA; rw [valDel hF.out.inv, if_pos rfl]
              have hno : (valP (delQ P kk).flatten kk).isSome = false := by rw [valDel hF.out.inv, if_pos rfl]; rfl
              clear hF hL b2 f2 F2 hcw c0 c1 c2
              go_wp2_with fail
              refine (pGet_any kk hkk HF2.out.inv HF2.out.ps).mono ?_
              rw [hg]
              rintro e w3 ⟨rfl, f3⟩
              have F3 := HF2.out.since f3
              obtain ⟨-, x1⟩ := F3.at hkk
              rw [hno] at x1
              have HF3 := Lib.hid F3
              clear HF2 F3 f3 y0 y1 hg hno
              go_wp2
              go_roundw
              case rel => exact ⟨j + 1, S2, _, f, by omega, by omega, by go_num, HF3⟩
              case measure => simp [intOf]; omega
            · have e4 : (((kind : Int) % 8) == 4) = false := by rw [beq_eq_false_iff_ne]; omega
              by_cases k5 : kind % 8 = 5
              · have e5 : (((kind : Int) % 8) == 5) = true := by rw [beq_iff_eq]; omega
                clear k4 k5
                go_wp2_with fail
                refine (pDel_any kk hkk hF.out.inv hF.out.ps).mono ?_
                rintro e w2 ⟨rfl, hL⟩
                obtain ⟨S2, b2, f2, F2⟩ := hF.out.del hL
                have HF2 := Lib.hid F2
                have y0 := b2.cell kk
                have y1 := b2.frozen kk
                rw [tab_at _ _ _ hkk] at y0
                generalize (valP P.flatten kk).isSome = old at y0
                have hg : getA (delQ P kk) kk = (0, 5) := by unfold getA; rw [valDel hF.out.inv, if_pos rfl]
                have hno : (valP (delQ P kk).flatten kk).isSome = false := by rw [valDel hF.out.inv, if_pos rfl]; rfl
                clear hF hL b2 f2 F2 hcw c0 c1 c2
                go_wp2_with fail
                refine (pGet_any kk hkk HF2.out.inv HF2.out.ps).mono ?_
                rw [hg]
                rintro e w3 ⟨rfl, f3⟩
                have F3 := HF2.out.since f3
                obtain ⟨-, x1⟩ := F3.at hkk
                rw [hno] at x1
                have HF3 := Lib.hid F3
                clear HF2 F3 f3 y0 y1 hg hno
                go_wp2
                go_roundw
                case rel => exact ⟨j + 1, S2, _, f, by omega, by omega, by go_num, HF3⟩
                case measure => simp [intOf]; omega
              · have e5 : (((kind : Int) % 8) == 5) = false := by rw [beq_eq_false_iff_ne]; omega
                clear k4 k5
                go_wp2_with fail
                refine (pPut_any kk hkk v hF.out.inv hF.out.ps).mono ?_
                rintro e w2 ⟨rfl, hL⟩
                obtain ⟨S2, b1, b2, f2, F2⟩ := hF.out.put hkk hL
                obtain ⟨-, -, d2⟩ := hcw _ f2
                have HF2 := Lib.hid F2
                have y0 := b1.cell kk
                have y1 := b1.frozen kk
                have u0 := b2.cell kk
                have u1 := b2.frozen kk
                rw [tab_at _ _ _ hkk] at y0 u0
                generalize (valP P.flatten kk).isSome = old at u0
                generalize f kk = old2 at y0
                have hg : getA (putP P kk v) kk = (v, 0) := by unfold getA; rw [valPut hF.out.inv, if_pos rfl]
                have hno : (valP (putP P kk v).flatten kk).isSome = true := by rw [valPut hF.out.inv, if_pos rfl]; rfl
                clear hF hL b1 b2 f2 F2 hcw c0 c1 c2
                go_wp2_with fail
                refine (pGet_any kk hkk HF2.out.inv HF2.out.ps).mono ?_
                rw [hg]
                rintro e w3 ⟨rfl, f3⟩
                have F3 := HF2.out.since f3
                obtain ⟨x0, x1⟩ := F3.at hkk
                rw [hno] at x1
                simp only [if_true] at x0
                have HF3 := Lib.hid F3
                have ev : (v != v) = false := by simp
                clear HF2 F3 f3 y0 y1 u0 u1 d2 hg hno
                go_wp2
                go_roundw
                case rel => exact ⟨j + 1, S2, _, _, by omega, by omega, by go_num, HF3⟩
                case measure => simp [intOf]; omega
      · obtain rfl : j = 150 := by omega
        have hps := hF.out.ps
        have hin := hF.out.inv
        have h0 := hF.out.fr
        have hlen := hin.len
        clear hF
        go_wp2_with fail
        refine (pPages_any hin hps).mono ?_
        rintro e w2 ⟨B, cb, rfl, hsb, f2⟩
        have hps2 := hps.fr f2 (fun _ _ e => e)
        have h2 := h0.trans' f2 (fun _ _ e => e)
        obtain ⟨q, Hq⟩ : ∃ q, Hid (q = P.length) := ⟨_, Lib.hid rfl⟩
        have hq1 : q ≤ 1000 := by rw [Hq.out]; exact hlen.2
        rw [← Hq.out]
        clear hps h0 f2 hlen
        go_wp2
        go_loopw [11] (fun iv wr => ∃ i : Nat, i ≤ q ∧ iv = .int .i64 i ∧ Fr No w2 wr) (fun i _ => q - (intOf i).toNat)
        case atStart => exact ⟨0, by omega, rfl, Fr.refl _ _⟩
        case round =>
          obtain ⟨i, hi, rfl, hfr⟩ := hrel
          by_cases hiq : i < q
          · have hil : i < P.length := by rw [← Hq.out]; exact hiq
            obtain ⟨ab, rfl, -, x0⟩ := i64_row' (hsb.since hfr) hil
            have hpl := page_len hin hil
            have hps3 := hps2.fr hfr (fun _ _ e => e)
            by_cases hi1 : i + 1 < q
            · have hil1 : i + 1 < P.length := by rw [← Hq.out]; exact hi1
              obtain ⟨ab', e', -, x1⟩ := i64_row' (hsb.since hfr) hil1
              injection e' with e'
              subst e'
              have hpl1 := hpl _ rfl
              rw [dif_pos hil1] at hpl1
              have h9 := head_lt hin hil
              have h91 := head_lt hin hil1
              generalize headK P[i] = a at *
              generalize headK P[i + 1] = b at *
              have x2 : wr.cell? ⟨ab.block, ab.off + (i + 1), none⟩ = some (.int .i64 (b : Int)) := x1
              have qs := pScan_any (a : Int) ((b : Int) - 1) hin hps3
              generalize (scanP P.flatten (a : Int) ((b : Int) - 1)).length = m at qs hpl1
              clear hpl hps3
              go_wp2_with fail
              refine qs.mono ?_
              rintro e w3 ⟨C, cc, rfl, -, f3⟩
              have h3 := hfr.trans' f3 (fun _ _ e => e)
              clear qs f3 hfr
              go_wp2
              go_roundw
              case rel => exact ⟨i + 1, by omega, by go_num, h3⟩
              case measure => simp [intOf]; omega
            · have hil1 : ¬ i + 1 < P.length := by rw [← Hq.out]; exact hi1
              have hpl1 := hpl _ rfl
              rw [dif_neg hil1] at hpl1
              have h9 := head_lt hin hil
              generalize headK P[i] = a at *
              have qs := pScan_any (a : Int) (999) hin hps3
              generalize (scanP P.flatten (a : Int) (999)).length = m at qs hpl1
              clear hpl hps3
              go_wp2_with fail
              refine qs.mono ?_
              rintro e w3 ⟨C, cc, rfl, -, f3⟩
              have h3 := hfr.trans' f3 (fun _ _ e => e)
              clear qs f3 hfr
              go_wp2
              go_roundw
              case rel => exact ⟨i + 1, by omega, by go_num, h3⟩
              case measure => simp [intOf]; omega
          · obtain rfl : i = q := by omega
            go_wp2_with fail
            refine (pLen_any hin (hps2.fr hfr (fun _ _ e => e))).mono ?_
            rintro e w3 ⟨rfl, f3⟩
            have h3 := (g1.trans' (h2.trans' hfr (fun _ _ e => e)) (fun _ _ e => e)).trans' f3 (fun _ _ e => e)
            have hsp := some_pages hin
            rw [← Hq.out] at hsp
            have hz2 : (decide (0 < i) == decide (0 < P.flatten.length)) = true := by simp only [hsp, beq_self_eq_true]
            generalize P.flatten.length = pl at *
            clear hsp hfr h2 hps2 hsb f3
            go_wp2
            go_ret
            exact ⟨rfl, h3⟩
    · obtain rfl : j = n := by omega
      have hps := hF.out.ps
      have hin := hF.out.inv
      have h0 := hF.out.fr
      have hlen := hin.len
      clear hF
      go_wp2_with fail
      refine (pPages_any hin hps).mono ?_
      rintro e w2 ⟨B, cb, rfl, hsb, f2⟩
      have hps2 := hps.fr f2 (fun _ _ e => e)
      have h2 := h0.trans' f2 (fun _ _ e => e)
      obtain ⟨q, Hq⟩ : ∃ q, Hid (q = P.length) := ⟨_, Lib.hid rfl⟩
      have hq1 : q ≤ 1000 := by rw [Hq.out]; exact hlen.2
      rw [← Hq.out]
      clear hps h0 f2 hlen
      go_wp2
      go_loopw [11] (fun iv wr => ∃ i : Nat, i ≤ q ∧ iv = .int .i64 i ∧ Fr No w2 wr) (fun i _ => q - (intOf i).toNat)
      case atStart => exact ⟨0, by omega, rfl, Fr.refl _ _⟩
      case round =>
        obtain ⟨i, hi, rfl, hfr⟩ := hrel
        by_cases hiq : i < q
        · have hil : i < P.length := by rw [← Hq.out]; exact hiq
          obtain ⟨ab, rfl, -, x0⟩ := i64_row' (hsb.since hfr) hil
          have hpl := page_len hin hil
          have hps3 := hps2.fr hfr (fun _ _ e => e)
          by_cases hi1 : i + 1 < q
          · have hil1 : i + 1 < P.length := by rw [← Hq.out]; exact hi1
            obtain ⟨ab', e', -, x1⟩ := i64_row' (hsb.since hfr) hil1
            injection e' with e'
            subst e'
            have hpl1 := hpl _ rfl
            rw [dif_pos hil1] at hpl1
            have h9 := head_lt hin hil
            have h91 := head_lt hin hil1
            generalize headK P[i] = a at *
            generalize headK P[i + 1] = b at *
            have x2 : wr.cell? ⟨ab.block, ab.off + (i + 1), none⟩ = some (.int .i64 (b : Int)) := x1
            have qs := pScan_any (a : Int) ((b : Int) - 1) hin hps3
            generalize (scanP P.flatten (a : Int) ((b : Int) - 1)).length = m at qs hpl1
            clear hpl hps3
            go_wp2_with fail
            refine qs.mono ?_
            rintro e w3 ⟨C, cc, rfl, -, f3⟩
            have h3 := hfr.trans' f3 (fun _ _ e => e)
            clear qs f3 hfr
            go_wp2
            go_roundw
            case rel => exact ⟨i + 1, by omega, by go_num, h3⟩
            case measure => simp [intOf]; omega
          · have hil1 : ¬ i + 1 < P.length := by rw [← Hq.out]; exact hi1
            have hpl1 := hpl _ rfl
            rw [dif_neg hil1] at hpl1
            have h9 := head_lt hin hil
            generalize headK P[i] = a at *
            have qs := pScan_any (a : Int) (999) hin hps3
            generalize (scanP P.flatten (a : Int) (999)).length = m at qs hpl1
            clear hpl hps3
            go_wp2_with fail
            refine qs.mono ?_
            rintro e w3 ⟨C, cc, rfl, -, f3⟩
            have h3 := hfr.trans' f3 (fun _ _ e => e)
            clear qs f3 hfr
            go_wp2
            go_roundw
            case rel => exact ⟨i + 1, by omega, by go_num, h3⟩
            case measure => simp [intOf]; omega
        · obtain rfl : i = q := by omega
          go_wp2_with fail
          refine (pLen_any hin (hps2.fr hfr (fun _ _ e => e))).mono ?_
          rintro e w3 ⟨rfl, f3⟩
          have h3 := (g1.trans' (h2.trans' hfr (fun _ _ e => e)) (fun _ _ e => e)).trans' f3 (fun _ _ e => e)
          have hsp := some_pages hin
          rw [← Hq.out] at hsp
          have hz2 : (decide (0 < i) == decide (0 < P.flatten.length)) = true := by simp only [hsp, beq_self_eq_true]
          generalize P.flatten.length = pl at *
          clear hsp hfr h2 hps2 hsb f3
          go_wp2
          go_ret
          exact ⟨rfl, h3⟩
end Go.Proofs.Ytenmiociinogeaa
