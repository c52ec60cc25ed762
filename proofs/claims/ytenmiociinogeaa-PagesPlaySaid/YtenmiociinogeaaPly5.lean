/- The law 'PagesPlay'. -/
import Derived.Test.YtenmiociinogeaaPlb5
namespace Go.Proofs.Ytenmiociinogeaa
open Go.RowKit

set_option maxRecDepth 100000 in
set_option maxHeartbeats 16000000 in
theorem play5_any (l : List Op5) (A : Option Addr) (n c : Nat) (w : World) (hsl : Sl w w.heap.size A (l.flatMap Op5.cells)) (hn : l.length = n) (hml : n ≤ 9223372036854775807) (hfit : ∀ o ∈ l, o.Fit) :
    Calls Try.prog 3 #[.slice A n c] w fun e w' => e = .returned (.bool true) ∧ Fr No w w' := by
  have Hn := Lib.hid hn
  have Hfit := Lib.hid hfit
  clear hn hfit
  obtain ⟨cs, hz, hps⟩ := ps_zero
  go_enter Try.func3, Try.ntmps3
  go_wp2_with fail
  refine (alive5_any _).mono ?_
  rintro e w1 ⟨rfl, g1⟩
  have hs1 := hsl.since g1
  have G1 := Lib.hid g1
  obtain ⟨s, p, Hs, Hp⟩ : ∃ s p, Hid (s = w1.heap.size) ∧ Hid (p = w1.heap.size + 1) := ⟨_, _, Lib.hid rfl, Lib.hid rfl⟩
  have F0 : Hid (Two5 w1 ((w1.alloc (.cells cs 28)).alloc (.cells #[.slice none 0 0] 32)) s p (fun k => k = s) (fun k => k = p) []) := Lib.hid (by
    rw [Hs.out, Hp.out]
    have b0 := (Bk.made w1 28 cs).alloc (.cells #[.slice none 0 0] 32)
    have b1 := Bk.made1 w1 (.cells cs 28) 32 #[.slice none 0 0]
    exact ⟨InvP.nil, hps _ _ b0, rs_zero b1, fun k e => by omega, fun k e => by omega, fun k e e2 => by omega, ((Fr.refl No w1).alloc _).alloc _⟩)
  clear hps hsl g1
  go_wp2
  rw [← Hp.out, ← Hs.out]
  go_loopw [3, 5] (fun sv iv wr => ∃ (j s : Nat) (S R : Nat → Prop) (P : List Pg), j ≤ n ∧ j ≤ 120 ∧ iv = .int .i64 j ∧ sv = .pointer (some ⟨s, 0, none⟩) ∧ Hid (Two5 w1 wr s p S R P)) (fun _ i _ => n - (intOf i).toNat)
  case atStart => exact ⟨0, _, _, _, _, by omega, by omega, rfl, rfl, F0⟩
  case round =>
    clear F0 hz Hs Hp
    obtain ⟨j, s, S, R, P, hj, hj2, rfl, rfl, HF⟩ := hrel
    by_cases hjn : j < n
    · by_cases hj1 : j < 120
      · have hjl : j < l.length := by rw [Hn.out]; exact hjn
        obtain ⟨ad, rfl, hadB, d0, d1, d2⟩ := hs1.op5 hjl
        have hft := Hfit.out _ (List.getElem_mem hjl)
        generalize l[j] = o at *
        obtain ⟨kind, k, v⟩ := o
        have hkd := hft.kind
        have hv := hft.v
        simp only at d0 d1 d2 hkd hv
        have c0 : wr.cell? (ad.add (j * 3)) = some (.int .u8 kind) := (HF.out.fr.cell (p := ad.add (j * 3)) (by rw [block_add]; exact hadB) (fun e => e)).trans d0
        have c1 : wr.cell? ⟨(ad.add (j * 3)).block, (ad.add (j * 3)).off + 1, none⟩ = some (.int .i64 k) := (HF.out.fr.cell (p := ⟨(ad.add (j * 3)).block, (ad.add (j * 3)).off + 1, none⟩) (by rw [block_add]; exact hadB) (fun e => e)).trans d1
        have c2 : wr.cell? ⟨(ad.add (j * 3)).block, (ad.add (j * 3)).off + 2, none⟩ = some (.int .i64 v) := (HF.out.fr.cell (p := ⟨(ad.add (j * 3)).block, (ad.add (j * 3)).off + 2, none⟩) (by rw [block_add]; exact hadB) (fun e => e)).trans d2
        clear hft d0 d1 d2 hadB
        obtain ⟨q, Hq⟩ : ∃ q, Hid (q = wr.heap.size) := ⟨_, Lib.hid rfl⟩
        have hqS : ¬ S q := fun e => by have := HF.out.ps.lt q e; have := Hq.out; omega
        have hqR : ¬ R q := fun e => by have := HF.out.rs.lt q e; have := Hq.out; omega
        obtain ⟨W2, hW2⟩ : ∃ W2, W2 = wr.alloc (.cells #[.int .u8 kind, .int .i64 k, .int .i64 v] 34) := ⟨_, rfl⟩
        have H2 := Lib.hid (show Two5 w1 W2 s p S R P by rw [hW2]; exact HF.out.since ((Fr.refl No wr).alloc _))
        have hb2 : Bk W2 q 34 #[.int .u8 kind, .int .i64 k, .int .i64 v] := by rw [hW2, Hq.out]; exact Bk.made wr _ _
        have x0 : (wr.alloc (.cells #[.int .u8 kind, .int .i64 k, .int .i64 v] 34)).cell? ⟨wr.heap.size, 0, none⟩ = some (.int .u8 kind) := (Bk.made wr _ _).cell 0
        have x1 : (wr.alloc (.cells #[.int .u8 kind, .int .i64 k, .int .i64 v] 34)).cell? ⟨wr.heap.size, 1, none⟩ = some (.int .i64 k) := (Bk.made wr _ _).cell 1
        have x2 : (wr.alloc (.cells #[.int .u8 kind, .int .i64 k, .int .i64 v] 34)).cell? ⟨wr.heap.size, 2, none⟩ = some (.int .i64 v) := (Bk.made wr _ _).cell 2
        have Hb2 := Lib.hid hb2
        have Hcell := Lib.hid (show ∀ W, Bk W q 34 #[.int .u8 kind, .int .i64 k, .int .i64 v] → W.cell? ⟨q, 1, none⟩ = some (.int .i64 k) ∧ W.cell? ⟨q, 2, none⟩ = some (.int .i64 v) from fun W h => ⟨h.cell 1, h.cell 2⟩)
        have HW2 := Lib.hid hW2
        clear hW2 hb2 HF
        by_cases k4 : kind % 8 = 4
        · have e4 : (((kind : Int) % 8) == 4) = true := by rw [beq_iff_eq]; omega
          clear k4
          obtain ⟨a, P2, hdel⟩ := H2.out.del Hb2.out hqS hqR k
          have Hdel := Lib.hid hdel
          clear hdel
          go_wp2_with fail
          rw [← HW2.out, ← Hq.out]
          have y1 := (Hcell.out W2 Hb2.out).1
          clear x0 x1 x2 c0 c1 c2
          go_region_held3 (fun w' => w'.cell? ⟨q, 1, none⟩ = some (.int .i64 k)) (first
            | exact (Hcell.out _ hb6).1
            | exact (Hcell.out _ hb5).1
            | exact (Hcell.out _ Hb2.out).1
            | go_keep)
            (first
             | (go_at_call 9
                refine (Hdel.out _ (by first | exact (Fr.refl No W2).drew | exact Fr.refl No W2)).mono ?_
                rintro e w5 ⟨rfl, hb5, hn5⟩
                have HN5 := Lib.hid hn5
                clear hn5)
             | (go_at_call 10
                refine (HN5.out _ (by first | exact (Fr.refl No w5).drew | exact Fr.refl No w5)).mono ?_
                rintro e w6 ⟨rfl, hb6, S2, R2, hT⟩
                have HT6 := Lib.hid hT
                clear hT))
          all_goals
            have HT : Hid (Two5 w1 w6 s p S2 R2 P2) := HT6
            clear HT6 HN5 Hdel hb5 hb6 y1 H2 Hb2 Hcell HW2
            go_wp2_with fail
            refine (same5_any S2 R2 s p P2 HT.out.inv _ HT.out.ps HT.out.rs).mono ?_
            rintro e wz ⟨rfl, fz⟩
            have HZ := Lib.hid (HT.out.since fz)
            clear HT fz
            go_wp2
            go_roundw
            case rel => exact ⟨j + 1, s, S2, R2, P2, by omega, by omega, by go_num, rfl, HZ⟩
            case measure => simp [intOf]; omega
        · have e4 : (((kind : Int) % 8) == 4) = false := by rw [beq_eq_false_iff_ne]; omega
          by_cases k5 : kind % 8 = 5
          · have e5 : (((kind : Int) % 8) == 5) = true := by rw [beq_iff_eq]; omega
            clear k4 k5
            obtain ⟨a, P2, hdel⟩ := H2.out.del Hb2.out hqS hqR k
            have Hdel := Lib.hid hdel
            clear hdel
            go_wp2_with fail
            rw [← HW2.out, ← Hq.out]
            have y1 := (Hcell.out W2 Hb2.out).1
            clear x0 x1 x2 c0 c1 c2
            go_region_held3 (fun w' => w'.cell? ⟨q, 1, none⟩ = some (.int .i64 k)) (first
              | exact (Hcell.out _ hb6).1
              | exact (Hcell.out _ hb5).1
              | exact (Hcell.out _ Hb2.out).1
              | go_keep)
              (first
               | (go_at_call 9
                  refine (Hdel.out _ (by first | exact (Fr.refl No W2).drew | exact Fr.refl No W2)).mono ?_
                  rintro e w5 ⟨rfl, hb5, hn5⟩
                  have HN5 := Lib.hid hn5
                  clear hn5)
               | (go_at_call 10
                  refine (HN5.out _ (by first | exact (Fr.refl No w5).drew | exact Fr.refl No w5)).mono ?_
                  rintro e w6 ⟨rfl, hb6, S2, R2, hT⟩
                  have HT6 := Lib.hid hT
                  clear hT))
            all_goals
              have HT : Hid (Two5 w1 w6 s p S2 R2 P2) := HT6
              clear HT6 HN5 Hdel hb5 hb6 y1 H2 Hb2 Hcell HW2
              go_wp2_with fail
              refine (same5_any S2 R2 s p P2 HT.out.inv _ HT.out.ps HT.out.rs).mono ?_
              rintro e wz ⟨rfl, fz⟩
              have HZ := Lib.hid (HT.out.since fz)
              clear HT fz
              go_wp2
              go_roundw
              case rel => exact ⟨j + 1, s, S2, R2, P2, by omega, by omega, by go_num, rfl, HZ⟩
              case measure => simp [intOf]; omega
          · have e5 : (((kind : Int) % 8) == 5) = false := by rw [beq_eq_false_iff_ne]; omega
            by_cases k6 : kind % 8 = 6
            · have e6 : (((kind : Int) % 8) == 6) = true := by rw [beq_iff_eq]; omega
              clear k4 k5 k6
              obtain ⟨a, b, hg1, hg2⟩ := H2.out.get k
              have Hg1 := Lib.hid hg1
              have Hg2 := Lib.hid hg2
              clear hg1 hg2
              go_wp2_with fail
              rw [← HW2.out, ← Hq.out]
              refine (Hg1.out _ (Fr.refl _ _)).mono ?_
              rintro e w5 ⟨rfl, f5⟩
              have y1 := (Hcell.out w5 (Hb2.out.fr f5 (fun e => e))).1
              have F5 := Lib.hid f5
              clear x0 x1 x2 c0 c1 c2 Hg1 f5
              go_wp2_with fail
              refine (Hg2.out _ F5.out).mono ?_
              rintro e w6 ⟨rfl, f6⟩
              obtain ⟨S2, R2, P2, HT⟩ : ∃ S2 R2 P2, Hid (Two5 w1 w6 s p S2 R2 P2) := ⟨S, R, P, Lib.hid (H2.out.since (F5.out.trans' f6 (fun _ _ e => e)))⟩
              clear Hg2 f6 F5 y1 H2 Hb2 Hcell HW2
              go_wp2_with fail
              refine (same5_any S2 R2 s p P2 HT.out.inv _ HT.out.ps HT.out.rs).mono ?_
              rintro e wz ⟨rfl, fz⟩
              have HZ := Lib.hid (HT.out.since fz)
              clear HT fz
              go_wp2
              go_roundw
              case rel => exact ⟨j + 1, s, S2, R2, P2, by omega, by omega, by go_num, rfl, HZ⟩
              case measure => simp [intOf]; omega
            · have e6 : (((kind : Int) % 8) == 6) = false := by rw [beq_eq_false_iff_ne]; omega
              by_cases k7 : kind % 8 = 7
              · have e7 : (((kind : Int) % 8) == 7) = true := by rw [beq_iff_eq]; omega
                clear k4 k5 k6 k7
                obtain ⟨u, hu⟩ : ∃ u, IntKind.i64.wrap (v + 1) = u := ⟨_, rfl⟩
                have Hcp := Lib.hid (H2.out.copy Hb2.out k u)
                clear hv
                go_wp2_with fail
                rw [← HW2.out, ← Hq.out]
                refine (Hcp.out W2 (Fr.refl _ _)).mono ?_
                rintro e w5 ⟨s', rfl, hb5, hn5⟩
                obtain ⟨y1, y2⟩ := Hcell.out w5 hb5
                have HN5 := Lib.hid hn5
                clear x0 x1 x2 c0 c1 c2 Hcp hn5 hb5
                go_wp2_with fail
                refine (HN5.out w5 (Fr.refl _ _)).mono ?_
                rintro e w6 ⟨⟨a1, rfl⟩, hn6⟩
                have HN6 := Lib.hid hn6
                clear HN5 hn6 y1 y2
                go_wp2_with fail
                refine (HN6.out w6 (Fr.refl _ _)).mono ?_
                rintro e w7 ⟨⟨a2, rfl⟩, S2, R2, hT⟩
                obtain ⟨P2, HT⟩ : ∃ P2, Hid (Two5 w1 w7 s' p S2 R2 P2) := ⟨P, Lib.hid hT⟩
                clear HN6 hT H2 Hb2 Hcell HW2
                go_wp2_with fail
                refine (same5_any S2 R2 s' p P2 HT.out.inv _ HT.out.ps HT.out.rs).mono ?_
                rintro e wz ⟨rfl, fz⟩
                have HZ := Lib.hid (HT.out.since fz)
                clear HT fz
                go_wp2
                go_roundw
                case rel => exact ⟨j + 1, s', S2, R2, P2, by omega, by omega, by go_num, rfl, HZ⟩
                case measure => simp [intOf]; omega
              · have e7 : (((kind : Int) % 8) == 7) = false := by rw [beq_eq_false_iff_ne]; omega
                clear k4 k5 k6 k7
                obtain ⟨a, P2, hput⟩ := H2.out.put Hb2.out hqS hqR k v
                have Hput := Lib.hid hput
                clear hput
                go_wp2_with fail
                rw [← HW2.out, ← Hq.out]
                have y1 := Hcell.out W2 Hb2.out
                clear x0 x1 x2 c0 c1 c2
                go_region_held3 (fun w' => w'.cell? ⟨q, 1, none⟩ = some (.int .i64 k) ∧ w'.cell? ⟨q, 2, none⟩ = some (.int .i64 v)) (first
                  | exact Hcell.out _ hb6
                  | exact Hcell.out _ hb5
                  | exact Hcell.out _ Hb2.out
                  | go_keep)
                  (first
                   | (go_at_call 14
                      refine (Hput.out _ (by first | exact (Fr.refl No W2).drew | exact Fr.refl No W2)).mono ?_
                      rintro e w5 ⟨rfl, hb5, hn5⟩
                      have HN5 := Lib.hid hn5
                      clear hn5)
                   | (go_at_call 15
                      refine (HN5.out _ (by first | exact (Fr.refl No w5).drew | exact Fr.refl No w5)).mono ?_
                      rintro e w6 ⟨rfl, hb6, S2, R2, hT⟩
                      have HT6 := Lib.hid hT
                      clear hT))
                all_goals
                  have HT : Hid (Two5 w1 w6 s p S2 R2 P2) := HT6
                  clear HT6 HN5 Hput hb5 hb6 y1 H2 Hb2 Hcell HW2
                  go_wp2_with fail
                  refine (same5_any S2 R2 s p P2 HT.out.inv _ HT.out.ps HT.out.rs).mono ?_
                  rintro e wz ⟨rfl, fz⟩
                  have HZ := Lib.hid (HT.out.since fz)
                  clear HT fz
                  go_wp2
                  go_roundw
                  case rel => exact ⟨j + 1, s, S2, R2, P2, by omega, by omega, by go_num, rfl, HZ⟩
                  case measure => simp [intOf]; omega
      · have hF := G1.out.trans' HF.out.fr (fun _ _ e => e)
        clear HF
        go_wp2
        go_ret
        exact ⟨rfl, hF⟩
    · have hF := G1.out.trans' HF.out.fr (fun _ _ e => e)
      clear HF
      go_wp2
      go_ret
      exact ⟨rfl, hF⟩
end Go.Proofs.Ytenmiociinogeaa
