import Derived.Test.YteakdcnbjcnpnaaT1
namespace Go.Proofs.Yteakdcnbjcnpnaa
open Go.RowKit

set_option maxHeartbeats 2000000 in
theorem refRead_4 (u : Nat) (xs : List Nat) (most : Int) (A : Option Addr) (n c : Nat) (w : World) (hsl : Sl w w.heap.size A (u64s (u :: xs))) (hn : xs.length + 1 = n) (hnc : n ≤ c) (hcm : c ≤ maxLen) (hu : u < 18446744073709551616) (hm1 : -9223372036854775808 ≤ most) (hm2 : most < 9223372036854775808) (hn300 : n ≤ 1000000) :
    Calls Try.prog 13 #[.slice A n c, .int .i64 4, .int .i64 most] w (RefRead w (u :: xs) 4 most) := by
  obtain ⟨m, rfl⟩ : ∃ m, n = m + 1 := ⟨n - 1, by omega⟩
  obtain ⟨c1, rfl⟩ : ∃ c1, c = c1 + 1 := ⟨c - 1, by omega⟩
  obtain ⟨ad, rfl, hadw, hc0⟩ := hsl.wordB (k := 0) (by simp)
  have hc0 : w.cell? ad = some (.int .u64 u) := hc0
  have hs1 := sl_tail (c := c1 + 1) hsl (by omega) (Fr.refl No w)
  obtain ⟨i0, hi0, hz0, hz1, hz2⟩ := info_parts info43
  have hrs : ∀ W, (Instr.slice 25 (.slice (some ad) (m + 1) (c1 + 1)) (some (.int .i64 1)) none none).run Try.prog W = .ok (.slice (if c1 + 1 = 1 then some ad else (some ad).map (·.add 1)) m c1) W := fun W => by
    have := run_slice_from (P := Try.prog) 25 43 i0 Try.underlying25 hi0 hz1 (some ad) (m + 1) (c1 + 1) 1 1 rfl (by omega) W
    simpa only [Nat.add_sub_cancel] using this
  generalize (if c1 + 1 = 1 then some ad else (some ad).map (·.add 1)) = A1 at *
  have hi0' := hi0
  have Hs1 := Lib.hid hs1
  have Hn := Lib.hid hn
  have Hcm := Lib.hid hcm
  have hmc : m ≤ c1 := by omega
  have hnz : ((m : Int) + 1 == 0) = false := by rw [beq_eq_false_iff_ne]; omega
  clear hsl hn hs1 hi0 hcm
  by_cases hm : most < 0
  · have hd : decide (most < 0) = true := by simpa using hm
    have Hno : Hid (∀ t : It, t.kind = 4 → t.most = most → t.rest (some (u :: xs)) = none) := Lib.hid (fun t q1 q2 => by
      have hcn : cntR most (some (u :: xs)) = none := by simp only [cntR]; rw [if_neg (by omega)]
      simp [It.rest, q1, q2, wordsR, hcn])
    go_enter Try.func13, Try.ntmps13
    go_wp2
    refine bodyPost_ret (v := .tuple #[.agg #[.int .i64 4, .int .i64 0, .int .i64 most, .int .i64 0, .string ⟨#[]⟩, .slice none 0 0], .slice (some ad) (m + 1) (c1 + 1), .bool false]) (by simp [results, Try.results13, go_sem]) rfl ⟨(by repeat (first | exact Fr.refl _ _ | refine Fr.alloc ?_ _ | refine Fr.setCell ?_ (.inr (by simp)) _)), .inr ⟨_, _, _, _, rfl, ?_⟩⟩
    exact Hno.out
  · have hd : decide (most < 0) = false := by simpa using hm
    have hw : IntKind.u64.wrap most = most := IntWalk.u64_in _ (by omega)
    by_cases hum : (u : Int) ≤ most
    · have hd2 : decide (most < (u : Int)) = false := by simp; omega
      by_cases hul : u ≤ m
      · have hxl : xs.length = m := by have := Hn.out; omega
        have Hxl := Lib.hid hxl
        clear hxl
        have hrs2 := fun W => run_slice_from (P := Try.prog) 25 43 i0 Try.underlying25 hi0' hz1 A1 m c1 u u rfl hul W
        have hs2 : Sl w w.heap.size (if c1 = u then A1 else A1.map (·.add u)) (u64s (xs.drop u)) := by
          have := Hs1.out.drop (k := u) (n := m) (cap := c1) (sz := 1) (by rw [u64s_len, Hxl.out]; omega) hul (by omega)
          simpa [u64s, List.map_drop] using this
        generalize (if c1 = u then A1 else A1.map (·.add u)) = A2 at *
        have Hs2 := Lib.hid hs2
        clear hs2
        obtain ⟨W0, hW0⟩ : ∃ W0, W0 = ((w.alloc (.cells #[.int .i64 0, .int .i64 0, .int .i64 0, .int .i64 0, .string ⟨#[]⟩, .slice none 0 0] 31)).alloc (.cells #[.int .i64 4, .int .i64 0, .int .i64 most, .int .i64 0, .string ⟨#[]⟩, .slice none 0 0] 31)) := ⟨_, rfl⟩
        have hown : (W0.alloc (.cells #[] 43)).ownsRow w.heap.size 43 1 (.slice (some ⟨W0.heap.size, 0, none⟩) 0 0) 0 (u64s []) := World.ownsRow_lit W0 #[] 0 (by rw [hW0]; simp; omega) (Nat.zero_le _) rfl
        have hf0 : Fr No w W0 := by rw [hW0]; exact ((Fr.refl _ _).alloc _).alloc _
        have hst : Sl (W0.alloc (.cells #[] 43)) w.heap.size A1 (u64s (xs.take u)) := by
          have h1 := (Hs1.out.take u).fr (hf0.alloc (.cells #[] 43)) (Nat.le_refl _) (fun _ _ _ => id)
          simpa [u64s, List.map_take] using h1
        have htl : (xs.take u).length = u := by rw [List.length_take, Hxl.out]; omega
        subst hW0
        have Hst := Lib.hid hst
        have Htl := Lib.hid htl
        have Hf0 := Lib.hid hf0
        have huc : u ≤ c1 := by omega
        clear hst htl hf0
        simp at hown
        go_enter Try.func13, Try.ntmps13
        go_wp2_with (at_builtin; refine append_words rfl _ _ rfl w.heap.size (some ⟨w.heap.size + 1 + 1, 0, none⟩) 0 0 [] ?h1 w.heap.size A1 u c1 (xs.take u) ?h2 Htl.out Hst.out hown (by omega) ?h3 ?h4)
        case h3 => omega
        case h4 =>
          intro A3 c3 w3 hown3 hf3 hg3
          have hB3 : Bk w3 (w.heap.size + 1) 31 #[.int .i64 4, .int .i64 0, .int .i64 most, .int .i64 0, .string ⟨#[]⟩, .slice none 0 0] := by
            have hm := Bk.made (w.alloc (.cells #[.int .i64 0, .int .i64 0, .int .i64 0, .int .i64 0, .string ⟨#[]⟩, .slice none 0 0] 31)) 31 #[.int .i64 4, .int .i64 0, .int .i64 most, .int .i64 0, .string ⟨#[]⟩, .slice none 0 0]
            have h2 := hm.fr (((Fr.refl No _)).alloc (.cells #[] 43)) id
            simp at h2
            exact h2.fr hf3 (by simp [Value.ownBlock])
          have hB4 : Bk w3 w.heap.size 31 #[.int .i64 0, .int .i64 0, .int .i64 0, .int .i64 0, .string ⟨#[]⟩, .slice none 0 0] := by
            have hm := Bk.made w 31 #[.int .i64 0, .int .i64 0, .int .i64 0, .int .i64 0, .string ⟨#[]⟩, .slice none 0 0]
            have h2 := hm.fr (((Fr.refl No _).alloc (.cells #[.int .i64 4, .int .i64 0, .int .i64 most, .int .i64 0, .string ⟨#[]⟩, .slice none 0 0] 31)).alloc (.cells #[] 43)) id
            exact h2.fr hf3 (by simp [Value.ownBlock]; omega)
          have b0 := hB3.cell 0
          have b1 := hB3.cell 1
          have b2 := hB3.cell 2
          have b3 := hB3.cell 3
          have b4 := hB3.cell 4
          have b5 := hB3.cell 5
          have g5 := hB3.frozen 5
          have a0 := hB4.cell 0
          have a1 := hB4.cell 1
          have a2 := hB4.cell 2
          have a3 := hB4.cell 3
          have a4 := hB4.cell 4
          have a5 := hB4.cell 5
          have z0 := hB4.frozen 0
          have z1 := hB4.frozen 1
          have z2 := hB4.frozen 2
          have z3 := hB4.frozen 3
          have z4 := hB4.frozen 4
          have z5 := hB4.frozen 5
          simp at b0 b1 b2 b3 b4 b5 a0 a1 a2 a3 a4 a5
          have hu0 : 0 + u = u := by omega
          rw [hu0] at *
          clear hu0
          go_wp2
          go_region
          go_wp2
          refine bodyPost_ret (v := .tuple #[.agg #[.int .i64 4, .int .i64 0, .int .i64 most, .int .i64 0, .string ⟨#[]⟩, .slice A3 u c3], .slice A2 (m - u) (c1 - u), .bool true]) (by simp [results, Try.results13, go_sem, a0, a1, a2, a3, a4, a5]) rfl ?_
          have hdl : (xs.drop u).length = m - u := by rw [List.length_drop, Hxl.out]
          have hcn : cntR most (some (u :: xs)) = some (u, xs) := by simp only [cntR]; rw [if_pos (by omega)]
          have hwn : wordsR most (some (u :: xs)) = some (xs.take u, xs.drop u) := by
            have h9 := Hxl.out
            simp only [wordsR, hcn]
            rw [if_pos (by omega)]
          have hfr3 : Fr No w w3 := ((Hf0.out.alloc (.cells #[] 43)).trans' hf3 (fun i hi h => by simp [Value.ownBlock] at h; omega))
          have hs3 := (own_weak hown3 (Nat.zero_le _))
          have hl3 : Sl w3 w3.heap.size A3 (u64s (xs.take u)) := by
            have := Sl.ofOwn (size := 1) hs3
            simpa using this
          refine read_end (r := xs.drop u) (t := ⟨4, 0, most, 0, ⟨#[]⟩, xs.take u, A3, c3⟩) (B := w.heap.size) (Fr.refl No w) ?_ rfl rfl (by rw [hdl]; simp only [It.val]; rw [Htl.out]) (by simp [It.isB, hwn]) (by simp [It.rest, hwn]) Hs2.out (Nat.le_refl _) ⟨by rw [hdl]; omega, by have := Hcm.out; omega⟩ ?_ ?_
          · repeat (first | with_reducible exact hfr3 | (with_reducible refine Fr.drew ?_) | (with_reducible refine Fr.setCell ?_ (.inr (by simp)) _))
          · refine (hl3.fr (S := fun k => k = w.heap.size ∨ k = w.heap.size + 1) (w := _) (Fr.drew ?_) (Nat.le_refl _) (fun ad' e1 _ e2 => ?_)).more (by simp [World.setCell])
            · repeat (first | with_reducible exact Fr.refl _ _ | (with_reducible refine Fr.setCell ?_ (.inl (by simp)) _))
            · subst e1
              simp only [Value.ownBlock] at hg3
              rcases hg3 with h7 | ⟨k, h7, h6⟩
              · injection h7 with h7; omega
              · injection h7 with h7; omega
          · have h9 := Hxl.out
            have h8 := Htl.out
            simp only [List.length_cons]
            omega
      · have hd3 : ((m : Int) < (u : Int)) := by omega
        have Hno : Hid (∀ t : It, t.kind = 4 → t.most = most → t.rest (some (u :: xs)) = none) := Lib.hid (fun t q1 q2 => by
          have hcn : cntR most (some (u :: xs)) = some (u, xs) := by simp only [cntR]; rw [if_pos (by omega)]
          have hul2 : ¬ u ≤ xs.length := by have := Hn.out; omega
          simp [It.rest, q1, q2, wordsR, hcn, hul2])
        go_enter Try.func13, Try.ntmps13
        go_wp2
        refine bodyPost_ret (v := .tuple #[.agg #[.int .i64 4, .int .i64 0, .int .i64 most, .int .i64 0, .string ⟨#[]⟩, .slice none 0 0], .slice (some ad) (m + 1) (c1 + 1), .bool false]) (by simp [results, Try.results13, go_sem]) rfl ⟨(by repeat (first | exact Fr.refl _ _ | refine Fr.alloc ?_ _ | refine Fr.setCell ?_ (.inr (by simp)) _)), .inr ⟨_, _, _, _, rfl, ?_⟩⟩
        exact Hno.out
    · have hd2 : decide (most < (u : Int)) = true := by simp; omega
      have Hno : Hid (∀ t : It, t.kind = 4 → t.most = most → t.rest (some (u :: xs)) = none) := Lib.hid (fun t q1 q2 => by
        have hcn : cntR most (some (u :: xs)) = none := by simp only [cntR]; rw [if_neg (by omega)]
        simp [It.rest, q1, q2, wordsR, hcn])
      go_enter Try.func13, Try.ntmps13
      go_wp2
      refine bodyPost_ret (v := .tuple #[.agg #[.int .i64 4, .int .i64 0, .int .i64 most, .int .i64 0, .string ⟨#[]⟩, .slice none 0 0], .slice (some ad) (m + 1) (c1 + 1), .bool false]) (by simp [results, Try.results13, go_sem]) rfl ⟨(by repeat (first | exact Fr.refl _ _ | refine Fr.alloc ?_ _ | refine Fr.setCell ?_ (.inr (by simp)) _)), .inr ⟨_, _, _, _, rfl, ?_⟩⟩
      exact Hno.out

end Go.Proofs.Yteakdcnbjcnpnaa
