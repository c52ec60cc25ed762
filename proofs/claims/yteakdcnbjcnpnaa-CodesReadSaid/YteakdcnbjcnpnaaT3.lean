import Derived.Test.YteakdcnbjcnpnaaT2
namespace Go.Proofs.Yteakdcnbjcnpnaa
open Go.RowKit

theorem own_types {w : World} {b1 b2 : Nat} {e1 e2 : TypeId} {s1 s2 n1 n2 : Nat} {v1 v2 : Value} {xs1 xs2 : List Value} (h1 : w.ownsRow b1 e1 s1 v1 n1 xs1) (h2 : w.ownsRow b2 e2 s2 v2 n2 xs2) (hne : e1 ≠ e2) {k : Nat} (hk : v1.ownBlock = some k) : v2.ownBlock ≠ some k := by
  rcases h1.2 with ⟨rfl, _⟩ | ⟨g, cap, cur, rfl, _, hg, _⟩
  · simp [Value.ownBlock] at hk
  · simp [Value.ownBlock] at hk
    subst hk
    exact own_apart h2 (t := e1) hg (fun e => hne e.symm)

/-- In the midst of reading a text: the item, the place of the result, the item's words, the bytes so far. -/
structure Mid (w : World) (xs ws : List Nat) (most : Int) (A3 : Option Addr) (nw c3 : Nat) (A4 : Option Addr) (j c4 n : Nat) (wr : World) : Prop where
  item : Bk wr (w.heap.size + 1) 31 #[.int .i64 3, .int .i64 0, .int .i64 most, .int .i64 0, .string ⟨#[]⟩, .slice A3 nw c3]
  res : Bk wr w.heap.size 31 #[.int .i64 0, .int .i64 0, .int .i64 0, .int .i64 0, .string ⟨#[]⟩, .slice none 0 0]
  words : wr.ownsRow w.heap.size 43 1 (.slice A3 nw c3) nw (u64s ws)
  bytes : wr.ownsRow w.heap.size 5 1 (.slice A4 j c4) j (u8s (unp ws n))
  fr : Fr No w wr

set_option maxRecDepth 100000 in
set_option maxHeartbeats 4000000 in
theorem refRead_3 (u : Nat) (xs : List Nat) (most : Int) (A : Option Addr) (n c : Nat) (w : World) (hsl : Sl w w.heap.size A (u64s (u :: xs))) (hn : xs.length + 1 = n) (hnc : n ≤ c) (hcm : c ≤ maxLen) (hu : u < 18446744073709551616) (hn300 : n ≤ 1000000) (h64 : ∀ x ∈ xs, x < 18446744073709551616) :
    Calls Try.prog 13 #[.slice A n c, .int .i64 3, .int .i64 most] w (RefRead w (u :: xs) 3 most) := by
  obtain ⟨m, rfl⟩ : ∃ m, n = m + 1 := ⟨n - 1, by omega⟩
  obtain ⟨c1, rfl⟩ : ∃ c1, c = c1 + 1 := ⟨c - 1, by omega⟩
  obtain ⟨ad, rfl, hadw, hc0⟩ := hsl.wordB (k := 0) (by simp)
  have hc0 : w.cell? ad = some (.int .u64 u) := hc0
  have hs1 := sl_tail (c := c1 + 1) hsl (by omega) (Fr.refl No w)
  obtain ⟨i0, hi0, hz0, hz1, hz2⟩ := info_parts info43
  have hrs : ∀ W, (Instr.slice 25 (.slice (some ad) (m + 1) (c1 + 1)) (some (.int .i64 1)) none none).run Try.prog W = .ok (.slice (if c1 + 1 = 1 then some ad else (some ad).map (·.add 1)) m c1) W := fun W => by
    have := run_slice_from (P := Try.prog) 25 43 i0 Try.underlying25 hi0 hz1 (some ad) (m + 1) (c1 + 1) 1 1 rfl (by omega) W
    simpa only [Nat.add_sub_cancel] using this
  generalize (if c1 + 1 = 1 then some ad else (some ad).map (·.add 1)) = A1 at *
  have hi0' := hi0
  have Hs1 := Lib.hid hs1
  have Hn := Lib.hid hn
  have Hcm := Lib.hid hcm
  have hmc : m ≤ c1 := by omega
  have hnz : ((m : Int) + 1 == 0) = false := by rw [beq_eq_false_iff_ne]; omega
  clear hsl hn hs1 hi0 hcm
  by_cases hum : 64 < (u : Int)
  · have hd : decide (64 < (u : Int)) = true := by simpa using hum
    have Hno : Hid (∀ t : It, t.kind = 3 → t.most = most → t.rest (some (u :: xs)) = none) := Lib.hid (fun t q1 q2 => by
      have hcn : cntR 64 (some (u :: xs)) = none := by simp only [cntR]; rw [if_neg (by omega)]
      simp [It.rest, q1, textR, hcn])
    go_enter Try.func13, Try.ntmps13
    go_wp2
    refine bodyPost_ret (v := .tuple #[.agg #[.int .i64 3, .int .i64 0, .int .i64 most, .int .i64 0, .string ⟨#[]⟩, .slice none 0 0], .slice (some ad) (m + 1) (c1 + 1), .bool false]) (by simp [results, Try.results13, go_sem]) rfl ⟨(by repeat (first | exact Fr.refl _ _ | refine Fr.alloc ?_ _ | refine Fr.setCell ?_ (.inr (by simp)) _)), .inr ⟨_, _, _, _, rfl, ?_⟩⟩
    exact Hno.out
  · have hd : decide (64 < (u : Int)) = false := by simpa using hum
    have hcn : cntR 64 (some (u :: xs)) = some (u, xs) := by simp only [cntR]; rw [if_pos (by omega)]
    obtain ⟨nw, hnw⟩ : ∃ nw, nw = (u + 7) / 8 := ⟨_, rfl⟩
    have hnw8 : nw ≤ 8 := by omega
    have hunw : u ≤ 8 * nw := by omega
    have hnwi : ((u : Int) + 7) / 8 = (nw : Int) := by omega
    by_cases hul : nw ≤ m
    · have hxl : xs.length = m := by have := Hn.out; omega
      have Hxl := Lib.hid hxl
      clear hxl
      have hrs2 := fun W => run_slice_from (P := Try.prog) 25 43 i0 Try.underlying25 hi0' hz1 A1 m c1 nw nw rfl hul W
      have hs2 : Sl w w.heap.size (if c1 = nw then A1 else A1.map (·.add nw)) (u64s (xs.drop nw)) := by
        have := Hs1.out.drop (k := nw) (n := m) (cap := c1) (sz := 1) (by rw [u64s_len, Hxl.out]; omega) hul (by omega)
        simpa [u64s, List.map_drop] using this
      generalize (if c1 = nw then A1 else A1.map (·.add nw)) = A2 at *
      have Hs2 := Lib.hid hs2
      clear hs2
      obtain ⟨W0, hW0⟩ : ∃ W0, W0 = ((w.alloc (.cells #[.int .i64 0, .int .i64 0, .int .i64 0, .int .i64 0, .string ⟨#[]⟩, .slice none 0 0] 31)).alloc (.cells #[.int .i64 3, .int .i64 0, .int .i64 most, .int .i64 0, .string ⟨#[]⟩, .slice none 0 0] 31)) := ⟨_, rfl⟩
      have hown : (W0.alloc (.cells #[] 43)).ownsRow w.heap.size 43 1 (.slice (some ⟨W0.heap.size, 0, none⟩) 0 0) 0 (u64s []) := World.ownsRow_lit W0 #[] 0 (by rw [hW0]; simp; omega) (Nat.zero_le _) rfl
      have hf0 : Fr No w W0 := by rw [hW0]; exact ((Fr.refl _ _).alloc _).alloc _
      have hst : Sl (W0.alloc (.cells #[] 43)) w.heap.size A1 (u64s (xs.take nw)) := by
        have h1 := (Hs1.out.take nw).fr (hf0.alloc (.cells #[] 43)) (Nat.le_refl _) (fun _ _ _ => id)
        simpa [u64s, List.map_take] using h1
      have htl : (xs.take nw).length = nw := by rw [List.length_take, Hxl.out]; omega
      subst hW0
      have Hst := Lib.hid hst
      have Htl := Lib.hid htl
      have Hf0 := Lib.hid hf0
      have Hcn := Lib.hid hcn
      have Hnw := Lib.hid hnw
      have huc : nw ≤ c1 := by omega
      clear hst htl hf0 hcn hnw
      simp at hown
      have h64w : ∀ x ∈ xs.take nw, x < 18446744073709551616 := fun x hx => h64 x (List.mem_of_mem_take hx)
      generalize hws : xs.take nw = ws at *
      have H64 := Lib.hid h64w
      clear h64w h64
      have Hws := Lib.hid hws
      clear hws
      go_enter Try.func13, Try.ntmps13
      go_wp2_with (at_builtin; refine append_words rfl _ _ rfl w.heap.size (some ⟨w.heap.size + 1 + 1, 0, none⟩) 0 0 [] ?h1 w.heap.size A1 nw c1 ws ?h2 Htl.out Hst.out hown (by omega) ?h3 ?h4)
      case h3 => omega
      case h4 =>
        intro A3 c3 w3 hown3 hf3 hg3
        have hB3 : Bk w3 (w.heap.size + 1) 31 #[.int .i64 3, .int .i64 0, .int .i64 most, .int .i64 0, .string ⟨#[]⟩, .slice none 0 0] := by
          have hm := Bk.made (w.alloc (.cells #[.int .i64 0, .int .i64 0, .int .i64 0, .int .i64 0, .string ⟨#[]⟩, .slice none 0 0] 31)) 31 #[.int .i64 3, .int .i64 0, .int .i64 most, .int .i64 0, .string ⟨#[]⟩, .slice none 0 0]
          have h2 := hm.fr (((Fr.refl No _)).alloc (.cells #[] 43)) id
          simp at h2
          exact h2.fr hf3 (by simp [Value.ownBlock])
        have hB4 : Bk w3 w.heap.size 31 #[.int .i64 0, .int .i64 0, .int .i64 0, .int .i64 0, .string ⟨#[]⟩, .slice none 0 0] := by
          have hm := Bk.made w 31 #[.int .i64 0, .int .i64 0, .int .i64 0, .int .i64 0, .string ⟨#[]⟩, .slice none 0 0]
          have h2 := hm.fr (((Fr.refl No _).alloc (.cells #[.int .i64 3, .int .i64 0, .int .i64 most, .int .i64 0, .string ⟨#[]⟩, .slice none 0 0] 31)).alloc (.cells #[] 43)) id
          exact h2.fr hf3 (by simp [Value.ownBlock]; omega)
        have hfr3 : Fr No w w3 := ((Hf0.out.alloc (.cells #[] 43)).trans' hf3 (fun i hi h => by simp [Value.ownBlock] at h; omega))
        have b5 := hB3.cell 5
        have g5 := hB3.frozen 5
        have b0 := hB3.cell 0
        simp at b5 b0
        try simp only [Nat.zero_add, List.nil_append] at hown3
        try simp only [Nat.zero_add] at hg3
        try simp only [Nat.zero_add]
        have hne3 : ∀ k, (Value.slice A3 nw c3).ownBlock = some k → k ≠ w.heap.size + 1 ∧ k ≠ w.heap.size := by
          intro k hk
          rcases hg3 with h7 | ⟨k', h7, h6⟩
          · rw [h7] at hk; simp [Value.ownBlock] at hk; omega
          · rw [h7] at hk; injection hk with hk; omega
        have hI : Mid w xs ws most A3 nw c3 none 0 0 0 (w3.setCell ⟨w.heap.size + 1, 5, none⟩ (.slice A3 nw c3)) := by
          have hfs : Fr (fun k => k = w.heap.size + 1) w3 (w3.setCell ⟨w.heap.size + 1, 5, none⟩ (.slice A3 nw c3)) := (Fr.refl (fun k => k = w.heap.size + 1) w3).setCell (p := ⟨w.heap.size + 1, 5, none⟩) (.inl rfl) _
          exact ⟨by simpa using hB3.put 5 (.slice A3 nw c3), hB4.fr hfs (by omega), own_fr hown3 hfs (fun k hk => (hne3 k hk).1), World.ownsRow_nil _ _ _ _, hfr3.setCell (p := ⟨w.heap.size + 1, 5, none⟩) (.inr (by simp)) _⟩
        have HI := Lib.hid hI
        clear hI hown3 hf3 hg3 hne3 hB3 hB4
        go_wp2
        go_loopw [14, 15] (fun b i wr => ∃ (j k : Nat) (A4 : Option Addr) (c4 : Nat), k ≤ 8 * nw ∧ i = .int .i64 k ∧ Hid (j = min k u) ∧ j ≤ u ∧ b = .slice A4 j c4 ∧ Mid w xs ws most A3 nw c3 A4 j c4 j wr ∧ Hid (∀ i, u ≤ i → i < k → ub ws i = 0)) (fun _ i _ => 8 * nw - (intOf i).toNat)
        case atStart => exact ⟨0, 0, none, 0, Nat.zero_le _, rfl, Lib.hid (by simp), Nat.zero_le _, rfl, HI.out, Lib.hid (by intro i _ h; omega)⟩
        case round =>
          obtain ⟨j, k, A4, c4, hk, rfl, hj, hju, rfl, hmid, hz⟩ := hrel
          have Hmid := Lib.hid hmid
          have b5' := hmid.item.cell 5
          simp at b5'
          by_cases hlt : k < 8 * nw
          · obtain ⟨q, hq⟩ : ∃ q, q = k / 8 := ⟨_, rfl⟩
            obtain ⟨r, hr⟩ : ∃ r, r = k % 8 := ⟨_, rfl⟩
            have hqm : q < nw := by omega
            have hr8 : r < 8 := by omega
            have hqw : q < ws.length := by rw [Htl.out]; exact hqm
            obtain ⟨ad3, hA3, _, hcw⟩ := (Sl.ofOwn hmid.words).wordB hqw
            obtain ⟨v, hv⟩ : ∃ v, v = ws[q] := ⟨_, rfl⟩
            have hv64 : v < 18446744073709551616 := by rw [hv]; exact H64.out _ (List.getElem_mem hqw)
            rw [← hv] at hcw
            subst hA3
            have hub : ub ws k = v / 256 ^ r % 256 := by
              unfold ub
              rw [← hq, ← hr, hv, show (2 : Nat) ^ (r * 8) = 256 ^ r by rw [Nat.mul_comm, Nat.pow_mul]]
              simp [List.getD, hqw]
            have Hub := Lib.hid hub
            have hq1 : (k : Int) / 8 = (q : Int) := by omega
            have hr1 : (k : Int) % 8 = (r : Int) := by omega
            have hd8 : decide ((k : Int) < 8 * (nw : Int)) = true := by simp; omega
            have Hv := Lib.hid hv
            clear hq hr hub hmid hv
            go_wp2
            go_loop [16, 17] (fun v' i' => ∃ (y z : Nat), y ≤ r ∧ i' = .int .i64 y ∧ v' = .int .u64 z ∧ Hid (z = v / 256 ^ y)) (fun _ i' => r - (intOf i').toNat)
            case atStart => exact ⟨0, v, Nat.zero_le _, rfl, rfl, Lib.hid (by simp)⟩
            case round =>
              obtain ⟨y, z, hy, rfl, rfl, hz2⟩ := hrel
              have hz64 : z < 18446744073709551616 := by
                rw [hz2.out]
                exact Nat.lt_of_le_of_lt (Nat.div_le_self _ _) hv64
              by_cases hyr : y < r
              · go_wp2
                go_round
                case rel => exact ⟨y + 1, z / 256, by omega, by go_num, by simp, Lib.hid (by rw [hz2.out, Nat.div_div_eq_div_mul, Nat.pow_succ])⟩
                case measure => simp [intOf]; omega
              · obtain ⟨b, hb⟩ : ∃ b, b = z % 256 := ⟨_, rfl⟩
                have hb256 : b < 256 := by omega
                have hub : b = ub ws k := by
                  have hyr2 : y = r := by omega
                  rw [hb, hz2.out, hyr2, Hub.out]
                have hbi : (z : Int) % 256 = (b : Int) := by omega
                have hb8 : IntKind.u8.wrap (b : Int) = b := IntWalk.u8_in _ (by omega)
                have Hb := Lib.hid hub
                clear hb hub
                by_cases hku : k < u
                · obtain rfl : j = k := by have := hj.out; omega
                  go_wp2_with (at_builtin; (refine wpList_append_one rfl _ _ _ rfl w.heap.size 5 _ 1 Try.underlying53 info5 rfl (.slice A4 j c4) j (u8s (unp ws j)) (.int .u8 b) rfl ?k1 wr.heap.size ?k2 ?k3 Hmid.out.bytes (by unfold maxLen; omega) (by omega) Hmid.out.fr.size ?k4))
                  case k2 => rfl
                  case k4 =>
                    intro A5 c5 w5 hown5 hf5 hg5
                    have hmid5 : Mid w xs ws most (some ad3) nw c3 A5 (j + 1) c5 (j + 1) w5 := by
                      have h0 := Hmid.out
                      refine ⟨h0.item.fr hf5 (own_apart h0.bytes h0.item (by decide)), h0.res.fr hf5 (own_apart h0.bytes h0.res (by decide)), own_fr h0.words hf5 (fun k' e1 e2 => own_types h0.words h0.bytes (by decide) e1 e2), ?_, h0.fr.then0 hf5 (fun k' hk' => (h0.bytes.lt k' hk').1)⟩
                      rw [unp_succ, u8s_app, ← Hb.out]
                      exact hown5
                    have Hm5 := Lib.hid hmid5
                    clear hmid5 hown5 hf5 hg5
                    go_wp2
                    go_roundw
                    case rel => exact ⟨j + 1, j + 1, A5, c5, by omega, by go_num, Lib.hid (by omega), by omega, rfl, Hm5.out, Lib.hid (fun i h1 h2 => by omega)⟩
                    case measure => simp [intOf]; omega
                · by_cases hb0 : b = 0
                  · subst hb0
                    have hbz : (((0 : Nat) : Int) != 0) = false := by simp
                    go_wp2
                    go_roundw
                    case rel =>
                      refine ⟨j, k + 1, A4, c4, by omega, by go_num, Lib.hid (by have := hj.out; omega), hju, rfl, Hmid.out, Lib.hid (fun i h1 h2 => ?_)⟩
                      by_cases hik : i = k
                      · subst hik; exact Hb.out.symm
                      · exact hz.out i h1 (by omega)
                    case measure => simp [intOf]; omega
                  · have hbz : ((b : Int) != 0) = true := by rw [bne_iff_ne]; omega
                    have Hno : Hid (∀ t : It, t.kind = 3 → t.most = most → t.rest (some (u :: xs)) = none) := Lib.hid (fun t q1 q2 => by
                      have hpad := padB_no (m := nw) (Nat.le_of_not_lt hku) hlt (by rw [← Hb.out]; exact hb0)
                      rw [← Hws.out] at hpad
                      simp [It.rest, q1, textR, Hcn.out, ← Hnw.out, hpad])
                    have m0 := Hmid.out.item.cell 0
                    have m1 := Hmid.out.item.cell 1
                    have m2 := Hmid.out.item.cell 2
                    have m3 := Hmid.out.item.cell 3
                    have m4 := Hmid.out.item.cell 4
                    have a0 := Hmid.out.res.cell 0
                    have a1 := Hmid.out.res.cell 1
                    have a2 := Hmid.out.res.cell 2
                    have a3 := Hmid.out.res.cell 3
                    have a4 := Hmid.out.res.cell 4
                    have a5 := Hmid.out.res.cell 5
                    have z0 := Hmid.out.res.frozen 0
                    have z1 := Hmid.out.res.frozen 1
                    have z2 := Hmid.out.res.frozen 2
                    have z3 := Hmid.out.res.frozen 3
                    have z4 := Hmid.out.res.frozen 4
                    have z5 := Hmid.out.res.frozen 5
                    simp at m0 m1 m2 m3 m4 a0 a1 a2 a3 a4 a5
                    go_wp2
                    refine bodyPost_ret (v := .tuple #[.agg #[.int .i64 3, .int .i64 0, .int .i64 most, .int .i64 0, .string ⟨#[]⟩, .slice (some ad3) nw c3], .slice (some ad) (m + 1) (c1 + 1), .bool false]) (by simp [results, Try.results13, go_sem, a0, a1, a2, a3, a4, a5]) rfl ⟨(by repeat (first | with_reducible exact Hmid.out.fr | (with_reducible refine Fr.drew ?_) | (with_reducible refine Fr.setCell ?_ (.inr (by simp)) _))), .inr ⟨_, _, _, _, rfl, ?_⟩⟩
                    exact Hno.out
          · obtain rfl : k = 8 * nw := by omega
            obtain rfl : j = u := by have := hj.out; omega
            have hd8 : decide (((8 * nw : Nat) : Int) < 8 * (nw : Int)) = false := by simp
            have hpad := padB_yes (m := nw) (fun i h1 h2 => hz.out i h1 h2)
            have Hpad := Lib.hid hpad
            clear hpad
            have hcv := run_string_own (P := Try.prog) wr 53 9 5 Try.underlying53 Try.underlying5 Try.underlying9 Hmid.out.bytes
            have m0 := Hmid.out.item.cell 0
            have m1 := Hmid.out.item.cell 1
            have m2 := Hmid.out.item.cell 2
            have m3 := Hmid.out.item.cell 3
            have m4 := Hmid.out.item.cell 4
            have g4 := Hmid.out.item.frozen 4
            have a0 := Hmid.out.res.cell 0
            have a1 := Hmid.out.res.cell 1
            have a2 := Hmid.out.res.cell 2
            have a3 := Hmid.out.res.cell 3
            have a4 := Hmid.out.res.cell 4
            have a5 := Hmid.out.res.cell 5
            have z0 := Hmid.out.res.frozen 0
            have z1 := Hmid.out.res.frozen 1
            have z2 := Hmid.out.res.frozen 2
            have z3 := Hmid.out.res.frozen 3
            have z4 := Hmid.out.res.frozen 4
            have z5 := Hmid.out.res.frozen 5
            simp at m0 m1 m2 m3 m4 a0 a1 a2 a3 a4 a5
            go_wp2
            go_region
            go_wp2
            refine bodyPost_ret (v := .tuple #[.agg #[.int .i64 3, .int .i64 0, .int .i64 most, .int .i64 0, .string (ofB (unp ws j)), .slice A3 nw c3], .slice A2 (m - nw) (c1 - nw), .bool true]) (by simp [results, Try.results13, go_sem, a0, a1, a2, a3, a4, a5]) rfl ?_
            have hdl : (xs.drop nw).length = m - nw := by rw [List.length_drop, Hxl.out]
            have hwn : textR (some (j :: xs)) = some (ofB (unp ws j), xs.drop nw) := by
              have h9 := Hxl.out
              have h8 := Hpad.out
              rw [← Hws.out] at h8
              simp only [textR, Hcn.out, ← Hnw.out, ← Hws.out]
              rw [if_pos ⟨by omega, h8⟩]
            have hl3 : Sl wr wr.heap.size A3 (u64s ws) := by
              have := Sl.ofOwn (size := 1) Hmid.out.words
              simpa using this
            refine read_end (r := xs.drop nw) (t := ⟨3, 0, most, 0, ofB (unp ws j), ws, A3, c3⟩) (B := w.heap.size) (Fr.refl No w) ?_ rfl rfl (by rw [hdl]; simp only [It.val]; rw [Htl.out]) (by simp [It.isB, hwn]) (by simp [It.rest, hwn]) Hs2.out (Nat.le_refl _) ⟨by rw [hdl]; omega, by have := Hcm.out; omega⟩ ?_ ?_
            · repeat (first | with_reducible exact Hmid.out.fr | (with_reducible refine Fr.drew ?_) | (with_reducible refine Fr.setCell ?_ (.inr (by simp)) _))
            · refine (hl3.fr (S := fun k => k = w.heap.size ∨ k = w.heap.size + 1) (w := _) (Fr.drew ?_) (Nat.le_refl _) (fun ad' e1 _ e2 => ?_)).more (by simp [World.setCell])
              · repeat (first | with_reducible exact Fr.refl _ _ | (with_reducible refine Fr.setCell ?_ (.inl (by simp)) _))
              · subst e1
                rcases e2 with e2 | e2
                · exact own_apart Hmid.out.words Hmid.out.res (by decide) (by simp [Value.ownBlock, e2])
                · exact own_apart Hmid.out.words Hmid.out.item (by decide) (by simp [Value.ownBlock, e2])
            · have h9 := Hxl.out
              have h8 := Htl.out
              simp only [List.length_cons]
              omega
    · have hd3 : ((m : Int) < (nw : Int)) := by omega
      have Hno : Hid (∀ t : It, t.kind = 3 → t.most = most → t.rest (some (u :: xs)) = none) := Lib.hid (fun t q1 q2 => by
        have hul2 : ¬ nw ≤ xs.length := by have := Hn.out; omega
        simp [It.rest, q1, textR, hcn, ← hnw, hul2])
      clear hnw hcn
      go_enter Try.func13, Try.ntmps13
      go_wp2
      refine bodyPost_ret (v := .tuple #[.agg #[.int .i64 3, .int .i64 0, .int .i64 most, .int .i64 0, .string ⟨#[]⟩, .slice none 0 0], .slice (some ad) (m + 1) (c1 + 1), .bool false]) (by simp [results, Try.results13, go_sem]) rfl ⟨(by repeat (first | exact Fr.refl _ _ | refine Fr.alloc ?_ _ | refine Fr.setCell ?_ (.inr (by simp)) _)), .inr ⟨_, _, _, _, rfl, ?_⟩⟩
      exact Hno.out

end Go.Proofs.Yteakdcnbjcnpnaa
