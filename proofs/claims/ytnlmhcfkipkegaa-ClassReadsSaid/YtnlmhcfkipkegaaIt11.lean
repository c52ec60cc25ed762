/- What the document reads as a text. -/
import Derived.Test.YtnlmhcfkipkegaaRrd9
namespace Go.Proofs.Ytnlmhcfkipkegaa
open Go.RowKit

theorem info5_11 : (Try.prog.info? 5).map (fun i => (i.zero, i.size, i.bytes)) = some (some (.int .u8 0), 1, 1) := by kernel_rfl
/-- What the document's 'Read' answers of a text. -/
def RdT (w : World) (B : Nat) (xs : List Nat) (o : Option (ByteArray × List Nat)) (e : Ending) (w' : World) : Prop :=
  Fr No w w' ∧ ((∃ (m : Int) (s : ByteArray) (D : Option Addr) (d dc : Nat) (r : List Nat) (A : Option Addr) (c : Nat), o = some (s, r) ∧ e = .returned (.tuple #[.agg #[.int .i64 3, .int .i64 0, .int .i64 m, .int .i64 0, .string s, .slice D d dc], .slice A r.length c, .bool true]) ∧ Sl w B A (u64s r) ∧ r.length ≤ c ∧ c ≤ maxLen ∧ r.length ≤ xs.length) ∨
    (∃ (m : Int) (P : Option Addr) (a b : Nat) (v : Value), o = none ∧ e = .returned (.tuple #[.agg #[.int .i64 3, .int .i64 0, .int .i64 m, .int .i64 0, .string ⟨#[]⟩, .slice P a b], v, .bool false])))
theorem own_types {w : World} {b1 b2 : Nat} {e1 e2 : TypeId} {s1 s2 n1 n2 : Nat} {v1 v2 : Value} {xs1 xs2 : List Value} (h1 : w.ownsRow b1 e1 s1 v1 n1 xs1) (h2 : w.ownsRow b2 e2 s2 v2 n2 xs2) (hne : e1 ≠ e2) {k : Nat} (hk : v1.ownBlock = some k) : v2.ownBlock ≠ some k := by
  rcases h1.2 with ⟨rfl, _⟩ | ⟨g, cap, cur, rfl, _, hg, _⟩
  · simp [Value.ownBlock] at hk
  · simp [Value.ownBlock] at hk
    subst hk
    exact own_apart h2 (t := e1) hg (fun e => hne e.symm)

/-- In the midst of reading a text: the item, the place of the result, the item's words, the bytes so far. -/
structure Mid (w : World) (xs ws : List Nat) (most : Int) (A3 : Option Addr) (nw c3 : Nat) (A4 : Option Addr) (j c4 n : Nat) (wr : World) : Prop where
  item : Bk wr (w.heap.size + 1) 64 #[.int .i64 3, .int .i64 0, .int .i64 most, .int .i64 0, .string ⟨#[]⟩, .slice A3 nw c3]
  res : Bk wr w.heap.size 64 #[.int .i64 0, .int .i64 0, .int .i64 0, .int .i64 0, .string ⟨#[]⟩, .slice none 0 0]
  words : wr.ownsRow w.heap.size 57 1 (.slice A3 nw c3) nw (u64s ws)
  bytes : wr.ownsRow w.heap.size 5 1 (.slice A4 j c4) j (u8s (unp ws n))
  fr : Fr No w wr

set_option maxRecDepth 100000 in
set_option maxHeartbeats 4000000 in
theorem rdT_cons (u : Nat) (xs : List Nat) (most : Int) (A : Option Addr) (n c : Nat) (w : World) (B : Nat) (hBw : B ≤ w.heap.size) (hsl0 : Sl w B A (u64s (u :: xs))) (hn : xs.length + 1 = n) (hnc : n ≤ c) (hcm : c ≤ maxLen) (hu : u < 18446744073709551616) (hn300 : n ≤ 1000000) (h64 : ∀ x ∈ xs, x < 18446744073709551616) :
    Calls Try.prog 45 #[.slice A n c, .int .i64 3, .int .i64 most] w (RdT w B (u :: xs) (textR (some (u :: xs)))) := by
  have hsl := hsl0.more hBw
  obtain ⟨m, rfl⟩ : ∃ m, n = m + 1 := ⟨n - 1, by omega⟩
  obtain ⟨c1, rfl⟩ : ∃ c1, c = c1 + 1 := ⟨c - 1, by omega⟩
  obtain ⟨ad, rfl, hadw, hc0⟩ := hsl.wordB (k := 0) (by simp)
  have hc0 : w.cell? ad = some (.int .u64 u) := hc0
  have hs0 := sl_tail9 (c := c1 + 1) hsl0 (by omega) (fun _ _ => rfl)
  have hs1 := sl_tail9 (c := c1 + 1) hsl (by omega) (fun _ _ => rfl)
  obtain ⟨i0, hi0, hz0, hz1, hz2⟩ := info_parts info43
  have hrs : ∀ W, (Instr.slice 22 (.slice (some ad) (m + 1) (c1 + 1)) (some (.int .i64 1)) none none).run Try.prog W = .ok (.slice (if c1 + 1 = 1 then some ad else (some ad).map (·.add 1)) m c1) W := fun W => by
    have := run_slice_from9 (P := Try.prog) 22 57 i0 Try.underlying22 hi0 hz1 (some ad) (m + 1) (c1 + 1) 1 1 rfl (by omega) W
    simpa only [Nat.add_sub_cancel] using this
  generalize (if c1 + 1 = 1 then some ad else (some ad).map (·.add 1)) = A1 at *
  have hi0' := hi0
  have Hs1 := Lib.hid hs1
  have Hs0 := Lib.hid hs0
  have Hn := Lib.hid hn
  have Hcm := Lib.hid hcm
  have hmc : m ≤ c1 := by omega
  have hnz : ((m : Int) + 1 == 0) = false := by rw [beq_eq_false_iff_ne]; omega
  clear hsl hsl0 hs0 hn hs1 hi0 hcm
  by_cases hum : 64 < (u : Int)
  · have hd : decide (64 < (u : Int)) = true := by simpa using hum
    have Hno : Hid (textR (some (u :: xs)) = none) := Lib.hid (by
      have hcn : cntR 64 (some (u :: xs)) = none := by simp only [cntR]; rw [if_neg (by omega)]
      simp [textR, hcn])
    go_enter Try.func45, Try.ntmps45
    go_wp2
    refine bodyPost_ret (v := .tuple #[.agg #[.int .i64 3, .int .i64 0, .int .i64 most, .int .i64 0, .string ⟨#[]⟩, .slice none 0 0], .slice (some ad) (m + 1) (c1 + 1), .bool false]) (by simp [results, Try.results45, go_sem]) rfl ⟨(by repeat (first | exact Fr.refl _ _ | refine Fr.alloc ?_ _ | refine Fr.setCell ?_ (.inr (by simp)) _)), .inr ⟨_, _, _, _, _, Hno.out, rfl⟩⟩
  · have hd : decide (64 < (u : Int)) = false := by simpa using hum
    have hcn : cntR 64 (some (u :: xs)) = some (u, xs) := by simp only [cntR]; rw [if_pos (by omega)]
    obtain ⟨nw, hnw⟩ : ∃ nw, nw = (u + 7) / 8 := ⟨_, rfl⟩
    have hnw8 : nw ≤ 8 := by omega
    have hunw : u ≤ 8 * nw := by omega
    have hnwi : ((u : Int) + 7) / 8 = (nw : Int) := by omega
    by_cases hul : nw ≤ m
    · have hxl : xs.length = m := by have := Hn.out; omega
      have Hxl := Lib.hid hxl
      clear hxl
      have hrs2 := fun W => run_slice_from9 (P := Try.prog) 22 57 i0 Try.underlying22 hi0' hz1 A1 m c1 nw nw rfl hul W
      have hs2 : Sl w B (if c1 = nw then A1 else A1.map (·.add nw)) (u64s (xs.drop nw)) := by
        have := Hs0.out.drop (k := nw) (n := m) (cap := c1) (sz := 1) (by rw [u64s_len, Hxl.out]; omega) hul (by omega)
        simpa [u64s, List.map_drop] using this
      generalize (if c1 = nw then A1 else A1.map (·.add nw)) = A2 at *
      have Hs2 := Lib.hid hs2
      clear hs2
      obtain ⟨W0, hW0⟩ : ∃ W0, W0 = ((w.alloc (.cells #[.int .i64 0, .int .i64 0, .int .i64 0, .int .i64 0, .string ⟨#[]⟩, .slice none 0 0] 64)).alloc (.cells #[.int .i64 3, .int .i64 0, .int .i64 most, .int .i64 0, .string ⟨#[]⟩, .slice none 0 0] 64)) := ⟨_, rfl⟩
      have hown : (W0.alloc (.cells #[] 57)).ownsRow w.heap.size 57 1 (.slice (some ⟨W0.heap.size, 0, none⟩) 0 0) 0 (u64s []) := World.ownsRow_lit W0 #[] 0 (by rw [hW0]; simp; omega) (Nat.zero_le _) rfl
      have hf0 : Fr No w W0 := by rw [hW0]; exact ((Fr.refl _ _).alloc _).alloc _
      have hst : Sl (W0.alloc (.cells #[] 57)) w.heap.size A1 (u64s (xs.take nw)) := by
        have h1 := (Hs1.out.take nw).fr (hf0.alloc (.cells #[] 57)) (Nat.le_refl _) (fun _ _ _ => id)
        simpa [u64s, List.map_take] using h1
      have htl : (xs.take nw).length = nw := by rw [List.length_take, Hxl.out]; omega
      subst hW0
      have Hst := Lib.hid hst
      have Htl := Lib.hid htl
      have Hf0 := Lib.hid hf0
      have Hcn := Lib.hid hcn
      have Hnw := Lib.hid hnw
      have huc : nw ≤ c1 := by omega
      clear hst htl hf0 hcn hnw
      simp at hown
      have h64w : ∀ x ∈ xs.take nw, x < 18446744073709551616 := fun x hx => h64 x (List.mem_of_mem_take hx)
      generalize hws : xs.take nw = ws at *
      have H64 := Lib.hid h64w
      clear h64w h64
      have Hws := Lib.hid hws
      clear hws
      go_enter Try.func45, Try.ntmps45
      go_wp2_with (at_builtin; refine append_words rfl _ _ rfl w.heap.size (some ⟨w.heap.size + 1 + 1, 0, none⟩) 0 0 [] ?h1 w.heap.size A1 nw c1 ws ?h2 Htl.out Hst.out hown (by omega) ?h3 ?h4)
      case h3 => omega
      case h4 =>
        intro A3 c3 w3 hown3 hf3 hg3
        have hB3 : Bk w3 (w.heap.size + 1) 64 #[.int .i64 3, .int .i64 0, .int .i64 most, .int .i64 0, .string ⟨#[]⟩, .slice none 0 0] := by
          have hm := Bk.made (w.alloc (.cells #[.int .i64 0, .int .i64 0, .int .i64 0, .int .i64 0, .string ⟨#[]⟩, .slice none 0 0] 64)) 64 #[.int .i64 3, .int .i64 0, .int .i64 most, .int .i64 0, .string ⟨#[]⟩, .slice none 0 0]
          have h2 := hm.fr (((Fr.refl No _)).alloc (.cells #[] 57)) id
          simp at h2
          exact h2.fr hf3 (by simp [Value.ownBlock])
        have hB4 : Bk w3 w.heap.size 64 #[.int .i64 0, .int .i64 0, .int .i64 0, .int .i64 0, .string ⟨#[]⟩, .slice none 0 0] := by
          have hm := Bk.made w 64 #[.int .i64 0, .int .i64 0, .int .i64 0, .int .i64 0, .string ⟨#[]⟩, .slice none 0 0]
          have h2 := hm.fr (((Fr.refl No _).alloc (.cells #[.int .i64 3, .int .i64 0, .int .i64 most, .int .i64 0, .string ⟨#[]⟩, .slice none 0 0] 64)).alloc (.cells #[] 57)) id
          exact h2.fr hf3 (by simp [Value.ownBlock]; omega)
        have hfr3 : Fr No w w3 := ((Hf0.out.alloc (.cells #[] 57)).trans' hf3 (fun i hi h => by simp [Value.ownBlock] at h; omega))
        have b5 := hB3.cell 5
        have g5 := hB3.frozen 5
        have b0 := hB3.cell 0
        simp at b5 b0
        try simp only [Nat.zero_add, List.nil_append] at hown3
        try simp only [Nat.zero_add] at hg3
        try simp only [Nat.zero_add]
        have hne3 : ∀ k, (Value.slice A3 nw c3).ownBlock = some k → k ≠ w.heap.size + 1 ∧ k ≠ w.heap.size := by
          intro k hk
          rcases hg3 with h7 | ⟨k', h7, h6⟩
          · rw [h7] at hk; simp [Value.ownBlock] at hk; omega
          · rw [h7] at hk; injection hk with hk; omega
        have hI : Mid w xs ws most A3 nw c3 none 0 0 0 (w3.setCell ⟨w.heap.size + 1, 5, none⟩ (.slice A3 nw c3)) := by
          have hfs : Fr (fun k => k = w.heap.size + 1) w3 (w3.setCell ⟨w.heap.size + 1, 5, none⟩ (.slice A3 nw c3)) := (Fr.refl (fun k => k = w.heap.size + 1) w3).setCell (p := ⟨w.heap.size + 1, 5, none⟩) (.inl rfl) _
          exact ⟨by simpa using hB3.put 5 (.slice A3 nw c3), hB4.fr hfs (by omega), own_fr hown3 hfs (fun k hk => (hne3 k hk).1), World.ownsRow_nil _ _ _ _, hfr3.setCell (p := ⟨w.heap.size + 1, 5, none⟩) (.inr (by simp)) _⟩
        have HI := Lib.hid hI
        clear hI hown3 hf3 hg3 hne3 hB3 hB4
        go_wp2
        go_loopw [14, 15] (fun b i wr => ∃ (j k : Nat) (A4 : Option Addr) (c4 : Nat), k ≤ 8 * nw ∧ i = .int .i64 k ∧ Hid (j = min k u) ∧ j ≤ u ∧ b = .slice A4 j c4 ∧ Mid w xs ws most A3 nw c3 A4 j c4 j wr ∧ Hid (∀ i, u ≤ i → i < k → ub ws i = 0)) (fun _ i _ => 8 * nw - (intOf i).toNat)
        case atStart => exact ⟨0, 0, none, 0, Nat.zero_le _, rfl, Lib.hid (by simp), Nat.zero_le _, rfl, HI.out, Lib.hid (by intro i _ h; omega)⟩
        case round =>
          obtain ⟨j, k, A4, c4, hk, rfl, hj, hju, rfl, hmid, hz⟩ := hrel
          have Hmid := Lib.hid hmid
          have b5' := hmid.item.cell 5
          simp at b5'
          by_cases hlt : k < 8 * nw
          · obtain ⟨q, hq⟩ : ∃ q, q = k / 8 := ⟨_, rfl⟩
            obtain ⟨r, hr⟩ : ∃ r, r = k % 8 := ⟨_, rfl⟩
            have hqm : q < nw := by omega
            have hr8 : r < 8 := by omega
            have hqw : q < ws.length := by rw [Htl.out]; exact hqm
            obtain ⟨ad3, hA3, _, hcw⟩ := (Sl.ofOwn hmid.words).wordB hqw
            obtain ⟨v, hv⟩ : ∃ v, v = ws[q] := ⟨_, rfl⟩
            have hv64 : v < 18446744073709551616 := by rw [hv]; exact H64.out _ (List.getElem_mem hqw)
            rw [← hv] at hcw
            subst hA3
            have hub : ub ws k = v / 256 ^ r % 256 := by
              unfold ub
              rw [← hq, ← hr, hv, show (2 : Nat) ^ (r * 8) = 256 ^ r by rw [Nat.mul_comm, Nat.pow_mul]]
              simp [List.getD, hqw]
            have Hub := Lib.hid hub
            have hq1 : (k : Int) / 8 = (q : Int) := by omega
            have hr1 : (k : Int) % 8 = (r : Int) := by omega
            have hd8 : decide ((k : Int) < 8 * (nw : Int)) = true := by simp; omega
            have Hv := Lib.hid hv
            clear hq hr hub hmid hv
            go_wp2
            go_loop [16, 17] (fun v' i' => ∃ (y z : Nat), y ≤ r ∧ i' = .int .i64 y ∧ v' = .int .u64 z ∧ Hid (z = v / 256 ^ y)) (fun _ i' => r - (intOf i').toNat)
            case atStart => exact ⟨0, v, Nat.zero_le _, rfl, rfl, Lib.hid (by simp)⟩
            case round =>
              obtain ⟨y, z, hy, rfl, rfl, hz2⟩ := hrel
              have hz64 : z < 18446744073709551616 := by
                rw [hz2.out]
                exact Nat.lt_of_le_of_lt (Nat.div_le_self _ _) hv64
              by_cases hyr : y < r
              · go_wp2
                go_round
                case rel => exact ⟨y + 1, z / 256, by omega, by go_num, by simp, Lib.hid (by rw [hz2.out, Nat.div_div_eq_div_mul, Nat.pow_succ])⟩
                case measure => simp [intOf]; omega
              · obtain ⟨b, hb⟩ : ∃ b, b = z % 256 := ⟨_, rfl⟩
                have hb256 : b < 256 := by omega
                have hub : b = ub ws k := by
                  have hyr2 : y = r := by omega
                  rw [hb, hz2.out, hyr2, Hub.out]
                have hbi : (z : Int) % 256 = (b : Int) := by omega
                have hb8 : IntKind.u8.wrap (b : Int) = b := IntWalk.u8_in _ (by omega)
                have Hb := Lib.hid hub
                clear hb hub
                by_cases hku : k < u
                · obtain rfl : j = k := by have := hj.out; omega
                  go_wp2_with (at_builtin; (refine wpList_append_one rfl _ _ _ rfl w.heap.size 5 _ 1 Try.underlying120 info5_11 rfl (.slice A4 j c4) j (u8s (unp ws j)) (.int .u8 b) rfl ?k1 wr.heap.size ?k2 ?k3 Hmid.out.bytes (by unfold maxLen; omega) (by omega) Hmid.out.fr.size ?k4))
                  case k2 => rfl
                  case k4 =>
                    intro A5 c5 w5 hown5 hf5 hg5
                    have hmid5 : Mid w xs ws most (some ad3) nw c3 A5 (j + 1) c5 (j + 1) w5 := by
                      have h0 := Hmid.out
                      refine ⟨h0.item.fr hf5 (own_apart h0.bytes h0.item (by decide)), h0.res.fr hf5 (own_apart h0.bytes h0.res (by decide)), own_fr h0.words hf5 (fun k' e1 e2 => own_types h0.words h0.bytes (by decide) e1 e2), ?_, h0.fr.then0 hf5 (fun k' hk' => (h0.bytes.lt k' hk').1)⟩
                      rw [unp_succ, u8s_app, ← Hb.out]
                      exact hown5
                    have Hm5 := Lib.hid hmid5
                    clear hmid5 hown5 hf5 hg5
                    go_wp2
                    go_roundw
                    case rel => exact ⟨j + 1, j + 1, A5, c5, by omega, by go_num, Lib.hid (by omega), by omega, rfl, Hm5.out, Lib.hid (fun i h1 h2 => by omega)⟩
                    case measure => simp [intOf]; omega
                · by_cases hb0 : b = 0
                  · subst hb0
                    have hbz : (((0 : Nat) : Int) != 0) = false := by simp
                    go_wp2
                    go_roundw
                    case rel =>
                      refine ⟨j, k + 1, A4, c4, by omega, by go_num, Lib.hid (by have := hj.out; omega), hju, rfl, Hmid.out, Lib.hid (fun i h1 h2 => ?_)⟩
                      by_cases hik : i = k
                      · subst hik; exact Hb.out.symm
                      · exact hz.out i h1 (by omega)
                    case measure => simp [intOf]; omega
                  · have hbz : ((b : Int) != 0) = true := by rw [bne_iff_ne]; omega
                    have Hno : Hid (textR (some (u :: xs)) = none) := Lib.hid (by
                      have hpad := padB_no (m := nw) (Nat.le_of_not_lt hku) hlt (by rw [← Hb.out]; exact hb0)
                      rw [← Hws.out] at hpad
                      simp [textR, Hcn.out, ← Hnw.out, hpad])
                    have m0 := Hmid.out.item.cell 0
                    have m1 := Hmid.out.item.cell 1
                    have m2 := Hmid.out.item.cell 2
                    have m3 := Hmid.out.item.cell 3
                    have m4 := Hmid.out.item.cell 4
                    have a0 := Hmid.out.res.cell 0
                    have a1 := Hmid.out.res.cell 1
                    have a2 := Hmid.out.res.cell 2
                    have a3 := Hmid.out.res.cell 3
                    have a4 := Hmid.out.res.cell 4
                    have a5 := Hmid.out.res.cell 5
                    have z0 := Hmid.out.res.frozen 0
                    have z1 := Hmid.out.res.frozen 1
                    have z2 := Hmid.out.res.frozen 2
                    have z3 := Hmid.out.res.frozen 3
                    have z4 := Hmid.out.res.frozen 4
                    have z5 := Hmid.out.res.frozen 5
                    simp at m0 m1 m2 m3 m4 a0 a1 a2 a3 a4 a5
                    go_wp2
                    refine bodyPost_ret (v := .tuple #[.agg #[.int .i64 3, .int .i64 0, .int .i64 most, .int .i64 0, .string ⟨#[]⟩, .slice (some ad3) nw c3], .slice (some ad) (m + 1) (c1 + 1), .bool false]) (by simp [results, Try.results45, go_sem, a0, a1, a2, a3, a4, a5]) rfl ⟨(by repeat (first | with_reducible exact Hmid.out.fr | (with_reducible refine Fr.drew ?_) | (with_reducible refine Fr.setCell ?_ (.inr (by simp)) _))), .inr ⟨_, _, _, _, _, Hno.out, rfl⟩⟩
          · obtain rfl : k = 8 * nw := by omega
            obtain rfl : j = u := by have := hj.out; omega
            have hd8 : decide (((8 * nw : Nat) : Int) < 8 * (nw : Int)) = false := by simp
            have hpad := padB_yes (m := nw) (fun i h1 h2 => hz.out i h1 h2)
            have Hpad := Lib.hid hpad
            clear hpad
            have hcv := run_string_own (P := Try.prog) wr 120 9 5 Try.underlying120 Try.underlying5 Try.underlying9 Hmid.out.bytes
            have m0 := Hmid.out.item.cell 0
            have m1 := Hmid.out.item.cell 1
            have m2 := Hmid.out.item.cell 2
            have m3 := Hmid.out.item.cell 3
            have m4 := Hmid.out.item.cell 4
            have g4 := Hmid.out.item.frozen 4
            have a0 := Hmid.out.res.cell 0
            have a1 := Hmid.out.res.cell 1
            have a2 := Hmid.out.res.cell 2
            have a3 := Hmid.out.res.cell 3
            have a4 := Hmid.out.res.cell 4
            have a5 := Hmid.out.res.cell 5
            have z0 := Hmid.out.res.frozen 0
            have z1 := Hmid.out.res.frozen 1
            have z2 := Hmid.out.res.frozen 2
            have z3 := Hmid.out.res.frozen 3
            have z4 := Hmid.out.res.frozen 4
            have z5 := Hmid.out.res.frozen 5
            simp at m0 m1 m2 m3 m4 a0 a1 a2 a3 a4 a5
            go_wp2
            go_region
            go_wp2
            refine bodyPost_ret (v := .tuple #[.agg #[.int .i64 3, .int .i64 0, .int .i64 most, .int .i64 0, .string (ofB (unp ws j)), .slice A3 nw c3], .slice A2 (m - nw) (c1 - nw), .bool true]) (by simp [results, Try.results45, go_sem, a0, a1, a2, a3, a4, a5]) rfl ?_
            have hdl : (xs.drop nw).length = m - nw := by rw [List.length_drop, Hxl.out]
            have hwn : textR (some (j :: xs)) = some (ofB (unp ws j), xs.drop nw) := by
              have h9 := Hxl.out
              have h8 := Hpad.out
              rw [← Hws.out] at h8
              simp only [textR, Hcn.out, ← Hnw.out, ← Hws.out]
              rw [if_pos ⟨by omega, h8⟩]
            refine ⟨?_, .inl ⟨most, ofB (unp ws j), A3, nw, c3, xs.drop nw, A2, c1 - nw, hwn, by rw [hdl], Hs2.out, by rw [hdl]; omega, by have := Hcm.out; omega, by simp; omega⟩⟩
            repeat (first | with_reducible exact Hmid.out.fr | (with_reducible refine Fr.drew ?_) | (with_reducible refine Fr.setCell ?_ (.inr (by simp)) _))
    · have hd3 : ((m : Int) < (nw : Int)) := by omega
      have Hno : Hid (textR (some (u :: xs)) = none) := Lib.hid (by
        have hul2 : ¬ nw ≤ xs.length := by have := Hn.out; omega
        simp [textR, hcn, ← hnw, hul2])
      clear hnw hcn
      go_enter Try.func45, Try.ntmps45
      go_wp2
      refine bodyPost_ret (v := .tuple #[.agg #[.int .i64 3, .int .i64 0, .int .i64 most, .int .i64 0, .string ⟨#[]⟩, .slice none 0 0], .slice (some ad) (m + 1) (c1 + 1), .bool false]) (by simp [results, Try.results45, go_sem]) rfl ⟨(by repeat (first | exact Fr.refl _ _ | refine Fr.alloc ?_ _ | refine Fr.setCell ?_ (.inr (by simp)) _)), .inr ⟨_, _, _, _, _, Hno.out, rfl⟩⟩

theorem rdT_nil (m : Int) (A : Option Addr) (c B : Nat) (w : World) : Calls Try.prog 45 #[.slice A 0 c, .int .i64 3, .int .i64 m] w (RdT w B [] none) := by
  go_enter Try.func45, Try.ntmps45
  go_wp2
  refine bodyPost_ret (v := .tuple #[.agg #[.int .i64 3, .int .i64 0, .int .i64 m, .int .i64 0, .string ⟨#[]⟩, .slice none 0 0], .slice A 0 c, .bool false]) (by simp [results, Try.results45, go_sem]) rfl ⟨((Fr.refl _ _).alloc _).alloc _, .inr ⟨m, none, 0, 0, _, rfl, rfl⟩⟩
theorem rdT_any (m : Int) (xs : List Nat) (A : Option Addr) (n c B : Nat) (w : World) (hBw : B ≤ w.heap.size) (hsl : Sl w B A (u64s xs)) (hn : xs.length = n) (hnc : n ≤ c) (hcm : c ≤ maxLen) (hn300 : n ≤ 1000000) (hu : ∀ u ∈ xs, u < 18446744073709551616) :
    Calls Try.prog 45 #[.slice A n c, .int .i64 3, .int .i64 m] w (RdT w B xs (textR (some xs))) := by
  match xs, hn, hsl, hu with
  | [], hn, _, _ =>
    obtain rfl : n = 0 := by simpa using hn.symm
    exact rdT_nil m A c B w
  | u :: r, hn, hsl, hu => exact rdT_cons u r m A n c w B hBw hsl (by simpa using hn) hnc hcm (hu u (by simp)) hn300 (fun x hx => hu x (by simp [hx]))
end Go.Proofs.Ytnlmhcfkipkegaa
/- A text that the document's reader reads. -/
namespace Go.Proofs.Ytnlmhcfkipkegaa
open Go.RowKit

/-- What a call that reads a text leaves and tells. -/
def ItmT (w : World) (B q : Nat) (o : Option (ByteArray × List Nat)) (e : Ending) (w' : World) : Prop :=
  ∃ (k n m x : Int) (D : Option Addr) (d dc : Nat), e = .returned (.agg #[.int .i64 k, .int .i64 n, .int .i64 m, .int .i64 x, .string ((o.map (·.1)).getD ⟨#[]⟩), .slice D d dc]) ∧ RR w' B q (o.map (·.2)) ∧ Fr (Only q) w w'
theorem textR_64 {xs : List Nat} (h : ∀ u ∈ xs, u < 18446744073709551616) : ∀ y, textR (some xs) = some y → ∀ u ∈ y.2, u < 18446744073709551616 := by
  intro y hy u hu
  unfold textR at hy
  cases hc : cntR 64 (some xs) with
  | none => rw [hc] at hy; cases hy
  | some z =>
    obtain ⟨n, r⟩ := z
    rw [hc] at hy
    simp only at hy
    split at hy
    · simp only [Option.some.injEq] at hy
      rw [← hy] at hu
      have h1 := List.mem_of_mem_drop hu
      cases xs with
      | nil => simp [cntR] at hc
      | cons a s =>
        simp only [cntR] at hc
        split at hc
        · simp only [Option.some.injEq, Prod.mk.injEq] at hc
          exact h u (by rw [← hc.2] at h1; simp [h1])
        · cases hc
    · cases hy

set_option maxHeartbeats 4000000 in
theorem itemT_some (m : Int) (q B : Nat) (xs : List Nat) (o : Option (ByteArray × List Nat)) (w : World) (hr : RR w B q (some xs))
    (hC : ∀ (A : Option Addr) (n c : Nat) (W : World), Fr No w W → Sl W B A (u64s xs) → xs.length = n → n ≤ c → c ≤ maxLen → Calls Try.prog 45 #[.slice A n c, .int .i64 3, .int .i64 m] W (RdT W B xs o)) (ho64 : ∀ y, o = some y → ∀ u ∈ y.2, u < 18446744073709551616) :
    Calls Try.prog 25 #[.pointer (some ⟨q, 0, none⟩), .int .i64 3, .int .i64 m] w (ItmT w B q o) := by
  obtain ⟨A, n, c, hb, hB, hx⟩ := hr
  obtain ⟨a1, a2, a3, a4, a5⟩ := hx xs rfl
  have hql := hb.lt
  have hf0 : Fr No w (w.alloc (.cells #[.int .i64 0, .int .i64 0, .int .i64 0, .int .i64 0, .string ⟨#[]⟩, .slice none 0 0] 64)) := (Fr.refl _ _).alloc _
  have hb0 := hb.fr hf0 (fun e => e)
  have hX0 := Bk.made w 64 #[.int .i64 0, .int .i64 0, .int .i64 0, .int .i64 0, .string ⟨#[]⟩, .slice none 0 0]
  have k0 := hb.cell 0
  have k1 := hb.cell 1
  simp at k0 k1
  have HC := Lib.hid (hC A n c _ hf0 (a4.fr hf0 (by omega) (fun _ _ _ e => e)) a1 a2 a3)
  have H64 := Lib.hid ho64
  have Hb0 := Lib.hid hb0
  have HX0 := Lib.hid hX0
  have hFO : Hid (Fr (Only q) w (w.alloc (.cells #[.int .i64 0, .int .i64 0, .int .i64 0, .int .i64 0, .string ⟨#[]⟩, .slice none 0 0] 64))) := Lib.hid (hf0.weak (fun _ _ h => h.elim))
  clear hC ho64 hx a1 a2 a3 a4 a5 hb hb0 hX0 hf0
  go_enter Try.func25, Try.ntmps25
  go_wp2_with fail
  refine (HC.out).mono ?_
  rintro e w1 ⟨hf1, ⟨m2, s2, D2, d2, dc2, r, A2, c2, ho, rfl, hs2, hc2, hcm2, hl2⟩ | ⟨m2, P2, p2, q2, v, ho, rfl⟩⟩
  · have hb1 := Hb0.out.fr hf1 (fun e => e)
    have hX1 := HX0.out.fr hf1 (fun e => e)
    have hql1 := hb1.lt
    have hXl1 := hX1.lt
    have hne : ¬ w.heap.size = q := by omega
    have hne' : ¬ q = w.heap.size := by omega
    have z0 := hb1.frozen 0
    have j0 := hb1.cell 0
    simp at j0
    have y0 := hX1.frozen 0
    have y1 := hX1.frozen 1
    have y2 := hX1.frozen 2
    have y3 := hX1.frozen 3
    have y4 := hX1.frozen 4
    have y5 := hX1.frozen 5
    have u0 := hX1.cell 0
    have u1 := hX1.cell 1
    have u2 := hX1.cell 2
    have u3 := hX1.cell 3
    have u4 := hX1.cell 4
    have u5 := hX1.cell 5
    simp at u0 u1 u2 u3 u4 u5
    have Ho := Lib.hid ho
    have Hs2 := Lib.hid hs2
    clear ho hs2
    have hfin : ItmT w B q o (.returned (.agg #[.int .i64 3, .int .i64 0, .int .i64 m2, .int .i64 0, .string s2, .slice D2 d2 dc2])) ((((((((w1.setCell ⟨q, 0, none⟩ (.slice A2 r.length c2)).setCell ⟨w.heap.size, 0, none⟩ (.int .i64 3)).setCell ⟨w.heap.size, 1, none⟩ (.int .i64 0)).setCell ⟨w.heap.size, 2, none⟩ (.int .i64 m2)).setCell ⟨w.heap.size, 3, none⟩ (.int .i64 0)).setCell ⟨w.heap.size, 4, none⟩ (.string s2)).setCell ⟨w.heap.size, 5, none⟩ (.slice D2 d2 dc2)).alloc (.cells #[.int .i64 3, .int .i64 0, .int .i64 m2, .int .i64 0, .string s2, .slice D2 d2 dc2] 64)) := by
      refine ⟨3, 0, m2, 0, D2, d2, dc2, by rw [Ho.out]; rfl, ?_, (((((((((hFO.out.trans' hf1 (fun _ _ e => e.elim)).setCell (p := ⟨q, 0, none⟩) (.inl rfl) (.slice A2 r.length c2)).setCell (p := ⟨w.heap.size, 0, none⟩) (.inr (Nat.le_refl _)) (.int .i64 3)).setCell (p := ⟨w.heap.size, 1, none⟩) (.inr (Nat.le_refl _)) (.int .i64 0)).setCell (p := ⟨w.heap.size, 2, none⟩) (.inr (Nat.le_refl _)) (.int .i64 m2)).setCell (p := ⟨w.heap.size, 3, none⟩) (.inr (Nat.le_refl _)) (.int .i64 0)).setCell (p := ⟨w.heap.size, 4, none⟩) (.inr (Nat.le_refl _)) (.string s2)).setCell (p := ⟨w.heap.size, 5, none⟩) (.inr (Nat.le_refl _)) (.slice D2 d2 dc2)).alloc _)⟩
      rw [Ho.out]
      have bq := (hb1.put 0 (.slice A2 r.length c2)).fr ((((((((Fr.refl (Only w.heap.size) (w1.setCell ⟨q, 0, none⟩ (.slice A2 r.length c2))).setCell (p := ⟨w.heap.size, 0, none⟩) (.inl rfl) (.int .i64 3)).setCell (p := ⟨w.heap.size, 1, none⟩) (.inl rfl) (.int .i64 0)).setCell (p := ⟨w.heap.size, 2, none⟩) (.inl rfl) (.int .i64 m2)).setCell (p := ⟨w.heap.size, 3, none⟩) (.inl rfl) (.int .i64 0)).setCell (p := ⟨w.heap.size, 4, none⟩) (.inl rfl) (.string s2)).setCell (p := ⟨w.heap.size, 5, none⟩) (.inl rfl) (.slice D2 d2 dc2)).alloc (.cells #[.int .i64 3, .int .i64 0, .int .i64 m2, .int .i64 0, .string s2, .slice D2 d2 dc2] 64)) (fun e => hne' e)
      refine ⟨A2, r.length, c2, by simpa using bq, hB, fun ys e => ?_⟩
      simp only [Option.map_some, Option.some.injEq] at e
      subst e
      have h1 : Sl w1 B A2 (u64s r) := Hs2.out.fr hf1 (by simp; omega) (fun _ _ _ e => e)
      refine ⟨rfl, hc2, hcm2, h1.fr (((((((((Fr.refl (fun k => k = q ∨ k = w.heap.size) w1).setCell (p := ⟨q, 0, none⟩) (.inl (.inl rfl)) (.slice A2 r.length c2)).setCell (p := ⟨w.heap.size, 0, none⟩) (.inl (.inr rfl)) (.int .i64 3)).setCell (p := ⟨w.heap.size, 1, none⟩) (.inl (.inr rfl)) (.int .i64 0)).setCell (p := ⟨w.heap.size, 2, none⟩) (.inl (.inr rfl)) (.int .i64 m2)).setCell (p := ⟨w.heap.size, 3, none⟩) (.inl (.inr rfl)) (.int .i64 0)).setCell (p := ⟨w.heap.size, 4, none⟩) (.inl (.inr rfl)) (.string s2)).setCell (p := ⟨w.heap.size, 5, none⟩) (.inl (.inr rfl)) (.slice D2 d2 dc2)).alloc (.cells #[.int .i64 3, .int .i64 0, .int .i64 m2, .int .i64 0, .string s2, .slice D2 d2 dc2] 64)) (by omega) (fun ad e hn hs => ?_), H64.out _ Ho.out⟩
      obtain ⟨ad', e', hlt, _⟩ := h1 hn
      rw [e] at e'
      injection e' with e'
      subst e'
      rcases hs with hs | hs <;> omega
    have HF := Lib.hid hfin
    have bX := (((((((hX1.fr ((Fr.refl (Only q) w1).setCell (p := ⟨q, 0, none⟩) (.inl rfl) (.slice A2 r.length c2)) hne).put 0 (.int .i64 3)).put 1 (.int .i64 0)).put 2 (.int .i64 m2)).put 3 (.int .i64 0)).put 4 (.string s2)).put 5 (.slice D2 d2 dc2)).fr ((Fr.refl No _).alloc (.cells #[.int .i64 3, .int .i64 0, .int .i64 m2, .int .i64 0, .string s2, .slice D2 d2 dc2] 64)) (fun e => e)
    have m0 := bX.cell 0
    have m1 := bX.cell 1
    have m2' := bX.cell 2
    have m3 := bX.cell 3
    have m4 := bX.cell 4
    have m5 := bX.cell 5
    simp at m0 m1 m2' m3 m4 m5
    have M : Hid (_ ∧ _ ∧ _ ∧ _ ∧ _ ∧ _) := Lib.hid ⟨m0, m1, m2', m3, m4, m5⟩
    clear hfin bX m0 m1 m2' m3 m4 m5
    go_wp2
    obtain ⟨m0, m1, m2', m3, m4, m5⟩ := M.out
    exact bodyPost_ret (v := .agg #[.int .i64 3, .int .i64 0, .int .i64 m2, .int .i64 0, .string s2, .slice D2 d2 dc2]) (by simp [results, Try.results25, go_sem, m0, m1, m2', m3, m4, m5]) rfl HF.out
  · have hb1 := Hb0.out.fr hf1 (fun e => e)
    have hX1 := HX0.out.fr hf1 (fun e => e)
    have hql1 := hb1.lt
    have hXl1 := hX1.lt
    have hne : ¬ w.heap.size = q := by omega
    have z1 := hb1.frozen 1
    have j1 := hb1.cell 1
    simp at j1
    have y0 := hX1.frozen 0
    have y1 := hX1.frozen 1
    have y2 := hX1.frozen 2
    have y3 := hX1.frozen 3
    have y4 := hX1.frozen 4
    have y5 := hX1.frozen 5
    have u0 := hX1.cell 0
    have u1 := hX1.cell 1
    have u2 := hX1.cell 2
    have u3 := hX1.cell 3
    have u4 := hX1.cell 4
    have u5 := hX1.cell 5
    simp at u0 u1 u2 u3 u4 u5
    have Ho := Lib.hid ho
    clear ho
    have hfin : ItmT w B q o (.returned (.agg #[.int .i64 0, .int .i64 0, .int .i64 0, .int .i64 0, .string ⟨#[]⟩, .slice none 0 0])) ((((((((w1.setCell ⟨q, 1, none⟩ (.bool true)).setCell ⟨w.heap.size, 0, none⟩ (.int .i64 0)).setCell ⟨w.heap.size, 1, none⟩ (.int .i64 0)).setCell ⟨w.heap.size, 2, none⟩ (.int .i64 0)).setCell ⟨w.heap.size, 3, none⟩ (.int .i64 0)).setCell ⟨w.heap.size, 4, none⟩ (.string ⟨#[]⟩)).setCell ⟨w.heap.size, 5, none⟩ (.slice none 0 0)).alloc (.cells #[.int .i64 3, .int .i64 0, .int .i64 m2, .int .i64 0, .string ⟨#[]⟩, .slice P2 p2 q2] 64)) := by
      refine ⟨0, 0, 0, 0, none, 0, 0, by rw [Ho.out]; rfl, ?_, (((((((((hFO.out.trans' hf1 (fun _ _ e => e.elim)).setCell (p := ⟨q, 1, none⟩) (.inl rfl) (.bool true)).setCell (p := ⟨w.heap.size, 0, none⟩) (.inr (Nat.le_refl _)) (.int .i64 0)).setCell (p := ⟨w.heap.size, 1, none⟩) (.inr (Nat.le_refl _)) (.int .i64 0)).setCell (p := ⟨w.heap.size, 2, none⟩) (.inr (Nat.le_refl _)) (.int .i64 0)).setCell (p := ⟨w.heap.size, 3, none⟩) (.inr (Nat.le_refl _)) (.int .i64 0)).setCell (p := ⟨w.heap.size, 4, none⟩) (.inr (Nat.le_refl _)) (.string ⟨#[]⟩)).setCell (p := ⟨w.heap.size, 5, none⟩) (.inr (Nat.le_refl _)) (.slice none 0 0)).alloc _)⟩
      rw [Ho.out]
      have bq := (hb1.put 1 (.bool true)).fr ((((((((Fr.refl (Only w.heap.size) (w1.setCell ⟨q, 1, none⟩ (.bool true))).setCell (p := ⟨w.heap.size, 0, none⟩) (.inl rfl) (.int .i64 0)).setCell (p := ⟨w.heap.size, 1, none⟩) (.inl rfl) (.int .i64 0)).setCell (p := ⟨w.heap.size, 2, none⟩) (.inl rfl) (.int .i64 0)).setCell (p := ⟨w.heap.size, 3, none⟩) (.inl rfl) (.int .i64 0)).setCell (p := ⟨w.heap.size, 4, none⟩) (.inl rfl) (.string ⟨#[]⟩)).setCell (p := ⟨w.heap.size, 5, none⟩) (.inl rfl) (.slice none 0 0)).alloc (.cells #[.int .i64 3, .int .i64 0, .int .i64 m2, .int .i64 0, .string ⟨#[]⟩, .slice P2 p2 q2] 64)) (fun e => hne e.symm)
      exact ⟨A, n, c, by simpa using bq, hB, fun ys e => by cases e⟩
    have HF := Lib.hid hfin
    have bX := (((((((hX1.fr ((Fr.refl (Only q) w1).setCell (p := ⟨q, 1, none⟩) (.inl rfl) (.bool true)) hne).put 0 (.int .i64 0)).put 1 (.int .i64 0)).put 2 (.int .i64 0)).put 3 (.int .i64 0)).put 4 (.string ⟨#[]⟩)).put 5 (.slice none 0 0)).fr ((Fr.refl No _).alloc (.cells #[.int .i64 3, .int .i64 0, .int .i64 m2, .int .i64 0, .string ⟨#[]⟩, .slice P2 p2 q2] 64)) (fun e => e)
    have m0 := bX.cell 0
    have m1 := bX.cell 1
    have m2' := bX.cell 2
    have m3 := bX.cell 3
    have m4 := bX.cell 4
    have m5 := bX.cell 5
    simp at m0 m1 m2' m3 m4 m5
    have M : Hid (_ ∧ _ ∧ _ ∧ _ ∧ _ ∧ _) := Lib.hid ⟨m0, m1, m2', m3, m4, m5⟩
    clear hfin bX m0 m1 m2' m3 m4 m5
    go_wp2
    obtain ⟨m0, m1, m2', m3, m4, m5⟩ := M.out
    exact bodyPost_ret (v := .agg #[.int .i64 0, .int .i64 0, .int .i64 0, .int .i64 0, .string ⟨#[]⟩, .slice none 0 0]) (by simp [results, Try.results25, go_sem, m0, m1, m2', m3, m4, m5]) rfl HF.out

def txS (st : Option (List Nat)) : Option (List Nat) := (textR st).map (·.2)
def txV (st : Option (List Nat)) : ByteArray := ((textR st).map (·.1)).getD ⟨#[]⟩
set_option maxHeartbeats 1000000 in
theorem itemT_none (m : Int) (q B : Nat) (w : World) (hr : RR w B q none) :
    Calls Try.prog 25 #[.pointer (some ⟨q, 0, none⟩), .int .i64 3, .int .i64 m] w (ItmT w B q none) := by
  refine (item_none 3 m q B w hr).mono ?_
  rintro e w' ⟨k, m', rfl, h2, h3⟩
  exact ⟨k, 0, m', 0, none, 0, 0, rfl, h2, h3⟩
/-- A text. -/
theorem itemT_any (m : Int) (q B : Nat) (st : Option (List Nat)) (w : World) (hr : RR w B q st) (hl : ∀ xs, st = some xs → xs.length ≤ 1000000) :
    Calls Try.prog 25 #[.pointer (some ⟨q, 0, none⟩), .int .i64 3, .int .i64 m] w fun e w' => ∃ (k n m x : Int) (D : Option Addr) (d dc : Nat), e = .returned (.agg #[.int .i64 k, .int .i64 n, .int .i64 m, .int .i64 x, .string (txV st), .slice D d dc]) ∧ RR w' B q (txS st) ∧ Fr (Only q) w w' := by
  have h : Calls Try.prog 25 #[.pointer (some ⟨q, 0, none⟩), .int .i64 3, .int .i64 m] w (ItmT w B q (textR st)) := by
    cases st with
    | none => exact itemT_none m q B w hr
    | some xs => exact itemT_some m q B xs (textR (some xs)) w hr (fun A n c W hW hs h1 h2 h3 => rdT_any m xs A n c B W (by obtain ⟨_, _, _, k1, k2, _⟩ := hr; have := k1.lt; have := hW.size; omega) hs h1 h2 h3 (by have := hl xs rfl; omega) hr.words) (textR_64 hr.words)
  exact h
end Go.Proofs.Ytnlmhcfkipkegaa
