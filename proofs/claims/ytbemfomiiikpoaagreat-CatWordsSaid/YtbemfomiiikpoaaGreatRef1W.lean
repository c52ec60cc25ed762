/- What the document's own answers do: the words of a text, of a number, of an item; whether two lists are the same. And what the law's 'write' does. -/
import Derived.Test.YtbemfomiiikpoaaGreatItm9
namespace Go.Proofs.YtbemfomiiikpoaaGreat
open Go.RowKit

theorem hn_down (l : List Nat) (i m : Nat) (hi : i < l.length) : hn ((l.drop i).take (m + 1)) = l[i] + 256 * hn ((l.drop (i + 1)).take m) := by
  rw [List.drop_eq_getElem_cons hi]
  rfl
theorem hn_end (l : List Nat) (i m : Nat) (hi : l.length ≤ i) : hn ((l.drop i).take m) = 0 := by
  rw [List.drop_eq_nil_of_le hi]
  simp [hn]
theorem hn_small (l : List Nat) (hl : ∀ b ∈ l, b < 256) (i m : Nat) (hm : m ≤ 7) : hn ((l.drop i).take m) < 72057594037927936 := by
  have h1 := hn_lt ((l.drop i).take m) (fun b hb => hl b (List.mem_of_mem_drop (List.mem_of_mem_take hb)))
  have h2 : (256 : Nat) ^ ((l.drop i).take m).length ≤ 256 ^ 7 := Nat.pow_le_pow_right (by omega) (by simp; omega)
  omega

set_option maxRecDepth 100000 in
set_option maxHeartbeats 1000000 in
theorem refPacked_any (s : ByteArray) (hs : s.size ≤ 4096) (w : World) :
    Calls Tryz.prog 56 #[.string s] w (NewL w (packed (byts s))) := by
  obtain ⟨i0, hi0, hz0, hz1, hz2⟩ := info_parts info43
  go_enter Tryz.func56, Tryz.ntmps56
  go_wp2
  go_loopw [3, 4] (fun out at_ wr => ∃ (j : Nat) (A : Option Addr) (c : Nat), 8 * j ≤ s.size + 7 ∧ at_ = .int .i64 (8 * (j : Int)) ∧ out = .slice A j c ∧ wr.ownsRow w.heap.size 70 1 (.slice A j c) j (u64s ((List.range j).map (pw (byts s)))) ∧ Fr No w wr) (fun _ i _ => s.size + 8 - (intOf i).toNat)
  case atStart => exact ⟨0, none, 0, by omega, rfl, rfl, World.ownsRow_nil _ _ _ _, Fr.refl _ _⟩
  case round =>
    obtain ⟨j, A, c, hj, rfl, rfl, hown, hfr⟩ := hrel
    by_cases hlt : 8 * j < s.size
    · have hd : decide (8 * (j : Int) < (s.size : Int)) = true := by simp; omega
      go_wp2
      go_loop [5, 6] (fun x k => ∃ (m X : Nat), m ≤ 8 ∧ k = .int .i64 ((m : Int) - 1) ∧ x = .int .u64 X ∧ Hid (X = hn (((byts s).drop (8 * j + m)).take (8 - m)))) (fun _ k => (intOf k + 1).toNat)
      case atStart => exact ⟨8, 0, by omega, rfl, rfl, Lib.hid (by simp [hn])⟩
      case round =>
        obtain ⟨m, X, hm, rfl, rfl, hX⟩ := hrel
        by_cases hm0 : 1 ≤ m
        · obtain ⟨m, rfl⟩ : ∃ m', m = m' + 1 := ⟨m - 1, by omega⟩
          have hXs : X < 72057594037927936 := by rw [hX.out]; exact hn_small _ (byts_lt s) _ _ (by omega)
          by_cases hin : 8 * j + m < s.size
          · have hb : s[8 * j + m].toNat < 256 := s[8 * j + m].toNat_lt
            go_wp2
            go_round
            case rel =>
              refine ⟨m, X * 256 + s[8 * j + m].toNat, by omega, rfl, by simp, Lib.hid ?_⟩
              rw [show 8 - m = (8 - (m + 1)) + 1 by omega, hn_down _ _ _ (by rw [byts_len]; exact hin), byts_at s _ hin, hX.out, ← Nat.add_assoc]
              omega
            case measure => simp [intOf]
          · go_wp2
            go_round
            case rel =>
              refine ⟨m, X * 256, by omega, rfl, by simp, Lib.hid ?_⟩
              have h0 : X = 0 := by rw [hX.out]; exact hn_end _ _ _ (by rw [byts_len]; omega)
              rw [hn_end _ _ _ (by rw [byts_len]; omega), h0]
            case measure => simp [intOf]
        · obtain rfl : m = 0 := by omega
          go_wp2_with (at_builtin; refine wpList_append_src _ rfl (.tmp 33) (.tmp 35) _ rfl w.heap.size 70 i0 _ 1 8 Tryz.underlying29 hi0 hz0 hz1 hz2 rfl (by omega) _ j (u64s ((List.range j).map (pw (byts s)))) rfl (hown.alloc _) (wr.heap.size + 1) (some ⟨wr.heap.size, 0, none⟩) 1 1 (u64s [X]) rfl ?hl ?hr (u64s_one [X]) ?h63 ?hby ?hbase ?rest)
          case hl => rfl
          case hr =>
            intro _
            refine ⟨_, rfl, by simp, fun i u hu => ?_⟩
            match i, hu with
            | 0, hu =>
              simp [u64s] at hu
              subst hu
              exact (Bk.made wr 70 #[.int .u64 X]).cell 0
          case h63 => unfold maxLen; omega
          case hby => omega
          case hbase => have := hfr.size; simp; omega
          case rest =>
            intro v' w1 hown1 hgr hat
            obtain ⟨A1, c1, rfl, -, -, -⟩ := own_shape hown1
            go_wp2
            go_roundw
            case rel =>
              refine ⟨j + 1, A1, c1, by omega, by simp; omega, rfl, ?_, ?_⟩
              · have e : u64s ((List.range (j + 1)).map (pw (byts s))) = u64s ((List.range j).map (pw (byts s))) ++ u64s [X] := by
                  rw [List.range_succ, List.map_append, u64s_app, hX.out]
                  rfl
                rw [e]
                exact hown1
              · exact (hfr.alloc _).grown hgr (fun k hk => .inr (hown.lt k hk).1)
            case measure => simp [intOf]; omega
    · go_wp2
      go_ret
      have hN : j = (s.size + 7) / 8 := by omega
      have e : (List.range j).map (pw (byts s)) = packed (byts s) := by rw [packed, byts_len, hN]
      have hl : (packed (byts s)).length = j := by rw [packed_len, byts_len, hN]
      rw [e] at hown
      refine ⟨A, c, by rw [hl]; rfl, ?_, hfr⟩
      rw [hl]
      exact hown

set_option maxRecDepth 100000 in
set_option maxHeartbeats 1000000 in
theorem refWrite_3 (ws : List Nat) (A : Option Addr) (c : Nat) (t : It) (w : World) (hown : w.ownsRow 0 70 1 (.slice A ws.length c) ws.length (u64s ws)) (hk : t.kind = 3) (hn : t.Ok w w.heap.size) (hlen : ws.length + 200 ≤ 1099511627776) :
    Calls Tryz.prog 29 #[.slice A ws.length c, t.val] w (Grew w (Value.slice A ws.length c).ownBlock (ws ++ t.words)) := by
  have hs := hn.s
  have Hw : Hid (t.words = ((byts t.s).take 64).length :: packed ((byts t.s).take 64)) := Lib.hid (by simp [It.words, hk])
  obtain ⟨i0, hi0, hz0, hz1, hz2⟩ := info_parts info43
  unfold It.val
  rw [hk] at *
  generalize t.s = s at *
  clear hn hk
  by_cases h64 : s.size ≤ 64
  · have e1 : (byts s).take 64 = byts s := List.take_of_length_le (by rw [byts_len]; exact h64)
    rw [e1, byts_len] at Hw
    go_enter Tryz.func29, Tryz.ntmps29
    go_wp2_with (at_builtin; (refine append_word rfl _ _ rfl 0 A ws.length c ws s.size _ rfl rfl (w.heap.size + 1) (by simp) rfl (hown.alloc _) (by omega) (Nat.zero_le _) ?_; intro A1 c1 w1 hown1 hf1 hg1))
    refine (refPacked_any s (by omega) w1).mono ?_
    rintro e w2 ⟨A2, c2, rfl, hown2, hf2⟩
    have hown1' := own_fr hown1 hf2 (fun _ _ => id)
    have hpl : (packed (byts s)).length ≤ 8 := by rw [packed_len, byts_len]; omega
    go_wp2_with (at_builtin; (refine append_words rfl _ _ rfl 0 A1 (ws.length + 1) c1 (ws ++ [s.size]) rfl w2.heap.size A2 _ c2 (packed (byts s)) rfl rfl (Sl.ofOwn hown2) hown1' (by omega) (Nat.zero_le _) ?_; intro A3 c3 w3 hown3 hf3 hg3))
    go_ret
    exact grew_two rfl Hw.out ((Fr.refl _ _).alloc _) hf1 hg1 hf2 hown3 hf3 hg3
  · have e1 : s.size.min 64 = 64 := by simp [Nat.min_def]; omega
    have e2 : ((byts s).take 64).length = 64 := by rw [List.length_take, byts_len]; omega
    rw [e2] at Hw
    clear e1 e2
    have hmin : (↑(min 64 s.size) : Int) = 64 := by omega
    go_enter Tryz.func29, Tryz.ntmps29
    go_wp2_with (at_builtin; (refine append_word rfl _ _ rfl 0 A ws.length c ws 64 _ rfl rfl (w.heap.size + 1) (by simp) rfl (hown.alloc _) (by omega) (Nat.zero_le _) ?_; intro A1 c1 w1 hown1 hf1 hg1))
    refine (refPacked_any (s.extract 0 64) (by simp; omega) w1).mono ?_
    rw [byts_take]
    rintro e w2 ⟨A2, c2, rfl, hown2, hf2⟩
    have hown1' := own_fr hown1 hf2 (fun _ _ => id)
    have hpl : (packed ((byts s).take 64)).length ≤ 8 := by rw [packed_len, List.length_take, byts_len]; omega
    go_wp2_with (at_builtin; (refine append_words rfl _ _ rfl 0 A1 (ws.length + 1) c1 (ws ++ [64]) rfl w2.heap.size A2 _ c2 (packed ((byts s).take 64)) rfl rfl (Sl.ofOwn hown2) hown1' (by omega) (Nat.zero_le _) ?_; intro A3 c3 w3 hown3 hf3 hg3))
    go_ret
    exact grew_two rfl Hw.out ((Fr.refl _ _).alloc _) hf1 hg1 hf2 hown3 hf3 hg3

set_option maxHeartbeats 1000000 in
theorem refWrite_4 (ws : List Nat) (A : Option Addr) (c : Nat) (t : It) (w : World) (hown : w.ownsRow 0 70 1 (.slice A ws.length c) ws.length (u64s ws)) (hk : t.kind = 4) (hn : t.Ok w w.heap.size) (hap : ∀ ad, t.A = some ad → t.L ≠ [] → (Value.slice A ws.length c).ownBlock ≠ some ad.block) (hlen : ws.length + 200 ≤ 1099511627776) :
    Calls Tryz.prog 29 #[.slice A ws.length c, t.val] w (Grew w (Value.slice A ws.length c).ownBlock (ws ++ t.words)) := by
  have Hw : Hid (t.words = t.L.length :: t.L) := Lib.hid (by simp [It.words, hk])
  have hL := hn.L
  have hsl := hn.sl
  unfold It.val
  rw [hk] at *
  clear hn hk
  have hA : ¬ (Value.slice A ws.length c).ownBlock = some w.heap.size := fun e => by have := own_lt hown e; omega
  go_enter Tryz.func29, Tryz.ntmps29
  go_wp2_with fail
  have hwr : IntKind.u64.wrap (t.L.length : Int) = t.L.length := IntWalk.u64_in _ (by omega)
  go_region_held3 (fun w' => w'.cell? ⟨w.heap.size, 5, none⟩ = some (.slice t.A t.L.length t.c)) (first
    | go_keep
    | exact (hf1.cell (by simp; omega) hA).trans (by simp)
    | (refine (hf3.cell (by have := hf1.size; simp at this; simp; omega) ?_).trans ((hf1.cell (by simp; omega) hA).trans (by simp))
       intro e
       rcases hg1 with hg1 | ⟨k, hg1, hk1⟩
       · exact hA (hg1.symm.trans e)
       · have := hg1.symm.trans e
         simp at this hk1
         omega))
    (first
     | (refine step_words rfl _ _ rfl 0 A ws.length c ws (by rfl) (w.heap.size + 2) _ 1 1 [t.L.length] (by rfl) rfl (by exact sl_word t.L.length _ rfl (w.heap.size + 1) (by simp)) (by exact (hown.alloc _).alloc _) (by omega) (Nat.zero_le _) ?_
        intro A1 c1 w1 hown1 hf1 hg1)
     | (refine step_words rfl _ _ rfl 0 A1 (ws.length + 1) c1 (ws ++ [t.L.length]) (by rfl) w.heap.size t.A t.L.length t.c t.L (by rfl) rfl (by exact (Sl.fr (hsl.keep (fun p hp => by simp [World.cell?_alloc_lt, hp, Nat.lt_succ_of_lt hp])) hf1 (by simp; omega) (fun ad h1 h2 => hap ad h1 (u64s_ne h2)))) (by exact hown1) (by omega) (Nat.zero_le _) ?_
        intro A3 c3 w3 hown3 hf3 hg3))
  go_wp2
  go_ret
  exact grew_two rfl Hw.out ((((Fr.refl No w).alloc _).alloc _).drew) hf1 hg1 (Fr.refl _ _) hown3 hf3 hg3

theorem refWrite_any (ws : List Nat) (A : Option Addr) (c : Nat) (t : It) (w : World) (hown : w.ownsRow 0 70 1 (.slice A ws.length c) ws.length (u64s ws)) (hn : t.Ok w w.heap.size) (hap : ∀ ad, t.A = some ad → t.L ≠ [] → (Value.slice A ws.length c).ownBlock ≠ some ad.block) (hlen : ws.length + 200 ≤ 1099511627776) :
    Calls Tryz.prog 29 #[.slice A ws.length c, t.val] w (Grew w (Value.slice A ws.length c).ownBlock (ws ++ t.words)) := by
  have hk := hn.kind
  rcases (show t.kind = 0 ∨ t.kind = 1 ∨ t.kind = 2 ∨ t.kind = 3 ∨ t.kind = 4 by omega) with h | h | h | h | h
  · exact refWrite_0 ws A c t w hown h hn hlen
  · exact refWrite_1 ws A c t w hown h hn hlen
  · exact refWrite_2 ws A c t w hown h hn hlen
  · exact refWrite_3 ws A c t w hown h hn hlen
  · exact refWrite_4 ws A c t w hown h hn hap hlen

end Go.Proofs.YtbemfomiiikpoaaGreat
