/- What was written is read again, as plain mathematics; and the law 'CodesBack' as a walk. -/
import Derived.Test.YteakdcnbjcnpnaaLawR1
namespace Go.Proofs.Yteakdcnbjcnpnaa
open Go.RowKit

theorem hn_byte (l : List Nat) (hl : ∀ b ∈ l, b < 256) (j : Nat) : hn l / 256 ^ j % 256 = l.getD j 0 := by
  induction l generalizing j with
  | nil => simp [hn]
  | cons b r ih =>
    have hb := hl b (by simp)
    have hr := fun x hx => hl x (List.mem_cons_of_mem b hx)
    cases j with
    | zero => simp [hn]; omega
    | succ j =>
      have e : (b + 256 * hn r) / 256 ^ (j + 1) = hn r / 256 ^ j := by
        rw [Nat.pow_succ, Nat.mul_comm (256 ^ j) 256, ← Nat.div_div_eq_div_mul]
        congr 1
        omega
      simp only [hn, e, ih hr j, List.getD_cons_succ]
theorem ub_packed (l : List Nat) (hl : ∀ b ∈ l, b < 256) (i : Nat) (hi : i < 8 * ((l.length + 7) / 8)) : ub (packed l) i = l.getD i 0 := by
  have hk : i / 8 < (packed l).length := by rw [packed_len]; omega
  have e1 : (packed l).getD (i / 8) 0 = pw l (i / 8) := by
    simp only [List.getD, List.getElem?_eq_getElem hk, Option.getD_some]
    exact packed_at l (i / 8) (by rw [packed_len] at hk; exact hk)
  have e2 : (2 : Nat) ^ (i % 8 * 8) = 256 ^ (i % 8) := by rw [Nat.mul_comm, Nat.pow_mul]
  unfold ub
  rw [e1, e2]
  unfold pw
  rw [hn_byte _ (fun b hb => hl b (List.mem_of_mem_drop (List.mem_of_mem_take hb)))]
  simp only [List.getD, List.getElem?_take, List.getElem?_drop]
  rw [if_pos (by omega), show 8 * (i / 8) + i % 8 = i by omega]
theorem unp_packed (l : List Nat) (hl : ∀ b ∈ l, b < 256) : unp (packed l) l.length = l := by
  apply List.ext_getElem
  · simp [unp]
  · intro i h1 h2
    simp only [unp, List.getElem_map, List.getElem_range]
    rw [ub_packed l hl i (by omega)]
    simp [List.getD, h2]
theorem pad_packed (l : List Nat) (hl : ∀ b ∈ l, b < 256) : padB (packed l) l.length ((l.length + 7) / 8) = true := by
  refine padB_yes fun i h1 h2 => ?_
  rw [ub_packed l hl i h2]
  simp [List.getD, List.getElem?_eq_none h1]
theorem ofB_byts (s : ByteArray) : ofB (byts s) = s := by
  cases s with
  | mk d =>
    unfold ofB byts
    congr 1
    apply Array.ext'
    simp only [List.map_map]
    have e : (UInt8.ofNat ∘ UInt8.toNat) = id := by funext x; simp
    rw [e]
    simp
theorem uns_sgn (x : Int) : uns (sgn x) = x := by
  unfold uns sgn
  by_cases h : 0 ≤ x
  · rw [if_pos h]
    have h1 : (2 * x).toNat % 2 = 0 := by omega
    rw [if_pos h1]
    omega
  · rw [if_neg h]
    have h1 : ¬ (2 * (-(x + 1)) + 1).toNat % 2 = 0 := by omega
    rw [if_neg h1]
    omega

/-- t' is t as it is asked for when it is read back. -/
structure It.Asks (t t' : It) : Prop where
  kind : t'.kind = t.kind
  n0 : t.kind = 0 → t'.n = (t.n.toNat : Int) ∧ t'.most = t'.n
  x : t'.x = t.x
  n2 : t.kind = 2 → (t'.n == 1) = (t.n == 1)
  s : t.kind = 3 → byts t'.s = (byts t.s).take 64
  L : t.kind = 4 → t'.most = t.L.length ∧ t'.L = t.L

theorem back_ok (t t' : It) (r : List Nat) (hk : 0 ≤ t.kind ∧ t.kind ≤ 4) (h : t.Asks t') : t'.isB (some (t.words ++ r)) = true ∧ t'.rest (some (t.words ++ r)) = some r := by
  have e := h.kind
  rcases (show t.kind = 0 ∨ t.kind = 1 ∨ t.kind = 2 ∨ t.kind = 3 ∨ t.kind = 4 by omega) with k | k | k | k | k
  · obtain ⟨h1, h2⟩ := h.n0 k
    have hc : cntR t'.most (some (t.n.toNat :: r)) = some (t.n.toNat, r) := by
      simp only [cntR]
      rw [if_pos (by omega)]
    simp [It.isB, It.rest, It.words, e, k, hc, h1]
  · simp [It.isB, It.rest, It.words, e, k, sgnR, uns_sgn, h.x]
  · have h1 := h.n2 k
    by_cases hn : t.n = 1
    · simp [It.isB, It.rest, It.words, e, k, flagR, hn, h1]
    · have hb : (t.n == 1) = false := beq_eq_false_iff_ne.2 hn
      simp [It.isB, It.rest, It.words, e, k, flagR, hn, h1, hb]
  · have h1 := h.s k
    have hl64 : ((byts t.s).take 64).length ≤ 64 := by rw [List.length_take]; omega
    have hlt : ∀ b ∈ (byts t.s).take 64, b < 256 := fun b hb => byts_lt t.s b (List.mem_of_mem_take hb)
    have hw : t.words = ((byts t.s).take 64).length :: packed ((byts t.s).take 64) := by simp [It.words, k]
    have h2 : ofB ((byts t.s).take 64) = t'.s := by rw [← h1, ofB_byts]
    rw [hw]
    generalize (byts t.s).take 64 = bs at *
    have hc : cntR 64 (some (bs.length :: (packed bs ++ r))) = some (bs.length, packed bs ++ r) := by
      simp only [cntR]
      rw [if_pos (by omega)]
    have hp := packed_len bs
    have ht : (packed bs ++ r).take ((bs.length + 7) / 8) = packed bs := by rw [← hp]; simp
    have hd : (packed bs ++ r).drop ((bs.length + 7) / 8) = r := by rw [← hp]; simp
    have hx : textR (some (bs.length :: (packed bs ++ r))) = some (t'.s, r) := by
      unfold textR
      rw [hc]
      simp only [ht, hd, pad_packed bs hlt, unp_packed bs hlt, h2]
      rw [if_pos ⟨by rw [List.length_append, hp]; omega, trivial⟩]
    simp [It.isB, It.rest, e, k, hx]
  · obtain ⟨h1, h2⟩ := h.L k
    have hw : t.words = t.L.length :: t.L := by simp [It.words, k]
    rw [hw]
    have hc : cntR t'.most (some (t.L.length :: (t.L ++ r))) = some (t.L.length, t.L ++ r) := by
      simp only [cntR]
      rw [if_pos (by omega)]
    have hx : wordsR t'.most (some (t.L.length :: (t.L ++ r))) = some (t.L, r) := by
      unfold wordsR
      rw [hc]
      simp
    simp [It.isB, It.rest, e, k, hx, h2]

theorem lawRead_val (p : Nat) (st : Option (List Nat)) (k n m x : Int) (s : ByteArray) (L : List Nat) (A : Option Addr) (c : Nat) (w : World) (hr : Rdr w p st) (hk : 0 ≤ k ∧ k ≤ 4) (hm : -9223372036854775808 ≤ m ∧ m < 9223372036854775808)
    (hsl : Sl w w.heap.size A (u64s L)) (hap : ∀ ad, A = some ad → L ≠ [] → ad.block ≠ p) (hL : L.length ≤ 100) (hst : (st.getD []).length ≤ 1000000) :
    Calls Try.prog 14 #[.pointer (some ⟨p, 0, none⟩), .agg #[.int .i64 k, .int .i64 n, .int .i64 m, .int .i64 x, .string s, .slice A L.length c]] w
      (Red w p (It.rest ⟨k, n, m, x, s, L, A, c⟩ st) (.bool (It.isB ⟨k, n, m, x, s, L, A, c⟩ st))) :=
  lawRead_any p st ⟨k, n, m, x, s, L, A, c⟩ w hr hk hm hsl hap hL hst

theorem lawRead_back (p : Nat) (t : It) (rest : List Nat) (k n m x : Int) (s : ByteArray) (w : World) (ha : t.Asks ⟨k, n, m, x, s, t.L, t.A, t.c⟩) (hr : Rdr w p (some (t.words ++ rest))) (hk : 0 ≤ t.kind ∧ t.kind ≤ 4) (hm : -9223372036854775808 ≤ m ∧ m < 9223372036854775808)
    (hsl : Sl w w.heap.size t.A (u64s t.L)) (hap : ∀ ad, t.A = some ad → t.L ≠ [] → ad.block ≠ p) (hL : t.L.length ≤ 100) (hst : (t.words ++ rest).length ≤ 1000000) :
    Calls Try.prog 14 #[.pointer (some ⟨p, 0, none⟩), .agg #[.int .i64 k, .int .i64 n, .int .i64 m, .int .i64 x, .string s, .slice t.A t.L.length t.c]] w (Red w p (some rest) (.bool true)) := by
  have h := lawRead_val p (some (t.words ++ rest)) k n m x s t.L t.A t.c w hr (by have := ha.kind; simp at this; omega) hm hsl hap hL hst
  obtain ⟨h1, h2⟩ := back_ok t _ rest hk ha
  rw [h1, h2] at h
  exact h

theorem wordsLt (t : It) (h64 : ∀ u ∈ t.L, u < 18446744073709551616) (hn : t.n < 9223372036854775808) (hx : -9223372036854775808 ≤ t.x ∧ t.x < 9223372036854775808) (hL : t.L.length ≤ 100) : ∀ u ∈ t.words, u < 18446744073709551616 := by
  intro u hu
  unfold It.words at hu
  split at hu
  · simp at hu; omega
  split at hu
  · simp at hu
    subst hu
    unfold sgn
    split <;> omega
  split at hu
  · simp at hu
    split at hu <;> omega
  split at hu
  · rcases List.mem_cons.1 hu with rfl | hu
    · rw [List.length_take]; omega
    · obtain ⟨k, _, rfl⟩ := List.mem_map.1 hu
      have := pw_lt ((byts t.s).take 64) (fun b hb => byts_lt t.s b (List.mem_of_mem_take hb)) k
      omega
  · rcases List.mem_cons.1 hu with rfl | hu
    · omega
    · exact h64 u hu

/-- The writer behind some items. -/
structure One (W : World) (B p : Nat) (ws : List Nat) (g : Option Nat) (w : World) : Prop where
  wr : Wr w p g ws
  below : Below B W w
  hg : ∀ k, g = some k → B ≤ k

set_option maxHeartbeats 4000000 in
theorem codesBack_any (ts : List It) (A : Option Addr) (n c : Nat) (w : World) (hn : ts.length = n) (hsl : Sl w w.heap.size A (ts.flatMap It.cells)) (hfit : ∀ t ∈ ts, t.Fit w w.heap.size) (hn1 : n ≤ 9223372036854775807) :
    Calls Try.prog 5 #[.slice A n c] w fun e w' => e = .returned (.bool true) ∧ Below w.heap.size w w' := by
  have Hn := Lib.hid hn
  clear hn
  have Hfit := Lib.hid hfit
  clear hfit
  go_enter Try.func5, Try.ntmps5
  go_wp2_with fail
  refine (alive_any w).mono ?_
  rintro e w1 ⟨rfl, hf1⟩
  have hb1 := hf1.below0
  have hsl1 : Sl w1 w1.heap.size A (ts.flatMap It.cells) := (hsl.below hb1).more hf1.size
  have Hfit1 : Hid (∀ t ∈ ts, t.Fit w1 w1.heap.size) := Lib.hid (fun t ht => by
    have h := Hfit.out t ht
    exact ⟨h.kind, h.n, h.most, h.x, h.s, h.w64, h.c, h.nil, (h.sl.below hb1).more hf1.size⟩)
  go_wp2_with fail
  refine (great_any ts A n c w1 Hn.out hsl1 Hfit1.out hn1).mono ?_
  rintro e w2 ⟨b, rfl, rfl, hb⟩
  cases b with
  | true =>
    go_wp2
    go_ret
    exact ⟨rfl, hb1⟩
  | false =>
    obtain ⟨h60, hfair⟩ := hb rfl
    have Hfair := Lib.hid hfair
    have hn60 : n ≤ 60 := by rw [← Hn.out]; exact h60
    clear hb hfair h60
    obtain ⟨p, hp⟩ : ∃ p, p = w2.heap.size := ⟨_, rfl⟩
    have hpB : w.heap.size ≤ p := by rw [hp]; exact hf1.size
    have hw0 := Wr.new w2
    rw [← hp] at hw0
    go_wp2
    rw [← hp]
    have Hp := Lib.hid hp
    clear hp
    go_loopw [4] (fun i wr => ∃ (k : Nat) (g : Option Nat), k ≤ n ∧ i = .int .i64 k ∧ One w w.heap.size p ((ts.take k).flatMap It.words) g wr) (fun i _ => n - (intOf i).toNat)
    case atStart => exact ⟨0, none, Nat.zero_le _, rfl, ⟨by simpa using hw0, hb1.alloc hf1.size _, by simp⟩⟩
    case round =>
      obtain ⟨k, g, hk, rfl, hone⟩ := hrel
      by_cases hlt : k < n
      · have hkt : k < ts.length := by rw [Hn.out]; exact hlt
        obtain ⟨ad, rfl, had, hcell⟩ := hsl.row 6 It.cells_len hkt (by omega)
        have hx := List.take_succ_eq_append_getElem hkt
        have hft := Hfit.out _ (List.getElem_mem hkt)
        have hfa := Hfair.out _ (List.getElem_mem hkt)
        generalize ts[k] = t at *
        have hcw : ∀ j u, t.cells[j]? = some u → wr.cell? ((ad.add (k * 6)).add j) = some u := fun j u hu => by
          rw [hone.below.cell (by rw [block_add, block_add]; exact had)]
          exact hcell j u hu
        have hc0 : wr.cell? (ad.add (k * 6)) = some (.int .i64 t.kind) := hcw 0 _ rfl
        have hc1 : wr.cell? ⟨(ad.add (k * 6)).block, (ad.add (k * 6)).off + 1, none⟩ = some (.int .i64 t.n) := hcw 1 _ rfl
        have hc2 : wr.cell? ⟨(ad.add (k * 6)).block, (ad.add (k * 6)).off + 2, none⟩ = some (.int .i64 t.most) := hcw 2 _ rfl
        have hc3 : wr.cell? ⟨(ad.add (k * 6)).block, (ad.add (k * 6)).off + 3, none⟩ = some (.int .i64 t.x) := hcw 3 _ rfl
        have hc4 : wr.cell? ⟨(ad.add (k * 6)).block, (ad.add (k * 6)).off + 4, none⟩ = some (.string t.s) := hcw 4 _ rfl
        have hc5 : wr.cell? ⟨(ad.add (k * 6)).block, (ad.add (k * 6)).off + 5, none⟩ = some (.slice t.A t.L.length t.c) := hcw 5 _ rfl
        have hlen : ((ts.take k).flatMap It.words).length ≤ 6060 := by
          have h1 := words_len (ts.take k) (fun u hu => Hfair.out u (List.mem_of_mem_take hu))
          have h2 : (ts.take k).length ≤ 60 := by rw [List.length_take]; omega
          omega
        have hwB : w.heap.size ≤ wr.heap.size := hone.below.size
        have hok := (hft.ok hfa).later hone.below hwB
        have hflat : (ts.take (k + 1)).flatMap It.words = (ts.take k).flatMap It.words ++ t.words := by rw [hx, List.flatMap_append]; simp
        have Hflat := Lib.hid hflat
        have hAt : ∀ ad, t.A = some ad → t.L ≠ [] → ad.block < w.heap.size := by
          intro ad hA hne
          obtain ⟨ad', h1, h2, _⟩ := hft.sl (by simpa [u64s] using hne)
          rw [hA] at h1
          injection h1 with h1
          subst h1
          exact h2
        clear hcell hcw hx hflat
        generalize (ts.take k).flatMap It.words = ws at *
        obtain ⟨hwr, hbl, hg⟩ := hone
        go_wp2_with fail
        refine (lawWrite_any p g ws t wr hwr hok (fun ad h1 h2 ho => ?_) (by omega)).mono ?_
        · have h3 := hAt ad h1 h2
          rcases ho with ho | ho
          · omega
          · have := hg _ ho; omega
        intro e w3 hq0
        obtain ⟨rfl, g3, hwr3, hf3, hg3, hgB3, hbl3⟩ := hq0.from hwB hpB hg
        clear hq0
        go_wp2
        go_roundw
        case rel =>
          refine ⟨k + 1, g3, by omega, by go_num, ?_⟩
          rw [Hflat.out]
          exact ⟨hwr3, hbl.trans hbl3, hgB3⟩
        case measure => simp [intOf]; omega
      · have hall : ts.take k = ts := List.take_of_length_le (by rw [Hn.out]; omega)
        rw [hall] at hone
        obtain ⟨hwr, hbl, hg⟩ := hone
        have hlen : (ts.flatMap It.words).length ≤ 6060 := by
          have h1 := words_len ts Hfair.out
          have h2 := Hn.out
          omega
        have h64 : ∀ u ∈ ts.flatMap It.words, u < 18446744073709551616 := by
          intro u hu
          obtain ⟨t, ht, hu⟩ := List.mem_flatMap.1 hu
          have hft := Hfit.out t ht
          exact wordsLt t hft.w64 hft.n.2 hft.x (Hfair.out t ht).1 u hu
        clear hall
        go_wp2_with fail
        refine (done_any p g _ wr hwr (by omega)).mono ?_
        rintro e w3 ⟨A3, c3, rfl, hown3, hf3⟩
        have hnil3 : A3 = none → (ts.flatMap It.words).length = 0 ∧ c3 = 0 := by
          obtain ⟨A', c', h1, _, _, h2⟩ := own_shape hown3
          injection h1 with h1 h3 h4
          subst h1 h4
          exact h2
        obtain ⟨m, hm⟩ : ∃ m, m = (ts.flatMap It.words).length := ⟨_, rfl⟩
        have hm6 : m ≤ 6060 := by omega
        have hs3 := Sl.ofOwn hown3
        rw [← hm] at hnil3 ⊢
        have Hm := Lib.hid hm
        clear hm hown3
        go_wp2_with fail
        refine (newReader_any _ A3 m c3 w3 hs3 Hm.out.symm hnil3 (by omega) h64).mono ?_
        rintro e w4 ⟨q, rfl, hq3, hr4, hf4⟩
        have hb4 : Below w.heap.size w w4 := (hbl.trans (hf3.toBelow hbl.size (fun _ h => h.elim))).trans (hf4.toBelow (Nat.le_trans hbl.size hf3.size) (fun _ h => h.elim))
        have hqB : w.heap.size ≤ q := Nat.le_trans (Nat.le_trans hbl.size hf3.size) hq3
        clear hnil3 hs3 h64 hlen hwr hbl hg
        go_wp2
        go_loopw [6] (fun i wr => ∃ k : Nat, k ≤ n ∧ i = .int .i64 k ∧ Rdr wr q (some ((ts.drop k).flatMap It.words)) ∧ Below w.heap.size w wr) (fun i _ => n - (intOf i).toNat)
        case atStart => exact ⟨0, Nat.zero_le _, rfl, by simpa using hr4, hb4⟩
        case round =>
          obtain ⟨k, hk, rfl, hr, hbw⟩ := hrel
          by_cases hlt : k < n
          · have hkt : k < ts.length := by rw [Hn.out]; exact hlt
            obtain ⟨ad, rfl, had, hcell⟩ := hsl.row 6 It.cells_len hkt (by omega)
            have hx := List.drop_eq_getElem_cons hkt
            have hft := Hfit.out _ (List.getElem_mem hkt)
            have hfa := Hfair.out _ (List.getElem_mem hkt)
            generalize ts[k] = t at *
            have hcw : ∀ j u, t.cells[j]? = some u → wr.cell? ((ad.add (k * 6)).add j) = some u := fun j u hu => by
              rw [hbw.cell (by rw [block_add, block_add]; exact had)]
              exact hcell j u hu
            have hc0 : wr.cell? (ad.add (k * 6)) = some (.int .i64 t.kind) := hcw 0 _ rfl
            have hc1 : wr.cell? ⟨(ad.add (k * 6)).block, (ad.add (k * 6)).off + 1, none⟩ = some (.int .i64 t.n) := hcw 1 _ rfl
            have hc2 : wr.cell? ⟨(ad.add (k * 6)).block, (ad.add (k * 6)).off + 2, none⟩ = some (.int .i64 t.most) := hcw 2 _ rfl
            have hc3 : wr.cell? ⟨(ad.add (k * 6)).block, (ad.add (k * 6)).off + 3, none⟩ = some (.int .i64 t.x) := hcw 3 _ rfl
            have hc4 : wr.cell? ⟨(ad.add (k * 6)).block, (ad.add (k * 6)).off + 4, none⟩ = some (.string t.s) := hcw 4 _ rfl
            have hc5 : wr.cell? ⟨(ad.add (k * 6)).block, (ad.add (k * 6)).off + 5, none⟩ = some (.slice t.A t.L.length t.c) := hcw 5 _ rfl
            have hdrop : (ts.drop k).flatMap It.words = t.words ++ (ts.drop (k + 1)).flatMap It.words := by rw [hx]; simp
            have hlr : ((ts.drop (k + 1)).flatMap It.words).length ≤ 6060 := by
              have h1 := words_len (ts.drop (k + 1)) (fun u hu => Hfair.out u (List.mem_of_mem_drop hu))
              have h2 : (ts.drop (k + 1)).length ≤ 60 := by rw [List.length_drop, Hn.out]; omega
              omega
            have hwl := It.words_len t hfa
            rw [hdrop] at hr
            have hok := (hft.ok hfa).later hbw hbw.size
            obtain ⟨hn1', hn2'⟩ := hft.n
            obtain ⟨hL100, hs200, hk0, hk4⟩ := hfa
            have Hr := Lib.hid hr
            have Hok := Lib.hid hok
            have Hap : Hid (∀ ad, t.A = some ad → t.L ≠ [] → ad.block ≠ q) := Lib.hid (by
              intro ad' hA hne
              obtain ⟨ad'', h1, h2, _⟩ := hft.sl (by simpa [u64s] using hne)
              rw [hA] at h1
              injection h1 with h1
              subst h1
              omega)
            clear hcell hcw hx hdrop hr hok hft
            obtain ⟨rest, hrest⟩ : ∃ rest, rest = (ts.drop (k + 1)).flatMap It.words := ⟨_, rfl⟩
            rw [← hrest] at Hr hlr
            have Hrest := Lib.hid hrest
            clear hrest
            by_cases hs64 : 64 < t.s.size
            all_goals
              rcases (show t.kind = 0 ∨ t.kind = 1 ∨ t.kind = 2 ∨ t.kind = 3 ∨ t.kind = 4 by omega) with h | h | h | h | h
              all_goals
                have Hc := Lib.hid h
                rw [h] at hc0
                clear h
              · by_cases hneg : t.n < 0
                all_goals
                  have Hc2 : Hid True := Lib.hid trivial
                  go_wp2_with fail
                  refine (lawRead_back q t rest _ _ _ _ _ _ ?ask (Hr.out.fr ((Fr.refl No wr).alloc _) id (fun _ h => h.elim)) ⟨hk0, hk4⟩ (by omega) ((Hok.out.sl.fr ((Fr.refl No wr).alloc _) (Nat.le_refl _) (fun _ _ _ => id)).more (by simp)) Hap.out hL100 (by simp; omega)).mono ?_
                  case ask =>
                    have H := Hc.out
                    refine ⟨by simp [H], fun e => ?_, rfl, fun e => ?_, fun e => ?_, fun e => ?_⟩
                    all_goals first | (exfalso; omega) | exact ⟨rfl, rfl⟩ | exact byts_take _ _ | (show byts t.s = _; rw [List.take_of_length_le (by rw [byts_len]; omega)]) | (simp; omega) | (refine Eq.trans ?_ (beq_eq_false_iff_ne.2 Hc2.out).symm; rfl) | (refine Eq.trans ?_ (beq_iff_eq.2 Hc2.out).symm; rfl) | rfl
                  rintro e w5 ⟨rfl, hr5, hf5⟩
                  have hb5 : Below w.heap.size w w5 := (hbw.alloc hbw.size _).trans (hf5.toBelow (by have := hbw.size; simp; omega) (fun i hi => by simp only [Only] at hi; omega))
                  go_wp2_with fail
                  refine (rok_any q _ _ hr5).mono ?_
                  rintro e w6 ⟨rfl, rfl⟩
                  go_wp2
                  go_roundw
                  case rel => exact ⟨k + 1, by omega, by go_num, by rw [← Hrest.out]; exact hr5, hb5⟩
                  case measure => simp [intOf]; omega
              · have Hc2 : Hid True := Lib.hid trivial
                go_wp2_with fail
                refine (lawRead_back q t rest _ _ _ _ _ _ ?ask (Hr.out.fr ((Fr.refl No wr).alloc _) id (fun _ h => h.elim)) ⟨hk0, hk4⟩ (by omega) ((Hok.out.sl.fr ((Fr.refl No wr).alloc _) (Nat.le_refl _) (fun _ _ _ => id)).more (by simp)) Hap.out hL100 (by simp; omega)).mono ?_
                case ask =>
                  have H := Hc.out
                  refine ⟨by simp [H], fun e => ?_, rfl, fun e => ?_, fun e => ?_, fun e => ?_⟩
                  all_goals first | (exfalso; omega) | exact ⟨rfl, rfl⟩ | exact byts_take _ _ | (show byts t.s = _; rw [List.take_of_length_le (by rw [byts_len]; omega)]) | (simp; omega) | (refine Eq.trans ?_ (beq_eq_false_iff_ne.2 Hc2.out).symm; rfl) | (refine Eq.trans ?_ (beq_iff_eq.2 Hc2.out).symm; rfl) | rfl
                rintro e w5 ⟨rfl, hr5, hf5⟩
                have hb5 : Below w.heap.size w w5 := (hbw.alloc hbw.size _).trans (hf5.toBelow (by have := hbw.size; simp; omega) (fun i hi => by simp only [Only] at hi; omega))
                go_wp2_with fail
                refine (rok_any q _ _ hr5).mono ?_
                rintro e w6 ⟨rfl, rfl⟩
                go_wp2
                go_roundw
                case rel => exact ⟨k + 1, by omega, by go_num, by rw [← Hrest.out]; exact hr5, hb5⟩
                case measure => simp [intOf]; omega
              · by_cases h1 : t.n = 1
                · have Hc2 := Lib.hid h1
                  rw [h1] at hc1
                  clear h1
                  go_wp2_with fail
                  refine (lawRead_back q t rest _ _ _ _ _ _ ?ask (Hr.out.fr ((Fr.refl No wr).alloc _) id (fun _ h => h.elim)) ⟨hk0, hk4⟩ (by omega) ((Hok.out.sl.fr ((Fr.refl No wr).alloc _) (Nat.le_refl _) (fun _ _ _ => id)).more (by simp)) Hap.out hL100 (by simp; omega)).mono ?_
                  case ask =>
                    have H := Hc.out
                    refine ⟨by simp [H], fun e => ?_, rfl, fun e => ?_, fun e => ?_, fun e => ?_⟩
                    all_goals first | (exfalso; omega) | exact ⟨rfl, rfl⟩ | exact byts_take _ _ | (show byts t.s = _; rw [List.take_of_length_le (by rw [byts_len]; omega)]) | (simp; omega) | (refine Eq.trans ?_ (beq_eq_false_iff_ne.2 Hc2.out).symm; rfl) | (refine Eq.trans ?_ (beq_iff_eq.2 Hc2.out).symm; rfl) | rfl
                  rintro e w5 ⟨rfl, hr5, hf5⟩
                  have hb5 : Below w.heap.size w w5 := (hbw.alloc hbw.size _).trans (hf5.toBelow (by have := hbw.size; simp; omega) (fun i hi => by simp only [Only] at hi; omega))
                  go_wp2_with fail
                  refine (rok_any q _ _ hr5).mono ?_
                  rintro e w6 ⟨rfl, rfl⟩
                  go_wp2
                  go_roundw
                  case rel => exact ⟨k + 1, by omega, by go_num, by rw [← Hrest.out]; exact hr5, hb5⟩
                  case measure => simp [intOf]; omega
                · have Hc2 := Lib.hid h1
                  have hne : (t.n != 1) = true := by rw [bne_iff_ne]; exact h1
                  clear h1
                  go_wp2_with fail
                  refine (lawRead_back q t rest _ _ _ _ _ _ ?ask (Hr.out.fr ((Fr.refl No wr).alloc _) id (fun _ h => h.elim)) ⟨hk0, hk4⟩ (by omega) ((Hok.out.sl.fr ((Fr.refl No wr).alloc _) (Nat.le_refl _) (fun _ _ _ => id)).more (by simp)) Hap.out hL100 (by simp; omega)).mono ?_
                  case ask =>
                    have H := Hc.out
                    refine ⟨by simp [H], fun e => ?_, rfl, fun e => ?_, fun e => ?_, fun e => ?_⟩
                    all_goals first | (exfalso; omega) | exact ⟨rfl, rfl⟩ | exact byts_take _ _ | (show byts t.s = _; rw [List.take_of_length_le (by rw [byts_len]; omega)]) | (simp; omega) | (refine Eq.trans ?_ (beq_eq_false_iff_ne.2 Hc2.out).symm; rfl) | (refine Eq.trans ?_ (beq_iff_eq.2 Hc2.out).symm; rfl) | rfl
                  rintro e w5 ⟨rfl, hr5, hf5⟩
                  have hb5 : Below w.heap.size w w5 := (hbw.alloc hbw.size _).trans (hf5.toBelow (by have := hbw.size; simp; omega) (fun i hi => by simp only [Only] at hi; omega))
                  go_wp2_with fail
                  refine (rok_any q _ _ hr5).mono ?_
                  rintro e w6 ⟨rfl, rfl⟩
                  go_wp2
                  go_roundw
                  case rel => exact ⟨k + 1, by omega, by go_num, by rw [← Hrest.out]; exact hr5, hb5⟩
                  case measure => simp [intOf]; omega
              · have Hc2 : Hid True := Lib.hid trivial
                go_wp2_with fail
                refine (lawRead_back q t rest _ _ _ _ _ _ ?ask (Hr.out.fr ((Fr.refl No wr).alloc _) id (fun _ h => h.elim)) ⟨hk0, hk4⟩ (by omega) ((Hok.out.sl.fr ((Fr.refl No wr).alloc _) (Nat.le_refl _) (fun _ _ _ => id)).more (by simp)) Hap.out hL100 (by simp; omega)).mono ?_
                case ask =>
                  have H := Hc.out
                  refine ⟨by simp [H], fun e => ?_, rfl, fun e => ?_, fun e => ?_, fun e => ?_⟩
                  all_goals first | (exfalso; omega) | exact ⟨rfl, rfl⟩ | exact byts_take _ _ | (show byts t.s = _; rw [List.take_of_length_le (by rw [byts_len]; omega)]) | (simp; omega) | (refine Eq.trans ?_ (beq_eq_false_iff_ne.2 Hc2.out).symm; rfl) | (refine Eq.trans ?_ (beq_iff_eq.2 Hc2.out).symm; rfl) | rfl
                rintro e w5 ⟨rfl, hr5, hf5⟩
                have hb5 : Below w.heap.size w w5 := (hbw.alloc hbw.size _).trans (hf5.toBelow (by have := hbw.size; simp; omega) (fun i hi => by simp only [Only] at hi; omega))
                go_wp2_with fail
                refine (rok_any q _ _ hr5).mono ?_
                rintro e w6 ⟨rfl, rfl⟩
                go_wp2
                go_roundw
                case rel => exact ⟨k + 1, by omega, by go_num, by rw [← Hrest.out]; exact hr5, hb5⟩
                case measure => simp [intOf]; omega
              · have Hc2 : Hid True := Lib.hid trivial
                go_wp2_with fail
                refine (lawRead_back q t rest _ _ _ _ _ _ ?ask (Hr.out.fr ((Fr.refl No wr).alloc _) id (fun _ h => h.elim)) ⟨hk0, hk4⟩ (by omega) ((Hok.out.sl.fr ((Fr.refl No wr).alloc _) (Nat.le_refl _) (fun _ _ _ => id)).more (by simp)) Hap.out hL100 (by simp; omega)).mono ?_
                case ask =>
                  have H := Hc.out
                  refine ⟨by simp [H], fun e => ?_, rfl, fun e => ?_, fun e => ?_, fun e => ?_⟩
                  all_goals first | (exfalso; omega) | exact ⟨rfl, rfl⟩ | exact byts_take _ _ | (show byts t.s = _; rw [List.take_of_length_le (by rw [byts_len]; omega)]) | (simp; omega) | (refine Eq.trans ?_ (beq_eq_false_iff_ne.2 Hc2.out).symm; rfl) | (refine Eq.trans ?_ (beq_iff_eq.2 Hc2.out).symm; rfl) | rfl
                rintro e w5 ⟨rfl, hr5, hf5⟩
                have hb5 : Below w.heap.size w w5 := (hbw.alloc hbw.size _).trans (hf5.toBelow (by have := hbw.size; simp; omega) (fun i hi => by simp only [Only] at hi; omega))
                go_wp2_with fail
                refine (rok_any q _ _ hr5).mono ?_
                rintro e w6 ⟨rfl, rfl⟩
                go_wp2
                go_roundw
                case rel => exact ⟨k + 1, by omega, by go_num, by rw [← Hrest.out]; exact hr5, hb5⟩
                case measure => simp [intOf]; omega
          · have hnil : ts.drop k = [] := List.drop_eq_nil_of_le (by rw [Hn.out]; omega)
            rw [hnil] at hr
            clear hnil
            go_wp2_with fail
            refine (rend_any q _ _ hr).mono ?_
            rintro e w5 ⟨rfl, hf5⟩
            go_wp2
            go_ret
            exact ⟨by simp, hbw.trans (hf5.toBelow hbw.size (fun _ h => h.elim))⟩

end Go.Proofs.Yteakdcnbjcnpnaa
