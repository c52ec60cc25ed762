/- The examples, which items statements look at, and the law 'CodesWrite' as a walk. -/
import Derived.Test.YteakdcnbjcnpnaaRef1W
namespace Go.Proofs.Yteakdcnbjcnpnaa
open Go.RowKit

theorem It.cells_len (t : It) : t.cells.length = 6 := rfl
/-- What an item is, of which only the bounds of its numbers are known. -/
structure It.Fit (w : World) (B : Nat) (t : It) : Prop where
  kind : -9223372036854775808 ≤ t.kind ∧ t.kind < 9223372036854775808
  n : -9223372036854775808 ≤ t.n ∧ t.n < 9223372036854775808
  most : -9223372036854775808 ≤ t.most ∧ t.most < 9223372036854775808
  x : -9223372036854775808 ≤ t.x ∧ t.x < 9223372036854775808
  s : t.s.size ≤ maxLen
  w64 : ∀ u ∈ t.L, u < 18446744073709551616
  c : t.L.length ≤ t.c ∧ t.c ≤ maxLen
  nil : t.A = none → t.L.length = 0 ∧ t.c = 0
  sl : Sl w B t.A (u64s t.L)

/-- Whether an item is one that statements look at. -/
def It.Fair (t : It) : Prop := t.L.length ≤ 100 ∧ t.s.size ≤ 200 ∧ 0 ≤ t.kind ∧ t.kind ≤ 4
/-- What 'great' answers. -/
def Told (ts : List It) (w : World) (e : Ending) (w' : World) : Prop := ∃ b : Bool, e = .returned (.bool b) ∧ w' = w ∧ (b = false → ts.length ≤ 60 ∧ ∀ t ∈ ts, t.Fair)

set_option maxHeartbeats 1000000 in
theorem great_any (ts : List It) (A : Option Addr) (n c : Nat) (w : World) (hn : ts.length = n) (hsl : Sl w w.heap.size A (ts.flatMap It.cells)) (hfit : ∀ t ∈ ts, t.Fit w w.heap.size) (hn1 : n ≤ 9223372036854775807) :
    Calls Try.prog 7 #[.slice A n c] w (Told ts w) := by
  have Hn := Lib.hid hn
  clear hn
  have Hfit := Lib.hid hfit
  clear hfit
  go_enter Try.func7, Try.ntmps7
  go_wp2
  go_loop [3] (fun i => ∃ k : Nat, k ≤ n ∧ i = .int .i64 k ∧ Hid (∀ t ∈ ts.take k, t.Fair)) (fun i => n - (intOf i).toNat)
  case atStart => exact ⟨0, Nat.zero_le _, rfl, Lib.hid (by simp)⟩
  case round =>
    obtain ⟨k, hk, rfl, hpre⟩ := hrel
    by_cases hlt : k < n
    · have hkt : k < ts.length := by rw [Hn.out]; exact hlt
      obtain ⟨ad, rfl, _, hcell⟩ := hsl.row 6 It.cells_len hkt (by omega)
      have hx := List.take_succ_eq_append_getElem hkt
      have hft := Hfit.out _ (List.getElem_mem hkt)
      generalize ts[k] = t at *
      have hc0 : w.cell? (ad.add (k * 6)) = some (.int .i64 t.kind) := hcell 0 _ rfl
      have hc4 : w.cell? ⟨(ad.add (k * 6)).block, (ad.add (k * 6)).off + 4, none⟩ = some (.string t.s) := hcell 4 _ rfl
      have hc5 : w.cell? ⟨(ad.add (k * 6)).block, (ad.add (k * 6)).off + 5, none⟩ = some (.slice t.A t.L.length t.c) := hcell 5 _ rfl
      have hLc := hft.c
      have hs := hft.s
      obtain ⟨hk1, hk2⟩ := hft.kind
      have Hx := Lib.hid hx
      clear hcell hx hft
      by_cases h1 : t.L.length ≤ 100
      · by_cases h2 : t.s.size ≤ 200
        · by_cases h3 : 0 ≤ t.kind
          · by_cases h4 : t.kind ≤ 4
            · have Hr : Hid (∀ u ∈ ts.take (k + 1), u.Fair) := Lib.hid (by
                rw [Hx.out]
                intro u hu
                rcases List.mem_append.1 hu with hu | hu
                · exact hpre.out u hu
                · obtain rfl : u = t := by simpa using hu
                  exact ⟨h1, h2, h3, h4⟩)
              go_wp2
              go_round
              case rel => exact ⟨k + 1, by omega, by go_num, Hr⟩
              case measure => simp [intOf]; omega
            · go_wp2
              go_ret
              exact ⟨true, rfl, rfl, fun h => by cases h⟩
          · go_wp2
            go_ret
            exact ⟨true, rfl, rfl, fun h => by cases h⟩
        · go_wp2
          go_ret
          exact ⟨true, rfl, rfl, fun h => by cases h⟩
      · go_wp2
        go_ret
        exact ⟨true, rfl, rfl, fun h => by cases h⟩
    · by_cases h60 : n ≤ 60
      · go_wp2
        go_ret
        refine ⟨false, by simp; omega, rfl, fun _ => ⟨by rw [Hn.out]; exact h60, fun t ht => hpre.out t ?_⟩⟩
        rwa [List.take_of_length_le (by rw [Hn.out]; omega)]
      · go_wp2
        go_ret
        exact ⟨true, by simp; omega, rfl, fun h => by cases h⟩

theorem Wr.new (w : World) : Wr (w.alloc (.cells #[.slice none 0 0] 27)) w.heap.size none [] :=
  ⟨none, 0, Bk.made _ _ _, World.ownsRow_nil _ _ _ _, rfl⟩

set_option maxHeartbeats 1000000 in
theorem alive_any (w : World) :
    Calls Try.prog 6 #[] w fun e w' => e = .returned (.bool true) ∧ Fr No w w' := by
  go_enter Try.func6, Try.ntmps6
  have hw0 := Wr.new w
  have hf0 : Fr No w (w.alloc (.cells #[.slice none 0 0] 27)) := (Fr.refl _ _).alloc _
  go_wp2_with fail
  refine (signed_any _ _ _ (-1) _ hw0 (by omega) (by omega) (by simp)).mono ?_
  rintro e w1 ⟨rfl, g1, hw1, hf1, hg1⟩
  go_wp2_with fail
  refine (signed_any _ _ _ 1 _ hw1 (by omega) (by omega) (by simp)).mono ?_
  rintro e w2 ⟨rfl, g2, hw2, hf2, hg2⟩
  go_wp2_with fail
  refine (text_any _ _ _ ⟨#[97, 98]⟩ _ hw2 (by decide) (by simp)).mono ?_
  rintro e w3 ⟨rfl, g3, hw3, hf3, hg3⟩
  go_wp2_with fail
  have hl : ([] ++ [sgn (-1)] ++ [sgn 1] ++ ((byts ⟨#[97, 98]⟩).take 64).length :: packed ((byts ⟨#[97, 98]⟩).take 64)) = [1, 2, 2, 25185] := by decide
  rw [hl] at hw3
  clear hl
  refine (done_any _ _ _ _ hw3 (by decide)).mono ?_
  rintro e w4 ⟨A, c, rfl, hown4, hf4⟩
  go_wp2_with fail
  refine (refWords_any [1, 2, 2, 25185] [1, 2, 2, 25185] A _ _ 4 c 4 _ ?_ ?_ rfl rfl (by decide) (by decide)).mono ?_
  · exact (Sl.ofOwn (own_fr hown4 ((Fr.refl No w4).alloc _) (fun _ _ => id)))
  · intro _
    refine ⟨_, rfl, by simp, fun j u hu => ?_⟩
    have h4 := (Bk.made w4 43 #[.int .u64 1, .int .u64 2, .int .u64 2, .int .u64 25185]).cell j
    have e : (⟨w4.heap.size, 0, none⟩ : Addr).add j = ⟨w4.heap.size, j, none⟩ := by cases j <;> simp [Addr.add]
    rw [e, h4]
    simpa [u64s] using hu
  rintro e w5 ⟨rfl, hf5⟩
  go_wp2
  go_ret
  refine ⟨by simp, ?_⟩
  have a1 := hf0.then0 hf1 (by rintro i (rfl | h); exact Nat.le_refl _; cases h)
  have a2 := a1.then0 hf2 (by
    rintro i (rfl | h)
    · exact Nat.le_refl _
    · rcases hg1 with hg1 | ⟨k, hg1, hk⟩
      · subst hg1; cases h
      · rw [hg1] at h; injection h with h; subst h; have := hf0.size; omega)
  have a3 := a2.then0 hf3 (by
    rintro i (rfl | h)
    · exact Nat.le_refl _
    · rcases hg2 with hg2 | ⟨k, hg2, hk⟩
      · rcases hg1 with hg1 | ⟨k, hg1, hk⟩
        · rw [hg2, hg1] at h; cases h
        · rw [hg2, hg1] at h; injection h with h; subst h; have := hf0.size; omega
      · rw [hg2] at h; injection h with h; subst h; have := a1.size; omega)
  exact ((a3.then0 hf4 (fun _ h => h.elim)).alloc _).then0 hf5 (fun _ h => h.elim)

theorem It.words_len (t : It) (h : t.Fair) : t.words.length ≤ 101 := by
  unfold It.words
  have h1 := h.1
  split
  · simp
  split
  · simp
  split
  · simp
  split
  · simp [packed_len]
    omega
  · simp
    omega
theorem words_len (ts : List It) (h : ∀ t ∈ ts, t.Fair) : (ts.flatMap It.words).length ≤ 101 * ts.length := by
  induction ts with
  | nil => simp
  | cons t r ih =>
    have h1 := It.words_len t (h t (by simp))
    have h2 := ih (fun x hx => h x (by simp [hx]))
    simp only [List.flatMap_cons, List.length_append, List.length_cons]
    omega
theorem It.Fit.ok {w : World} {B : Nat} {t : It} (h : t.Fit w B) (hf : t.Fair) : t.Ok w B :=
  ⟨hf.2.2, h.n, h.most, h.x, hf.2.1, hf.1, h.w64, h.c, h.nil, h.sl⟩
theorem It.Ok.later {w w' : World} {B : Nat} {t : It} (h : t.Ok w B) (hb : Below B w w') (hB : B ≤ w'.heap.size) : t.Ok w' w'.heap.size :=
  ⟨h.kind, h.n, h.most, h.x, h.s, h.L, h.w64, h.c, h.nil, (h.sl.below hb).more hB⟩

/-- What a writer's call leaves, as seen from a block number B below the writer. -/
theorem Wrote.from {w : World} {p : Nat} {g : Option Nat} {zs : List Nat} {e : Ending} {w' : World} (h : Wrote w p g zs e w') {B : Nat} (hB : B ≤ w.heap.size) (hp : B ≤ p) (hg : ∀ k, g = some k → B ≤ k) :
    e = .returned (.tuple #[]) ∧ ∃ g', Wr w' p g' zs ∧ Fr (Of p g) w w' ∧ (g' = g ∨ ∃ k, g' = some k ∧ w.heap.size ≤ k) ∧ (∀ k, g' = some k → B ≤ k) ∧ Below B w w' := by
  obtain ⟨he, g', h1, h2, h3⟩ := h
  refine ⟨he, g', h1, h2, h3, ?_, h2.toBelow hB ?_⟩
  · intro k hk
    rcases h3 with h3 | ⟨k', h3, h4⟩
    · exact hg k (h3 ▸ hk)
    · rw [h3] at hk; injection hk with hk; omega
  · rintro k (rfl | hk)
    · exact hp
    · exact hg k hk

/-- The writer and the list of words side by side, behind some items. -/
structure Both (W : World) (B p : Nat) (ws : List Nat) (g : Option Nat) (A : Option Addr) (m c : Nat) (w : World) : Prop where
  wr : Wr w p g ws
  own : w.ownsRow 0 43 1 (.slice A m c) m (u64s ws)
  below : Below B W w
  hg : ∀ k, g = some k → B ≤ k
  hv : ∀ k, (Value.slice A m c).ownBlock = some k → B ≤ k ∧ ¬ Of p g k

set_option maxHeartbeats 2000000 in
theorem codesWrite_any (ts : List It) (A : Option Addr) (n c : Nat) (w : World) (hn : ts.length = n) (hsl : Sl w w.heap.size A (ts.flatMap It.cells)) (hfit : ∀ t ∈ ts, t.Fit w w.heap.size) (hn1 : n ≤ 9223372036854775807) :
    Calls Try.prog 3 #[.slice A n c] w fun e w' => e = .returned (.bool true) ∧ Below w.heap.size w w' := by
  have Hn := Lib.hid hn
  clear hn
  have Hfit := Lib.hid hfit
  clear hfit
  go_enter Try.func3, Try.ntmps3
  go_wp2_with fail
  refine (alive_any w).mono ?_
  rintro e w1 ⟨rfl, hf1⟩
  have hb1 := hf1.below0
  have hsl1 : Sl w1 w1.heap.size A (ts.flatMap It.cells) := (hsl.below hb1).more hf1.size
  have Hfit1 : Hid (∀ t ∈ ts, t.Fit w1 w1.heap.size) := Lib.hid (fun t ht => by
    have h := Hfit.out t ht
    exact ⟨h.kind, h.n, h.most, h.x, h.s, h.w64, h.c, h.nil, (h.sl.below hb1).more hf1.size⟩)
  go_wp2_with fail
  refine (great_any ts A n c w1 Hn.out hsl1 Hfit1.out hn1).mono ?_
  rintro e w2 ⟨b, rfl, rfl, hb⟩
  cases b with
  | true =>
    go_wp2
    go_ret
    exact ⟨rfl, hb1⟩
  | false =>
    obtain ⟨h60, hfair⟩ := hb rfl
    have Hfair := Lib.hid hfair
    have hn60 : n ≤ 60 := by rw [← Hn.out]; exact h60
    clear hb hfair h60
    obtain ⟨p, hp⟩ : ∃ p, p = w2.heap.size := ⟨_, rfl⟩
    have hpB : w.heap.size ≤ p := by rw [hp]; exact hf1.size
    have hw0 := Wr.new w2
    rw [← hp] at hw0
    go_wp2
    rw [← hp]
    have Hp := Lib.hid hp
    clear hp
    go_loopw [4, 5] (fun v i wr => ∃ (k m : Nat) (g : Option Nat) (A2 : Option Addr) (c2 : Nat), k ≤ n ∧ i = .int .i64 k ∧ v = .slice A2 m c2 ∧ Both w w.heap.size p ((ts.take k).flatMap It.words) g A2 m c2 wr) (fun _ i _ => n - (intOf i).toNat)
    case atStart =>
      refine ⟨0, 0, none, none, 0, Nat.zero_le _, rfl, rfl, ⟨by simpa using hw0, World.ownsRow_nil _ _ _ _, ?_, by simp, by simp [Value.ownBlock]⟩⟩
      exact hb1.alloc hf1.size _
    case round =>
      obtain ⟨k, m, g, A2, c2, hk, rfl, rfl, hboth⟩ := hrel
      by_cases hlt : k < n
      · have hkt : k < ts.length := by rw [Hn.out]; exact hlt
        obtain ⟨ad, rfl, had, hcell⟩ := hsl.row 6 It.cells_len hkt (by omega)
        have hx := List.take_succ_eq_append_getElem hkt
        have hft := Hfit.out _ (List.getElem_mem hkt)
        have hfa := Hfair.out _ (List.getElem_mem hkt)
        generalize ts[k] = t at *
        have hcw : ∀ j u, t.cells[j]? = some u → wr.cell? ((ad.add (k * 6)).add j) = some u := fun j u hu => by
          rw [hboth.below.cell (by rw [block_add, block_add]; exact had)]
          exact hcell j u hu
        have hc0 : wr.cell? (ad.add (k * 6)) = some (.int .i64 t.kind) := hcw 0 _ rfl
        have hc1 : wr.cell? ⟨(ad.add (k * 6)).block, (ad.add (k * 6)).off + 1, none⟩ = some (.int .i64 t.n) := hcw 1 _ rfl
        have hc2 : wr.cell? ⟨(ad.add (k * 6)).block, (ad.add (k * 6)).off + 2, none⟩ = some (.int .i64 t.most) := hcw 2 _ rfl
        have hc3 : wr.cell? ⟨(ad.add (k * 6)).block, (ad.add (k * 6)).off + 3, none⟩ = some (.int .i64 t.x) := hcw 3 _ rfl
        have hc4 : wr.cell? ⟨(ad.add (k * 6)).block, (ad.add (k * 6)).off + 4, none⟩ = some (.string t.s) := hcw 4 _ rfl
        have hc5 : wr.cell? ⟨(ad.add (k * 6)).block, (ad.add (k * 6)).off + 5, none⟩ = some (.slice t.A t.L.length t.c) := hcw 5 _ rfl
        have Hx := Lib.hid hx
        have hlen : ((ts.take k).flatMap It.words).length ≤ 6060 := by
          have h1 := words_len (ts.take k) (fun u hu => Hfair.out u (List.mem_of_mem_take hu))
          have h2 : (ts.take k).length ≤ 60 := by rw [List.length_take]; omega
          omega
        have hwB : w.heap.size ≤ wr.heap.size := hboth.below.size
        have hok := (hft.ok hfa).later hboth.below hwB
        have hml : m = ((ts.take k).flatMap It.words).length := by have h1 := hboth.own.1; rw [u64s_len] at h1; omega
        have hflat : (ts.take (k + 1)).flatMap It.words = (ts.take k).flatMap It.words ++ t.words := by rw [Hx.out, List.flatMap_append]; simp
        have Hflat := Lib.hid hflat
        have hAt : ∀ ad, t.A = some ad → t.L ≠ [] → ad.block < w.heap.size := by
          intro ad hA hne
          obtain ⟨ad', h1, h2, _⟩ := hft.sl (by simpa [u64s] using hne)
          rw [hA] at h1
          injection h1 with h1
          subst h1
          exact h2
        clear hcell hcw hx hflat
        generalize hws : (ts.take k).flatMap It.words = ws at *
        subst hml
        have Hws := Lib.hid hws
        clear hws
        obtain ⟨hwr, hown, hbl, hg, hv⟩ := hboth
        go_wp2_with fail
        refine (lawWrite_any p g ws t wr hwr hok (fun ad h1 h2 ho => ?_) (by omega)).mono ?_
        · have h3 := hAt ad h1 h2
          rcases ho with ho | ho
          · omega
          · have := hg _ ho; omega
        intro e w3 hq0
        obtain ⟨rfl, g3, hwr3, hf3, hg3, hgB3, hbl3⟩ := hq0.from hwB hpB hg
        clear hq0
        have hown3 := own_fr hown hf3 (fun k' hk' => (hv k' hk').2)
        have hlt2 : ∀ k', (Value.slice A2 ws.length c2).ownBlock = some k' → k' < wr.heap.size := fun k' hk' => own_lt hown hk'
        have hv3 : ∀ k', (Value.slice A2 ws.length c2).ownBlock = some k' → w.heap.size ≤ k' ∧ ¬ Of p g3 k' := by
          intro k' hk'
          refine ⟨(hv k' hk').1, fun ho => ?_⟩
          rcases ho with ho | ho
          · exact (hv k' hk').2 (.inl ho)
          · rcases hg3 with hg3 | ⟨j, hg3, hj⟩
            · exact (hv k' hk').2 (.inr (hg3 ▸ ho))
            · rw [hg3] at ho
              injection ho with ho
              have := hlt2 k' hk'
              omega
        have hb3 := hbl.trans hbl3
        have hc0' := (hbl3.cell (p := ad.add (k * 6)) (by rw [block_add]; exact had)).trans hc0
        have hc1' := (hbl3.cell (p := ⟨(ad.add (k * 6)).block, (ad.add (k * 6)).off + 1, none⟩) (by rw [block_add]; exact had)).trans hc1
        have hc2' := (hbl3.cell (p := ⟨(ad.add (k * 6)).block, (ad.add (k * 6)).off + 2, none⟩) (by rw [block_add]; exact had)).trans hc2
        have hc3' := (hbl3.cell (p := ⟨(ad.add (k * 6)).block, (ad.add (k * 6)).off + 3, none⟩) (by rw [block_add]; exact had)).trans hc3
        have hc4' := (hbl3.cell (p := ⟨(ad.add (k * 6)).block, (ad.add (k * 6)).off + 4, none⟩) (by rw [block_add]; exact had)).trans hc4
        have hc5' := (hbl3.cell (p := ⟨(ad.add (k * 6)).block, (ad.add (k * 6)).off + 5, none⟩) (by rw [block_add]; exact had)).trans hc5
        have hok3 := (hft.ok hfa).later hb3 hb3.size
        go_wp2_with fail
        refine (refWrite_any ws A2 c2 t w3 hown3 hok3 (fun ad' h1 h2 ho => ?_) (by omega)).mono ?_
        · have h3 := hAt ad' h1 h2
          have := (hv3 _ ho).1
          omega
        rintro e w4 ⟨A4, c4, rfl, hown4, hf4, hg4⟩
        rw [List.length_append] at hown4 hg4
        have hwr4 := hwr3.fr hf4 (fun k' ho hk' => (hv3 k' hk').2 ho)
        have hb4 := hb3.trans (hf4.toBelow hb3.size (fun k' hk' => (hv3 k' hk').1))
        go_wp2
        go_roundw
        case rel =>
          refine ⟨k + 1, _, g3, A4, c4, by omega, by go_num, rfl, ?_⟩
          rw [Hflat.out]
          refine ⟨hwr4, hown4, hb4, hgB3, fun k' hk' => ?_⟩
          rcases hg4 with hg4 | ⟨j, hg4, hj⟩
          · exact hv3 k' (hg4 ▸ hk')
          · rw [hg4] at hk'
            injection hk' with hk'
            subst hk'
            refine ⟨Nat.le_trans hb3.size hj, fun ho => ?_⟩
            have h5 := hwr3.lt
            rcases ho with ho | ho
            · omega
            · have := h5.2 _ ho; omega
        case measure => simp [intOf]; omega
      · have hall : ts.take k = ts := List.take_of_length_le (by rw [Hn.out]; omega)
        rw [hall] at hboth
        obtain ⟨hwr, hown, hbl, hg, hv⟩ := hboth
        have hlen : (ts.flatMap It.words).length ≤ 6060 := by
          have h1 := words_len ts Hfair.out
          have h2 := Hn.out
          omega
        generalize ts.flatMap It.words = ws at *
        have hml : m = ws.length := by have h1 := hown.1; rw [u64s_len] at h1; omega
        subst hml
        clear hall
        go_wp2_with fail
        refine (done_any p g ws wr hwr (by omega)).mono ?_
        rintro e w3 ⟨A3, c3, rfl, hown3, hf3⟩
        have hown' := own_fr hown hf3 (fun _ _ => id)
        go_wp2_with fail
        refine (refWords_any ws ws A3 A2 _ _ c3 c2 w3 (Sl.ofOwn hown3) (Sl.ofOwn hown') rfl rfl (by omega) (by omega)).mono ?_
        rintro e w4 ⟨rfl, hf4⟩
        go_wp2
        go_ret
        exact ⟨by simp, (hbl.trans (hf3.toBelow hbl.size (fun _ h => h.elim))).trans (hf4.toBelow (Nat.le_trans hbl.size hf3.size) (fun _ h => h.elim))⟩

end Go.Proofs.Yteakdcnbjcnpnaa
