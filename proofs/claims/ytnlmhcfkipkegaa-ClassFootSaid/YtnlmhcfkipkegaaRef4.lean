/- The document's own sets of keys. -/
import Derived.Test.YtnlmhcfkipkegaaRows
import Derived.Test.YtnlmhcfkipkegaaKey4
namespace Go.Proofs.Ytnlmhcfkipkegaa
open Go.RowKit

theorem zero_set (w : World) : (zeroValue 79).run Try.prog w = .ok (.agg (flags 1000 fun _ => false)) w := by
  obtain ⟨i, hi, hz⟩ := Option.map_eq_some_iff.1 (show (Try.prog.info? 79).map (·.zero) = some (some (.agg (flags 1000 fun _ => false))) by kernel_rfl)
  simp [zeroValue, typeInfo, hi, hz]
theorem flags_congr (n : Nat) (d e : Nat → Bool) (h : ∀ i, i < n → d i = e i) : flags n d = flags n e := by
  unfold flags
  congr 1
  exact List.map_congr_left (fun i hi => by rw [h i (by simpa using hi)])
theorem Sl.span {w : World} {B : Nat} {A : Option Addr} {l : List Span} (h : Sl w B A (sps l)) {k : Nat} (hk : k < l.length) :
    ∃ ad, A = some ad ∧ ad.block < B ∧ w.cell? (ad.add (k * 2)) = some (.int .i64 l[k].1) ∧ w.cell? ⟨(ad.add (k * 2)).block, (ad.add (k * 2)).off + 1, none⟩ = some (.int .i64 l[k].2) := by
  obtain ⟨ad, e, hb, hc⟩ := h.row 2 spC_len hk (by omega)
  exact ⟨ad, e, hb, hc 0 _ rfl, hc 1 _ rfl⟩

set_option maxRecDepth 100000 in
set_option maxHeartbeats 2000000 in
theorem refOf4_any (l : List Span) (n : Nat) (A : Option Addr) (c : Nat) (w : World) (hsl : Sl w w.heap.size A (sps l)) (hn : l.length = n) (hml : n ≤ 1099511627776) :
    Calls Try.prog 59 #[.slice A n c] w fun e w' => ∃ g, e = .returned (.pointer (some ⟨g, 0, none⟩)) ∧ Bk w' g 79 (flags 1000 (keysOf l)) ∧ w.heap.size ≤ g ∧ Fr No w w' := by
  have Hn := Lib.hid hn
  clear hn
  have hz := zero_set
  go_enter Try.func59, Try.ntmps59
  go_wp2
  obtain ⟨g, Hg⟩ : ∃ g, Hid (g = w.heap.size) := ⟨_, Lib.hid rfl⟩
  have hgs : w.heap.size ≤ g := by rw [Hg.out]; exact Nat.le_refl _
  have hb0 := Bk.made w 79 (flags 1000 fun _ => false)
  rw [← Hg.out] at hb0 ⊢
  go_loopw [4] (fun iv wr => ∃ j : Nat, j ≤ n ∧ iv = .int .i64 j ∧ Bk wr g 79 (flags 1000 (keysOf (l.take j))) ∧ Fr No w wr) (fun i _ => n - (intOf i).toNat)
  case atStart => exact ⟨0, by omega, rfl, hb0, (Fr.refl _ w).alloc _⟩
  case round =>
    obtain ⟨j, hj, rfl, hb, hfr⟩ := hrel
    by_cases hlt : j < n
    · have hjl : j < l.length := by rw [Hn.out]; exact hlt
      obtain ⟨ad, rfl, hadB, d0, d1⟩ := hsl.span hjl
      have c0 := (hfr.cell (p := ad.add (j * 2)) (by rw [block_add]; exact hadB) (fun e => e)).trans d0
      have c1 := (hfr.cell (p := ⟨(ad.add (j * 2)).block, (ad.add (j * 2)).off + 1, none⟩) (by rw [block_add]; exact hadB) (fun e => e)).trans d1
      have hadg : (ad.add (j * 2)).block ≠ g := by rw [block_add]; omega
      have hadg' : g ≠ (ad.add (j * 2)).block := hadg.symm
      have Hs : Hid (l.take (j + 1) = l.take j ++ [l[j]]) := Lib.hid (List.take_succ_eq_append_getElem hjl)
      clear d0 d1
      generalize l[j] = p at *
      obtain ⟨lo, hi⟩ := p
      by_cases h0 : lo < 0
      · have HB : Hid (Bk wr g 79 (flags 1000 (keysOf (l.take (j + 1))))) := Lib.hid (by
          rw [flags_congr 1000 _ (keysOf (l.take j)) (fun k _ => by rw [Hs.out, keysOf_snoc]; simp [spHas]; omega)]
          exact hb)
        clear hb
        go_wp2
        go_roundw
        case rel => exact ⟨j + 1, by omega, by go_num, HB.out, hfr⟩
        case measure => simp [intOf]; omega
      · by_cases h9 : 999 < hi
        · have HB : Hid (Bk wr g 79 (flags 1000 (keysOf (l.take (j + 1))))) := Lib.hid (by
            rw [flags_congr 1000 _ (keysOf (l.take j)) (fun k _ => by rw [Hs.out, keysOf_snoc]; simp [spHas]; omega)]
            exact hb)
          clear hb
          go_wp2
          go_roundw
          case rel => exact ⟨j + 1, by omega, by go_num, HB.out, hfr⟩
          case measure => simp [intOf]; omega
        · obtain ⟨L, rfl⟩ := Int.eq_ofNat_of_zero_le (show 0 ≤ lo by omega)
          have Hsp : Hid (∀ k : Nat, spHas ((L : Int), hi) k = decide (L ≤ k ∧ (k : Int) ≤ hi)) := Lib.hid (fun k => by
            simp only [spHas]
            rw [decide_eq_decide]
            omega)
          clear h0
          go_wp2
          go_loopw [5] (fun kv wx => ∃ K : Nat, kv = .int .i64 K ∧ L ≤ K ∧ (K = L ∨ (K : Int) ≤ hi + 1) ∧ Bk wx g 79 (flags 1000 (fun k => keysOf (l.take j) k || decide (L ≤ k ∧ k < K))) ∧ Fr No w wx ∧ wx.cell? (ad.add (j * 2)) = some (.int .i64 L) ∧ wx.cell? ⟨(ad.add (j * 2)).block, (ad.add (j * 2)).off + 1, none⟩ = some (.int .i64 hi)) (fun k _ => (hi + 1 - intOf k).toNat)
          case atStart =>
            refine ⟨L, rfl, Nat.le_refl _, .inl rfl, ?_, hfr, c0, c1⟩
            rw [flags_congr 1000 _ (keysOf (l.take j)) (fun k _ => by simp; omega)]
            exact hb
          case round =>
            obtain ⟨K, rfl, hLK, hK, hbx, hfx, x0, x1⟩ := hrel
            clear c0 c1 hb hfr
            by_cases hle : (K : Int) ≤ hi
            · have hK9 : K < 1000 := by omega
              have g0 := hbx.cell K
              rw [flags_at _ _ _ hK9] at g0
              have gz := hbx.frozen K
              have HB : Hid (Bk (wr.setCell ⟨g, K, none⟩ (.bool true)) g 79 (flags 1000 (fun k => keysOf (l.take j) k || decide (L ≤ k ∧ k < K + 1)))) := Lib.hid (by
                have := hbx.put K (.bool true)
                rw [flags_put] at this
                rw [flags_congr 1000 _ (upd (fun k => keysOf (l.take j) k || decide (L ≤ k ∧ k < K)) K true) (fun k _ => by
                  unfold upd
                  split
                  · next e => subst e; simp; omega
                  · next e =>
                    rw [show decide (L ≤ k ∧ k < K + 1) = decide (L ≤ k ∧ k < K) by rw [decide_eq_decide]; omega])]
                exact this)
              have HF : Hid (Fr No w (wr.setCell ⟨g, K, none⟩ (.bool true))) := Lib.hid (hfx.setCell (p := ⟨g, K, none⟩) (.inr hgs) _)
              clear hbx
              generalize (keysOf (List.take j l) K || decide (L ≤ K ∧ K < K)) = old at g0
              go_wp2
              go_roundw
              case rel => exact ⟨K + 1, by go_num, by omega, .inr (by omega), HB.out, HF.out, by simpa [World.cell?_setCell_far, hadg'] using x0, by simpa [World.cell?_setCell_far, hadg'] using x1⟩
              case measure => simp [intOf]; omega
            · have HB : Hid (Bk wr g 79 (flags 1000 (keysOf (l.take (j + 1))))) := Lib.hid (by
                rw [flags_congr 1000 _ (fun k => keysOf (l.take j) k || decide (L ≤ k ∧ k < K)) (fun k _ => by
                  rw [Hs.out, keysOf_snoc, Hsp.out]
                  congr 1
                  rw [decide_eq_decide]
                  omega)]
                exact hbx)
              clear hbx
              go_wp2
              go_roundw
              case rel => exact ⟨j + 1, by omega, by go_num, HB.out, hfx⟩
              case measure => simp [intOf]; omega
    · have e : l.take j = l := List.take_of_length_le (by rw [Hn.out]; omega)
      rw [e] at hb
      clear e
      go_wp2
      go_ret
      exact ⟨g, rfl, hb, hgs, hfr⟩

theorem info_span : (Try.prog.info? 77).map (fun i => (i.zero, i.size, i.bytes)) = some (some (.agg #[.int .i64 0, .int .i64 0]), 2, 16) := by kernel_rfl
/-- A new list of spans. -/
def NewS (w : World) (zs : List Span) (e : Ending) (w' : World) : Prop :=
  ∃ A c, e = .returned (.slice A zs.length c) ∧ Sl w' w'.heap.size A (sps zs) ∧ Fr No w w'

set_option maxRecDepth 100000 in
set_option maxHeartbeats 2000000 in
theorem refPlain4_any (g : Nat) (s : Nat → Bool) (w : World) (h : Bk w g 79 (flags 1000 s)) :
    Calls Try.prog 18 #[.pointer (some ⟨g, 0, none⟩)] w (NewS w (plainOf s)) := by
  have hg := h.lt
  go_enter Try.func18, Try.ntmps18
  go_wp2
  go_loopw [3, 4] (fun ov kv wr => ∃ (j m : Nat) (A : Option Addr) (c : Nat), j ≤ 1000 ∧ kv = .int .i64 j ∧ ov = .slice A m c ∧ m ≤ j ∧ Hid (m = (plainTo s j).length) ∧ wr.ownsRow w.heap.size 77 2 (.slice A m c) m (sps (plainTo s j)) ∧ Fr No w wr) (fun _ k _ => 1000 - (intOf k).toNat)
  case atStart => exact ⟨0, 0, none, 0, by omega, rfl, rfl, Nat.le_refl _, Lib.hid rfl, World.ownsRow_nil _ _ _ _, Fr.refl _ _⟩
  case round =>
    obtain ⟨j, m, A, c, hj, rfl, rfl, hmj, Hm, hown, hfr⟩ := hrel
    by_cases hlt : j < 1000
    · have hb := h.fr hfr (fun e => e)
      have g0 := hb.cell j
      rw [flags_at _ _ _ hlt] at g0
      cases hs : s j with
      | false =>
        rw [hs] at g0
        have Hp : Hid (plainTo s (j + 1) = plainTo s j) := Lib.hid (by show (if s j = true then _ else _) = _; rw [hs]; simp)
        clear hs hb
        go_wp2
        go_roundw
        case rel => exact ⟨j + 1, m, A, c, by omega, by go_num, rfl, by omega, Lib.hid (by rw [Hp.out]; exact Hm.out), by rw [Hp.out]; exact hown, hfr⟩
        case measure => simp [intOf]; omega
      | true =>
        rw [hs] at g0
        by_cases hp : 0 < j ∧ s (j - 1) = true
        · have g1 := hb.cell (j - 1)
          rw [flags_at _ _ _ (by omega), hp.2] at g1
          have Hp : Hid (plainTo s (j + 1) = upHi (plainTo s j) j) := Lib.hid (by show (if s j = true then _ else _) = _; rw [hs]; simp [hp.1, hp.2])
          have hpos : 0 < m := by
            rw [Hm.out]
            have := plainTo_pos s (j - 1) hp.2
            rwa [show j - 1 + 1 = j by omega] at this
          obtain ⟨j', rfl⟩ : ∃ j', j = j' + 1 := ⟨j - 1, by omega⟩
          have g1' : wr.cell? ⟨g, j', none⟩ = some (.bool true) := g1
          obtain ⟨gb, rfl⟩ : ∃ gb, A = some ⟨gb, 0, none⟩ := by
            rcases hown.2 with ⟨_, h0⟩ | ⟨gb, cap, cur, hv, _⟩
            · omega
            · exact ⟨gb, by injection hv⟩
          have hcell : ∃ u, wr.cell? ⟨gb, (m - 1) * 2 + 1, none⟩ = some u := by
            rw [hown.cellAt _ (by omega)]
            exact ⟨_, List.getElem?_eq_getElem (by rw [hown.1]; omega)⟩
          obtain ⟨u, hu⟩ := hcell
          have hfz : wr.frozen? ⟨gb, (m - 1) * 2 + 1, none⟩ = false := by
            rcases hown.2 with ⟨hv, _⟩ | ⟨g', cap', cur, hv, _, hgg, _⟩
            · cases hv
            · obtain ⟨rfl, -⟩ : gb = g' ∧ True := by simp at hv; exact ⟨hv.1, trivial⟩
              exact Bk.frozen (t := 77) hgg _
          have hown2 := own_set hown ((m - 1) * 2 + 1) (.int .i64 ((j' + 1 : Nat) : Int))
          have HO : Hid ((wr.setCell ⟨gb, (m - 1) * 2 + 1, none⟩ (.int .i64 ((j' + 1 : Nat) : Int))).ownsRow w.heap.size 77 2 (.slice (some ⟨gb, 0, none⟩) m c) m (sps (plainTo s (j' + 1 + 1)))) := Lib.hid (by
            rw [Hp.out, ← sps_up _ _ (by rw [← Hm.out]; exact hpos), ← Hm.out]
            exact hown2)
          have HF : Hid (Fr No w (wr.setCell ⟨gb, (m - 1) * 2 + 1, none⟩ (.int .i64 ((j' + 1 : Nat) : Int)))) := Lib.hid (hfr.setCell (p := ⟨gb, (m - 1) * 2 + 1, none⟩) (.inr (hown.lt gb rfl).1) _)
          have hmi : ((m : Int) - 1).toNat = m - 1 := by omega
          have hm0 : (0 : Int) ≤ (m : Int) - 1 := by omega
          have hm1 : (1 : Int) ≤ (m : Int) := by omega
          have hm2 : (m : Int) - 1 < (m : Int) := by omega
          clear hown hown2 hb hs hp g1
          go_wp2
          go_roundw
          case rel => exact ⟨j' + 1 + 1, m, _, c, by omega, by go_num, rfl, by omega, Lib.hid (by rw [Hp.out, upHi_len]; exact Hm.out), HO.out, HF.out⟩
          case measure => simp [intOf]; omega
        · have Hp : Hid (plainTo s (j + 1) = plainTo s j ++ [((j : Int), (j : Int))]) := Lib.hid (by
            show (if s j = true then _ else _) = _
            rw [if_pos hs, if_neg (by simpa using hp)])
          rcases (show j = 0 ∨ (0 < j ∧ s (j - 1) = false) by
            rcases Nat.eq_zero_or_pos j with h0 | h0
            · exact .inl h0
            · refine .inr ⟨h0, ?_⟩
              cases h1 : s (j - 1) with
              | false => rfl
              | true => exact absurd ⟨h0, h1⟩ hp) with h0 | ⟨h0, h1⟩
          · subst h0
            obtain rfl : m = 0 := by omega
            clear hp hs hb
            go_wp2_with (at_builtin; refine wpList_append_elem rfl _ _ _ rfl w.heap.size 77 (.agg #[.int .i64 0, .int .i64 0]) 2 16 Try.underlying39 info_span rfl (by omega) (.slice A 0 c) 0 (sps (plainTo s 0)) #[.int .i64 0, .int .i64 0] rfl (by intro u hu; simp at hu; subst hu; rfl) rfl wr.heap.size rfl rfl hown (by unfold maxLen; omega) (by omega) hfr.size ?r1)
            case r1 =>
              intro A1 c1 w1 hown1 hf1 hg1
              go_wp2
              go_roundw
              case rel => exact ⟨1, 1, A1, c1, by omega, by go_num, rfl, by omega, Lib.hid (by rw [Hp.out]; simp [plainTo]), by rw [Hp.out, sps_app]; exact hown1, hfr.trans' hf1 (fun k hk e => by have := hown.lt k e; omega)⟩
              case measure => simp [intOf]
          · have g1 := hb.cell (j - 1)
            rw [flags_at _ _ _ (by omega), h1] at g1
            obtain ⟨j', rfl⟩ : ∃ j', j = j' + 1 := ⟨j - 1, by omega⟩
            have g1' : wr.cell? ⟨g, j', none⟩ = some (.bool false) := g1
            clear hp hs hb h1 g1 h0
            go_wp2_with (at_builtin; refine wpList_append_elem rfl _ _ _ rfl w.heap.size 77 (.agg #[.int .i64 0, .int .i64 0]) 2 16 Try.underlying39 info_span rfl (by omega) (.slice A m c) m (sps (plainTo s (j' + 1))) #[.int .i64 ((j' : Int) + 1), .int .i64 ((j' : Int) + 1)] rfl (by intro u hu; simp at hu; subst hu; rfl) rfl wr.heap.size rfl rfl hown (by unfold maxLen; omega) (by omega) hfr.size ?r2)
            case r2 =>
              intro A1 c1 w1 hown1 hf1 hg1
              go_wp2
              go_roundw
              case rel => exact ⟨j' + 1 + 1, m + 1, A1, c1, by omega, by go_num, rfl, by omega, Lib.hid (by rw [Hp.out]; simp [Hm.out]), by rw [Hp.out, sps_app]; exact hown1, hfr.trans' hf1 (fun k hk e => by have := hown.lt k e; omega)⟩
              case measure => simp [intOf]; omega
    · have Hj : Hid (plainTo s j = plainOf s) := Lib.hid (by unfold plainOf; rw [show j = 1000 by omega])
      rw [Hj.out] at hown
      have Hm' : Hid (m = (plainOf s).length) := Lib.hid (by rw [Hm.out, Hj.out])
      clear Hm
      go_wp2
      go_ret
      exact ⟨A, c, by rw [← Hm'.out]; rfl, Sl.ofOwn hown, hfr⟩

theorem eqSp (a b c d : Int) (w : World) : (Op.equalIn 10000 77 (.agg #[.int .i64 a, .int .i64 b]) (.agg #[.int .i64 c, .int .i64 d])).run Try.prog w = .ok (a == c && b == d) w := by
  have u3 := Try.underlying3
  have a3 : ∀ w, (isAgg 3).run Try.prog w = .ok false w := fun w => by simp [isAgg, run_underlying Try.underlying3]
  have hs : Try.prog.underlying 77 = some (.struct (Try.prog.fieldsOf 77)) := by kernel_rfl
  rw [run_equalIn_agg w 9999 77 _ _ hs (by kernel_rfl)]
  simp only [Program.fieldsOf, Try.underlying77]
  go_simp
  by_cases h1 : a = c <;> by_cases h2 : b = d <;> simp [h1, h2]

set_option maxHeartbeats 1000000 in
theorem refSame4_any (xs ys : List Span) (A1 A2 : Option Addr) (n m c1 c2 : Nat) (w : World) (h1 : Sl w w.heap.size A1 (sps xs)) (h2 : Sl w w.heap.size A2 (sps ys)) (hn : xs.length = n) (hm : ys.length = m) (hn1 : n ≤ 1099511627776) (hm1 : m ≤ 1099511627776) :
    Calls Try.prog 17 #[.slice A1 n c1, .slice A2 m c2] w fun e w' => e = .returned (.bool (decide (xs = ys))) ∧ Fr No w w' := by
  have Hn := Lib.hid hn
  have Hm := Lib.hid hm
  clear hn hm
  have q2 := eqSp
  by_cases hnm : n = m
  · subst hnm
    go_enter Try.func17, Try.ntmps17
    go_wp2
    go_loopw [5] (fun i wr => ∃ k : Nat, k ≤ n ∧ i = .int .i64 k ∧ Hid (xs.take k = ys.take k) ∧ Hid (∃ q, wr = w.drewN q)) (fun i _ => n - (intOf i).toNat)
    case atStart => exact ⟨0, Nat.zero_le _, rfl, Lib.hid (by simp), Lib.hid ⟨0, rfl⟩⟩
    case round =>
      obtain ⟨k, hk, rfl, hpre, hwr⟩ := hrel
      obtain ⟨q, rfl⟩ := hwr.out
      clear hwr
      by_cases hlt : k < n
      · have hkx : k < xs.length := by rw [Hn.out]; exact hlt
        have hky : k < ys.length := by rw [Hm.out]; exact hlt
        obtain ⟨ad1, rfl, -, x0, x1⟩ := h1.span hkx
        obtain ⟨ad2, rfl, -, y0, y1⟩ := h2.span hky
        have hx := List.take_succ_eq_append_getElem hkx
        have hy := List.take_succ_eq_append_getElem hky
        have hgx := List.getElem?_eq_getElem hkx
        have hgy := List.getElem?_eq_getElem hky
        generalize xs[k] = x at *
        generalize ys[k] = y at *
        obtain ⟨xa, xb⟩ := x
        obtain ⟨ya, yb⟩ := y
        by_cases hxy : xa = ya ∧ xb = yb
        · obtain ⟨rfl, rfl⟩ := hxy
          have Hr : Hid (xs.take (k + 1) = ys.take (k + 1)) := Lib.hid (by rw [hx, hy, hpre.out])
          clear hx hy hgx hgy
          go_wp2
          go_quiet (fail)
          go_wp2
          go_roundw
          case rel => exact ⟨k + 1, by omega, by go_num, Hr, Lib.hid ⟨_, rfl⟩⟩
          case measure => simp [intOf]; omega
        · have Hr : Hid (xs ≠ ys) := Lib.hid (by
            rintro rfl
            rw [hgx] at hgy
            injection hgy with hgy
            injection hgy with e1 e2
            exact hxy ⟨e1, e2⟩)
          have hb : (xa == ya && xb == yb) = false := by
            rw [Bool.and_eq_false_iff, beq_eq_false_iff_ne, beq_eq_false_iff_ne]
            by_cases h : xa = ya
            · exact .inr (fun e => hxy ⟨h, e⟩)
            · exact .inl h
          clear hx hy hgx hgy hxy
          go_wp2
          go_quiet (fail)
          go_wp2
          go_ret
          exact ⟨by simp [Hr.out], ((Fr.refl _ _).drewN _).drewN _⟩
      · have Hr : Hid (xs = ys) := Lib.hid (by
          have h := hpre.out
          rwa [List.take_of_length_le (by rw [Hn.out]; omega), List.take_of_length_le (by rw [Hm.out]; omega)] at h)
        go_wp2
        go_ret
        exact ⟨by simp [Hr.out], (Fr.refl _ _).drewN _⟩
  · have Hr : Hid (xs ≠ ys) := Lib.hid (by rintro rfl; exact hnm (Hn.out.symm.trans Hm.out))
    have hb : ((n : Int) != (m : Int)) = true := by rw [bne_iff_ne]; omega
    clear hnm
    go_enter Try.func17, Try.ntmps17
    go_wp2
    go_ret
    exact ⟨by simp [Hr.out], Fr.refl _ _⟩
end Go.Proofs.Ytnlmhcfkipkegaa
