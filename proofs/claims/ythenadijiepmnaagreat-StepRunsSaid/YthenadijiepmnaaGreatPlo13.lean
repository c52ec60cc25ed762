/- The document's own plain list, told as a row of the call's own. -/
import Derived.Test.YthenadijiepmnaaGreatEnv13
namespace Go.Proofs.YthenadijiepmnaaGreat
open Go.RowKit

/-- A new list of spans, in a row of the call's own. -/
def PlR (w : World) (zs : List Span) (n : Nat) (v : Value) (w' : World) : Prop := ∃ A c, v = .slice A n c ∧ w'.ownsRow w.heap.size 72 2 (.slice A n c) n (sps zs) ∧ Fr No w w'
set_option maxRecDepth 100000 in
set_option maxHeartbeats 2000000 in
theorem refPlain13_own (g : Nat) (s : Nat → Bool) (n0 : Nat) (hn0 : (plainOf s).length = n0) (w : World) (h : Bk w g 87 (flags 1000 s)) :
    Calls Tryz.prog 37 #[.pointer (some ⟨g, 0, none⟩)] w (fun e w' => ∃ v, e = .returned v ∧ PlR w (plainOf s) n0 v w') := by
  have HN0 := Lib.hid hn0
  clear hn0
  have hg := h.lt
  go_enter Tryz.func37, Tryz.ntmps37
  go_wp2
  go_loopw [3, 4] (fun ov kv wr => ∃ (j m : Nat) (A : Option Addr) (c : Nat), j ≤ 1000 ∧ kv = .int .i64 j ∧ ov = .slice A m c ∧ m ≤ j ∧ Hid (m = (plainTo s j).length) ∧ wr.ownsRow w.heap.size 72 2 (.slice A m c) m (sps (plainTo s j)) ∧ Fr No w wr) (fun _ k _ => 1000 - (intOf k).toNat)
  case atStart => exact ⟨0, 0, none, 0, by omega, rfl, rfl, Nat.le_refl _, Lib.hid rfl, World.ownsRow_nil _ _ _ _, Fr.refl _ _⟩
  case round =>
    obtain ⟨j, m, A, c, hj, rfl, rfl, hmj, Hm, hown, hfr⟩ := hrel
    by_cases hlt : j < 1000
    · have hb := h.fr hfr (fun e => e)
      have g0 := hb.cell j
      rw [flags_at _ _ _ hlt] at g0
      cases hs : s j with
      | false =>
        rw [hs] at g0
        have Hp : Hid (plainTo s (j + 1) = plainTo s j) := Lib.hid (by show (if s j = true then _ else _) = _; rw [hs]; simp)
        clear hs hb
        go_wp2
        go_roundw
        case rel => exact ⟨j + 1, m, A, c, by omega, by go_num, rfl, by omega, Lib.hid (by rw [Hp.out]; exact Hm.out), by rw [Hp.out]; exact hown, hfr⟩
        case measure => simp [intOf]; omega
      | true =>
        rw [hs] at g0
        by_cases hp : 0 < j ∧ s (j - 1) = true
        · have g1 := hb.cell (j - 1)
          rw [flags_at _ _ _ (by omega), hp.2] at g1
          have Hp : Hid (plainTo s (j + 1) = upHi (plainTo s j) j) := Lib.hid (by show (if s j = true then _ else _) = _; rw [hs]; simp [hp.1, hp.2])
          have hpos : 0 < m := by
            rw [Hm.out]
            have := plainTo_pos s (j - 1) hp.2
            rwa [show j - 1 + 1 = j by omega] at this
          obtain ⟨j', rfl⟩ : ∃ j', j = j' + 1 := ⟨j - 1, by omega⟩
          have g1' : wr.cell? ⟨g, j', none⟩ = some (.bool true) := g1
          obtain ⟨gb, rfl⟩ : ∃ gb, A = some ⟨gb, 0, none⟩ := by
            rcases hown.2 with ⟨_, h0⟩ | ⟨gb, cap, cur, hv, _⟩
            · omega
            · exact ⟨gb, by injection hv⟩
          have hcell : ∃ u, wr.cell? ⟨gb, (m - 1) * 2 + 1, none⟩ = some u := by
            rw [hown.cellAt _ (by omega)]
            exact ⟨_, List.getElem?_eq_getElem (by rw [hown.1]; omega)⟩
          obtain ⟨u, hu⟩ := hcell
          have hfz : wr.frozen? ⟨gb, (m - 1) * 2 + 1, none⟩ = false := by
            rcases hown.2 with ⟨hv, _⟩ | ⟨g', cap', cur, hv, _, hgg, _⟩
            · cases hv
            · obtain ⟨rfl, -⟩ : gb = g' ∧ True := by simp at hv; exact ⟨hv.1, trivial⟩
              exact Bk.frozen (t := 72) hgg _
          have hown2 := own_set hown ((m - 1) * 2 + 1) (.int .i64 ((j' + 1 : Nat) : Int))
          have HO : Hid ((wr.setCell ⟨gb, (m - 1) * 2 + 1, none⟩ (.int .i64 ((j' + 1 : Nat) : Int))).ownsRow w.heap.size 72 2 (.slice (some ⟨gb, 0, none⟩) m c) m (sps (plainTo s (j' + 1 + 1)))) := Lib.hid (by
            rw [Hp.out, ← sps_up _ _ (by rw [← Hm.out]; exact hpos), ← Hm.out]
            exact hown2)
          have HF : Hid (Fr No w (wr.setCell ⟨gb, (m - 1) * 2 + 1, none⟩ (.int .i64 ((j' + 1 : Nat) : Int)))) := Lib.hid (hfr.setCell (p := ⟨gb, (m - 1) * 2 + 1, none⟩) (.inr (hown.lt gb rfl).1) _)
          have hmi : ((m : Int) - 1).toNat = m - 1 := by omega
          have hm0 : (0 : Int) ≤ (m : Int) - 1 := by omega
          have hm1 : (1 : Int) ≤ (m : Int) := by omega
          have hm2 : (m : Int) - 1 < (m : Int) := by omega
          clear hown hown2 hb hs hp g1
          go_wp2
          go_roundw
          case rel => exact ⟨j' + 1 + 1, m, _, c, by omega, by go_num, rfl, by omega, Lib.hid (by rw [Hp.out, upHi_len]; exact Hm.out), HO.out, HF.out⟩
          case measure => simp [intOf]; omega
        · have Hp : Hid (plainTo s (j + 1) = plainTo s j ++ [((j : Int), (j : Int))]) := Lib.hid (by
            show (if s j = true then _ else _) = _
            rw [if_pos hs, if_neg (by simpa using hp)])
          rcases (show j = 0 ∨ (0 < j ∧ s (j - 1) = false) by
            rcases Nat.eq_zero_or_pos j with h0 | h0
            · exact .inl h0
            · refine .inr ⟨h0, ?_⟩
              cases h1 : s (j - 1) with
              | false => rfl
              | true => exact absurd ⟨h0, h1⟩ hp) with h0 | ⟨h0, h1⟩
          · subst h0
            obtain rfl : m = 0 := by omega
            clear hp hs hb
            go_wp2_with (at_builtin; refine wpList_append_elem rfl _ _ _ rfl w.heap.size 72 (.agg #[.int .i64 0, .int .i64 0]) 2 16 Tryz.underlying36 info_span rfl (by omega) (.slice A 0 c) 0 (sps (plainTo s 0)) #[.int .i64 0, .int .i64 0] rfl (by intro u hu; simp at hu; subst hu; rfl) rfl wr.heap.size rfl rfl hown (by unfold maxLen; omega) (by omega) hfr.size ?r1)
            case r1 =>
              intro A1 c1 w1 hown1 hf1 hg1
              go_wp2
              go_roundw
              case rel => exact ⟨1, 1, A1, c1, by omega, by go_num, rfl, by omega, Lib.hid (by rw [Hp.out]; simp [plainTo]), by rw [Hp.out, sps_app]; exact hown1, hfr.trans' hf1 (fun k hk e => by have := hown.lt k e; omega)⟩
              case measure => simp [intOf]
          · have g1 := hb.cell (j - 1)
            rw [flags_at _ _ _ (by omega), h1] at g1
            obtain ⟨j', rfl⟩ : ∃ j', j = j' + 1 := ⟨j - 1, by omega⟩
            have g1' : wr.cell? ⟨g, j', none⟩ = some (.bool false) := g1
            clear hp hs hb h1 g1 h0
            go_wp2_with (at_builtin; refine wpList_append_elem rfl _ _ _ rfl w.heap.size 72 (.agg #[.int .i64 0, .int .i64 0]) 2 16 Tryz.underlying36 info_span rfl (by omega) (.slice A m c) m (sps (plainTo s (j' + 1))) #[.int .i64 ((j' : Int) + 1), .int .i64 ((j' : Int) + 1)] rfl (by intro u hu; simp at hu; subst hu; rfl) rfl wr.heap.size rfl rfl hown (by unfold maxLen; omega) (by omega) hfr.size ?r2)
            case r2 =>
              intro A1 c1 w1 hown1 hf1 hg1
              go_wp2
              go_roundw
              case rel => exact ⟨j' + 1 + 1, m + 1, A1, c1, by omega, by go_num, rfl, by omega, Lib.hid (by rw [Hp.out]; simp [Hm.out]), by rw [Hp.out, sps_app]; exact hown1, hfr.trans' hf1 (fun k hk e => by have := hown.lt k e; omega)⟩
              case measure => simp [intOf]; omega
    · have Hj : Hid (plainTo s j = plainOf s) := Lib.hid (by unfold plainOf; rw [show j = 1000 by omega])
      rw [Hj.out] at hown
      have Hm' : Hid (m = (plainOf s).length) := Lib.hid (by rw [Hm.out, Hj.out])
      clear Hm
      go_wp2
      go_ret
      have e0 : m = n0 := by rw [Hm'.out]; exact HN0.out
      subst e0
      exact ⟨_, rfl, A, c, rfl, hown, hfr⟩
theorem exec_alloc_out (ρ : Operand → Value) (W : World) (P : Nat) (hP : W.heap.size = P) {dst : Option Tmp} {ty : TypeId} {pos : String} {after : Array Edge} {g : Option (Tmp × Bool)} : (execOp ρ { dst := dst, op := .alloc 39, type := ty, pos := pos, after := after, guard := g }).run Tryz.prog W = .ok (.value (.pointer (some ⟨P, 0, none⟩))) (W.alloc (.cells #[.int .i64 0, .int .i64 0, .int .i64 0, .int .i64 0, .int .i64 0, .int .i64 0, .slice none 0 0, .slice none 0 0, .slice none 0 0] 39)) := by
  subst hP
  kernel_rfl
theorem RM.is13 {w : World} {g : Nat} {m : Mp} (h : RM w g m) {k : Nat} (hk : k < 1000) : w.cell? ⟨g, k, none⟩ = some (.bool (isM m k)) := by
  obtain ⟨b, v, h1, h2⟩ := h
  rw [h1.mis hk, h2.is hk]
theorem RM.val13 {w : World} {g : Nat} {m : Mp} (h : RM w g m) {k : Nat} (hk : k < 1000) (hi : isM m k = true) : w.cell? ⟨g, 1000 + k, none⟩ = some (.int .i64 (valM m k)) := by
  obtain ⟨b, v, h1, h2⟩ := h
  rw [h2.is hk] at hi
  rw [h1.mv hk, h2.val hk, if_pos hi]
theorem chgs_step {wt : Nat → Bool} {m : Mp} {j : Nat} (h : wt j = true) {b : Bool} {v : Int} (hb : (!isM m j) = b) (hv : valM m j = v) : (chgsTo wt m (j + 1)).flatMap Chg.cells = (chgsTo wt m j).flatMap Chg.cells ++ [.int .i64 (j : Int), .bool b, .int .i64 v] ∧ (chgsTo wt m (j + 1)).length = (chgsTo wt m j).length + 1 := by
  rw [chgsTo, if_pos h, List.flatMap_append, List.length_append]
  refine ⟨?_, rfl⟩
  rw [← hb, ← hv]
  rfl
theorem chgs_stay {wt : Nat → Bool} {m : Mp} {j : Nat} (h : wt j = false) : chgsTo wt m (j + 1) = chgsTo wt m j := by
  rw [chgsTo, h]
  simp
/-- One more change behind those that an outcome has. -/
theorem app_out13 {W1 w3 V : World} {P n c9 c3 : Nat} {A A3 : Option Addr} {x0 x1 x2 x3 x4 x5 x6 x7 : Value} {ys : List Value} (b1 : Bk W1 P 39 #[x0, x1, x2, x3, x4, x5, x6, x7, .slice A n c9]) (hne : (Value.slice A n c9).ownBlock ≠ some P)
    (hlt : ∀ k, (Value.slice A n c9).ownBlock = some k → V.heap.size ≤ k) (f1 : Fr (fun k => k = P) V W1) (ho3 : w3.ownsRow V.heap.size 57 3 (.slice A3 (n + 1) c3) (n + 1) ys) (hf3 : Fr (fun k => (Value.slice A n c9).ownBlock = some k) W1 w3) :
    w3.cell? ⟨P, 8, none⟩ = some (.slice A n c9) ∧ w3.frozen? ⟨P, 8, none⟩ = false ∧ Hid (Bk (w3.setCell ⟨P, 8, none⟩ (.slice A3 (n + 1) c3)) P 39 #[x0, x1, x2, x3, x4, x5, x6, x7, .slice A3 (n + 1) c3]) ∧
      Hid ((w3.setCell ⟨P, 8, none⟩ (.slice A3 (n + 1) c3)).ownsRow V.heap.size 57 3 (.slice A3 (n + 1) c3) (n + 1) ys) ∧ Hid (Fr (fun k => k = P) V (w3.setCell ⟨P, 8, none⟩ (.slice A3 (n + 1) c3))) := by
  have b3 := b1.fr hf3 hne
  have a3 := own_apart ho3 b3 (by decide)
  have f3 : Fr (fun k => k = P) V w3 := f1.trans' hf3 (fun k hk e => by have := hlt k e; omega)
  exact ⟨b3.cell 8, b3.frozen 8, Lib.hid (b3.put 8 (.slice A3 (n + 1) c3)), Lib.hid (own_fr (S := fun k => k = P) ho3 ((Fr.refl (fun k => k = P) w3).setCell (p := ⟨P, 8, none⟩) (.inl rfl) (.slice A3 (n + 1) c3)) (fun k e e2 => by subst e2; exact a3 e)), Lib.hid (f3.setCell (p := ⟨P, 8, none⟩) (.inl rfl) (.slice A3 (n + 1) c3))⟩
end Go.Proofs.YthenadijiepmnaaGreat
