/- The document's store: a value is put. -/
import Derived.Test.YtenmiociinogeaaPut5
import Derived.Test.YtenmiociinogeaaRfs5
import Derived.Deep.CutRange
import Derived.Deep.RegionWith
namespace Go.Proofs.Ytenmiociinogeaa
open Go.RowKit

theorem rise_len : ∀ (l : List (Nat × Int)) (lo n : Nat), Rise l → (∀ x ∈ l, lo ≤ x.1 ∧ x.1 < n) → l.length ≤ n - lo
  | [], _, _, _, _ => Nat.zero_le _
  | x :: r, lo, n, hr, h => by
    obtain ⟨a1, a2⟩ := List.pairwise_cons.1 hr
    have h2 := rise_len r (x.1 + 1) n a2 (fun y hy => ⟨a1 y hy, (h y (by simp [hy])).2⟩)
    have h3 := h x (by simp)
    simp
    omega
theorem pages_le : ∀ (P : List Pg), (∀ q ∈ P, 1 ≤ q.length) → P.length ≤ P.flatten.length
  | [], _ => Nat.le_refl _
  | q :: P, h => by
    have h1 := pages_le P (fun x hx => h x (by simp [hx]))
    have h2 := h q (by simp)
    rw [List.flatten_cons, List.length_append, List.length_cons]
    omega
theorem InvP.len {P : List Pg} (h : InvP P) : P.flatten.length ≤ 1000 ∧ P.length ≤ 1000 := by
  have h1 := rise_len P.flatten 0 1000 h.rise (fun x hx => ⟨Nat.zero_le _, h.key x hx⟩)
  have h2 := pages_le P (fun q hq => (h.one q hq).1)
  omega
theorem PgO.since {w W : World} {v : Value} {l : Pg} (h : PgO w v l) (hf : Fr No w W) : PgO W v l := h.fr hf (fun _ _ e => e)

set_option maxRecDepth 100000 in
set_option maxHeartbeats 8000000 in
theorem rPut_some (R : Nat → Prop) (p k : Nat) (hk : k < 1000) (v : Int) (P : List Pg) (hP : P ≠ []) (hi : InvP P) (w : World) (h : RS w R p P) :
    Calls Try.prog 15 #[.pointer (some ⟨p, 0, none⟩), .int .i64 k, .int .i64 v] w fun e w' => e = .returned (.int .i64 0) ∧ ∃ R', RS w' R' p (putP P k v) ∧ Fr (fun x => x = p) w w' ∧ ∀ x, R' x → R x ∨ w.heap.size ≤ x := by
  have qf := rFind_any R p k P w h (fun q hq => (hi.one q hq).1) (fun q hq => by have := (hi.one q hq).2; omega)
  obtain ⟨hv, hs, hd, hll, hpg, hR1, hR2, hR3, hR4⟩ := h
  obtain ⟨A, c0, rfl, hc0⟩ := hd.shape
  have hlen := hi.len.2
  have hat := atP_lt P k hP
  have hats : atP P k < hs.length := by omega
  have hgd : P.getD (atP P k) [] = P[atP P k] := by simp [List.getD, hat]
  have hp0 := hpg _ hats hat
  obtain ⟨C, cc, hhv, hcc⟩ := hp0.shape
  have hone := hi.one _ (List.getElem_mem hat)
  obtain ⟨q, Hq⟩ : ∃ q, Hid (q = P.getD (atP P k) []) := ⟨_, Lib.hid rfl⟩
  have hrise : Rise q := by
    rw [Hq.out, hgd]
    obtain ⟨X, Y, hXY⟩ := List.append_of_mem (List.getElem_mem hat)
    have hr := hi.rise
    rw [hXY, List.flatten_append, List.flatten_cons] at hr
    exact (Rise.app (Rise.app hr).2.1).1
  have hix : idxP P k = idxI q k := by rw [Hq.out]; rfl
  rw [hix] at qf
  rw [← hgd, ← Hq.out] at hp0 hhv hone
  rw [hhv] at hp0
  obtain ⟨a, Ha⟩ : ∃ a, Hid (a = atP P k) := ⟨_, Lib.hid rfl⟩
  have hal : a < hs.length := by rw [Ha.out]; exact hats
  have hcell : hs[a] = .slice C q.length cc := by rw [← hhv]; congr 1
  rw [← Ha.out] at qf
  have hzl : hs.length ≤ 1000 := by omega
  have hcl : ∀ W, Fr No w W → W.cell? ⟨p, 0, none⟩ = some (.slice A hs.length c0) ∧ ∃ g, A = some ⟨g, 0, none⟩ ∧ W.cell? ⟨g, a, none⟩ = some (.slice C q.length cc) := fun W hW => by
    have h1 := hd.fr hW (fun e => e) (fun _ _ e => e)
    obtain ⟨g, e, -, -, hc⟩ := h1.cells hal
    have h2 := h1.self.cell 0
    simp at h2
    rw [hcell] at hc
    exact ⟨h2, g, e, hc⟩
  obtain ⟨z, hz⟩ : ∃ z, Hid (z = hs.length) := ⟨_, Lib.hid rfl⟩
  rw [← hz.out] at hcl
  have hz0 : (z : Int) ≠ 0 := by rw [hz.out]; omega
  have hzb : ((z : Int) == 0) = false := by simp; omega
  have haz : a < z := by rw [hz.out]; exact hal
  obtain ⟨i, Hi⟩ : ∃ i, Hid (i = idxI q k) := ⟨_, Lib.hid rfl⟩
  rw [← Hi.out] at qf
  have hb0 : (decide ((i : Int) ≥ 0)) = hasK q k := by
    have := idxI_neg q k
    rw [← Hi.out] at this
    cases hh : hasK q k with
    | false => simp; exact this.2 hh
    | true =>
      simp
      by_cases h1 : i < 0
      · rw [this.1 h1] at hh; cases hh
      · omega
  have Hk : Hid (∀ j (hj : j < q.length), ((j : Int) = i ↔ q[j].1 = k)) := Lib.hid (fun j hj => by rw [Hi.out]; exact idxI_iff q hrise k j hj)
  have Hpg := Lib.hid hpg
  have Hd0 := Lib.hid hd
  have Hhi := Lib.hid hi
  clear hgd hats hat hix hhv hcc hcell hal hpg hd hi hc0
  go_enter Try.func15, Try.ntmps15
  go_wp2_with fail
  refine qf.mono ?_
  rintro e w1 ⟨rfl, hf1⟩
  obtain ⟨p1, g, rfl, g1⟩ := hcl _ hf1
  have hsl := Sl.ofOwn hp0
  clear qf
  go_wp2
  go_loopw [9, 10, 11] (fun lv bv iv wr => ∃ (j n : Nat) (B : Option Addr) (cb : Nat), j ≤ q.length ∧ iv = .int .i64 j ∧ bv = .bool (goB q k j) ∧ lv = .slice B n cb ∧ Hid (n = (goL q k v j).length) ∧ wr.ownsRow w.heap.size 50 2 (.slice B n cb) n (prs (goL q k v j)) ∧ Fr No w wr) (fun _ _ i _ => q.length - (intOf i).toNat)
  case atStart => exact ⟨0, 0, none, 0, by omega, rfl, by rw [goB_zero], rfl, Lib.hid (by rw [goL_zero]; rfl), by rw [goL_zero]; exact World.ownsRow_nil _ _ _ _, hf1⟩
  case round =>
    clear p1 g1 hf1
    obtain ⟨j, n, B, cb, hj, rfl, rfl, rfl, Hn, hown, hfr⟩ := hrel
    obtain ⟨p1, g', hg', g1⟩ := hcl _ hfr
    injection hg' with hg'
    injection hg' with hg'
    subst hg'
    have hn9 : n ≤ 9 := by
      have := goL_len q k v j
      rw [Hn.out]; omega
    by_cases hlt : j < q.length
    · obtain ⟨gg, rfl, -, -, x0, x1⟩ := PgO.cells (hp0.since hfr) hlt
      have Hst := Lib.hid (goL_step q hrise k v j hlt)
      have Hbt := Lib.hid (goB_step q k j hlt)
      have hji := Hk.out j hlt
      have hhk : q[j].1 = k → goB q k j = true := fun e => by unfold goB; rw [hasK_at q k j hlt e]; rfl
      generalize q[j] = x at *
      obtain ⟨xk, xv⟩ := x
      simp only at x0 x1 hji hhk
      by_cases hx : xk = k
      · subst hx
        have hi1 : i = (j : Int) := (hji.2 rfl).symm
        have hgb := hhk rfl
        have hgn : goB q xk (j + 1) = true := by rw [Hbt.out, hgb]; rfl
        have hL : goL q xk v (j + 1) = goL q xk v j ++ [(xk, v)] := by
          rw [Hst.out, hgb]
          simp [rep]
        have HgN := Lib.hid hgn
        have HLN := Lib.hid hL
        rw [hgb]
        clear hji hhk Hk Hst Hbt hb0 hgn hL
        subst hi1
        go_wp2_with (at_builtin; refine wpList_app1 (w0 := w) rfl _ _ _ rfl 50 (.agg #[.int .i64 0, .int .i64 0]) 2 16 Try.underlying47 info_pair rfl (by omega) (.slice B n cb) n _ #[.int .i64 (xk : Int), .int .i64 v] rfl (by intro u hu; simp at hu; rcases hu with rfl | rfl <;> rfl) rfl (wr.heap.size + 1) (by simp) rfl (hown.alloc _) (hfr.alloc _) (by unfold maxLen; omega) (by omega) ?r1)
        case r1 =>
          intro A2 c2 w2 own2 f2 g2
          clear g2 hown hfr p1 g1 x0 x1 hcl
          go_wp2
          go_roundw
          case rel => exact ⟨j + 1, n + 1, A2, c2, by omega, by go_num, by rw [HgN.out], rfl, Lib.hid (by rw [HLN.out, List.length_append, ← Hn.out]; rfl), by rw [HLN.out, prs_app]; exact own2, f2⟩
          case measure => simp [intOf]; omega
      · have hi1 : ¬ ((j : Int) = i) := fun e => hx (hji.1 e)
        have hi2 : ((j : Int) == i) = false := by simpa using hi1
        have hrep : rep k v (xk, xv) = (xk, xv) := by unfold rep; rw [if_neg hx]
        cases hgb : goB q k j with
        | true =>
          have HgN : Hid (goB q k (j + 1) = true) := Lib.hid (by rw [Hbt.out, hgb]; rfl)
          have HLN : Hid (goL q k v (j + 1) = goL q k v j ++ [(xk, xv)]) := Lib.hid (by
            rw [Hst.out, hgb, hrep]
            simp)
          clear hji hhk Hk Hst Hbt hb0 hrep hx
          go_wp2_with (at_builtin; refine wpList_app1 (w0 := w) rfl _ _ _ rfl 50 (.agg #[.int .i64 0, .int .i64 0]) 2 16 Try.underlying47 info_pair rfl (by omega) (.slice B n cb) n _ #[.int .i64 (xk : Int), .int .i64 xv] rfl (by intro u hu; simp at hu; rcases hu with rfl | rfl <;> rfl) rfl (wr.heap.size + 1) (by simp) rfl (hown.alloc _) (hfr.alloc _) (by unfold maxLen; omega) (by omega) ?r2)
          case r2 =>
            intro A2 c2 w2 own2 f2 g2
            clear g2 hown hfr p1 g1 x0 x1 hcl
            go_wp2
            go_roundw
            case rel => exact ⟨j + 1, n + 1, A2, c2, by omega, by go_num, by rw [HgN.out], rfl, Lib.hid (by rw [HLN.out, List.length_append, ← Hn.out]; rfl), by rw [HLN.out, prs_app]; exact own2, f2⟩
            case measure => simp [intOf]; omega
        | false =>
          by_cases hgt : k < xk
          · have hgt' : (k : Int) < (xk : Int) := by omega
            have HgN : Hid (goB q k (j + 1) = true) := Lib.hid (by rw [Hbt.out, hgb]; simpa using hgt)
            have HLN : Hid (goL q k v (j + 1) = goL q k v j ++ [(k, v)] ++ [(xk, xv)]) := Lib.hid (by
              rw [Hst.out, hgb, hrep, if_pos ⟨rfl, hgt⟩])
            have hbx := fun W (hW : Fr No (wr.alloc (.cells #[.int .i64 (xk : Int), .int .i64 xv] 50)) W) => (Bk.made wr 50 #[.int .i64 (xk : Int), .int .i64 xv]).fr hW (fun e => e)
            have hown1 := hown.alloc (.cells #[.int .i64 (xk : Int), .int .i64 xv] 50)
            have hfr1 := hfr.alloc (.cells #[.int .i64 (xk : Int), .int .i64 xv] 50)
            have hwl : w.heap.size ≤ wr.heap.size := hfr.size
            clear hji hhk Hk Hst Hbt hb0 hrep hx hgt
            go_wp2_with (at_builtin; refine wpList_app1 (w0 := w) rfl _ _ _ rfl 50 (.agg #[.int .i64 0, .int .i64 0]) 2 16 Try.underlying47 info_pair rfl (by omega) (.slice B n cb) n _ #[.int .i64 (k : Int), .int .i64 v] rfl (by intro u hu; simp at hu; rcases hu with rfl | rfl <;> rfl) rfl (wr.heap.size + 1) (by simp) rfl hown1 hfr1 (by unfold maxLen; omega) (by omega) ?r3)
            case r3 =>
              intro A2 c2 w2 own2 f2 g2
              have hbx2 : Bk w2 wr.heap.size 50 #[.int .i64 (xk : Int), .int .i64 xv] := (Bk.made wr 50 #[.int .i64 (xk : Int), .int .i64 xv]).fr g2 (fun e => by have := (hown.lt _ e).2; omega)
              have y0 := hbx2.cell 0
              have y1 := hbx2.cell 1
              simp at y0 y1
              clear g2 hown hown1 hfr hfr1 p1 g1 x0 x1 hcl hbx
              go_wp2_with (at_builtin; refine wpList_app1 (w0 := w) rfl _ _ _ rfl 50 (.agg #[.int .i64 0, .int .i64 0]) 2 16 Try.underlying47 info_pair rfl (by omega) (.slice A2 (n + 1) c2) (n + 1) _ #[.int .i64 (xk : Int), .int .i64 xv] rfl (by intro u hu; simp at hu; rcases hu with rfl | rfl <;> rfl) rfl w2.heap.size (by simp) rfl own2 f2 (by unfold maxLen; omega) (by omega) ?r4)
              case r4 =>
                intro A3 c3 w3 own3 f3 g3
                clear g3 own2
                go_wp2
                go_roundw
                case rel => exact ⟨j + 1, n + 1 + 1, A3, c3, by omega, by go_num, by rw [HgN.out], rfl, Lib.hid (by rw [HLN.out, List.length_append, List.length_append, ← Hn.out]; rfl), by rw [HLN.out, prs_app, prs_app, List.append_assoc]; exact own3, f3⟩
                case measure => simp [intOf]; omega
          · have hgt' : ¬ (k : Int) < (xk : Int) := by omega
            have HgN : Hid (goB q k (j + 1) = false) := Lib.hid (by rw [Hbt.out, hgb]; simpa using hgt)
            have HLN : Hid (goL q k v (j + 1) = goL q k v j ++ [(xk, xv)]) := Lib.hid (by
              rw [Hst.out, hgb, hrep, if_neg (fun h => hgt h.2)]
              simp)
            clear hji hhk Hk Hst Hbt hb0 hrep hx hgt
            go_wp2_with (at_builtin; refine wpList_app1 (w0 := w) rfl _ _ _ rfl 50 (.agg #[.int .i64 0, .int .i64 0]) 2 16 Try.underlying47 info_pair rfl (by omega) (.slice B n cb) n _ #[.int .i64 (xk : Int), .int .i64 xv] rfl (by intro u hu; simp at hu; rcases hu with rfl | rfl <;> rfl) rfl (wr.heap.size + 1) (by simp) rfl (hown.alloc _) (hfr.alloc _) (by unfold maxLen; omega) (by omega) ?r5)
            case r5 =>
              intro A2 c2 w2 own2 f2 g2
              clear g2 hown hfr p1 g1 x0 x1 hcl
              go_wp2
              go_roundw
              case rel => exact ⟨j + 1, n + 1, A2, c2, by omega, by go_num, by rw [HgN.out], rfl, Lib.hid (by rw [HLN.out, List.length_append, ← Hn.out]; rfl), by rw [HLN.out, prs_app]; exact own2, f2⟩
              case measure => simp [intOf]; omega
    · obtain rfl : j = q.length := by omega
      have Hend := Lib.hid (goL_end q hrise k v)
      have hb1 := (insP_len q k v).2.1
      clear Hk hb0 hcl
      go_upto_if 87 with fail
      go_cut [9, 10] from 86 to 93 (fun s9 _ wx => ∃ B c, s9 = .slice B (insP q k v).length c ∧ wx.ownsRow w.heap.size 50 2 (.slice B (insP q k v).length c) (insP q k v).length (prs (insP q k v)) ∧ Fr No w wx)
      case first =>
        cases hgb : goB q k q.length with
        | true =>
          have hE := Hend.out
          rw [hgb, if_pos rfl, List.append_nil] at hE
          rw [hE] at hown Hn
          have hn := Hn.out
          subst hn
          go_wp2
          go_meet
          exact ⟨B, cb, rfl, hown, hfr⟩
        | false =>
          have hE := Hend.out
          rw [hgb, if_neg (by simp)] at hE
          have hE2 := congrArg List.length hE
          rw [List.length_append, ← Hn.out] at hE2
          have hE3 : n + 1 = (insP q k v).length := hE2
          go_wp2_with (at_builtin; refine wpList_app1 (w0 := w) rfl _ _ _ rfl 50 (.agg #[.int .i64 0, .int .i64 0]) 2 16 Try.underlying47 info_pair rfl (by omega) (.slice B n cb) n _ #[.int .i64 (k : Int), .int .i64 v] rfl (by intro u hu; simp at hu; rcases hu with rfl | rfl <;> rfl) rfl wr.heap.size (by simp) rfl hown hfr (by unfold maxLen; omega) (by omega) ?s1)
          case s1 =>
            intro A2 c2 w2 own2 f2 g2
            go_wp2
            go_meet
            have e : prs (insP q k v) = prs (goL q k v q.length) ++ #[Value.int .i64 (k : Int), Value.int .i64 v].toList := by rw [← hE, prs_app]; rfl
            refine ⟨A2, c2, rfl, ?_, f2⟩
            rw [e]
            exact own2
      case rest =>
        obtain ⟨B2, cb2, rfl, hown2, hfr2⟩ := hcut
        clear Hend Hn hown hfr p1 g1 hsl
        have hal : a + 1 ≤ hs.length := by rw [← hz.out]; exact haz
        have hgp : P.getD (atP P k) [] = q := Hq.out.symm
        by_cases h8 : 8 < (insP q k v).length
        · have hsl2 := Sl.ofOwn hown2
          have hn9 : (insP q k v).length = 9 := by omega
          have hc4 : cb2 ≠ 4 := by have := own_cap hown2; omega
          have hc4c : (4 : Int) ≤ (cb2 : Int) := by have := own_cap hown2; omega
          have hc4d : 4 ≤ cb2 := by omega
          rw [hn9] at hown2
          have hl4 : (prs ((insP q k v).take 4)).length = 4 * 2 := by rw [prs_len, List.length_take]; omega
          have hl5 : (prs ((insP q k v).drop 4)).length = 5 * 2 := by rw [prs_len, List.length_drop]; omega
          have hs4 : Sl wc wc.heap.size B2 (prs ((insP q k v).take 4)) := by
            have := hsl2.take (4 * 2)
            rwa [prs_take] at this
          have hs5 : Sl wc wc.heap.size (B2.map (·.add (4 * 2))) (prs ((insP q k v).drop 4)) := by
            have := hsl2.drop (k := 4) (n := 9) (cap := cb2) (sz := 2) (by rw [prs_len, hn9]) (by omega) (by have := own_cap hown2; omega)
            rwa [prs_drop, if_neg hc4] at this
          obtain ⟨g2, rfl⟩ : ∃ g2, B2 = some ⟨g2, 0, none⟩ := by
            obtain ⟨g2, cap, hv, _, _⟩ := hown2.form (by omega)
            exact ⟨g2, by injection hv⟩
          have hs5' : Sl wc wc.heap.size (some ⟨g2, 8, none⟩) (prs ((insP q k v).drop 4)) := by simpa [Addr.add] using hs5
          have Hput : Hid (setP P a 1 [(insP q k v).take 4, (insP q k v).drop 4] = putP P k v) := Lib.hid (by
            unfold putP
            rw [if_neg hP, hgp, Ha.out]
            simp only
            rw [if_pos h8])
          have Ht4 : Hid (((insP q k v).take 4).length = 4) := Lib.hid (by rw [List.length_take]; omega)
          have Ht5 : Hid (((insP q k v).drop 4).length = 5) := Lib.hid (by rw [List.length_drop]; omega)
          have hwl := hfr2.size
          go_wp2_with fail
          go_region_law (first
            | (refine step_append_new (w0 := w) rfl _ _ _ rfl 50 (.agg #[.int .i64 0, .int .i64 0]) 2 16 Try.underlying47 info_pair rfl (by omega) (.slice (some ⟨wc.heap.size, 0, none⟩) 0 0) 0 [] rfl wc.heap.size (some ⟨g2, 0, none⟩) 4 cb2 (prs ((insP q k v).take 4)) rfl (own_empty (Bk.made wc _ _) hwl) ((hfr2.alloc _).drew) hl4 (hs4.fr (((Fr.refl No wc).alloc _).drew) (Nat.le_refl _) (fun _ _ _ e => e)) (prs_one _) (by unfold maxLen; omega) (by omega) ?_
               intro A1 c1 w6 own1 f1 g1 h1
               have q1 : Fr No wc w6 := Fr.trans' (((Fr.refl No wc).alloc _).drew) g1 (fun k hk e => by simp [Value.ownBlock] at e; omega))
            | (refine step_append_new (w0 := w) rfl _ _ _ rfl 50 (.agg #[.int .i64 0, .int .i64 0]) 2 16 Try.underlying47 info_pair rfl (by omega) (.slice (some ⟨wc.heap.size, 0, none⟩) 0 0) 0 [] rfl wc.heap.size (some ⟨g2, 0, none⟩) 4 cb2 (prs ((insP q k v).take 4)) rfl (own_empty ((Bk.made wc _ _).alloc _) hwl) (((hfr2.alloc _).alloc _).drew) hl4 (hs4.fr ((((Fr.refl No wc).alloc _).alloc _).drew) (Nat.le_refl _) (fun _ _ _ e => e)) (prs_one _) (by unfold maxLen; omega) (by omega) ?_
               intro A1 c1 w6 own1 f1 g1 h1
               have q1 : Fr No wc w6 := Fr.trans' ((((Fr.refl No wc).alloc _).alloc _).drew) g1 (fun k hk e => by simp [Value.ownBlock] at e; omega))
            | (refine step_append_new (w0 := w) rfl _ _ _ rfl 50 (.agg #[.int .i64 0, .int .i64 0]) 2 16 Try.underlying47 info_pair rfl (by omega) (.slice (some ⟨wc.heap.size + 1, 0, none⟩) 0 0) 0 [] rfl wc.heap.size (some ⟨g2, 0, none⟩) 4 cb2 (prs ((insP q k v).take 4)) rfl (own_empty (Bk.made1 wc _ _ _) (by omega)) (((hfr2.alloc _).alloc _).drew) hl4 (hs4.fr ((((Fr.refl No wc).alloc _).alloc _).drew) (Nat.le_refl _) (fun _ _ _ e => e)) (prs_one _) (by unfold maxLen; omega) (by omega) ?_
               intro A1 c1 w6 own1 f1 g1 h1
               have q1 : Fr No wc w6 := Fr.trans' ((((Fr.refl No wc).alloc _).alloc _).drew) g1 (fun k hk e => by simp [Value.ownBlock] at e; omega))
            | (refine step_append_new (w0 := w) rfl _ _ _ rfl 50 (.agg #[.int .i64 0, .int .i64 0]) 2 16 Try.underlying47 info_pair rfl (by omega) (.slice (some ⟨w6.heap.size, 0, none⟩) 0 0) 0 [] rfl wc.heap.size (some ⟨g2, 8, none⟩) 5 (cb2 - 4) (prs ((insP q k v).drop 4)) rfl (own_empty (Bk.made w6 _ _) f1.size) (f1.alloc _) hl5 (hs5'.fr (q1.alloc _) (Nat.le_refl _) (fun _ _ _ e => e)) (prs_one _) (by unfold maxLen; omega) (by omega) ?_
               intro A3 c3 w7 own3 f3 g3 h3
               have hP1 : w7.ownsRow w.heap.size 50 2 (.slice A1 4 c1) 4 (prs ((insP q k v).take 4)) := own_fr (own1.alloc _) g3 (fun k e1 e2 => by have := (own1.lt k e1).2; simp [Value.ownBlock] at e2; omega))
            | (refine step_append_new (w0 := w) rfl _ _ _ rfl 50 (.agg #[.int .i64 0, .int .i64 0]) 2 16 Try.underlying47 info_pair rfl (by omega) (.slice (some ⟨wc.heap.size + 1, 0, none⟩) 0 0) 0 [] rfl wc.heap.size (some ⟨g2, 8, none⟩) 5 (cb2 - 4) (prs ((insP q k v).drop 4)) rfl (own_empty ((Bk.made1 wc _ _ _).drew.fr g1 (fun e => by simp [Value.ownBlock] at e)) (by omega)) f1 hl5 (hs5'.fr q1 (Nat.le_refl _) (fun _ _ _ e => e)) (prs_one _) (by unfold maxLen; omega) (by omega) ?_
               intro A3 c3 w7 own3 f3 g3 h3
               have hP1 : w7.ownsRow w.heap.size 50 2 (.slice A1 4 c1) 4 (prs ((insP q k v).take 4)) := own_fr own1 g3 (fun k e1 e2 => by
                 have e3 : (Value.slice A1 4 c1).ownBlock = some k := e1
                 have h4 : (Value.slice A1 4 c1).ownBlock = _ ∨ (Value.slice A1 4 c1).ownBlock = _ := h1
                 rw [e3] at h4
                 simp [Value.ownBlock] at e2 h4
                 omega))
            | (refine step_append_new (w0 := w) rfl _ _ _ rfl 50 (.agg #[.int .i64 0, .int .i64 0]) 2 16 Try.underlying47 info_pair rfl (by omega) (.slice (some ⟨wc.heap.size, 0, none⟩) 0 0) 0 [] rfl wc.heap.size (some ⟨g2, 8, none⟩) 5 (cb2 - 4) (prs ((insP q k v).drop 4)) rfl (own_empty (((Bk.made wc _ _).alloc _).drew.fr g1 (fun e => by simp [Value.ownBlock] at e)) hwl) f1 hl5 (hs5'.fr q1 (Nat.le_refl _) (fun _ _ _ e => e)) (prs_one _) (by unfold maxLen; omega) (by omega) ?_
               intro A3 c3 w7 own3 f3 g3 h3
               have hP1 : w7.ownsRow w.heap.size 50 2 (.slice A1 4 c1) 4 (prs ((insP q k v).take 4)) := own_fr own1 g3 (fun k e1 e2 => by
                 have e3 : (Value.slice A1 4 c1).ownBlock = some k := e1
                 have h4 : (Value.slice A1 4 c1).ownBlock = _ ∨ (Value.slice A1 4 c1).ownBlock = _ := h1
                 rw [e3] at h4
                 simp [Value.ownBlock] at e2 h4
                 omega))
            | (go_simp
               refine (rSet_any p _ hs [.slice A1 4 c1, .slice A3 5 c3] a 1 2 2 (some ⟨w7.heap.size, 0, none⟩) _ (Hd0.out.fr (f3.alloc _) (fun e => e) (fun _ _ e => e)) ((Sl.made w7 47 #[.slice A1 4 c1, .slice A3 5 c3]).more (by simp)) rfl hal (by intro u hu; simp at hu; rcases hu with rfl | rfl <;> rfl) (by omega) (by omega)).mono ?_
               rintro e w9 ⟨rfl, v9, hd9, f9, hb9⟩))
          all_goals
            have hB : Fr No w7 (w7.alloc (.cells #[.slice A1 4 c1, .slice A3 5 c3] 47)) := (Fr.refl No w7).alloc _
            have hP2 : PgO (w7.alloc (.cells #[.slice A1 4 c1, .slice A3 5 c3] 47)) (.slice A1 4 c1) ((insP q k v).take 4) := by
              unfold PgO
              rw [Ht4.out]
              exact own_base (own_fr hP1 hB (fun _ _ e => e)) (Nat.zero_le _)
            have hP3 : PgO (w7.alloc (.cells #[.slice A1 4 c1, .slice A3 5 c3] 47)) (.slice A3 5 c3) ((insP q k v).drop 4) := by
              unfold PgO
              rw [Ht5.out]
              exact own_base (own_fr own3 hB (fun _ _ e => e)) (Nat.zero_le _)
            have HR : Hid (∃ R', RS w9 R' p (putP P k v) ∧ Fr (fun x => x = p) w w9 ∧ ∀ x, R' x → R x ∨ w.heap.size ≤ x) := Lib.hid (by
              have f6 : Fr (fun x => x = p) w w9 := ((f3.alloc (.cells #[.slice A1 4 c1, .slice A3 5 c3] 47)).weak (S' := fun x => x = p) (fun _ _ e => e.elim)).trans' f9 (fun _ _ e => e)
              have hs5a := f6.size
              have hs6a := f9.size
              have hs7a := f3.size
              simp at hs6a
              have hpR := hR4 p hR1
              refine ⟨fun x => R x ∨ (w.heap.size ≤ x ∧ x < w9.heap.size), ?_, f6, fun x hx => hx.imp_right (fun h => h.1)⟩
              rw [← Hput.out]
              refine RS.of f6 hd9 hll (by simp) hal (fun i c1 c2 _ => (Hpg.out i c1 c2).fr f6 (fun x e1 e2 => ?_)) (fun i c1 c2 => ?_) (.inl hR1) (fun x e => ?_) (fun u hu x e => .inl (hR3 u hu x e)) (fun u hu x e => ?_) (fun x hx => ?_)
              · subst e2
                exact own_apart (Hpg.out i c1 c2) Hd0.out.self (by decide) e1
              · rcases (show i = 0 ∨ i = 1 by simp at c1; omega) with rfl | rfl
                · exact hP2.fr f9 (fun x e1 e2 => by have := (hP1.lt x e1).1; omega)
                · exact hP3.fr f9 (fun x e1 e2 => by have := (own3.lt x e1).1; omega)
              · have e1 := hb9 x e
                have e2 := hd9.row.lt x e
                simp at e1
                exact .inr ⟨by omega, e2.2⟩
              · simp only [List.mem_cons, List.not_mem_nil, or_false] at hu
                rcases hu with rfl | rfl
                · have e1 := hP1.lt x e
                  exact .inr ⟨e1.1, by omega⟩
                · have e1 := own3.lt x e
                  exact .inr ⟨e1.1, by omega⟩
              · rcases hx with hx | hx
                · have := hR4 x hx; omega
                · exact hx.2)
            clear hd9 f9 hb9 hP1 hP2 hP3 own1 own3 f1 f3 g1 g3 hB
            go_wp2
            go_ret
            exact ⟨rfl, HR.out⟩
        · have Hput : Hid (setP P a 1 [insP q k v] = putP P k v) := Lib.hid (by
            unfold putP
            rw [if_neg hP, hgp, Ha.out]
            simp only
            rw [if_neg h8])
          obtain ⟨n2, hn2⟩ : ∃ n2, n2 = (insP q k v).length := ⟨_, rfl⟩
          rw [← hn2] at hown2 h8 ⊢
          have hPg : PgO wc (.slice B2 n2 cb2) (insP q k v) := by
            unfold PgO
            rw [← hn2]
            exact own_base hown2 (Nat.zero_le _)
          have hnew : ∀ x, (Value.slice B2 n2 cb2).ownBlock = some x → w.heap.size ≤ x ∧ x < wc.heap.size := fun x e => hown2.lt x e
          have fW := hfr2.alloc (.cells #[.slice B2 n2 cb2] 47)
          have hszW := fW.size
          have hdW := Hd0.out.fr fW (fun e => e) (fun _ _ e => e)
          have qs := rSet_any p _ hs [.slice B2 n2 cb2] a 1 1 1 (some ⟨wc.heap.size, 0, none⟩) _ hdW ((Sl.made wc 47 #[.slice B2 n2 cb2]).more (by simp)) rfl hal (by intro u hu; simp at hu; subst hu; rfl) (by omega) (by omega)
          have HP := Lib.hid hPg
          have HW := Lib.hid fW
          have Hnw := Lib.hid hnew
          have Hown := Lib.hid hown2
          clear hdW hPg fW hnew hown2 hn2
          go_wp2_with fail
          refine qs.mono ?_
          rintro e w5 ⟨rfl, v5, hd5, f5, hb5⟩
          have HR : Hid (∃ R', RS w5 R' p (putP P k v) ∧ Fr (fun x => x = p) w w5 ∧ ∀ x, R' x → R x ∨ w.heap.size ≤ x) := Lib.hid (by
            have f6 : Fr (fun x => x = p) w w5 := (HW.out.weak (S' := fun x => x = p) (fun _ _ e => e.elim)).trans' f5 (fun _ _ e => e)
            have hszc := hfr2.size
            have hs5 := f6.size
            have hs6 := f5.size
            simp at hs6
            refine ⟨fun x => R x ∨ (w.heap.size ≤ x ∧ x < w5.heap.size), ?_, f6, fun x hx => hx.imp_right (fun h => h.1)⟩
            · rw [← Hput.out]
              refine RS.of f6 hd5 hll (by simp) hal (fun i c1 c2 _ => (Hpg.out i c1 c2).fr f6 (fun x e1 e2 => ?_)) (fun i c1 c2 => ?_) (.inl hR1) (fun x e => ?_) (fun u hu x e => .inl (hR3 u hu x e)) (fun u hu x e => ?_) (fun x hx => ?_)
              · subst e2
                exact own_apart (Hpg.out i c1 c2) Hd0.out.self (by decide) e1
              · obtain rfl : i = 0 := by simp at c1; omega
                have hPW := (HP.out.since ((Fr.refl No wc).alloc (.cells #[.slice B2 n2 cb2] 47)))
                refine hPW.fr f5 (fun x e1 e2 => ?_)
                have h1 := hR4 p hR1
                have h2 := (Hnw.out x e1).1
                omega
              · have h1 := hb5 x e
                have h2 := hd5.row.lt x e
                exact .inr ⟨by omega, h2.2⟩
              · simp at hu
                subst hu
                have h1 := Hnw.out x e
                exact .inr ⟨h1.1, by omega⟩
              · rcases hx with hx | hx
                · have := hR4 x hx; omega
                · exact hx.2)
          clear hd5 f5 hb5 qs HP HW Hnw Hown
          go_wp2
          go_ret
          exact ⟨rfl, HR.out⟩
end Go.Proofs.Ytenmiociinogeaa
