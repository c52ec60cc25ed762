/- Package pages: a copy of a store. -/
import Derived.Test.YtenmiociinogeaaLen5
namespace Go.Proofs.Ytenmiociinogeaa
open Go.RowKit

section
variable {w w' : World} {S : Nat → Prop} {s : Nat} {P : List Pg}
set_option maxHeartbeats 2000000 in
theorem clonePr (g o n c : Nat) (xs : List Value) (hn : 0 < n) (hn2 : n ≤ 1000) (hx : xs.length = n * 2) (h1 : ∀ u ∈ xs, u.oneCell' = true) (h : Rg w 50 2 g o c xs) :
    Calls Try.prog 31 #[.slice (some ⟨g, o, none⟩) n c] w fun e w' => ∃ g' c', e = .returned (.slice (some ⟨g', 0, none⟩) n c') ∧ w.heap.size ≤ g' ∧ n ≤ c' ∧ c' ≤ maxLen ∧ Rg w' 50 2 g' 0 c' xs ∧ Fr No w w' := by
  have qn : ∀ (W : World) (a : Option Addr) (n c n' c' : Nat), (binOp .eql 70 (.slice a n c) (.slice none n' c')).run Try.prog W = .ok (.bool a.isNone) W := fun W a n c n' c' => Lib.run_eql_slice_nil W _ _ a n c n' c' Try.underlying70
  have hsl := h.sl
  have Hx := Lib.hid hx
  have H1 := Lib.hid h1
  clear hx h1 h
  go_enter Try.func31, Try.ntmps31
  go_wp2_with (at_builtin; refine wpList_append_new (w0 := w) rfl _ _ 70 rfl 50 (.agg #[.int .i64 0, .int .i64 0]) 2 16 Try.underlying70 info_pair rfl (by omega) (.slice (some ⟨w.heap.size, 0, none⟩) 0 0) 0 [] rfl (own_empty (Bk.made w _ _) (Nat.le_refl _)) ((Fr.refl No w).alloc _) w.heap.size (some ⟨g, o, none⟩) n c xs rfl Hx.out (hsl.fr ((Fr.refl No w).alloc _) (Nat.le_refl _) (fun _ _ _ e => e)) H1.out (by unfold maxLen; omega) (by omega) ?r1)
  case r1 =>
    intro A' c' w2 own2 f2 g2
    obtain ⟨g', rfl, hb, hnc, hcm, hrg⟩ := Rg.ofOwn own2 hn
    clear own2 g2 hsl
    go_wp2
    go_ret
    exact ⟨g', c', rfl, hb, hnc, hcm, hrg, f2⟩
set_option maxHeartbeats 2000000 in
theorem clonePg (A : Option Addr) (n c : Nat) (xs : List Value) (hn2 : n ≤ 1000) (hx : xs.length = n) (h1 : ∀ u ∈ xs, u.oneCell' = true) (hsl : Sl w w.heap.size A xs) :
    Calls Try.prog 30 #[.slice A n c] w fun e w' => ∃ A' c', e = .returned (.slice A' n c') ∧ Fr No w w' ∧ (0 < n → ∃ q, A' = some ⟨q, 0, none⟩ ∧ w.heap.size ≤ q ∧ n ≤ c' ∧ c' ≤ maxLen ∧ Rg w' 72 1 q 0 c' xs) := by
  have qn : ∀ (W : World) (a : Option Addr) (n c n' c' : Nat), (binOp .eql 26 (.slice a n c) (.slice none n' c')).run Try.prog W = .ok (.bool a.isNone) W := fun W a n c n' c' => Lib.run_eql_slice_nil W _ _ a n c n' c' Try.underlying26
  cases A with
  | none =>
    have h0 : n = 0 := by
      rcases Nat.eq_zero_or_pos n with h0 | h0
      · exact h0
      · obtain ⟨ad, e, _⟩ := hsl (by rintro rfl; simp at hx; omega)
        cases e
    subst h0
    clear hsl h1 hx
    go_enter Try.func30, Try.ntmps30
    go_wp2
    go_ret
    exact ⟨none, 0, rfl, Fr.refl _ _, fun h => by omega⟩
  | some ad =>
    have Hx : Hid (xs.length = n * 1) := Lib.hid (by omega)
    have H1 := Lib.hid h1
    clear hx h1
    go_enter Try.func30, Try.ntmps30
    go_wp2_with (at_builtin; refine wpList_append_new (w0 := w) rfl _ _ 26 rfl 72 (.agg #[.slice none 0 0]) 1 24 Try.underlying26 info_page rfl (by omega) (.slice (some ⟨w.heap.size, 0, none⟩) 0 0) 0 [] rfl (own_empty (Bk.made w _ _) (Nat.le_refl _)) ((Fr.refl No w).alloc _) w.heap.size (some ad) n c xs rfl Hx.out (hsl.fr ((Fr.refl No w).alloc _) (Nat.le_refl _) (fun _ _ _ e => e)) H1.out (by unfold maxLen; omega) (by omega) ?r1)
    case r1 =>
      intro A' c' w2 own2 f2 g2
      have HR : Hid (0 < n → ∃ q, A' = some ⟨q, 0, none⟩ ∧ w.heap.size ≤ q ∧ n ≤ c' ∧ c' ≤ maxLen ∧ Rg w2 72 1 q 0 c' xs) := Lib.hid (fun hn => by
        obtain ⟨g', rfl, hb, hnc, hcm, hrg⟩ := Rg.ofOwn own2 hn
        exact ⟨g', rfl, hb, hnc, hcm, hrg⟩)
      clear own2 g2 hsl
      go_wp2
      go_ret
      exact ⟨A', c', rfl, f2, HR.out⟩
theorem pCopy_nil (w : World) : Calls Try.prog 13 #[.pointer none] w fun e w' => e = .returned (.pointer none) ∧ Fr No w w' := by
  go_enter Try.func13, Try.ntmps13
  go_wp2
  go_ret
  exact ⟨rfl, Fr.refl _ _⟩

/-- A copy under way: the first pages are copied. -/
structure Cpg (w W : World) (s' q' c' : Nat) (hs ns : List Pgh) (P : List Pg) : Prop where
  fr : Fr No w W
  st : Bk W s' 28 #[.slice (some ⟨q', 0, none⟩) P.length c']
  hd : Rg W 72 1 q' 0 c' ((ns ++ hs.drop ns.length).map Pgh.val)
  pg : ∀ i (h1 : i < ns.length) (h2 : i < P.length), PgA W ns[i] P[i]
  ap : ns.Pairwise Apt
  lo : ∀ x ∈ ns, w.heap.size ≤ x.g
  sq : w.heap.size ≤ q'
  ss : w.heap.size ≤ s'
  le : ns.length ≤ P.length
theorem Cpg.since {W W' : World} {s' q' c' : Nat} {hs ns : List Pgh} (h : Cpg w W s' q' c' hs ns P) (hf : Fr No W W') : Cpg w W' s' q' c' hs ns P :=
  ⟨h.fr.trans' hf (fun _ _ e => e), h.st.fr hf (fun e => e), h.hd.fr hf (fun e => e), fun i a b => (h.pg i a b).since hf, h.ap, h.lo, h.sq, h.ss, h.le⟩
/-- One page more is copied. -/
theorem Cpg.step {W W' : World} {s' q' c' : Nat} {hs ns : List Pgh} (h : Cpg w W s' q' c' hs ns P) (hl : hs.length = P.length) (hj : ns.length < P.length) {x : Pgh} (hf : Fr No W W') (hp : PgA W' x P[ns.length]) (hg : W.heap.size ≤ x.g) :
    Cpg w (W'.setCell ⟨q', ns.length, none⟩ x.val) s' q' c' hs (ns ++ [x]) P := by
  have h' := h.since hf
  have hst : Fr (fun k => k = q') W' (W'.setCell ⟨q', ns.length, none⟩ x.val) := (Fr.refl (fun k => k = q') W').setCell (p := ⟨q', ns.length, none⟩) (.inl rfl) _
  have hq := h.hd.lt
  have hput := h'.hd.put1 ns.length x.val (by simp; omega)
  rw [Nat.zero_add] at hput
  have e1 : ((ns ++ hs.drop ns.length).map Pgh.val).set ns.length x.val = ((ns ++ [x]) ++ hs.drop (ns ++ [x]).length).map Pgh.val := by
    rw [← List.map_set, List.set_append_right _ _ (Nat.le_refl _), Nat.sub_self, List.drop_eq_getElem_cons (by omega : ns.length < hs.length), List.set_cons_zero]
    simp
  rw [e1] at hput
  refine ⟨h'.fr.setCell (.inr h.sq) _, h'.st.fr hst (fun e => h'.hd.apartB h'.st (by decide) e.symm), hput, fun i a b => ?_, ?_, fun y hy => ?_, h.sq, h.ss, by rw [List.length_append]; show ns.length + 1 ≤ _; omega⟩
  · by_cases e : i < ns.length
    · rw [List.getElem_append_left e]
      have hpi := h'.pg i e b
      exact hpi.fr hst (fun e2 => h'.hd.apart hpi.rg (by decide) e2.symm)
    · have e2 : i = ns.length := by simp at a; omega
      subst e2
      rw [List.getElem_append_right (Nat.le_refl _)]
      simp only [Nat.sub_self, List.getElem_cons_zero]
      exact hp.fr hst (fun e2 => h'.hd.apart hp.rg (by decide) e2.symm)
  · rw [List.pairwise_append]
    refine ⟨h.ap, List.pairwise_singleton _ _, fun a ha b hb => ?_⟩
    rw [List.mem_singleton.1 hb]
    obtain ⟨i, hi, rfl⟩ := List.mem_iff_getElem.1 ha
    have := (h.pg i hi (by omega)).rg.lt
    exact .inl (by omega)
  · rcases List.mem_append.1 hy with hy | hy
    · exact h.lo y hy
    · rw [List.mem_singleton.1 hy]
      have := h.fr.size
      omega

set_option maxHeartbeats 4000000 in
set_option maxRecDepth 100000 in
theorem pCopy_any (hi : InvP P) (h : PS w S s P) : Calls Try.prog 13 #[.pointer (some ⟨s, 0, none⟩)] w fun e w' => ∃ s' S', e = .returned (.pointer (some ⟨s', 0, none⟩)) ∧ PS w' S' s' P ∧ (∀ k, S' k → w.heap.size ≤ k) ∧ Fr No w w' := by
  obtain ⟨A, c, hcell, hlist⟩ := h.list
  have hlen := hi.len
  have H1 := Lib.hid hi.one
  by_cases hne : P = []
  · subst hne
    have hcl := clonePg (w := w) A 0 c [] (by omega) rfl (by intro u hu; cases hu) (Sl.nil _ _ _)
    rw [List.length_nil] at hcell
    clear h hlist hi H1 hlen
    go_enter Try.func13, Try.ntmps13
    go_wp2_with fail
    refine hcl.mono ?_
    rintro e w1 ⟨A', c', rfl, hf, -⟩
    have hf2 := hf.alloc (.cells #[.slice A' 0 c'] 28)
    have hb := Bk.made w1 28 #[.slice A' 0 c']
    have x0 : (w1.alloc (.cells #[.slice A' 0 c'] 28)).cell? ⟨w1.heap.size, 0, none⟩ = some (.slice A' 0 c') := hb.cell 0
    have HR : Hid (∃ S', PS (w1.alloc (.cells #[.slice A' 0 c'] 28)) S' w1.heap.size [] ∧ (∀ k, S' k → w.heap.size ≤ k)) := Lib.hid ⟨fun k => k = w1.heap.size, ⟨_, hb, rfl, fun k e => by rw [e]; exact hb.lt, .inl ⟨rfl, A', c', rfl⟩⟩, fun k e => by rw [e]; exact hf.size⟩
    clear hcl hf hb hcell
    go_wp2
    go_loopw [20] (fun iv wr => iv = .int .i64 0 ∧ wr = w1.alloc (.cells #[.slice A' 0 c'] 28)) (fun _ _ => 0)
    case atStart => exact ⟨rfl, rfl⟩
    case round =>
      obtain ⟨rfl, rfl⟩ := hrel
      go_wp2
      go_ret
      obtain ⟨S', a1, a2⟩ := HR.out
      exact ⟨_, S', rfl, a1, a2, hf2⟩
  · obtain ⟨q, o, hs, rfl, hl, hL⟩ := hlist hne
    have hpos : 0 < P.length := List.length_pos_iff.2 hne
    have hcl := clonePg (w := w) (some ⟨q, o, none⟩) P.length c (hs.map Pgh.val) (by omega) (by simp [hl]) (by intro u hu; obtain ⟨y, _, rfl⟩ := List.mem_map.1 hu; rfl) hL.hd.sl
    have HL := Lib.hid hL
    have Hl := Lib.hid hl
    have Hne := Lib.hid hne
    obtain ⟨z, Hz⟩ : ∃ z, Hid (z = P.length) := ⟨_, Lib.hid rfl⟩
    have hz : z ≤ 1000 := by rw [Hz.out]; exact hlen.2
    have hz0 : 0 < z := by rw [Hz.out]; exact hpos
    rw [← Hz.out] at hcell hcl
    clear h hlist hi hlen hL hl hne hpos
    go_enter Try.func13, Try.ntmps13
    go_wp2_with fail
    refine hcl.mono ?_
    rintro e w1 ⟨A', c', rfl, hf, hr⟩
    obtain ⟨q', rfl, hq1, hc1, hc2, hrg⟩ := hr hz0
    obtain ⟨w2, hw2⟩ : ∃ w2, w2 = w1.alloc (.cells #[.slice (some ⟨q', 0, none⟩) z c'] 28) := ⟨_, rfl⟩
    have hC0 : Hid (Cpg w w2 w1.heap.size q' c' hs [] P) := Lib.hid (by
      rw [hw2]
      exact ⟨hf.alloc _, by rw [← Hz.out]; exact Bk.made w1 _ _, by simpa using hrg.fr ((Fr.refl No w1).alloc _) (fun e => e), fun i h1 _ => by simp at h1, List.Pairwise.nil, (fun x hx => by cases hx), hq1, hf.size, by simp⟩)
    obtain ⟨s', hs'⟩ : ∃ s', s' = w1.heap.size := ⟨_, rfl⟩
    have x0 : w2.cell? ⟨s', 0, none⟩ = some (.slice (some ⟨q', 0, none⟩) z c') := by rw [hs', hw2]; exact (Bk.made w1 _ _).cell 0
    have x1 : (w1.alloc (.cells #[.slice (some ⟨q', 0, none⟩) z c'] 28)).cell? ⟨w1.heap.size, 0, none⟩ = some (.slice (some ⟨q', 0, none⟩) z c') := (Bk.made w1 _ _).cell 0
    rw [← hs'] at hC0
    clear hcl hrg hf hr
    go_wp2
    rw [← hw2, ← hs']
    go_loopw [20] (fun iv wr => ∃ ns, ns.length ≤ z ∧ iv = .int .i64 ns.length ∧ Hid (Cpg w wr s' q' c' hs ns P)) (fun i _ => z - (intOf i).toNat)
    case atStart => exact ⟨[], by simp, rfl, hC0⟩
    case round =>
      clear hC0 x0 x1 hw2 hs'
      obtain ⟨ns, hns, rfl, HC⟩ := hrel
      obtain ⟨j, Hj⟩ : ∃ j, Hid (j = ns.length) := ⟨_, Lib.hid rfl⟩
      rw [← Hj.out] at hns ⊢
      have hst : ∀ W, Fr No wr W → W.cell? ⟨s', 0, none⟩ = some (.slice (some ⟨q', 0, none⟩) z c') := fun W hW => by
        have := (HC.out.st.fr hW (fun e => e)).cell 0
        rw [← Hz.out] at this
        exact this
      by_cases hlt : j < z
      · have hjP : j < P.length := by rw [← Hz.out]; exact hlt
        have hjh : j < hs.length := by rw [Hl.out]; exact hjP
        have hnl : ns.length < P.length := by rw [← Hj.out]; exact hjP
        have hhd : wr.cell? ⟨q', j, none⟩ = some hs[j].val := by
          have := HC.out.hd.cell (j := j) (u := hs[j].val) (by
            rw [List.getElem?_map, List.getElem?_append_right (by rw [← Hj.out]; exact Nat.le_refl _), List.getElem?_drop, ← Hj.out, Nat.sub_self, Nat.add_zero, List.getElem?_eq_getElem hjh]
            rfl)
          rwa [Nat.zero_add] at this
        have hp := (HL.out.since HC.out.fr).pg j hjh hjP
        have h1 := (H1.out _ (List.getElem_mem hjP))
        have hjeq : P[j] = P[ns.length] := by congr 1
        have Hcal : Hid (∀ W, Fr No wr W → Calls Try.prog 31 #[hs[j].val] W fun e w' => ∃ x : Pgh, e = .returned (.slice (some ⟨x.g, x.o, none⟩) x.n x.c) ∧ Fr No W w' ∧ w'.cell? ⟨s', 0, none⟩ = some (.slice (some ⟨q', 0, none⟩) z c') ∧ (∃ u, w'.cell? ⟨q', j, none⟩ = some u) ∧ w'.frozen? ⟨q', j, none⟩ = false ∧
            Cpg w (w'.setCell ⟨q', j, none⟩ (.slice (some ⟨x.g, x.o, none⟩) x.n x.c)) s' q' c' hs (ns ++ [x]) P) := Lib.hid (fun W hW => by
          have hpW := hp.since hW
          refine (clonePr hs[j].g hs[j].o hs[j].n hs[j].c (prs P[j]) (by rw [hp.len]; omega) (by rw [hp.len]; omega) (by rw [prs_len, hp.len]) (prs_one _) hpW.rg).mono ?_
          rintro e w' ⟨g', cc, rfl, a1, a2, a3, a4, a5⟩
          have hF := hW.trans' a5 (fun _ _ e => e)
          have hpx : PgA w' ⟨g', 0, hs[j].n, cc⟩ P[ns.length] := ⟨by rw [← hjeq]; exact hp.len, a2, a3, by rw [← hjeq]; exact a4⟩
          have hstep := HC.out.step Hl.out hnl hF hpx (by have := hW.size; show wr.heap.size ≤ g'; omega)
          rw [← Hj.out] at hstep
          have hq5 := (HC.out.since hF).hd
          exact ⟨⟨g', 0, hs[j].n, cc⟩, rfl, a5, hst _ hF, Option.isSome_iff_exists.1 (by have := hq5.there (j := j) (by have := hq5.le; simp at this; omega); rwa [Nat.zero_add] at this), hq5.froz _, hstep⟩)
        have x0 := hst wr (Fr.refl _ _)
        have hj2 : hs[j].n ≤ 1000 := by rw [hp.len]; omega
        clear hp h1 hjeq hnl
        generalize hs[j] = x at *
        obtain ⟨xg, xo, xn, xc⟩ := x
        unfold Pgh.val at hhd Hcal
        simp only at hhd hj2 Hcal
        have x1 := hst _ ((Fr.refl No wr).alloc (.cells #[.slice (some ⟨xg, xo, none⟩) xn xc] 72))
        have HC2 := HC
        clear HC hst
        go_wp2_with fail
        first | go_region_with (first
          | (go_at_call 31
             refine (Hcal.out _ (by first | exact ((Fr.refl No wr).alloc _).drew | exact (Fr.refl No wr).alloc _)).mono ?_
             rintro e w4 ⟨⟨yg, yo, yn, yc⟩, rfl, f4, y0, ⟨u0, y1⟩, y2, hC4⟩
             have HC4 := Lib.hid hC4
             have Hf4 := Lib.hid f4
             clear hC4 f4
             dsimp only at HC4)) | fail
        all_goals
          clear x0 x1 hhd Hcal y0 y1 y2 HC2
          go_wp2
          go_roundw
          case rel => exact ⟨ns ++ [⟨yg, yo, yn, yc⟩], by rw [List.length_append, ← Hj.out]; show j + 1 ≤ z; omega, by rw [List.length_append, ← Hj.out]; go_num, HC4⟩
          case measure => simp [intOf]; omega
      · have hjz : ns.length = P.length := by rw [← Hj.out, ← Hz.out]; omega
        have HR : Hid (∃ S', PS wr S' s' P ∧ (∀ k, S' k → w.heap.size ≤ k) ∧ Fr No w wr) := Lib.hid (by
          have hC := HC.out
          have hd2 := hC.hd
          rw [List.drop_eq_nil_of_le (by rw [Hl.out]; omega), List.append_nil] at hd2
          refine ⟨fun k => w.heap.size ≤ k ∧ k < wr.heap.size, ⟨_, hC.st, ⟨hC.ss, hC.st.lt⟩, fun k hk => hk.2, .inr ⟨Hne.out, q', 0, c', ns, by rw [hjz], hjz, ?_, hc2, hd2, hC.pg, hC.ap, ⟨hC.sq, hd2.lt⟩, fun x hx => ?_, fun k hk => hk.2⟩⟩, fun k hk => hk.1, hC.fr⟩
          · rw [← Hj.out]; omega
          · obtain ⟨i, hi, rfl⟩ := List.mem_iff_getElem.1 hx
            exact ⟨hC.lo _ hx, (hC.pg i hi (by omega)).rg.lt⟩)
        clear HC hst
        go_wp2
        go_ret
        obtain ⟨S', a1, a2, a3⟩ := HR.out
        exact ⟨_, S', rfl, a1, a2, a3⟩
end
end Go.Proofs.Ytenmiociinogeaa
