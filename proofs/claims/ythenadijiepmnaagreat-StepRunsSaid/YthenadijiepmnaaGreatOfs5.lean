/- Package pages: how many pairs, and the first keys of the pages. -/
import Derived.Test.YthenadijiepmnaaGreatDel5
namespace Go.Proofs.YthenadijiepmnaaGreat
open Go.RowKit

section
variable {w w' : World} {S : Nat → Prop} {s : Nat} {P : List Pg}
/-- The list of a store, as a call of all tells it, at each later time. -/
theorem PS.list (h : PS w S s P) : ∃ A c, w.cell? ⟨s, 0, none⟩ = some (.slice A P.length c) ∧ (P ≠ [] → ∃ q o hs, A = some ⟨q, o, none⟩ ∧ hs.length = P.length ∧ LsN w S q o c hs P) := by
  obtain ⟨v, hb, hS, hlt, hcase⟩ := h
  rcases hcase with ⟨rfl, A, c, rfl⟩ | ⟨hne, q, o, c, hs, rfl, hL⟩
  · exact ⟨A, c, hb.cell 0, fun e => absurd rfl e⟩
  · exact ⟨_, c, by rw [← hL.len]; exact hb.cell 0, fun _ => ⟨q, o, hs, rfl, hL.len, hL⟩⟩
/-- Page j's header, and its page. -/
def HdrAt (w0 : World) (A : Option Addr) (P : List Pg) : Prop :=
  ∀ W, Fr No w0 W → ∀ j (hj : j < P.length), ∃ q o h, A = some ⟨q, o, none⟩ ∧ W.cell? ⟨q, o + j, none⟩ = some (Pgh.val h) ∧ PgA W h P[j]
theorem PS.hdrs (h : PS w S s P) : ∃ A c, (∀ W, Fr No w W → W.cell? ⟨s, 0, none⟩ = some (.slice A P.length c)) ∧ HdrAt w A P := by
  obtain ⟨A, c, h1, h2⟩ := h.list
  refine ⟨A, c, fun W hW => ?_, fun W hW j hj => ?_⟩
  · obtain ⟨v, hb, -⟩ := h
    have e0 := (hb.cell 0).symm.trans h1
    have e1 := (hb.fr hW (fun e => e)).cell 0
    rw [e1]
    exact e0
  · obtain ⟨q, o, hs, rfl, hl, hL⟩ := h2 (by intro e; subst e; simp at hj)
    exact ⟨q, o, hs[j]'(by omega), rfl, (hL.since hW).hdr (by omega), (hL.since hW).pg j (by omega) hj⟩
theorem all_val (A : Option Addr) (n c : Nat) (h : w.cell? ⟨s, 0, none⟩ = some (.slice A n c)) : Calls Tryz.prog 38 #[.pointer (some ⟨s, 0, none⟩)] w fun e w' => e = .returned (.slice A n c) ∧ w' = w := pAll_some s _ w h ⟨A, n, c, rfl⟩

theorem info_int : (Tryz.prog.info? 3).map (fun i => (i.zero, i.size, i.bytes)) = some (some (.int .i64 0), 1, 8) := by kernel_rfl
end
end Go.Proofs.YthenadijiepmnaaGreat
/- Package pages: a copy of a store. -/
namespace Go.Proofs.YthenadijiepmnaaGreat
open Go.RowKit

section
variable {w w' : World} {S : Nat → Prop} {s : Nat} {P : List Pg}
/-- A copy under way: the first pages are copied. -/
structure Cpg (w W : World) (s' q' c' : Nat) (hs ns : List Pgh) (P : List Pg) : Prop where
  fr : Fr No w W
  st : Bk W s' 70 #[.slice (some ⟨q', 0, none⟩) P.length c']
  hd : Rg W 105 1 q' 0 c' ((ns ++ hs.drop ns.length).map Pgh.val)
  pg : ∀ i (h1 : i < ns.length) (h2 : i < P.length), PgA W ns[i] P[i]
  ap : ns.Pairwise Apt
  lo : ∀ x ∈ ns, w.heap.size ≤ x.g
  sq : w.heap.size ≤ q'
  ss : w.heap.size ≤ s'
  le : ns.length ≤ P.length
theorem Cpg.since {W W' : World} {s' q' c' : Nat} {hs ns : List Pgh} (h : Cpg w W s' q' c' hs ns P) (hf : Fr No W W') : Cpg w W' s' q' c' hs ns P :=
  ⟨h.fr.trans' hf (fun _ _ e => e), h.st.fr hf (fun e => e), h.hd.fr hf (fun e => e), fun i a b => (h.pg i a b).since hf, h.ap, h.lo, h.sq, h.ss, h.le⟩
/-- One page more is copied. -/
theorem Cpg.step {W W' : World} {s' q' c' : Nat} {hs ns : List Pgh} (h : Cpg w W s' q' c' hs ns P) (hl : hs.length = P.length) (hj : ns.length < P.length) {x : Pgh} (hf : Fr No W W') (hp : PgA W' x P[ns.length]) (hg : W.heap.size ≤ x.g) :
    Cpg w (W'.setCell ⟨q', ns.length, none⟩ x.val) s' q' c' hs (ns ++ [x]) P := by
  have h' := h.since hf
  have hst : Fr (fun k => k = q') W' (W'.setCell ⟨q', ns.length, none⟩ x.val) := (Fr.refl (fun k => k = q') W').setCell (p := ⟨q', ns.length, none⟩) (.inl rfl) _
  have hq := h.hd.lt
  have hput := h'.hd.put1 ns.length x.val (by simp; omega)
  rw [Nat.zero_add] at hput
  have e1 : ((ns ++ hs.drop ns.length).map Pgh.val).set ns.length x.val = ((ns ++ [x]) ++ hs.drop (ns ++ [x]).length).map Pgh.val := by
    rw [← List.map_set, List.set_append_right _ _ (Nat.le_refl _), Nat.sub_self, List.drop_eq_getElem_cons (by omega : ns.length < hs.length), List.set_cons_zero]
    simp
  rw [e1] at hput
  refine ⟨h'.fr.setCell (.inr h.sq) _, h'.st.fr hst (fun e => h'.hd.apartB h'.st (by decide) e.symm), hput, fun i a b => ?_, ?_, fun y hy => ?_, h.sq, h.ss, by rw [List.length_append]; show ns.length + 1 ≤ _; omega⟩
  · by_cases e : i < ns.length
    · rw [List.getElem_append_left e]
      have hpi := h'.pg i e b
      exact hpi.fr hst (fun e2 => h'.hd.apart hpi.rg (by decide) e2.symm)
    · have e2 : i = ns.length := by simp at a; omega
      subst e2
      rw [List.getElem_append_right (Nat.le_refl _)]
      simp only [Nat.sub_self, List.getElem_cons_zero]
      exact hp.fr hst (fun e2 => h'.hd.apart hp.rg (by decide) e2.symm)
  · rw [List.pairwise_append]
    refine ⟨h.ap, List.pairwise_singleton _ _, fun a ha b hb => ?_⟩
    rw [List.mem_singleton.1 hb]
    obtain ⟨i, hi, rfl⟩ := List.mem_iff_getElem.1 ha
    have := (h.pg i hi (by omega)).rg.lt
    exact .inl (by omega)
  · rcases List.mem_append.1 hy with hy | hy
    · exact h.lo y hy
    · rw [List.mem_singleton.1 hy]
      have := h.fr.size
      omega

end
end Go.Proofs.YthenadijiepmnaaGreat
/- Package pages: a store into which pairs were put. -/
namespace Go.Proofs.YthenadijiepmnaaGreat
open Go.RowKit

/-- A store of pairs, one behind the other. -/
def ofP (l : List (Int × Int)) : List Pg := l.foldl (fun P x => if 0 ≤ x.1 ∧ x.1 ≤ 999 then putP P x.1.toNat x.2 else P) []
def pr2 (x : Int × Int) : List Value := [.int .i64 x.1, .int .i64 x.2]
def prs2 (l : List (Int × Int)) : List Value := l.flatMap pr2
theorem ofP_snoc (l : List (Int × Int)) (x : Int × Int) : ofP (l ++ [x]) = if 0 ≤ x.1 ∧ x.1 ≤ 999 then putP (ofP l) x.1.toNat x.2 else ofP l := by
  unfold ofP
  rw [List.foldl_append]
  rfl
theorem snoc2 (l : List (Int × Int)) (h : l ≠ []) : ∃ i p, l = i ++ [p] := ⟨l.dropLast, l.getLast h, (List.dropLast_concat_getLast h).symm⟩
theorem ofP_inv (n : Nat) : ∀ l : List (Int × Int), l.length = n → InvP (ofP l) := by
  induction n with
  | zero => intro l h; rw [List.eq_nil_of_length_eq_zero h]; exact InvP.nil
  | succ n ih =>
    intro l h
    obtain ⟨i, x, rfl⟩ := snoc2 l (by rintro rfl; cases h)
    have h1 := ih i (by simpa using h)
    rw [ofP_snoc]
    split
    · exact putP_inv h1 (by omega) x.2
    · exact h1
theorem pr2_len (x : Int × Int) : (pr2 x).length = 2 := rfl
theorem Sl.pair2 {w : World} {B : Nat} {A : Option Addr} {l : List (Int × Int)} (h : Sl w B A (prs2 l)) {k : Nat} (hk : k < l.length) :
    ∃ ad, A = some ad ∧ ad.block < B ∧ w.cell? (ad.add (k * 2)) = some (.int .i64 l[k].1) ∧ w.cell? ⟨(ad.add (k * 2)).block, (ad.add (k * 2)).off + 1, none⟩ = some (.int .i64 l[k].2) := by
  obtain ⟨ad, e, hb, hc⟩ := h.row 2 pr2_len hk (by omega)
  exact ⟨ad, e, hb, hc 0 _ rfl, hc 1 _ rfl⟩

section
variable {w : World}
set_option maxHeartbeats 4000000 in
set_option maxRecDepth 100000 in
theorem pOf_any (l : List (Int × Int)) (A : Option Addr) (n c : Nat) (w : World) (hl : Sl w w.heap.size A (prs2 l)) (hn : l.length = n) (hle : n ≤ 1048576) (_hv : ∀ x ∈ l, -9223372036854775808 ≤ x.2 ∧ x.2 < 9223372036854775808) :
    Calls Tryz.prog 10 #[.slice A n c] w fun e w' => ∃ s S', e = .returned (.pointer (some ⟨s, 0, none⟩)) ∧ PS w' S' s (ofP l) ∧ (∀ k, S' k → w.heap.size ≤ k) ∧ Fr No w w' := by
  obtain ⟨cs, hz, hps⟩ := ps_zero
  obtain rfl : cs = #[.slice none 0 0] := by
    have h1 := hz w
    have h2 := Tryz.zeroValue70 w
    rw [h1] at h2
    injection h2 with h2
    injection h2
  have hs0 := hps (w.alloc (.cells #[.slice none 0 0] 70)) w.heap.size (Bk.made w _ _)
  have hf0 := (Fr.refl No w).alloc (.cells #[.slice none 0 0] 70)
  obtain ⟨s, hs⟩ : ∃ s, s = w.heap.size := ⟨_, rfl⟩
  obtain ⟨w1, hw1⟩ : ∃ w1, w1 = w.alloc (.cells #[.slice none 0 0] 70) := ⟨_, rfl⟩
  have Hn := Lib.hid hn
  have Hl := Lib.hid hl
  rw [← hw1] at hs0 hf0
  have H0 := Lib.hid (show ∃ S, PS w1 S s (ofP (l.take 0)) ∧ (∀ k, S k → w.heap.size ≤ k) from ⟨_, by rw [hs]; exact hs0, fun k e => by have e : k = w.heap.size := e; omega⟩)
  clear hz hps hs0 hn hl
  go_enter Tryz.func10, Tryz.ntmps10
  go_wp2
  rw [← hw1, ← hs]
  go_loopw [10] (fun iv wr => ∃ j : Nat, j ≤ n ∧ iv = .int .i64 j ∧ Hid (∃ S, PS wr S s (ofP (l.take j)) ∧ (∀ k, S k → w.heap.size ≤ k)) ∧ Fr No w wr) (fun i _ => n - (intOf i).toNat)
  case atStart => exact ⟨0, by omega, rfl, H0, hf0⟩
  case round =>
    clear hw1 hs H0 hf0
    obtain ⟨j, hj, rfl, HS, hfr⟩ := hrel
    by_cases hlt : j < n
    · have hjl : j < l.length := by rw [Hn.out]; exact hlt
      obtain ⟨ad, rfl, -, x0, x1⟩ := (Hl.out.fr hfr (Nat.le_refl _) (fun _ _ _ e => e)).pair2 hjl
      have Hof : Hid (ofP (l.take (j + 1)) = if 0 ≤ l[j].1 ∧ l[j].1 ≤ 999 then putP (ofP (l.take j)) l[j].1.toNat l[j].2 else ofP (l.take j)) := Lib.hid (by rw [List.take_succ_eq_append_getElem hjl, ofP_snoc])
      have Hin := Lib.hid (ofP_inv _ (l.take j) rfl)
      generalize l[j] = x at *
      obtain ⟨k, v⟩ := x
      simp only at x0 x1 Hof
      generalize ofP (l.take j) = P at *
      have hf2 := hfr.alloc (.cells #[.int .i64 k, .int .i64 v] 54)
      have hb2 : Bk (wr.alloc (.cells #[.int .i64 k, .int .i64 v] 54)) wr.heap.size 54 #[.int .i64 k, .int .i64 v] := Bk.made wr _ _
      have y0 : (wr.alloc (.cells #[.int .i64 k, .int .i64 v] 54)).cell? ⟨wr.heap.size, 0, none⟩ = some (.int .i64 k) := hb2.cell 0
      have y1 : (wr.alloc (.cells #[.int .i64 k, .int .i64 v] 54)).cell? ⟨wr.heap.size, 1, none⟩ = some (.int .i64 v) := hb2.cell 1
      have HS2 : Hid (∃ S, PS (wr.alloc (.cells #[.int .i64 k, .int .i64 v] 54)) S s P ∧ (∀ k, S k → w.heap.size ≤ k)) := Lib.hid (by
        obtain ⟨S, h1, h2⟩ := HS.out
        exact ⟨S, h1.fr ((Fr.refl No wr).alloc _) (fun _ _ e => e), h2⟩)
      clear HS hb2 hfr
      by_cases hk : 0 ≤ k ∧ k ≤ 999
      · rw [if_pos hk] at Hof
        obtain ⟨S, hp1, hp2⟩ := HS2.out
        have hcal := pPut_any (w := wr.alloc (.cells #[.int .i64 k, .int .i64 v] 54)) k.toNat (by omega) v Hin.out hp1
        rw [show ((k.toNat : Nat) : Int) = k by omega] at hcal
        have Hp2 := Lib.hid hp2
        have Hlo := Lib.hid hp1.lt
        clear hp1 hp2 HS2
        go_wp2_with fail
        refine hcal.mono ?_
        rintro e w3 ⟨rfl, S3, h3, f3, n3⟩
        have HN := Lib.hid (show ∃ S, PS w3 S s (ofP (l.take (j + 1))) ∧ (∀ k, S k → w.heap.size ≤ k) from ⟨S3, by rw [Hof.out]; exact h3, fun x hx => (n3 x hx).elim (fun e => Hp2.out x e) (fun e => Nat.le_trans hf2.size e)⟩)
        have hf4 := hf2.trans' f3 (fun x hx e => by have := Hp2.out x e; omega)
        clear hcal h3 f3 n3 x0 x1 y0 y1
        go_wp2
        go_roundw
        case rel => exact ⟨j + 1, by omega, by go_num, HN, hf4⟩
        case measure => simp [intOf]; omega
      · rw [if_neg hk] at Hof
        have hcal := pPut_no k v (by omega) (some ⟨s, 0, none⟩) (wr.alloc (.cells #[.int .i64 k, .int .i64 v] 54))
        go_wp2_with fail
        refine hcal.mono ?_
        rintro e w3 ⟨rfl, f3⟩
        have HN : Hid (∃ S, PS w3 S s (ofP (l.take (j + 1))) ∧ (∀ k, S k → w.heap.size ≤ k)) := Lib.hid (by
          obtain ⟨S, h1, h2⟩ := HS2.out
          exact ⟨S, by rw [Hof.out]; exact h1.fr f3 (fun _ _ e => e), h2⟩)
        have hf4 := hf2.trans' f3 (fun _ _ e => e)
        clear hcal f3 x0 x1 y0 y1 HS2
        go_wp2
        go_roundw
        case rel => exact ⟨j + 1, by omega, by go_num, HN, hf4⟩
        case measure => simp [intOf]; omega
    · have hjn : l.take j = l := List.take_of_length_le (by rw [Hn.out]; omega)
      rw [hjn] at HS
      go_wp2
      go_ret
      obtain ⟨S, h1, h2⟩ := HS.out
      exact ⟨s, S, rfl, h1, h2, hfr⟩
end
end Go.Proofs.YthenadijiepmnaaGreat
