/- Package pages: a value is got; keys that are none; no store. -/
import Derived.Test.YthenadijiepmnaaGreatStp5
import Derived.Test.YthenadijiepmnaaGreatRgt5
import Derived.Deep.RegionLawGrows
namespace Go.Proofs.YthenadijiepmnaaGreat
open Go.RowKit

section
variable {w : World} {S : Nat → Prop} {s : Nat} {P : List Pg}
theorem val_pos {q : Pg} (hr : Rise q) {k : Nat} (h : hasK q k = true) (hl : posP q k < q.length) : valP q k = some q[posP q k].2 := by
  have hk := pos_key hr h hl
  have h1 : q = q.take (posP q k) ++ q.drop (posP q k) := (List.take_append_drop _ _).symm
  have h2 := (pos_split hr k).1
  conv => lhs; rw [h1]
  rw [valP_app, valP_none (fun x hx => by have := h2 x hx; omega), Option.none_or, List.drop_eq_getElem_cons hl, valP, if_pos hk]
theorem val_no {q : Pg} {k : Nat} (h : hasK q k = false) : valP q k = none := valP_none (fun x hx e => by
  have : hasK q k = true := List.any_eq_true.2 ⟨x, hx, by simpa using e⟩
  rw [h] at this; cases this)

set_option maxHeartbeats 4000000 in
set_option maxRecDepth 100000 in
theorem pGet_any (k : Nat) (hk : k < 1000) (hi : InvP P) (h : PS w S s P) :
    Calls Tryz.prog 26 #[.pointer (some ⟨s, 0, none⟩), .int .i64 k] w fun e w' => e = .returned (.tuple #[.int .i64 (getA P k).1, .int .i64 (getA P k).2]) ∧ Fr No w w' := by
  have ht := pTakes_some ⟨s, 0, none⟩ k w
  rw [show decide (0 ≤ (k : Int) ∧ (k : Int) ≤ 999) = true by simp; omega] at ht
  obtain ⟨v0, hb, hS, hlt, hcase⟩ := h
  rcases hcase with ⟨rfl, A, c, rfl⟩ | ⟨hne, q, o, c, hs, rfl, hL⟩
  · have hfd := lfind_none A c k w
    have x0 : w.cell? ⟨s, 0, none⟩ = some (.slice A 0 c) := hb.cell 0
    have hg : getA [] k = (0, 5) := rfl
    rw [hg]
    clear hb hlt hS hg
    go_enter Tryz.func26, Tryz.ntmps26
    go_wp2_with fail
    refine ht.mono ?_
    rintro e w1 ⟨rfl, rfl⟩
    go_wp2_with fail
    refine hfd.mono ?_
    rintro e w2 ⟨rfl, hf2⟩
    clear x0 hfd ht
    go_wp2
    go_ret2
    exact ⟨rfl, hf2⟩
  · have hfd := lfind_any S q o c hs P hi hne k w hL
    have hat := atP_lt P k hne
    have hll := hL.len
    have hats : atP P k < hs.length := by omega
    have hgd : P.getD (atP P k) [] = P[atP P k] := by simp [List.getD, hat]
    have hrise : Rise P[atP P k] := by
      obtain ⟨X, Y, hXY⟩ := List.append_of_mem (List.getElem_mem hat)
      have hr := hi.rise
      rw [hXY, List.flatten_append, List.flatten_cons] at hr
      exact (Rise.app (Rise.app hr).2.1).1
    have hval := hi.val k
    rw [hgd] at hfd hval
    have x0 : w.cell? ⟨s, 0, none⟩ = some (.slice (some ⟨q, o, none⟩) hs.length c) := hb.cell 0
    cases hb0 : hasK P[atP P k] k with
    | true =>
      have hpl := pos_lt hrise hb0
      rw [val_pos hrise hb0 hpl] at hval
      have hg : getA P k = (P[atP P k][posP P[atP P k] k].2, 0) := by unfold getA; rw [hval]
      rw [hg]
      rw [hb0] at hfd
      have hp := hL.pg _ hats hat
      have hR : Hid (∀ W, Fr No w W → W.cell? ⟨s, 0, none⟩ = some (.slice (some ⟨q, o, none⟩) hs.length c) ∧ W.cell? ⟨q, o + atP P k, none⟩ = some hs[atP P k].val ∧
          W.cell? ⟨hs[atP P k].g, hs[atP P k].o + posP P[atP P k] k * 2 + 1, none⟩ = some (.int .i64 P[atP P k][posP P[atP P k] k].2)) := Lib.hid (fun W hW =>
        ⟨(hb.fr hW (fun e => e)).cell 0, (hL.since hW).hdr hats, ((hp.since hW).pair hpl).2⟩)
      have hle := hp.le
      have hln := hp.len
      have hps : posP P[atP P k] k < hs[atP P k].n := by rw [hln]; exact hpl
      clear hln hg hval
      generalize P[atP P k][posP P[atP P k] k].2 = v at *
      generalize posP P[atP P k] k = ps at *
      clear hp hrise hgd hpl hb0
      generalize hs[atP P k] = x at *
      generalize atP P k = a at *
      clear hL hll hat
      generalize hs.length = z at *
      obtain ⟨xg, xo, xn, xc⟩ := x
      simp only at hR hps hle
      clear hb hlt hS
      go_enter Tryz.func26, Tryz.ntmps26
      go_wp2_with fail
      refine ht.mono ?_
      rintro e w1 ⟨rfl, rfl⟩
      go_wp2_with fail
      refine hfd.mono ?_
      rintro e w2 ⟨rfl, hf2⟩
      obtain ⟨y0, y1, y2⟩ := hR.out _ hf2
      unfold Pgh.val at y1
      simp only at y1
      clear hR x0 hfd ht
      go_wp2
      go_ret2
      exact ⟨rfl, hf2⟩
    | false =>
      rw [val_no hb0] at hval
      have hg : getA P k = (0, 5) := by unfold getA; rw [hval]
      rw [hg]
      rw [hb0] at hfd
      generalize posP P[atP P k] k = ps at *
      generalize atP P k = a at *
      clear hL hll hat hrise hgd hb0 hval hg hats
      generalize hs.length = z at *
      clear hb hlt hS
      go_enter Tryz.func26, Tryz.ntmps26
      go_wp2_with fail
      refine ht.mono ?_
      rintro e w1 ⟨rfl, rfl⟩
      go_wp2_with fail
      refine hfd.mono ?_
      rintro e w2 ⟨rfl, hf2⟩
      clear x0 hfd ht
      go_wp2
      go_ret2
      exact ⟨rfl, hf2⟩

theorem takes_no (k : Int) (hk : k < 0 ∨ 999 < k) (p : Option Addr) (w : World) : Calls Tryz.prog 43 #[.pointer p, .int .i64 k] w fun e w' => e = .returned (.bool false) ∧ w' = w := by
  cases p with
  | none => exact pTakes_nil k w
  | some a =>
    have := pTakes_some a k w
    rwa [show decide (0 ≤ k ∧ k ≤ 999) = false by simp; omega] at this
theorem put_out (k v : Int) (p : Option Addr) (w : World) (ht : Calls Tryz.prog 43 #[.pointer p, .int .i64 k] w fun e w' => e = .returned (.bool false) ∧ w' = w) :
    Calls Tryz.prog 25 #[.pointer p, .int .i64 k, .int .i64 v] w fun e w' => e = .returned (.int .i64 3) ∧ Fr No w w' := by
  go_enter Tryz.func25, Tryz.ntmps25
  go_wp2_with fail
  refine ht.mono ?_
  rintro e w1 ⟨rfl, rfl⟩
  go_wp2
  go_ret
  exact ⟨rfl, Fr.refl _ _⟩
theorem get_out (k : Int) (p : Option Addr) (w : World) (ht : Calls Tryz.prog 43 #[.pointer p, .int .i64 k] w fun e w' => e = .returned (.bool false) ∧ w' = w) :
    Calls Tryz.prog 26 #[.pointer p, .int .i64 k] w fun e w' => e = .returned (.tuple #[.int .i64 0, .int .i64 3]) ∧ Fr No w w' := by
  go_enter Tryz.func26, Tryz.ntmps26
  go_wp2_with fail
  refine ht.mono ?_
  rintro e w1 ⟨rfl, rfl⟩
  go_wp2
  go_ret2
  exact ⟨rfl, Fr.refl _ _⟩
theorem del_out (k : Int) (p : Option Addr) (w : World) (ht : Calls Tryz.prog 43 #[.pointer p, .int .i64 k] w fun e w' => e = .returned (.bool false) ∧ w' = w) :
    Calls Tryz.prog 40 #[.pointer p, .int .i64 k] w fun e w' => e = .returned (.int .i64 3) ∧ Fr No w w' := by
  go_enter Tryz.func40, Tryz.ntmps40
  go_wp2_with fail
  refine ht.mono ?_
  rintro e w1 ⟨rfl, rfl⟩
  go_wp2
  go_ret
  exact ⟨rfl, Fr.refl _ _⟩
theorem pPut_no (k v : Int) (hk : k < 0 ∨ 999 < k) (p : Option Addr) (w : World) :
    Calls Tryz.prog 25 #[.pointer p, .int .i64 k, .int .i64 v] w fun e w' => e = .returned (.int .i64 3) ∧ Fr No w w' := put_out k v p w (takes_no k hk p w)
theorem pPut_nil (k v : Int) (w : World) : Calls Tryz.prog 25 #[.pointer none, .int .i64 k, .int .i64 v] w fun e w' => e = .returned (.int .i64 3) ∧ Fr No w w' := put_out k v none w (pTakes_nil k w)
theorem pGet_no (k : Int) (hk : k < 0 ∨ 999 < k) (p : Option Addr) (w : World) : Calls Tryz.prog 26 #[.pointer p, .int .i64 k] w fun e w' => e = .returned (.tuple #[.int .i64 0, .int .i64 3]) ∧ Fr No w w' := get_out k p w (takes_no k hk p w)
theorem pGet_nil (k : Int) (w : World) : Calls Tryz.prog 26 #[.pointer none, .int .i64 k] w fun e w' => e = .returned (.tuple #[.int .i64 0, .int .i64 3]) ∧ Fr No w w' := get_out k none w (pTakes_nil k w)
theorem pDel_no (k : Int) (hk : k < 0 ∨ 999 < k) (p : Option Addr) (w : World) : Calls Tryz.prog 40 #[.pointer p, .int .i64 k] w fun e w' => e = .returned (.int .i64 3) ∧ Fr No w w' := del_out k p w (takes_no k hk p w)
theorem pDel_nil (k : Int) (w : World) : Calls Tryz.prog 40 #[.pointer none, .int .i64 k] w fun e w' => e = .returned (.int .i64 3) ∧ Fr No w w' := del_out k none w (pTakes_nil k w)
end
end Go.Proofs.YthenadijiepmnaaGreat
/- Package pages: a pair leaves a page, and pages are joined. -/
namespace Go.Proofs.YthenadijiepmnaaGreat
open Go.RowKit

section
variable {w w' : World} {S : Nat → Prop} {q o c : Nat} {hs : List Pgh} {P : List Pg}
/-- Is there a page and a next one that have few pairs together? -/
def fewP (P : List Pg) (i : Nat) : Bool := decide (i + 1 < P.length ∧ (P.getD i []).length + (P.getD (i + 1) []).length ≤ 4)
set_option maxHeartbeats 2000000 in
theorem few_neg (i : Int) (h : i < 0) (A : Option Addr) (n c : Nat) (w : World) : Calls Tryz.prog 93 #[.slice A n c, .int .i64 i] w fun e w' => e = .returned (.bool false) ∧ Fr No w w' := by
  have h0 : decide ((0 : Int) ≤ i) = false := by simp; omega
  go_enter Tryz.func93, Tryz.ntmps93
  go_wp2_with fail
  go_quiet (fail)
  go_wp2
  go_ret
  exact ⟨rfl, (Fr.refl No w).drewN _⟩
set_option maxHeartbeats 2000000 in
theorem few_any (i : Nat) (hib : i ≤ 2000) (h : LsN w S q o c hs P) (hn : hs.length ≤ 2000) (hl : ∀ p ∈ P, p.length ≤ 1000) : Calls Tryz.prog 93 #[.slice (some ⟨q, o, none⟩) hs.length c, .int .i64 i] w fun e w' => e = .returned (.bool (fewP P i)) ∧ Fr No w w' := by
  by_cases hi : i + 1 < hs.length
  · have hi0 : i < hs.length := by omega
    have x0 := h.hdr hi0
    have x1 := h.hdr hi
    have hP0 := h.lenP hi0
    have hP1 := h.lenP hi
    have p0 := h.pg i hi0 hP0
    have p1 := h.pg (i + 1) hi hP1
    have e0 := p0.len
    have e1 := p1.len
    have l0 := hl _ (List.getElem_mem hP0)
    have l1 := hl _ (List.getElem_mem hP1)
    have hv : fewP P i = decide (((hs[i].n : Nat) : Int) + (hs[i + 1].n : Nat) ≤ 4) := by
      unfold fewP
      rw [show P.getD i [] = P[i] by simp [List.getD, hP0], show P.getD (i + 1) [] = P[i + 1] by simp [List.getD, hP1], ← e0, ← e1]
      rw [Bool.eq_iff_iff, decide_eq_true_eq, decide_eq_true_eq]
      omega
    rw [hv]
    have b0 : hs[i].n ≤ 1000 := by omega
    have b1 : hs[i + 1].n ≤ 1000 := by omega
    clear hv e0 e1 l0 l1 p0 p1
    generalize hs[i] = a at *
    generalize hs[i + 1] = b at *
    obtain ⟨ag, ao, an, ac⟩ := a
    obtain ⟨bg, bo, bn, bc⟩ := b
    unfold Pgh.val at x0 x1
    rw [show o + (i + 1) = o + i + 1 by omega] at x1
    simp only at x0 x1 b0 b1
    have x2 : w.cell? ⟨q, o + (i + 1), none⟩ = some (.slice (some ⟨bg, bo, none⟩) bn bc) := x1
    have hlt : (i : Int) + 1 < (hs.length : Int) := by omega
    have ht : ((i : Int) + 1).toNat = i + 1 := by omega
    have hw1 : IntKind.i64.wrap ((i : Int) + 1) = (i : Int) + 1 := by rw [IntKind.wrap_i64]; omega
    have hge : (0 : Int) ≤ (i : Int) + 1 := by omega
    clear h hP0 hP1 hi
    generalize hs.length = z at *
    go_enter Tryz.func93, Tryz.ntmps93
    go_wp2_with fail
    go_quiet (fail)
    go_wp2
    go_ret
    exact ⟨rfl, (Fr.refl No w).drewN _⟩
  · have hv : fewP P i = false := by
      unfold fewP
      rw [decide_eq_false_iff_not, ← h.len]
      omega
    rw [hv]
    have hlt : decide ((i : Int) + 1 < (hs.length : Int)) = false := by simp; omega
    clear h hv hi
    generalize hs.length = z at *
    go_enter Tryz.func93, Tryz.ntmps93
    go_wp2_with fail
    go_quiet (fail)
    go_wp2
    go_ret
    exact ⟨rfl, (Fr.refl No w).drewN _⟩
end
end Go.Proofs.YthenadijiepmnaaGreat
/- Package pages: two pages become one. -/
namespace Go.Proofs.YthenadijiepmnaaGreat
open Go.RowKit

section
variable {w w' : World} {S : Nat → Prop} {q o c : Nat} {hs : List Pgh} {P : List Pg}
/-- The library's Delete on a list of pages, and what is left. -/
theorem cut_page (i : Nat) (h : LsN w S q o c hs P) (hn : hs.length ≤ 2000) (hi : i < hs.length) :
    Calls Tryz.prog 92 #[.slice (some ⟨q, o, none⟩) hs.length c, .int .i64 i, .int .i64 ((i : Int) + 1)] w (LLeft w S (outL P i)) := by
  have hd := delPg q o hs.length c i (hs.map Pgh.val) w (by simp) (by omega) hi h.le h.max (by intro u hu; obtain ⟨y, _, rfl⟩ := List.mem_map.1 hu; rfl) h.hd
  refine hd.mono ?_
  rintro e w2 ⟨rfl, h1, h2⟩
  rw [Nat.mul_one] at h1 h2
  rw [Nat.mul_one] at h1
  have hout := h.out (w' := w2) hi h1 h2
  exact ⟨q, o, c, outL hs i, by rw [outL_len _ _ hi], hout.1, hout.2⟩
theorem prs_snoc (a b : Pg) : prs (a ++ b) = prs a ++ prs b := prs_app a b

/-- Behind the joining of two pages' pairs, ahead of the list's. -/
def Joined (w : World) (S : Nat → Prop) (q o c i : Nat) (hs : List Pgh) (P : List Pg) (W : World) (g' o' n' c' : Nat) : Prop :=
  LsN (W.setCell ⟨q, o + i, none⟩ (.slice (some ⟨g', o', none⟩) n' c')) (Sx S w (W.setCell ⟨q, o + i, none⟩ (.slice (some ⟨g', o', none⟩) n' c'))) q o c (hs.set i ⟨g', o', n', c'⟩) (P.set i (P.getD i [] ++ P.getD (i + 1) [])) ∧
    Fr S w (W.setCell ⟨q, o + i, none⟩ (.slice (some ⟨g', o', none⟩) n' c'))

set_option maxHeartbeats 8000000 in
set_option maxRecDepth 100000 in
theorem join_any (i : Nat) (h : LsN w S q o c hs P) (hn : hs.length ≤ 2000) (hi : i + 1 < hs.length) (hl : ∀ p ∈ P, p.length ≤ 1000) :
    Calls Tryz.prog 94 #[.slice (some ⟨q, o, none⟩) hs.length c, .int .i64 i] w (LLeft w S (setP P i 2 [P.getD i [] ++ P.getD (i + 1) []])) := by
  have hi0 : i < hs.length := by omega
  have hP0 := h.lenP hi0
  have hP1 := h.lenP hi
  have g0 : P.getD i [] = P[i] := by simp [List.getD, hP0]
  have g1 : P.getD (i + 1) [] = P[i + 1] := by simp [List.getD, hP1]
  have p0 := h.pg i hi0 hP0
  have p1 := h.pg (i + 1) hi hP1
  have l0 := hl _ (List.getElem_mem hP0)
  have l1 := hl _ (List.getElem_mem hP1)
  obtain ⟨x, hx⟩ : ∃ x, x = hs[i] := ⟨_, rfl⟩
  obtain ⟨y, hy⟩ : ∃ y, y = hs[i + 1] := ⟨_, rfl⟩
  have x0 := h.hdr hi0
  have x1 := h.hdr hi
  rw [← hx] at p0 x0
  rw [← hy] at p1 x1
  rw [← g0] at p0 l0
  rw [← g1] at p1 l1
  have e0 := p0.len
  have e1 := p1.len
  have le0 := p0.le
  have mx0 := p0.max
  have hqx : q ≠ x.g := h.hd.apart p0.rg (by decide)
  have hpo : outL (P.set i (P.getD i [] ++ P.getD (i + 1) [])) (i + 1) = setP P i 2 [P.getD i [] ++ P.getD (i + 1) []] := by
    unfold outL setP
    rw [set_drop _ _ _ _ (by omega), show i + 1 + 1 = i + 2 by omega]
    congr 1
    rw [← set_as P i _ hP0, List.take_append_of_le_length (by simp; omega), List.take_of_length_le (by simp; omega)]
  have HE := Lib.hid (show ∀ W g' o' n' c', Joined w S q o c i hs P W g' o' n' c' → Calls Tryz.prog 92 #[.slice (some ⟨q, o, none⟩) hs.length c, .int .i64 ((i : Int) + 1), .int .i64 ((i : Int) + 2)] (W.setCell ⟨q, o + i, none⟩ (.slice (some ⟨g', o', none⟩) n' c')) (LLeft w S (setP P i 2 [P.getD i [] ++ P.getD (i + 1) []])) from fun W g' o' n' c' hJ => by
    have hc := cut_page (i + 1) hJ.1 (by simpa using hn) (by simpa using hi)
    rw [hpo, List.length_set, show ((i + 1 : Nat) : Int) = (i : Int) + 1 by omega, show (i : Int) + 1 + 1 = (i : Int) + 2 by omega] at hc
    exact hc.mono (fun e w2 h2 => h2.sx h.lt hJ.2))
  have hct : ∀ W, (∃ W0, Fr No w W0 ∧ Fc x.g x.o (x.o + x.c * 2) W0 W) → (W.cell? ⟨q, o + i, none⟩) = some x.val ∧ W.frozen? ⟨q, o + i, none⟩ = false := fun W hW => by
    obtain ⟨W0, f0, f1⟩ := hW
    have hq1 : Rg W 105 1 q o c (hs.map Pgh.val) := (h.since f0).hd.fc f1 (.inl hqx)
    exact ⟨by rw [hx]; exact hq1.cell (by simp [hi0]), hq1.froz _⟩
  have HJ := Lib.hid (show ∀ W g' o' c', (∃ W0, Fr No w W0 ∧ Fc x.g x.o (x.o + x.c * 2) W0 W) → PgA W ⟨g', o', x.n + y.n, c'⟩ (P.getD i [] ++ P.getD (i + 1) []) → ((g' = x.g ∧ o' = x.o ∧ c' = x.c) ∨ w.heap.size ≤ g') → Joined w S q o c i hs P W g' o' (x.n + y.n) c' from fun W g' o' c' hW hp hg => by
    obtain ⟨W0, f0, f1⟩ := hW
    have hs0 := f0.size
    have hs1 := f1.size
    have hset := h.set (w' := W) hi0 (x := ⟨g', o', x.n + y.n, c'⟩) (l := P.getD i [] ++ P.getD (i + 1) []) (by rw [← hx]; exact (Fc.of0 _ _ _ f0).trans f1) hp (by
      rw [← hx]
      rcases hg with ⟨a1, a2, a3⟩ | a1
      · exact .inl ⟨a1, by show x.o ≤ o'; omega, Nat.le_of_eq (by show o' + c' * 2 = _; rw [a2, a3])⟩
      · exact .inr a1)
    exact hset)
  have hwl := h.lt _ (h.sg x (hx ▸ List.getElem_mem hi0))
  have Hct := Lib.hid hct
  have hin : (i : Int) + 1 < (hs.length : Int) := by omega
  have hin0 : i < hs.length := hi0
  have ht : ((i : Int) + 1).toNat = i + 1 := by omega
  have hw1 : IntKind.i64.wrap ((i : Int) + 1) = (i : Int) + 1 := by rw [IntKind.wrap_i64]; omega
  have hge : (0 : Int) ≤ (i : Int) + 1 := by omega
  generalize setP P i 2 [P.getD i [] ++ P.getD (i + 1) []] = P' at *
  obtain ⟨xg, xo, xn, xc⟩ := x
  obtain ⟨yg, yo, yn, yc⟩ := y
  unfold Pgh.val at x0 x1
  simp only at x0 x1 e0 e1 le0 mx0 hwl
  have hn0 : xn ≤ 1000 := by omega
  have hn1 : yn ≤ 1000 := by omega
  obtain ⟨i0, hi2, hz0, hz1, hz2⟩ := info_parts info_pair
  by_cases hroom : xn + yn ≤ xc
  · have s1 : Hid ((prs (P.getD (i + 1) [])).length = yn * 2) := Lib.hid (by rw [prs_len]; omega)
    have s2 : Hid (∀ j u, (prs (P.getD (i + 1) []))[j]? = some u → w.drew.cell? ((⟨yg, yo, none⟩ : Addr).add j) = some u) := Lib.hid (fun j u hu => by rw [Addr.add_lit]; exact p1.rg.drew.cell hu)
    have s3 : Hid (∀ j, j < (prs (P.getD (i + 1) [])).length → (w.drew.cell? ⟨xg, xo + xn * 2 + j, none⟩).isSome = true ∧ w.drew.frozen? ⟨xg, xo + xn * 2 + j, none⟩ = false) := Lib.hid (fun j hj => by
      rw [Nat.add_assoc]
      exact ⟨p0.rg.drew.there (by rw [prs_len] at hj; show xn * 2 + j < xc * 2; omega), p0.rg.drew.froz _⟩)
    obtain ⟨W1, hW1⟩ : ∃ W1, W1 = w.drew.setCells xg (xo + xn * 2) (prs (P.getD (i + 1) [])) := ⟨_, rfl⟩
    have hfc : Fc xg xo (xo + xc * 2) w.drew W1 := by
      rw [hW1]
      exact (Fc.refl xg xo (xo + xc * 2) w.drew).cells _ (by omega) (by rw [prs_len]; omega)
    have hW0 : ∃ W0, Fr No w W0 ∧ Fc xg xo (xo + xc * 2) W0 W1 := ⟨w.drew, (Fr.refl No w).drew, hfc⟩
    have hpg : PgA W1 ⟨xg, xo, xn + yn, xc⟩ (P.getD i [] ++ P.getD (i + 1) []) := ⟨by rw [List.length_append]; show xn + yn = _; omega, hroom, mx0, by
      rw [hW1]
      refine p0.rg.drew.put (xn * 2) _ _ (by rw [prs_len]; show xn * 2 + _ ≤ xc * 2; omega) (by rw [prs_len, List.length_append]; show _ ≤ xc * 2; omega) (fun j u hu => ?_)
      rw [prs_app, List.getElem?_append] at hu
      have hl0 : (prs (P.getD i [])).length = xn * 2 := by rw [prs_len]; omega
      rw [hl0] at hu
      by_cases hj : j < xn * 2
      · rw [if_pos hj] at hu
        exact .inr ⟨.inl hj, hu⟩
      · rw [if_neg hj] at hu
        exact .inl ⟨by omega, hu⟩⟩
    obtain ⟨z0, z1⟩ := hct W1 hW0
    unfold Pgh.val at z0
    simp only at z0
    have HJ1 := Lib.hid (HJ.out W1 xg xo xc hW0 hpg (.inl ⟨rfl, rfl, rfl⟩))
    have hcal := HE.out W1 xg xo (xn + yn) xc HJ1.out
    have HW : Hid (W1 = w.drew.setCells xg (xo + xn * 2) (prs (P.getD (i + 1) []))) := Lib.hid hW1
    have s4 := prs_one (P.getD (i + 1) [])
    have Hs4 := Lib.hid s4
    have Hmx := Lib.hid mx0
    clear s4 hpg hW0 hfc hW1 HJ HJ1 HE Hct hct hpo hP0 hP1 hqx hx hy h hl g0 g1 p0 p1 l0 l1 e0 e1 mx0 hz0 hz2
    have hxc : xc ≤ 9223372036854775807 := by have := Hmx.out; unfold maxLen at this; omega
    generalize hs.length = z at *
    clear hi hi0
    go_enter Tryz.func94, Tryz.ntmps94
    go_wp2_with fail
    go_region_law (refine step_append_room rfl (.tmp 11) (.tmp 17) 103 rfl 54 i0 2 Tryz.underlying103 hi2 hz1 xg xo xn xc (by simp [Act.eval]) ⟨yg, yo, none⟩ yn yc (prs (P.getD (i + 1) [])) (by simp [Act.eval]) s1.out s2.out Hs4.out (by omega) s3.out ?_; rw [← HW.out])
    all_goals
      go_wp2_with fail
      refine hcal.mono ?_
      rintro e w3 ⟨q', o', c', hs', rfl, r1, r2⟩
      clear hcal
      go_wp2
      go_ret
      exact ⟨q', o', c', hs', rfl, r1, r2⟩
  · have s1 : Hid ((prs (P.getD (i + 1) [])).length = yn * 2) := Lib.hid (by rw [prs_len]; omega)
    have s0 : Hid ((prs (P.getD i [])).length = xn * 2) := Lib.hid (by rw [prs_len]; omega)
    have s2 : Hid (∀ j u, (prs (P.getD (i + 1) []))[j]? = some u → w.drew.cell? ((⟨yg, yo, none⟩ : Addr).add j) = some u) := Lib.hid (fun j u hu => by rw [Addr.add_lit]; exact p1.rg.drew.cell hu)
    have s3 : Hid (∀ b, (some ⟨xg, xo, none⟩ : Option Addr) = some b → ∀ j u, (prs (P.getD i []))[j]? = some u → w.drew.cell? (b.add j) = some u) := Lib.hid (fun b hb j u hu => by
      injection hb with hb
      subst hb
      rw [Addr.add_lit]
      exact p0.rg.drew.cell hu)
    have HG := Lib.hid (show ∀ v' W, W.ownsRow w.drew.heap.size 54 2 v' (xn + yn) (prs (P.getD i []) ++ prs (P.getD (i + 1) [])) → w.drew.grownBy W none → 0 < xn + yn → ∃ g' c', v' = .slice (some ⟨g', 0, none⟩) (xn + yn) c' ∧ W.cell? ⟨q, o + i, none⟩ = some (.slice (some ⟨xg, xo, none⟩) xn xc) ∧ W.frozen? ⟨q, o + i, none⟩ = false ∧
        Calls Tryz.prog 92 #[.slice (some ⟨q, o, none⟩) hs.length c, .int .i64 ((i : Int) + 1), .int .i64 ((i : Int) + 2)] (W.setCell ⟨q, o + i, none⟩ (.slice (some ⟨g', 0, none⟩) (xn + yn) c')) (LLeft w S P') from fun v' W hown hgrow hpos => by
      obtain ⟨A', c', rfl, -, -, -⟩ := own_shape hown
      obtain ⟨g', rfl, hb, hnc, hcm, hrg⟩ := Rg.ofOwn hown hpos
      have hF : Fr No w W := ((Fr.refl No w).drew).grown hgrow (fun k e => by cases e)
      have hW0 : ∃ W0, Fr No w W0 ∧ Fc xg xo (xo + xc * 2) W0 W := ⟨W, hF, Fc.refl _ _ _ W⟩
      obtain ⟨z0, z1⟩ := hct W hW0
      have hpg : PgA W ⟨g', 0, xn + yn, c'⟩ (P.getD i [] ++ P.getD (i + 1) []) := ⟨by rw [List.length_append]; show xn + yn = _; omega, hnc, hcm, by rw [prs_app]; exact hrg⟩
      exact ⟨g', c', rfl, z0, z1, HE.out W g' 0 (xn + yn) c' (HJ.out W g' 0 c' hW0 hpg (.inr hb))⟩)
    have Hs4 := Lib.hid (prs_one (P.getD (i + 1) []))
    have Hmx := Lib.hid mx0
    clear HJ HE Hct hct hpo hP0 hP1 hqx hx hy h hl g0 g1 p0 p1 l0 l1 e0 e1 mx0
    have hxc : xc ≤ 9223372036854775807 := by have := Hmx.out; unfold maxLen at this; omega
    have hpos : 0 < xn + yn := by omega
    generalize hs.length = z at *
    clear hi hi0
    go_enter Tryz.func94, Tryz.ntmps94
    go_wp2_with fail
    go_region_law (refine step_append_grows rfl (.tmp 11) (.tmp 17) 103 rfl 54 i0 _ 2 16 Tryz.underlying103 hi2 hz0 hz1 hz2 rfl (by omega) (some ⟨xg, xo, none⟩) xn xc (prs (P.getD i [])) (by simp [Act.eval]) (fun e => by cases e) s0.out s3.out ⟨yg, yo, none⟩ yn yc (prs (P.getD (i + 1) [])) (by simp [Act.eval]) s1.out s2.out Hs4.out (by omega) (by unfold maxLen; omega) (by omega) ?_
                   intro v' W hown hgrow
                   obtain ⟨g', c', rfl, z0, z1, hcal⟩ := HG.out v' W hown hgrow hpos
                   clear hown hgrow)
    all_goals
      go_wp2_with fail
      refine hcal.mono ?_
      rintro e w3 ⟨q', o', c', hs', rfl, r1, r2⟩
      clear hcal
      go_wp2
      go_ret
      exact ⟨q', o', c', hs', rfl, r1, r2⟩
end
end Go.Proofs.YthenadijiepmnaaGreat
/- Package pages: a pair is taken out. -/
namespace Go.Proofs.YthenadijiepmnaaGreat
open Go.RowKit

/-- The pages once one of them has become L, with what is joined. -/
def delL (P : List Pg) (i : Nat) (L : Pg) : List Pg :=
  if L = [] then setP P i 1 [] else if i + 1 < P.length ∧ L.length + (P.getD (i + 1) []).length ≤ 4 then setP P i 2 [L ++ P.getD (i + 1) []]
  else if 0 < i ∧ (P.getD (i - 1) []).length + L.length ≤ 4 then setP P (i - 1) 2 [P.getD (i - 1) [] ++ L] else setP P i 1 [L]
theorem getD_set_self {α : Type} (P : List α) (i : Nat) (L d : α) (hi : i < P.length) : (P.set i L).getD i d = L := by simp [List.getD, hi]
theorem getD_set_ne {α : Type} (P : List α) (i j : Nat) (L d : α) (h : j ≠ i) : (P.set i L).getD j d = P.getD j d := by simp [List.getD, Ne.symm h]
theorem prs_outL (l : Pg) (a : Nat) : prs (outL l a) = (prs l).take (a * 2) ++ (prs l).drop ((a + 1) * 2) := by
  unfold outL
  rw [prs_app, prs_take, prs_drop]

section
variable {w w' : World} {S : Nat → Prop} {q o c : Nat} {hs : List Pgh} {P : List Pg}
set_option maxHeartbeats 8000000 in
set_option maxRecDepth 100000 in
theorem without_any (i a : Nat) (h : LsN w S q o c hs P) (hn : hs.length ≤ 1000) (hi : i < hs.length) (ha : a < (P.getD i []).length) (hl : ∀ p ∈ P, p.length ≤ 1000) :
    Calls Tryz.prog 59 #[.slice (some ⟨q, o, none⟩) hs.length c, .int .i64 i, .int .i64 a] w (LLeft w S (delL P i (outL (P.getD i []) a))) := by
  have hP := h.lenP hi
  have g0 : P.getD i [] = P[i] := by simp [List.getD, hP]
  have p0 := h.pg i hi hP
  have l0 := hl _ (List.getElem_mem hP)
  obtain ⟨x, hx⟩ : ∃ x, x = hs[i] := ⟨_, rfl⟩
  have x0 := h.hdr hi
  rw [← hx] at p0 x0
  rw [← g0] at p0 l0
  have e0 := p0.len
  have hqx : q ≠ x.g := h.hd.apart p0.rg (by decide)
  obtain ⟨L, hL⟩ : ∃ L, L = outL (P.getD i []) a := ⟨_, rfl⟩
  have hLl : L.length = x.n - 1 := by rw [hL, outL_len _ _ ha, e0]
  rw [← hL]
  have hd := delPr x.g x.o x.n x.c a (prs (P.getD i [])) w (by rw [prs_len, e0]) (by omega) (by omega) p0.le p0.max (prs_one _) p0.rg
  have hD := hd.mono (R' := fun e w1 => e = .returned (.slice (some ⟨x.g, x.o, none⟩) (x.n - 1) x.c) ∧ w1.cell? ⟨q, o + i, none⟩ = some x.val ∧ w1.frozen? ⟨q, o + i, none⟩ = false ∧
      LsN (w1.setCell ⟨q, o + i, none⟩ (Pgh.val ⟨x.g, x.o, x.n - 1, x.c⟩)) (Sx S w (w1.setCell ⟨q, o + i, none⟩ (Pgh.val ⟨x.g, x.o, x.n - 1, x.c⟩))) q o c (hs.set i ⟨x.g, x.o, x.n - 1, x.c⟩) (P.set i L) ∧ Fr S w (w1.setCell ⟨q, o + i, none⟩ (Pgh.val ⟨x.g, x.o, x.n - 1, x.c⟩))) (by
    rintro e w1 ⟨rfl, h1, h2⟩
    have hle := p0.le
    have hq1 : Rg w1 105 1 q o c (hs.map Pgh.val) := h.hd.fc h2 (.inl hqx)
    have hp : PgA w1 ⟨x.g, x.o, x.n - 1, x.c⟩ L := ⟨by rw [hLl], by show x.n - 1 ≤ x.c; omega, p0.max, by rw [hL, prs_outL]; exact h1⟩
    exact ⟨rfl, by rw [hx]; exact hq1.cell (by simp [hi]), hq1.froz _, h.set hi (by rw [← hx]; exact h2.more (Nat.le_refl _) (by omega)) hp (by rw [← hx]; exact .inl ⟨rfl, Nat.le_refl _, Nat.le_refl _⟩)⟩)
  clear hd
  have hlP1 : ∀ p ∈ P.set i L, p.length ≤ 1000 := fun p hp => by
    rcases List.mem_or_eq_of_mem_set hp with hp | rfl
    · exact hl p hp
    · omega
  have Hlt := Lib.hid h.lt
  -- what each way gives
  have HE : Hid (∀ W, LsN W (Sx S w W) q o c (hs.set i ⟨x.g, x.o, x.n - 1, x.c⟩) (P.set i L) → Fr S w W → x.n - 1 = 0 → Calls Tryz.prog 92 #[.slice (some ⟨q, o, none⟩) hs.length c, .int .i64 i, .int .i64 ((i : Int) + 1)] W (LLeft w S (delL P i L))) := Lib.hid (fun W hW hF h0 => by
    have hc := cut_page i hW (by simpa using (show hs.length ≤ 2000 by omega)) (by simpa using hi)
    have e1 : outL (P.set i L) i = delL P i L := by
      unfold delL outL setP
      rw [if_pos (List.eq_nil_of_length_eq_zero (by omega)), set_take _ _ _ _ (Nat.le_refl i), set_drop _ _ _ _ (by omega)]
      simp
    rw [e1, List.length_set] at hc
    exact hc.mono (fun e w2 h2 => h2.sx Hlt.out hF))
  have HF1 : Hid (∀ W, LsN W (Sx S w W) q o c (hs.set i ⟨x.g, x.o, x.n - 1, x.c⟩) (P.set i L) → Calls Tryz.prog 93 #[.slice (some ⟨q, o, none⟩) hs.length c, .int .i64 i] W fun e w' => e = .returned (.bool (fewP (P.set i L) i)) ∧ Fr No W w') := Lib.hid (fun W hW => by
    have := few_any i (by omega) hW (by simp; omega) hlP1
    rwa [List.length_set] at this)
  have HF2 : Hid (∀ W, LsN W (Sx S w W) q o c (hs.set i ⟨x.g, x.o, x.n - 1, x.c⟩) (P.set i L) → Calls Tryz.prog 93 #[.slice (some ⟨q, o, none⟩) hs.length c, .int .i64 ((i : Int) - 1)] W fun e w' => e = .returned (.bool (decide (0 < i) && fewP (P.set i L) (i - 1))) ∧ Fr No W w') := Lib.hid (fun W hW => by
    by_cases hi0 : i = 0
    · rw [show (decide (0 < i) && fewP (P.set i L) (i - 1)) = false by simp [hi0]]
      exact few_neg _ (by omega) _ _ _ W
    · have := few_any (i - 1) (by omega) hW (by simp; omega) hlP1
      rw [List.length_set, show ((i - 1 : Nat) : Int) = (i : Int) - 1 by omega] at this
      rw [show (decide (0 < i) && fewP (P.set i L) (i - 1)) = fewP (P.set i L) (i - 1) by rw [decide_eq_true (by omega : 0 < i), Bool.true_and]]
      exact this)
  have HJ1 : Hid (∀ W, LsN W (Sx S w W) q o c (hs.set i ⟨x.g, x.o, x.n - 1, x.c⟩) (P.set i L) → Fr S w W → x.n - 1 ≠ 0 → fewP (P.set i L) i = true → Calls Tryz.prog 94 #[.slice (some ⟨q, o, none⟩) hs.length c, .int .i64 i] W (LLeft w S (delL P i L))) := Lib.hid (fun W hW hF h0 hf => by
    unfold fewP at hf
    rw [decide_eq_true_eq, List.length_set, getD_set_self _ _ _ _ hP, getD_set_ne _ _ _ _ _ (by omega)] at hf
    have hc := join_any i hW (by simp; omega) (by rw [List.length_set, h.len]; exact hf.1) hlP1
    rw [getD_set_self _ _ _ _ hP, getD_set_ne _ _ _ _ _ (by omega)] at hc
    have e1 : setP (P.set i L) i 2 [L ++ P.getD (i + 1) []] = delL P i L := by
      unfold delL setP
      rw [if_neg (by intro e; rw [e] at hLl; simp at hLl; omega), if_pos hf, set_take _ _ _ _ (Nat.le_refl i), set_drop _ _ _ _ (by omega)]
    rw [e1, List.length_set] at hc
    exact hc.mono (fun e w2 h2 => h2.sx Hlt.out hF))
  have HJ2 : Hid (∀ W, LsN W (Sx S w W) q o c (hs.set i ⟨x.g, x.o, x.n - 1, x.c⟩) (P.set i L) → Fr S w W → x.n - 1 ≠ 0 → fewP (P.set i L) i = false → (decide (0 < i) && fewP (P.set i L) (i - 1)) = true → Calls Tryz.prog 94 #[.slice (some ⟨q, o, none⟩) hs.length c, .int .i64 ((i : Int) - 1)] W (LLeft w S (delL P i L))) := Lib.hid (fun W hW hF h0 hf hf2 => by
    unfold fewP at hf hf2
    rw [decide_eq_false_iff_not, List.length_set, getD_set_self _ _ _ _ hP, getD_set_ne _ _ _ _ _ (by omega)] at hf
    rw [Bool.and_eq_true, decide_eq_true_eq, decide_eq_true_eq, List.length_set] at hf2
    have hi1 : i - 1 + 1 = i := by omega
    rw [hi1, getD_set_self _ _ _ _ hP, getD_set_ne _ _ _ _ _ (by omega)] at hf2
    have hc := join_any (i - 1) hW (by simp; omega) (by rw [List.length_set]; omega) hlP1
    rw [hi1, getD_set_self _ _ _ _ hP, getD_set_ne _ _ _ _ _ (by omega)] at hc
    have e1 : setP (P.set i L) (i - 1) 2 [P.getD (i - 1) [] ++ L] = delL P i L := by
      unfold delL setP
      rw [if_neg (by intro e; rw [e] at hLl; simp at hLl; omega), if_neg hf, if_pos ⟨hf2.1, hf2.2.2⟩, set_take _ _ _ _ (by omega), set_drop _ _ _ _ (by omega)]
    rw [e1, List.length_set, show ((i - 1 : Nat) : Int) = (i : Int) - 1 by omega] at hc
    exact hc.mono (fun e w2 h2 => h2.sx Hlt.out hF))
  have HN : Hid (∀ W, LsN W (Sx S w W) q o c (hs.set i ⟨x.g, x.o, x.n - 1, x.c⟩) (P.set i L) → Fr S w W → x.n - 1 ≠ 0 → fewP (P.set i L) i = false → (decide (0 < i) && fewP (P.set i L) (i - 1)) = false → LLeft w S (delL P i L) (.returned (.slice (some ⟨q, o, none⟩) hs.length c)) W) := Lib.hid (fun W hW hF h0 hf hf2 => by
    unfold fewP at hf hf2
    rw [decide_eq_false_iff_not, List.length_set, getD_set_self _ _ _ _ hP, getD_set_ne _ _ _ _ _ (by omega)] at hf
    have e1 : P.set i L = delL P i L := by
      unfold delL
      rw [if_neg (by intro e; rw [e] at hLl; simp at hLl; omega), if_neg hf, if_neg]
      · unfold setP
        rw [set_as _ _ _ hP]
      · rintro ⟨h5, h6⟩
        rw [decide_eq_true h5, Bool.true_and, decide_eq_false_iff_not, List.length_set, show i - 1 + 1 = i by omega, getD_set_self _ _ _ _ hP, getD_set_ne _ _ _ _ _ (by omega)] at hf2
        exact hf2 ⟨hP, h6⟩
    rw [← e1]
    exact ⟨q, o, c, _, by rw [List.length_set], hW, hF⟩)
  have Hc4 := Lib.hid (show ∀ W, LsN W (Sx S w W) q o c (hs.set i ⟨x.g, x.o, x.n - 1, x.c⟩) (P.set i L) → W.cell? ⟨q, o + i, none⟩ = some (Pgh.val ⟨x.g, x.o, x.n - 1, x.c⟩) from fun W hW => by
    have := hW.hdr (i := i) (by simpa using hi)
    simpa using this)
  have Hfr := Lib.hid (show ∀ W W', LsN W (Sx S w W) q o c (hs.set i ⟨x.g, x.o, x.n - 1, x.c⟩) (P.set i L) ∧ Fr S w W → Fr No W W' → LsN W' (Sx S w W') q o c (hs.set i ⟨x.g, x.o, x.n - 1, x.c⟩) (P.set i L) ∧ Fr S w W' from fun W W' hW hF => by
    have hf1 : Fr S w W' := hW.2.trans' hF (fun _ _ e => e.elim)
    have hs1 := hF.size
    have hs2 := hf1.size
    exact ⟨(hW.1.since hF).mono (fun k hk => hk.imp_right (fun e => ⟨e.1, by omega⟩)) (Sx.lt Hlt.out hs2), hf1⟩)
  have hin : i < hs.length := hi
  have ha2 : a ≤ 1000 := by omega
  have hx2 : x.n ≤ 1000 := by omega
  clear hP g0 p0 l0 hx hqx hL hLl hlP1 e0 h hl ha
  generalize hg : (decide (0 < i) && fewP (P.set i L) (i - 1)) = f2 at *
  generalize fewP (P.set i L) i = f1 at *
  generalize delL P i L = P' at *
  clear hg hi
  generalize hs.length = n at *
  obtain ⟨xg, xo, xn, xc⟩ := x
  unfold Pgh.val at x0 hD Hc4
  simp only at *
  clear Hlt
  go_enter Tryz.func59, Tryz.ntmps59
  go_wp2_with fail
  refine hD.mono ?_
  rintro e w1 ⟨rfl, z0, z1, hL1, hF1⟩
  have HB := Lib.hid (And.intro hL1 hF1)
  clear hD hL1 hF1 x0
  generalize xn - 1 = m at *
  by_cases hm : m = 0
  · have hmb : ((m : Int) == 0) = true := by simp [hm]
    have hm1 : (m : Int) = 0 := by omega
    have Hm := Lib.hid hm
    clear hm
    go_wp2_with fail
    obtain ⟨w2, hw2⟩ : ∃ w2, w2 = w1.setCell ⟨q, o + i, none⟩ (.slice (some ⟨xg, xo, none⟩) m xc) := ⟨_, rfl⟩
    rw [← hw2] at HB ⊢
    refine (HE.out w2 HB.out.1 HB.out.2 Hm.out).mono ?_
    rintro e w3 ⟨q', o', c', hs', rfl, r1, r2⟩
    clear HE HF1 HF2 HJ1 HJ2 HN HB Hfr Hc4 hw2 z0 z1
    go_wp2
    go_ret
    exact ⟨q', o', c', hs', rfl, r1, r2⟩
  · have hmb : ((m : Int) == 0) = false := by simp; omega
    have hm1 : ¬ (m : Int) = 0 := by omega
    have Hm := Lib.hid hm
    clear hm HE
    go_wp2_with fail
    obtain ⟨w2, hw2⟩ : ∃ w2, w2 = w1.setCell ⟨q, o + i, none⟩ (.slice (some ⟨xg, xo, none⟩) m xc) := ⟨_, rfl⟩
    rw [← hw2] at HB ⊢
    refine (HF1.out w2 HB.out.1).mono ?_
    rintro e w3 ⟨rfl, hf3⟩
    have HB3 := Lib.hid (Hfr.out _ _ HB.out hf3)
    clear HF1 HB hf3 hw2 z0 z1 Hc4
    cases f1 with
    | true =>
      clear HF2 HJ2 HN
      go_wp2_with fail
      refine (HJ1.out w3 HB3.out.1 HB3.out.2 Hm.out (by first | rfl | trivial)).mono ?_
      rintro e w4 ⟨q', o', c', hs', rfl, r1, r2⟩
      clear HJ1 HB3 Hfr
      go_wp2
      go_ret
      exact ⟨q', o', c', hs', rfl, r1, r2⟩
    | false =>
      clear HJ1
      go_wp2_with fail
      refine (HF2.out w3 HB3.out.1).mono ?_
      rintro e w4 ⟨rfl, hf4⟩
      have HB4 := Lib.hid (Hfr.out _ _ HB3.out hf4)
      clear HF2 HB3 hf4 Hfr
      cases f2 with
      | true =>
        clear HN
        go_wp2_with fail
        refine (HJ2.out w4 HB4.out.1 HB4.out.2 Hm.out (by first | rfl | trivial) (by first | rfl | trivial)).mono ?_
        rintro e w5 ⟨q', o', c', hs', rfl, r1, r2⟩
        clear HJ2 HB4
        go_wp2
        go_ret
        exact ⟨q', o', c', hs', rfl, r1, r2⟩
      | false =>
        clear HJ2
        have HR := Lib.hid (HN.out w4 HB4.out.1 HB4.out.2 Hm.out (by first | rfl | trivial) (by first | rfl | trivial))
        clear HN HB4
        go_wp2
        go_ret
        exact HR.out
end
end Go.Proofs.YthenadijiepmnaaGreat
/- Package pages: a key is taken out of a store. -/
namespace Go.Proofs.YthenadijiepmnaaGreat
open Go.RowKit

/-- What Delete answers. -/
def delA (P : List Pg) (k : Nat) : Int := if (valP P.flatten k).isSome = true then 0 else 5
def delQ (P : List Pg) (k : Nat) : List Pg := if (valP P.flatten k).isSome = true then delP P k else P
section
variable {w w' : World} {S : Nat → Prop} {s : Nat} {P : List Pg}
/-- What a call has left of a store's list is stored, also where nothing is left. -/
theorem PS.closed0 {W W' : World} {v0 : Value} {q o c : Nat} {hs : List Pgh} {P' : List Pg} (hb : Bk w s 70 #[v0]) (hS : S s) (hlt : ∀ k, S k → k < w.heap.size) (hW : Fr No w W)
    (hL : LsN W' (Sx (fun k => S k ∧ k ≠ s) W W') q o c hs P') (hF : Fr (fun k => S k ∧ k ≠ s) W W') :
    Bk W' s 70 #[v0] ∧ Left w S s P' (W'.setCell ⟨s, 0, none⟩ (.slice (some ⟨q, o, none⟩) hs.length c)) := by
  by_cases hne : P' = []
  · have hb1 : Bk W' s 70 #[v0] := (hb.fr hW (fun e => e)).fr hF (fun e => e.2 rfl)
    have hl := hL.len
    subst hne
    have h0 : hs.length = 0 := hl
    rw [h0]
    exact ⟨hb1, PS.store0 hS hlt ((hW.weak (S' := S) (fun _ _ e => e.elim)).trans' hF (fun _ _ e => e.1)) hb1⟩
  · exact PS.closed hb hS hlt hW hL hF hne

set_option maxHeartbeats 4000000 in
set_option maxRecDepth 100000 in
theorem pDel_any (k : Nat) (hk : k < 1000) (hi : InvP P) (h : PS w S s P) :
    Calls Tryz.prog 40 #[.pointer (some ⟨s, 0, none⟩), .int .i64 k] w fun e w' => e = .returned (.int .i64 (delA P k)) ∧ Left w S s (delQ P k) w' := by
  have ht := pTakes_some ⟨s, 0, none⟩ k w
  rw [show decide (0 ≤ (k : Int) ∧ (k : Int) ≤ 999) = true by simp; omega] at ht
  have hP0 := h
  obtain ⟨v0, hb, hS, hlt, hcase⟩ := h
  rcases hcase with ⟨rfl, A, c, rfl⟩ | ⟨hne, q, o, c, hs, rfl, hL⟩
  · have hfd := lfind_none A c k w
    have x0 : w.cell? ⟨s, 0, none⟩ = some (.slice A 0 c) := hb.cell 0
    have hg : delA [] k = 5 := rfl
    have hg2 : delQ [] k = [] := rfl
    rw [hg, hg2]
    have HL := Lib.hid (show ∀ W, Fr No w W → Left w S s [] W from fun W hW => ⟨S, hP0.fr hW (fun _ _ e => e), hW.weak (fun _ _ e => e.elim), fun _ e => .inl e⟩)
    clear hb hlt hS hg hg2 hP0
    go_enter Tryz.func40, Tryz.ntmps40
    go_wp2_with fail
    refine ht.mono ?_
    rintro e w1 ⟨rfl, rfl⟩
    go_wp2_with fail
    refine hfd.mono ?_
    rintro e w2 ⟨rfl, hf2⟩
    have HR := Lib.hid (HL.out _ hf2)
    clear x0 hfd ht HL hf2
    go_wp2
    go_ret
    exact ⟨rfl, HR.out⟩
  · have hfd := lfind_any S q o c hs P hi hne k w hL
    have hat := atP_lt P k hne
    have hll := hL.len
    have hlen := hi.len
    have hats : atP P k < hs.length := by omega
    have hgd : P.getD (atP P k) [] = P[atP P k] := by simp [List.getD, hat]
    have hrise : Rise P[atP P k] := by
      obtain ⟨X, Y, hXY⟩ := List.append_of_mem (List.getElem_mem hat)
      have hr := hi.rise
      rw [hXY, List.flatten_append, List.flatten_cons] at hr
      exact (Rise.app (Rise.app hr).2.1).1
    have hval := hi.val k
    rw [hgd] at hfd hval
    have x0 : w.cell? ⟨s, 0, none⟩ = some (.slice (some ⟨q, o, none⟩) hs.length c) := hb.cell 0
    cases hb0 : hasK P[atP P k] k with
    | true =>
      have hpl := pos_lt hrise hb0
      rw [val_pos hrise hb0 hpl] at hval
      have hg : delA P k = 0 := by unfold delA; rw [hval]; rfl
      have hg2 : delQ P k = delL P (atP P k) (outL P[atP P k] (posP P[atP P k] k)) := by
        unfold delQ
        rw [hval, if_pos (by rfl : (some _ : Option Int).isSome = true)]
        unfold delP
        simp only
        rw [hgd, out_idx _ hrise k _ hpl (pos_key hrise hb0 hpl)]
        rfl
      rw [hg, hg2]
      rw [hb0] at hfd
      have hR : Hid (∀ W, Fr No w W → W.cell? ⟨s, 0, none⟩ = some (.slice (some ⟨q, o, none⟩) hs.length c) ∧ Calls Tryz.prog 59 #[.slice (some ⟨q, o, none⟩) hs.length c, .int .i64 (atP P k), .int .i64 (posP P[atP P k] k)] W (fun e W' => ∃ q' o' c' n', e = .returned (.slice (some ⟨q', o', none⟩) n' c') ∧ W'.cell? ⟨s, 0, none⟩ = some (.slice (some ⟨q, o, none⟩) hs.length c) ∧ W'.frozen? ⟨s, 0, none⟩ = false ∧ Left w S s (delL P (atP P k) (outL P[atP P k] (posP P[atP P k] k))) (W'.setCell ⟨s, 0, none⟩ (.slice (some ⟨q', o', none⟩) n' c')))) := Lib.hid (fun W hW => by
        have hbW := hb.fr hW (fun e => e)
        have hwa := without_any (atP P k) (posP P[atP P k] k) ((hL.since hW).less hbW) (by omega) hats (by rw [hgd]; exact hpl) (fun p hp => by have := hi.one p hp; omega)
        rw [hgd] at hwa
        refine ⟨hbW.cell 0, hwa.mono ?_⟩
        rintro e W' ⟨q', o', c', hs', rfl, h1, h2⟩
        have h3 := PS.closed0 hb hS hlt hW h1 h2
        exact ⟨q', o', c', hs'.length, rfl, h3.1.cell 0, h3.1.frozen 0, h3.2⟩)
      clear hg hg2 hval hP0
      generalize delL P (atP P k) (outL P[atP P k] (posP P[atP P k] k)) = P' at *
      generalize posP P[atP P k] k = ps at *
      clear hrise hgd hpl hb0
      generalize atP P k = a at *
      clear hL hll hat hlen hats
      generalize hs.length = z at *
      clear hb hlt hS
      go_enter Tryz.func40, Tryz.ntmps40
      go_wp2_with fail
      refine ht.mono ?_
      rintro e w1 ⟨rfl, rfl⟩
      go_wp2_with fail
      refine hfd.mono ?_
      rintro e w2 ⟨rfl, hf2⟩
      obtain ⟨y0, hcal⟩ := hR.out _ hf2
      clear hR x0 hfd ht hf2
      go_wp2_with fail
      refine hcal.mono ?_
      rintro e w3 ⟨q', o', c', n', rfl, z0, z1, hleft⟩
      have HLf := Lib.hid hleft
      clear hcal hleft y0
      go_wp2
      go_ret
      exact ⟨rfl, HLf.out⟩
    | false =>
      rw [val_no hb0] at hval
      have hg : delA P k = 5 := by unfold delA; rw [hval]; rfl
      have hg2 : delQ P k = P := by unfold delQ; rw [hval]; rfl
      rw [hg, hg2]
      rw [hb0] at hfd
      have HL := Lib.hid (show ∀ W, Fr No w W → Left w S s P W from fun W hW => ⟨S, hP0.fr hW (fun _ _ e => e), hW.weak (fun _ _ e => e.elim), fun _ e => .inl e⟩)
      generalize posP P[atP P k] k = ps at *
      generalize atP P k = a at *
      clear hL hll hat hrise hgd hb0 hval hg hats hP0 hg2 hlen
      generalize hs.length = z at *
      clear hb hlt hS
      go_enter Tryz.func40, Tryz.ntmps40
      go_wp2_with fail
      refine ht.mono ?_
      rintro e w1 ⟨rfl, rfl⟩
      go_wp2_with fail
      refine hfd.mono ?_
      rintro e w2 ⟨rfl, hf2⟩
      have HR := Lib.hid (HL.out _ hf2)
      clear x0 hfd ht HL hf2
      go_wp2
      go_ret
      exact ⟨rfl, HR.out⟩
end
end Go.Proofs.YthenadijiepmnaaGreat
