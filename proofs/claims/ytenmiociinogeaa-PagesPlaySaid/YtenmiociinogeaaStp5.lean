/- Package pages: a store in memory; a value is put, and got. -/
import Derived.Test.YtenmiociinogeaaWtn5
namespace Go.Proofs.Ytenmiociinogeaa
open Go.RowKit

/-- A store of package pages at s, in the blocks S: its pages. -/
def PS (w : World) (S : Nat → Prop) (s : Nat) (P : List Pg) : Prop :=
  ∃ v, Bk w s 28 #[v] ∧ S s ∧ (∀ k, S k → k < w.heap.size) ∧
    ((P = [] ∧ ∃ A c, v = .slice A 0 c) ∨ (P ≠ [] ∧ ∃ q o c hs, v = .slice (some ⟨q, o, none⟩) hs.length c ∧ LsN w S q o c hs P))
section
variable {w w' : World} {S S' : Nat → Prop} {s : Nat} {P : List Pg}
theorem PS.fr {T : Nat → Prop} (h : PS w S s P) (hf : Fr T w w') (hs : ∀ k, S k → ¬ T k) : PS w' S s P := by
  obtain ⟨v, h1, h2, h3, h4⟩ := h
  refine ⟨v, h1.fr hf (hs s h2), h2, fun k hk => Nat.lt_of_lt_of_le (h3 k hk) hf.size, ?_⟩
  rcases h4 with h4 | ⟨hne, q, o, c, l, e, h5⟩
  · exact .inl h4
  · exact .inr ⟨hne, q, o, c, l, e, h5.fr hf hs⟩
theorem PS.lt (h : PS w S s P) : ∀ k, S k → k < w.heap.size := by
  obtain ⟨v, _, _, h3, _⟩ := h
  exact h3
theorem PS.self (h : PS w S s P) : S s := by
  obtain ⟨v, _, h2, _⟩ := h
  exact h2
/-- What a call leaves of a store. -/
def Left (w : World) (S : Nat → Prop) (s : Nat) (P : List Pg) (w' : World) : Prop := ∃ S', PS w' S' s P ∧ Fr S w w' ∧ ∀ x, S' x → S x ∨ w.heap.size ≤ x
theorem ps_zero : ∃ cs, (∀ W, (zeroValue 28).run Try.prog W = .ok (.agg cs) W) ∧ ∀ (W : World) (s : Nat), Bk W s 28 cs → PS W (fun k => k = s) s [] :=
  ⟨#[.slice none 0 0], Try.zeroValue28, fun _ _ h => ⟨_, h, rfl, fun _ e => e ▸ h.lt, .inl ⟨rfl, none, 0, rfl⟩⟩⟩
/-- A list that a call has left is stored. -/
theorem PS.store {w1 : World} {v0 : Value} (hS : S s) {q o c : Nat} {hs : List Pgh} {P' : List Pg} (hL : LsN w1 (Sx S w w1) q o c hs P') (hF : Fr S w w1) (hne : P' ≠ []) (hb : Bk w1 s 28 #[v0]) :
    Left w S s P' (w1.setCell ⟨s, 0, none⟩ (.slice (some ⟨q, o, none⟩) hs.length c)) := by
  have hst : Fr (fun k => k = s) w1 (w1.setCell ⟨s, 0, none⟩ (.slice (some ⟨q, o, none⟩) hs.length c)) := (Fr.refl (fun k => k = s) w1).setCell (p := ⟨s, 0, none⟩) (.inl rfl) _
  have hsz := hst.size
  refine ⟨Sx S w w1, ⟨_, hb.put 0 _, .inl hS, fun k hk => Nat.lt_of_lt_of_le (hL.lt k hk) hsz, .inr ⟨hne, q, o, c, hs, by simp, ?_⟩⟩, hF.setCell (.inl hS) _, fun x hx => hx.imp_right (fun e => e.1)⟩
  refine ⟨hL.len, hL.le, hL.max, hL.hd.fr hst (fun e => hL.hd.apartB hb (by decide) e), fun i a1 a2 => (hL.pg i a1 a2).fr hst (fun e => (hL.pg i a1 a2).rg.apartB hb (by decide) e), hL.ap, hL.sq, hL.sg, fun k hk => Nat.lt_of_lt_of_le (hL.lt k hk) hsz⟩
/-- An empty list is stored. -/
theorem PS.store0 {w1 : World} {v0 : Value} (hS : S s) (hlt : ∀ k, S k → k < w.heap.size) {A : Option Addr} {c : Nat} (hF : Fr S w w1) (hb : Bk w1 s 28 #[v0]) :
    Left w S s [] (w1.setCell ⟨s, 0, none⟩ (.slice A 0 c)) := by
  have hst : Fr (fun k => k = s) w1 (w1.setCell ⟨s, 0, none⟩ (.slice A 0 c)) := (Fr.refl (fun k => k = s) w1).setCell (p := ⟨s, 0, none⟩) (.inl rfl) _
  have hsz := hst.size
  have hsz2 := hF.size
  exact ⟨S, ⟨_, hb.put 0 _, hS, fun k hk => by have := hlt k hk; omega, .inl ⟨rfl, A, c, by simp⟩⟩, hF.setCell (.inl hS) _, fun x hx => .inl hx⟩

theorem pos_lt {q : Pg} (hr : Rise q) {k : Nat} (h : hasK q k = true) : posP q k < q.length := ((hasK_pos q hr k).1 h).1
theorem pos_key {q : Pg} (hr : Rise q) {k : Nat} (h : hasK q k = true) (hl : posP q k < q.length) : q[posP q k].1 = k := ((hasK_pos q hr k).1 h).2
theorem pos_split {q : Pg} (hr : Rise q) (k : Nat) : (∀ x ∈ q.take (posP q k), x.1 < k) ∧ (∀ x ∈ q.drop (posP q k), k ≤ x.1) := by
  constructor
  · intro x hx
    obtain ⟨j, hj, rfl⟩ := List.mem_iff_getElem.1 hx
    have hj' : j < posP q k ∧ j < q.length := by rw [List.length_take] at hj; omega
    rw [List.getElem_take]
    exact (posP_iff q hr k j hj'.2).2 hj'.1
  · intro x hx
    obtain ⟨j, hj, rfl⟩ := List.mem_iff_getElem.1 hx
    have hj' : posP q k + j < q.length := by simp at hj; omega
    rw [List.getElem_drop]
    have := posP_iff q hr k (posP q k + j) hj'
    omega
/-- A new pair comes to its place. -/
theorem ins_pos {q : Pg} (hr : Rise q) {k : Nat} (v : Int) (h : hasK q k = false) : insP q k v = insL q [(k, v)] (posP q k) := by
  obtain ⟨h1, h2⟩ := pos_split hr k
  have h3 : ∀ x ∈ q.drop (posP q k), k < x.1 := fun x hx => by
    have := h2 x hx
    have h4 : x.1 ≠ k := fun e => by
      have : hasK q k = true := List.any_eq_true.2 ⟨x, List.mem_of_mem_drop hx, by simpa using e⟩
      rw [h] at this; cases this
    omega
  conv => lhs; rw [← List.take_append_drop (posP q k) q]
  have := insP_left (l := q.drop (posP q k)) (v := v) h1
  rw [this]
  have h5 := insP_right (l := []) (v := v) h3
  rw [List.nil_append] at h5
  rw [h5]
  unfold insL
  simp [insP]
/-- A pair that is there gets another value. -/
theorem set_pos {q : Pg} (hr : Rise q) {k : Nat} (v : Int) (h : hasK q k = true) : insP q k v = q.set (posP q k) (k, v) := by
  have hl := pos_lt hr h
  have hk := pos_key hr h hl
  rw [← ins_has q hr k v h]
  apply List.ext_getElem
  · simp
  · intro j h1 h2
    have hj : j < q.length := by simpa using h1
    rw [List.getElem_map]
    unfold rep
    by_cases e : j = posP q k
    · subst e
      rw [if_pos hk, List.getElem_set_self]
    · rw [List.getElem_set_ne (Ne.symm e), if_neg (fun e2 => e ?_)]
      have hP := List.pairwise_iff_getElem.1 hr
      rcases Nat.lt_trichotomy j (posP q k) with h3 | h3 | h3
      · have := hP j (posP q k) hj hl h3; omega
      · exact h3
      · have := hP (posP q k) j hl hj h3; omega

/-- What stands in one page has turned. -/
theorem LsN.turn {q o c : Nat} {hs : List Pgh} (h : LsN w S q o c hs P) {i : Nat} (hi : i < hs.length) {l : Pg} (hf : Fc hs[i].g hs[i].o (hs[i].o + hs[i].c * 2) w w') (hp : PgA w' hs[i] l) : LsN w' S q o c hs (P.set i l) ∧ Fr S w w' := by
  have hgS := h.sg _ (List.getElem_mem hi)
  have hfr : Fr S w w' := hf.fr.weak (fun k _ e => e ▸ hgS)
  refine ⟨⟨by simp [h.len], h.le, h.max, h.hd.fc hf (.inl (h.hd.apart (h.pg i hi (by rw [← h.len]; exact hi)).rg (by decide))), fun j h1 h2 => ?_, h.ap, h.sq, h.sg, fun k hk => Nat.lt_of_lt_of_le (h.lt k hk) hf.size⟩, hfr⟩
  by_cases e : j = i
  · subst e
    rw [List.getElem_set_self]
    exact hp
  · rw [List.getElem_set_ne (Ne.symm e)]
    rw [List.length_set] at h2
    refine (h.pg j h1 h2).fc hf ?_
    have hP := List.pairwise_iff_getElem.1 h.ap
    rcases Nat.lt_or_gt_of_ne e with h3 | h3
    · exact hP j i h1 hi h3
    · exact (hP i j hi h1 h3).symm

theorem prs_set (q : Pg) (i k : Nat) (v : Int) (hi : i < q.length) (hk : q[i].1 = k) : (prs q).set (i * 2 + 1) (.int .i64 v) = prs (q.set i (k, v)) := by
  apply List.ext_getElem?
  intro j
  rw [List.getElem?_set]
  by_cases hj : j / 2 < q.length
  · have h1 := prs_at (q.set i (k, v)) (j / 2) (by rw [List.length_set]; exact hj)
    have h2 := prs_at q (j / 2) hj
    rw [List.getElem_set] at h1
    have hj2 : j = j / 2 * 2 ∨ j = j / 2 * 2 + 1 := by omega
    by_cases e : i = j / 2
    · rw [if_pos e] at h1
      rcases hj2 with hj2 | hj2
      · rw [if_neg (by omega)]
        rw [← hj2] at h1 h2
        rw [h1.1, h2.1]
        have h3 : q[j / 2].1 = q[i].1 := by congr 2; exact e.symm
        rw [h3, hk]
      · rw [if_pos (by omega), if_pos (by rw [prs_len]; omega)]
        rw [← hj2] at h1
        rw [h1.2]
    · rw [if_neg e] at h1
      rw [if_neg (by omega)]
      rcases hj2 with hj2 | hj2
      · rw [← hj2] at h1 h2
        rw [h1.1, h2.1]
      · rw [← hj2] at h1 h2
        rw [h1.2, h2.2]
  · rw [if_neg (by omega), List.getElem?_eq_none (by rw [prs_len]; omega), List.getElem?_eq_none (by rw [prs_len, List.length_set]; omega)]
/-- A store's list lies apart from its own cell. -/
theorem LsN.less {q o c : Nat} {hs : List Pgh} {cs : Array Value} (h : LsN w S q o c hs P) (hb : Bk w s 28 cs) : LsN w (fun k => S k ∧ k ≠ s) q o c hs P :=
  ⟨h.len, h.le, h.max, h.hd, h.pg, h.ap, ⟨h.sq, h.hd.apartB hb (by decide)⟩, fun x hx => by
    obtain ⟨i, hi, rfl⟩ := List.mem_iff_getElem.1 hx
    exact ⟨h.sg _ hx, (h.pg i hi (by rw [← h.len]; exact hi)).rg.apartB hb (by decide)⟩, fun k hk => h.lt k hk.1⟩
/-- What a call has left of a store's list is stored. -/
theorem PS.closed {W W' : World} {v0 : Value} {q o c : Nat} {hs : List Pgh} {P' : List Pg} (hb : Bk w s 28 #[v0]) (hS : S s) (hlt : ∀ k, S k → k < w.heap.size) (hW : Fr No w W)
    (hL : LsN W' (Sx (fun k => S k ∧ k ≠ s) W W') q o c hs P') (hF : Fr (fun k => S k ∧ k ≠ s) W W') (hne : P' ≠ []) :
    Bk W' s 28 #[v0] ∧ Left w S s P' (W'.setCell ⟨s, 0, none⟩ (.slice (some ⟨q, o, none⟩) hs.length c)) := by
  have hb1 : Bk W' s 28 #[v0] := (hb.fr hW (fun e => e)).fr hF (fun e => e.2 rfl)
  have hs1 := hW.size
  have hs2 := hF.size
  refine ⟨hb1, PS.store hS (hL.mono (fun k hk => ?_) (fun k hk => ?_)) ((hW.weak (S' := S) (fun _ _ e => e.elim)).trans' hF (fun _ _ e => e.1)) hne hb1⟩
  · rcases hk with hk | hk
    · exact .inl hk.1
    · exact .inr ⟨by omega, hk.2⟩
  · rcases hk with hk | hk
    · have := hlt k hk; omega
    · exact hk.2

set_option maxHeartbeats 4000000 in
set_option maxRecDepth 100000 in
theorem pPut_any (k : Nat) (hk : k < 1000) (v : Int) (hi : InvP P) (h : PS w S s P) :
    Calls Try.prog 14 #[.pointer (some ⟨s, 0, none⟩), .int .i64 k, .int .i64 v] w fun e w' => e = .returned (.int .i64 0) ∧ Left w S s (putP P k v) w' := by
  have ht := pTakes_some ⟨s, 0, none⟩ k w
  rw [show decide (0 ≤ (k : Int) ∧ (k : Int) ≤ 999) = true by simp; omega] at ht
  obtain ⟨v0, hb, hS, hlt, hcase⟩ := h
  have Hb := Lib.hid hb
  have Hlt := Lib.hid hlt
  have HS := Lib.hid hS
  rcases hcase with ⟨rfl, A, c, rfl⟩ | ⟨hne, q, o, c, hs, rfl, hL⟩
  · have hfd := lfind_none A c k w
    have hw := fun W => with_none A c k v W
    have x0 : w.cell? ⟨s, 0, none⟩ = some (.slice A 0 c) := hb.cell 0
    have hput : putP [] k v = [[(k, v)]] := by unfold putP; rw [if_pos rfl]
    rw [hput]
    clear hb hlt hS hput
    go_enter Try.func14, Try.ntmps14
    go_wp2_with fail
    refine ht.mono ?_
    rintro e w1 ⟨rfl, rfl⟩
    go_wp2_with fail
    refine hfd.mono ?_
    rintro e w2 ⟨rfl, hf2⟩
    have x2 : w2.cell? ⟨s, 0, none⟩ = some (.slice A 0 c) := (Hb.out.fr hf2 (fun e => e)).cell 0
    have Hf2 := Lib.hid hf2
    clear hf2 x0 hfd ht
    go_wp2_with fail
    refine (hw _).mono ?_
    rintro e w3 ⟨q', o', c', hs', rfl, hL3, hf3⟩
    have Hb3 := Lib.hid ((Hb.out.fr Hf2.out (fun e => e)).fr hf3 (fun e => e))
    have x3 : w3.cell? ⟨s, 0, none⟩ = some (.slice A 0 c) := Hb3.out.cell 0
    have z3 := Hb3.out.frozen 0
    have HR : Hid (Left w1 S s [[(k, v)]] (w3.setCell ⟨s, 0, none⟩ (.slice (some ⟨q', o', none⟩) hs'.length c'))) := Lib.hid (by
      have hsz := Hf2.out.size
      have hsz3 := hf3.size
      have hF : Fr S w1 w3 := (Hf2.out.weak (S' := S) (fun _ _ e => e.elim)).trans' hf3 (fun _ _ e => e.elim)
      refine PS.store HS.out (hL3.mono (fun x hx => .inr ⟨by omega, hx.2⟩) (fun x hx => ?_)) hF (by simp) Hb3.out
      rcases hx with hx | hx
      · have := Hlt.out x hx; omega
      · exact hx.2)
    clear hL3 hf3 Hb3 hw x2
    go_wp2
    go_ret
    exact ⟨rfl, HR.out⟩
  · have hfd := lfind_any S q o c hs P hi hne k w hL
    have hat := atP_lt P k hne
    have hlen := hi.len
    have hll := hL.len
    have hats : atP P k < hs.length := by omega
    have hgd : P.getD (atP P k) [] = P[atP P k] := by simp [List.getD, hat]
    have hrise : Rise P[atP P k] := by
      obtain ⟨X, Y, hXY⟩ := List.append_of_mem (List.getElem_mem hat)
      have hr := hi.rise
      rw [hXY, List.flatten_append, List.flatten_cons] at hr
      exact (Rise.app (Rise.app hr).2.1).1
    have hone := hi.one _ (List.getElem_mem hat)
    rw [hgd] at hfd
    have x0 : w.cell? ⟨s, 0, none⟩ = some (.slice (some ⟨q, o, none⟩) hs.length c) := hb.cell 0
    have hput : putP P k v = withP P (atP P k) (insP P[atP P k] k v) := by
      unfold putP withP
      rw [if_neg hne, hgd]
    have HL := Lib.hid hL
    cases hb0 : hasK P[atP P k] k with
    | true =>
      have hpl := pos_lt hrise hb0
      have hset := set_pos hrise v hb0
      have hput2 : putP P k v = P.set (atP P k) (P[atP P k].set (posP P[atP P k] k) (k, v)) := by
        rw [hput, hset]
        unfold withP setP
        rw [if_neg (by rw [List.length_set]; omega), set_as _ _ _ hat]
      rw [hput2]
      rw [hb0] at hfd
      have hp := hL.pg _ hats hat
      have hR : Hid (∀ W, Fr No w W → W.cell? ⟨s, 0, none⟩ = some (.slice (some ⟨q, o, none⟩) hs.length c) ∧ W.cell? ⟨q, o + atP P k, none⟩ = some hs[atP P k].val ∧
          (∃ u, W.cell? ⟨hs[atP P k].g, hs[atP P k].o + posP P[atP P k] k * 2 + 1, none⟩ = some u) ∧ W.frozen? ⟨hs[atP P k].g, hs[atP P k].o + posP P[atP P k] k * 2 + 1, none⟩ = false ∧
          Left w S s (P.set (atP P k) (P[atP P k].set (posP P[atP P k] k) (k, v))) (W.setCell ⟨hs[atP P k].g, hs[atP P k].o + posP P[atP P k] k * 2 + 1, none⟩ (.int .i64 v))) := Lib.hid (fun W hW => by
        have hbW := hb.fr hW (fun e => e)
        have hLW := hL.since hW
        have hpW := hp.since hW
        have hgs : hs[atP P k].g ≠ s := hpW.rg.apartB hbW (by decide)
        have hsz := hW.size
        have hpr := (hpW.pair hpl)
        refine ⟨hbW.cell 0, hLW.hdr hats, ⟨_, hpr.2⟩, hpW.rg.froz _, ?_⟩
        have hle := hpW.le
        have hln := hpW.len
        have hfc : Fc hs[atP P k].g hs[atP P k].o (hs[atP P k].o + hs[atP P k].c * 2) W (W.setCell ⟨hs[atP P k].g, hs[atP P k].o + posP P[atP P k] k * 2 + 1, none⟩ (.int .i64 v)) := (Fc.refl _ _ _ W).cell _ (by omega) (by omega)
        have hpg : PgA (W.setCell ⟨hs[atP P k].g, hs[atP P k].o + posP P[atP P k] k * 2 + 1, none⟩ (.int .i64 v)) hs[atP P k] (P[atP P k].set (posP P[atP P k] k) (k, v)) := by
          refine ⟨by rw [List.length_set]; exact hpW.len, hle, hpW.max, ?_⟩
          have hput3 := hpW.rg.put1 (posP P[atP P k] k * 2 + 1) (.int .i64 v) (by rw [prs_len]; omega)
          have e1 := prs_set P[atP P k] (posP P[atP P k] k) k v hpl (pos_key hrise hb0 hpl)
          rw [← e1]
          have := hput3
          rwa [← Nat.add_assoc] at this
        have ht2 := hLW.turn hats hfc hpg
        have hlW : ∀ k, S k → k < W.heap.size := hLW.lt
        exact ⟨S, ⟨_, hbW.fr hfc.fr hgs.symm, hS, fun k hk => Nat.lt_of_lt_of_le (hlW k hk) hfc.size, .inr ⟨fun e => hne (by simpa using congrArg List.length e), q, o, c, hs, rfl, ht2.1⟩⟩, (hW.weak (S' := S) (fun _ _ e => e.elim)).trans' ht2.2 (fun _ _ e => e), fun x hx => .inl hx⟩)
      have hle := hp.le
      have hln := hp.len
      have hps : posP P[atP P k] k < hs[atP P k].n := by rw [hln]; exact hpl
      generalize (P.set (atP P k) (P[atP P k].set (posP P[atP P k] k) (k, v))) = P' at *
      generalize posP P[atP P k] k = ps at *
      clear hp hset hput hput2 hrise hgd hone hpl hb0
      generalize hs[atP P k] = x at *
      generalize atP P k = a at *
      clear hln
      clear hL HL hll hat hlen
      generalize hs.length = z at *
      obtain ⟨xg, xo, xn, xc⟩ := x
      simp only at hR hps hle
      clear hb hlt hS
      go_enter Try.func14, Try.ntmps14
      go_wp2_with fail
      refine ht.mono ?_
      rintro e w1 ⟨rfl, rfl⟩
      go_wp2_with fail
      refine hfd.mono ?_
      rintro e w2 ⟨rfl, hf2⟩
      obtain ⟨y0, y1, ⟨u, y2⟩, y3, hleft⟩ := hR.out _ hf2
      unfold Pgh.val at y1
      simp only at y1
      have HLf := Lib.hid hleft
      clear hR hf2 x0 hfd ht hleft
      go_wp2
      go_ret
      exact ⟨rfl, HLf.out⟩
    | false =>
      have hins := ins_pos hrise v hb0
      rw [hput, hins]
      rw [hb0] at hfd
      have hne2 : withP P (atP P k) (insL P[atP P k] [(k, v)] (posP P[atP P k] k)) ≠ [] := by
        unfold withP setP
        split <;> simp
      have hw := Lib.hid (show ∀ W, Fr No w W → W.cell? ⟨s, 0, none⟩ = some (.slice (some ⟨q, o, none⟩) hs.length c) ∧ Calls Try.prog 32 #[.slice (some ⟨q, o, none⟩) hs.length c, .int .i64 (atP P k), .int .i64 (posP P[atP P k] k), .agg #[.int .i64 k, .int .i64 v]] W (fun e W' => ∃ q' o' c' n', e = .returned (.slice (some ⟨q', o', none⟩) n' c') ∧ W'.cell? ⟨s, 0, none⟩ = some (.slice (some ⟨q, o, none⟩) hs.length c) ∧ W'.frozen? ⟨s, 0, none⟩ = false ∧ Left w S s (withP P (atP P k) (insL P[atP P k] [(k, v)] (posP P[atP P k] k))) (W'.setCell ⟨s, 0, none⟩ (.slice (some ⟨q', o', none⟩) n' c'))) from fun W hW => by
        have hbW := hb.fr hW (fun e => e)
        have hwa := with_any (atP P k) (posP P[atP P k] k) k v ((hL.since hW).less hbW) (by omega) hats (by rw [hgd]; exact posP_le _ _) (by rw [hgd]; omega)
        rw [hgd] at hwa
        refine ⟨hbW.cell 0, hwa.mono ?_⟩
        rintro e W' ⟨q', o', c', hs', rfl, h1, h2⟩
        have h3 := PS.closed hb hS hlt hW h1 h2 hne2
        exact ⟨q', o', c', hs'.length, rfl, h3.1.cell 0, h3.1.frozen 0, h3.2⟩)
      generalize withP P (atP P k) (insL P[atP P k] [(k, v)] (posP P[atP P k] k)) = P' at *
      generalize posP P[atP P k] k = ps at *
      generalize atP P k = a at *
      generalize hs.length = z at *
      clear hb hlt hS hne2 hL HL hll hat hlen hput hrise hgd hone hb0 hins
      go_enter Try.func14, Try.ntmps14
      go_wp2_with fail
      refine ht.mono ?_
      rintro e w1 ⟨rfl, rfl⟩
      go_wp2_with fail
      refine hfd.mono ?_
      rintro e w2 ⟨rfl, hf2⟩
      obtain ⟨y0, hcal⟩ := hw.out _ hf2
      clear hw hf2 x0 hfd ht
      go_wp2_with fail
      refine hcal.mono ?_
      rintro e w3 ⟨q', o', c', n', rfl, z0, z1, hleft⟩
      have HLf := Lib.hid hleft
      clear hcal hleft y0
      go_wp2
      go_ret
      exact ⟨rfl, HLf.out⟩
end
end Go.Proofs.Ytenmiociinogeaa
