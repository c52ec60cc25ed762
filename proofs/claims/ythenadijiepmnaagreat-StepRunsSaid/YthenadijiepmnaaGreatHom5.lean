/- Package pages: to which page a key belongs, and where in a page it is. -/
import Derived.Test.YthenadijiepmnaaGreatLay5
import Derived.Test.YthenadijiepmnaaGreatRgt5
import Derived.Deep.LoopGhost
import Derived.Deep.QuietTactic
namespace Go.Proofs.YthenadijiepmnaaGreat
open Go.RowKit

/-- How many keys of a page are below a key. -/
def posP (q : Pg) (k : Nat) : Nat := q.countP fun x => decide (x.1 < k)
theorem posP_le (q : Pg) (k : Nat) : posP q k ≤ q.length := List.countP_le_length
theorem posP_iff : ∀ (q : Pg), Rise q → ∀ (k t : Nat) (ht : t < q.length), (q[t].1 < k ↔ t < posP q k)
  | [], _, _, t, ht => by simp at ht
  | x :: r, hr, k, t, ht => by
    obtain ⟨h1, h2⟩ := List.pairwise_cons.1 hr
    have ih := posP_iff r h2 k
    unfold posP at ih ⊢
    rw [List.countP_cons]
    by_cases hx : x.1 < k
    · rw [if_pos (by simpa using hx)]
      cases t with
      | zero => simpa using hx
      | succ t =>
        rw [List.getElem_cons_succ, ih t (by simpa using ht)]
        omega
    · have h0 : r.countP (fun x => decide (x.1 < k)) = 0 := by
        rw [List.countP_eq_zero]
        intro y hy
        have := h1 y hy
        simp
        omega
      rw [if_neg (by simpa using hx), h0]
      constructor
      · intro h
        cases t with
        | zero => exact absurd h hx
        | succ t =>
          have := h1 _ (List.getElem_mem (by simpa using ht : t < r.length))
          rw [List.getElem_cons_succ] at h
          omega
      · intro h
        omega
theorem hasK_pos (q : Pg) (hr : Rise q) (k : Nat) : hasK q k = true ↔ ∃ h : posP q k < q.length, q[posP q k].1 = k := by
  unfold hasK
  rw [List.any_eq_true]
  constructor
  · rintro ⟨x, hx, he⟩
    obtain ⟨t, ht, rfl⟩ := List.mem_iff_getElem.1 hx
    have he : q[t].1 = k := by simpa using he
    have h1 := posP_iff q hr k t ht
    have h2 : t = posP q k := by
      rcases Nat.lt_trichotomy t (posP q k) with h | h | h
      · have := h1.2 h; omega
      · exact h
      · have h3 := posP_iff q hr k (posP q k) (by omega)
        have h4 := List.pairwise_iff_getElem.1 hr (posP q k) t (by omega) ht h
        have := h3.1 (by omega)
        omega
    subst h2
    exact ⟨ht, he⟩
  · rintro ⟨h, e⟩
    exact ⟨_, List.getElem_mem h, by simpa using e⟩

set_option maxHeartbeats 1000000 in
theorem pTakes_some (a : Addr) (k : Int) (w : World) : Calls Tryz.prog 43 #[.pointer (some a), .int .i64 k] w fun e w' => e = .returned (.bool (decide (0 ≤ k ∧ k ≤ 999))) ∧ w' = w := by
  by_cases h1 : 0 ≤ k
  · go_enter Tryz.func43, Tryz.ntmps43
    go_wp2
    go_ret
    simp [h1]
  · go_enter Tryz.func43, Tryz.ntmps43
    go_wp2
    go_ret
    simp
    omega
theorem pTakes_nil (k : Int) (w : World) : Calls Tryz.prog 43 #[.pointer none, .int .i64 k] w fun e w' => e = .returned (.bool false) ∧ w' = w := by
  go_enter Tryz.func43, Tryz.ntmps43
  go_wp2
  go_ret
  exact ⟨rfl, rfl⟩
theorem pAll_some (s : Nat) (v : Value) (w : World) (h : w.cell? ⟨s, 0, none⟩ = some v) (hv : ∃ A n c, v = .slice A n c) : Calls Tryz.prog 38 #[.pointer (some ⟨s, 0, none⟩)] w fun e w' => e = .returned v ∧ w' = w := by
  obtain ⟨A, n, c, rfl⟩ := hv
  go_enter Tryz.func38, Tryz.ntmps38
  go_wp2
  go_ret
  exact ⟨rfl, rfl⟩
theorem pAll_nil (w : World) : Calls Tryz.prog 38 #[.pointer none] w fun e w' => e = .returned (.slice none 0 0) ∧ w' = w := by
  go_enter Tryz.func38, Tryz.ntmps38
  go_wp2
  go_ret
  exact ⟨rfl, rfl⟩
theorem pFirst_any (g o n c : Nat) (x : Int) (w : World) (hn : 0 < n) (h : w.cell? ⟨g, o, none⟩ = some (.int .i64 x)) : Calls Tryz.prog 90 #[.slice (some ⟨g, o, none⟩) n c] w fun e w' => e = .returned (.int .i64 x) ∧ w' = w := by
  go_enter Tryz.func90, Tryz.ntmps90
  go_wp2
  go_ret
  exact ⟨rfl, rfl⟩
theorem isNaN_any (x : Int) (w : World) : Calls Tryz.prog 82 #[.int .i64 x] w fun e w' => e = .returned (.bool false) ∧ w' = w := by
  go_enter Tryz.func82, Tryz.ntmps82
  go_wp2
  go_ret
  simp
def cmpI (x y : Int) : Int := if x < y then -1 else if y < x then 1 else 0
theorem cmpI_lt (x y : Int) : cmpI x y < 0 ↔ x < y := by unfold cmpI; split <;> (try split) <;> omega
theorem cmpI_eq (x y : Int) : cmpI x y = 0 ↔ x = y := by unfold cmpI; split <;> (try split) <;> omega
set_option maxHeartbeats 1000000 in
theorem compare_any (x y : Int) (w : World) : Calls Tryz.prog 51 #[.int .i64 x, .int .i64 y] w fun e w' => e = .returned (.int .i64 (cmpI x y)) ∧ w' = w := by
  have h1 := fun x => isNaN_any x w
  by_cases hl : x < y
  · have e : cmpI x y = -1 := if_pos hl
    rw [e]
    clear e
    go_enter Tryz.func51, Tryz.ntmps51
    go_wp2_with (refine (h1 _).mono ?_; rintro e w2 ⟨rfl, rfl⟩)
    go_ret
    exact ⟨rfl, rfl⟩
  · by_cases hg : y < x
    · have e : cmpI x y = 1 := by unfold cmpI; rw [if_neg hl, if_pos hg]
      rw [e]
      clear e
      go_enter Tryz.func51, Tryz.ntmps51
      go_wp2_with (refine (h1 _).mono ?_; rintro e w2 ⟨rfl, rfl⟩)
      go_ret
      exact ⟨rfl, rfl⟩
    · have e : cmpI x y = 0 := by unfold cmpI; rw [if_neg hl, if_neg hg]
      rw [e]
      clear e
      go_enter Tryz.func51, Tryz.ntmps51
      go_wp2_with (refine (h1 _).mono ?_; rintro e w2 ⟨rfl, rfl⟩)
      go_ret
      exact ⟨rfl, rfl⟩
set_option maxHeartbeats 1000000 in
theorem findC_any (a b k : Int) (w : World) : Calls Tryz.prog 99 #[.agg #[.int .i64 a, .int .i64 b], .int .i64 k] w fun e w' => e = .returned (.int .i64 (cmpI a k)) ∧ Fr No w w' := by
  have v1 := (Bk.made w 54 #[.int .i64 a, .int .i64 b]).cell 0
  have g1 := (Fr.refl No w).alloc (.cells #[.int .i64 a, .int .i64 b] 54)
  simp at v1
  have hc := fun W => compare_any a k W
  go_enter Tryz.func99, Tryz.ntmps99
  go_wp2_with fail
  refine (hc _).mono ?_
  rintro e w2 ⟨rfl, rfl⟩
  go_wp2
  go_ret
  exact ⟨rfl, g1⟩
end Go.Proofs.YthenadijiepmnaaGreat
/- Package pages: a key is looked for in a page. -/
namespace Go.Proofs.YthenadijiepmnaaGreat
open Go.RowKit

theorem PgA.pair {w : World} {h : Pgh} {q : Pg} (p : PgA w h q) {i : Nat} (hi : i < q.length) :
    w.cell? ⟨h.g, h.o + i * 2, none⟩ = some (.int .i64 (q[i].1 : Int)) ∧ w.cell? ⟨h.g, h.o + i * 2 + 1, none⟩ = some (.int .i64 q[i].2) := by
  obtain ⟨s0, s1⟩ := prs_at q i hi
  exact ⟨p.rg.cell s0, p.rg.cell s1⟩
theorem PgA.since {w w' : World} {h : Pgh} {q : Pg} (p : PgA w h q) (hf : Fr No w w') : PgA w' h q := p.fr hf (fun e => e)

set_option maxHeartbeats 4000000 in
set_option maxRecDepth 100000 in
theorem bsf_any (h : Pgh) (q : Pg) (k : Nat) (hr : Rise q) (hq : q.length ≤ 1000) (w : World) (hp : PgA w h q) :
    Calls Tryz.prog 98 #[.slice (some ⟨h.g, h.o, none⟩) h.n h.c, .int .i64 k, .func (.func 99) #[] #[]] w fun e w' =>
      e = .returned (.tuple #[.int .i64 (posP q k), .bool (hasK q k)]) ∧ Fr No w w' := by
  have Hp := Lib.hid hp
  have Hi := Lib.hid (posP_iff q hr k)
  have Hh := Lib.hid (hasK_pos q hr k)
  have hle := posP_le q k
  obtain ⟨ps, Hps⟩ : ∃ ps, Hid (ps = posP q k) := ⟨_, Lib.hid rfl⟩
  rw [← Hps.out] at hle ⊢
  have hnl := hp.len
  obtain ⟨g, o, n, c⟩ := h
  simp only at hnl ⊢
  obtain ⟨z, Hz⟩ : ∃ z, Hid (z = q.length) := ⟨_, Lib.hid rfl⟩
  rw [← Hz.out] at hnl hle hq
  subst hnl
  have hcl : Hid (∀ W, Fr No w W → ∀ t, t < n → ∃ a b : Int, W.cell? ⟨g, o + t * 2, none⟩ = some (.int .i64 a) ∧ W.cell? ⟨g, o + t * 2 + 1, none⟩ = some (.int .i64 b) ∧ (a < (k : Int) ↔ t < ps) ∧ (t = ps → (hasK q k = true ↔ a = (k : Int)))) := Lib.hid (fun W hW t ht => by
    have ht' : t < q.length := by rw [← Hz.out]; exact ht
    obtain ⟨y0, y1⟩ := (Hp.out.since hW).pair ht'
    refine ⟨_, _, y0, y1, ?_, fun e => ?_⟩
    · rw [Hps.out, ← Hi.out t ht']
      omega
    · subst e
      rw [Hh.out]
      have hpz : posP q k < q.length := by rw [← Hps.out]; exact ht'
      have e2 : q[t] = q[posP q k]'hpz := by congr 1
      rw [e2]
      constructor
      · rintro ⟨_, e⟩; omega
      · intro e; exact ⟨hpz, by omega⟩)
  have hno : Hid (¬ ps < n → hasK q k = false) := Lib.hid (fun e => by
    rw [Bool.eq_false_iff]
    intro hk
    obtain ⟨h1, _⟩ := Hh.out.1 hk
    rw [← Hps.out, ← Hz.out] at h1
    exact e h1)
  clear hp
  go_enter Tryz.func98, Tryz.ntmps98
  go_wp2
  go_loopw [9, 10] (fun iv jv wr => ∃ i j : Nat, i ≤ ps ∧ ps ≤ j ∧ j ≤ n ∧ iv = .int .i64 i ∧ jv = .int .i64 j ∧ Fr No w wr) (fun i j _ => (intOf j).toNat - (intOf i).toNat)
  case atStart => exact ⟨0, n, by omega, by omega, by omega, rfl, rfl, Fr.refl _ _⟩
  case round =>
    obtain ⟨i, j, hi, hj, hjn, rfl, rfl, hfr⟩ := hrel
    by_cases hlt : i < j
    · obtain ⟨m, Hm⟩ : ∃ m, Hid (m = (i + j) / 2) := ⟨_, Lib.hid rfl⟩
      have hm : ((i : Int) + (j : Int)) / 2 = (m : Int) := by rw [Hm.out]; omega
      have hmj : m < j := by rw [Hm.out]; omega
      have him : i ≤ m := by rw [Hm.out]; omega
      obtain ⟨a, b, x0, x1, hx, -⟩ := hcl.out _ hfr m (by omega)
      have hcal := findC_any a b k wr
      have Hx := Lib.hid hx
      have Hlt := Lib.hid (cmpI_lt a k)
      generalize cmpI a k = r at *
      clear hx
      by_cases hrr : r < 0
      · have hmp : m < ps := Hx.out.1 (Hlt.out.1 hrr)
        clear Hx Hlt
        go_wp2_with fail
        refine hcal.mono ?_
        rintro e w2 ⟨rfl, hf2⟩
        have hf3 := hfr.trans' hf2 (fun _ _ e => e)
        clear hcal hf2 x0 x1 hfr
        go_wp2
        go_roundw
        case rel => exact ⟨m + 1, j, by omega, hj, hjn, by go_num, rfl, hf3⟩
        case measure => simp [intOf]; omega
      · have hmp : ps ≤ m := by
          rcases Nat.lt_or_ge m ps with h1 | h1
          · exact absurd (Hlt.out.2 (Hx.out.2 h1)) hrr
          · exact h1
        clear Hx Hlt
        go_wp2_with fail
        refine hcal.mono ?_
        rintro e w2 ⟨rfl, hf2⟩
        have hf3 := hfr.trans' hf2 (fun _ _ e => e)
        clear hcal hf2 x0 x1 hfr
        go_wp2
        go_roundw
        case rel => exact ⟨i, m, hi, hmp, by omega, rfl, rfl, hf3⟩
        case measure => simp [intOf]; omega
    · obtain rfl : i = ps := by omega
      by_cases hin : i < n
      · obtain ⟨a, b, x0, x1, -, hk⟩ := hcl.out _ hfr i hin
        have hcal := findC_any a b k wr
        have Hk := Lib.hid (hk rfl)
        have He := Lib.hid (cmpI_eq a k)
        generalize cmpI a k = r at *
        clear hk
        have hv : hasK q k = (r == 0) := by
          rw [Bool.eq_iff_iff, Hk.out, ← He.out]
          simp
        have Hv := Lib.hid hv
        clear Hk He hv
        go_wp2_with fail
        refine hcal.mono ?_
        rintro e w2 ⟨rfl, hf2⟩
        have hf3 := hfr.trans' hf2 (fun _ _ e => e)
        clear hcal hf2 x0 x1 hfr
        go_wp2
        go_ret2
        exact ⟨by rw [Hv.out]; rfl, hf3⟩
      · go_wp2
        go_ret2
        exact ⟨by rw [hno.out hin]; rfl, hfr⟩

set_option maxHeartbeats 1000000 in
theorem find_any (h : Pgh) (q : Pg) (k : Nat) (hr : Rise q) (hq : q.length ≤ 1000) (w : World) (hp : PgA w h q) :
    Calls Tryz.prog 62 #[.slice (some ⟨h.g, h.o, none⟩) h.n h.c, .int .i64 k] w fun e w' => e = .returned (.tuple #[.int .i64 (posP q k), .bool (hasK q k)]) ∧ Fr No w w' := by
  have hb := bsf_any h q k hr hq w hp
  generalize hasK q k = b at *
  generalize posP q k = ps at *
  clear hp
  go_enter Tryz.func62, Tryz.ntmps62
  go_wp2_with fail
  refine hb.mono ?_
  rintro e w2 ⟨rfl, hf2⟩
  go_wp2
  go_ret2
  exact ⟨rfl, hf2⟩
end Go.Proofs.YthenadijiepmnaaGreat
/- Package pages: to which page a key belongs. -/
namespace Go.Proofs.YthenadijiepmnaaGreat
open Go.RowKit

/-- The first keys of the pages. -/
def headsP (P : List Pg) : Pg := P.map fun p => (headK p, 0)
/-- How many pages begin with a key that isn't above k. -/
def hposP (P : List Pg) (k : Int) : Nat := if k < 0 then 0 else posP (headsP P) (k.toNat + 1)
/-- The page to which a key belongs, or a number that is none. -/
def homeP (P : List Pg) (k : Int) : Nat := hposP P k - 1
theorem heads_rise : ∀ (P : List Pg), (∀ p ∈ P, 1 ≤ p.length) → Rise P.flatten → Rise (headsP P)
  | [], _, _ => Rise.nil
  | p :: r, h1, hr => by
    rw [List.flatten_cons] at hr
    obtain ⟨r1, r2, r3⟩ := Rise.app hr
    refine List.pairwise_cons.2 ⟨fun y hy => ?_, heads_rise r (fun q hq => h1 q (by simp [hq])) r2⟩
    obtain ⟨q, hq, rfl⟩ := List.mem_map.1 hy
    have l1 := h1 p (by simp)
    have l2 := h1 q (by simp [hq])
    cases p with
    | nil => simp at l1
    | cons x xs =>
      cases q with
      | nil => simp at l2
      | cons z zs => exact r3 x (by simp) z (List.mem_flatten.2 ⟨_, hq, by simp⟩)
theorem hposP_le (P : List Pg) (k : Int) : hposP P k ≤ P.length := by
  unfold hposP
  split
  · omega
  · have := posP_le (headsP P) (k.toNat + 1)
    simpa [headsP] using this
theorem hposP_iff {P : List Pg} (hi : InvP P) (k : Int) (t : Nat) (ht : t < P.length) : ((headK P[t] : Nat) : Int) ≤ k ↔ t < hposP P k := by
  unfold hposP
  by_cases hk : k < 0
  · rw [if_pos hk]
    omega
  · rw [if_neg hk, ← posP_iff (headsP P) (heads_rise P (fun p hp => (hi.one p hp).1) hi.rise) (k.toNat + 1) t (by simpa [headsP] using ht)]
    simp only [headsP, List.getElem_map]
    omega
theorem homeP_at {P : List Pg} (hi : InvP P) (hne : P ≠ []) (k : Nat) : homeP P k = atP P k := by
  have hlen : 0 < P.length := List.length_pos_iff.2 hne
  have hle := hposP_le P k
  have hget : ∀ t (ht : t < P.length), P.getD t [] = P[t] := fun t ht => by simp [List.getD, ht]
  have hif := fun t ht => hposP_iff hi (k : Int) t ht
  unfold homeP atP
  generalize hposP P k = z at *
  by_cases h0 : z = 0
  · subst h0
    rw [atTo_zero P.length (fun i h => by rw [hget i h]; have := hif i h; omega)]
  · exact (atTo_last (by rw [hget _ (by omega)]; have := hif (z - 1) (by omega); omega) P.length (by omega) (fun i h1 h2 => by rw [hget i h2]; have := hif i h2; omega)).symm
theorem homeP_lt {P : List Pg} (hne : P ≠ []) (k : Int) : homeP P k < P.length := by
  have hlen : 0 < P.length := List.length_pos_iff.2 hne
  have hle := hposP_le P k
  unfold homeP
  omega

/-- Is a page's first key above k? -/
theorem homeC_any (bl bk q o n c i : Nat) (h : Pgh) (x k : Int) (w : World) (hi : i < n) (hn : 0 < h.n) (h1 : w.cell? ⟨bl, 0, none⟩ = some (.slice (some ⟨q, o, none⟩) n c)) (h2 : w.cell? ⟨bk, 0, none⟩ = some (.int .i64 k))
    (h3 : w.cell? ⟨q, o + i, none⟩ = some h.val) (h4 : w.cell? ⟨h.g, h.o, none⟩ = some (.int .i64 x)) :
    Calls Tryz.prog 89 #[.int .i64 i, .pointer (some ⟨bl, 0, none⟩), .pointer (some ⟨bk, 0, none⟩)] w fun e w' => e = .returned (.bool (decide (k < x))) ∧ Fr No w w' := by
  obtain ⟨hg, ho, hn', hc⟩ := h
  unfold Pgh.val at h3
  simp only at hn h3 h4
  have hf := fun m => pFirst_any hg ho hn' hc x (w.drewN m) hn (by simpa using h4)
  go_enter Tryz.func89, Tryz.ntmps89
  go_wp2_with fail
  go_quiet ((go_at_call 90; exact Calls.quiet_of_same (hf _)))
  go_wp2
  go_ret
  exact ⟨rfl, (Fr.refl No w).drewN _⟩

theorem LsN.since {w w' : World} {S : Nat → Prop} {q o c : Nat} {hs : List Pgh} {P : List Pg} (h : LsN w S q o c hs P) (hf : Fr No w w') : LsN w' S q o c hs P := h.fr hf (fun _ _ e => e)
theorem headK_at {l : Pg} (h : 0 < l.length) : headK l = l[0].1 := by
  cases l with
  | nil => simp at h
  | cons x r => rfl

set_option maxHeartbeats 4000000 in
set_option maxRecDepth 100000 in
theorem search_any (S : Nat → Prop) (q o c : Nat) (hs : List Pgh) (P : List Pg) (hi : InvP P) (k : Int) (bl bk : Nat) (w : World) (h : LsN w S q o c hs P)
    (b1 : Bk w bl 68 #[.slice (some ⟨q, o, none⟩) hs.length c]) (b2 : Bk w bk 3 #[.int .i64 k]) :
    Calls Tryz.prog 88 #[.int .i64 hs.length, .func (.func 89) #[] #[.pointer (some ⟨bl, 0, none⟩), .pointer (some ⟨bk, 0, none⟩)]] w fun e w' => e = .returned (.int .i64 (hposP P k)) ∧ Fr No w w' := by
  have hlen := hi.len.2
  have hle := hposP_le P k
  have hll := h.len
  have Hif := Lib.hid (hposP_iff hi k)
  obtain ⟨z, Hz⟩ : ∃ z, Hid (z = hs.length) := ⟨_, Lib.hid rfl⟩
  obtain ⟨ps, Hps⟩ : ∃ ps, Hid (ps = hposP P k) := ⟨_, Lib.hid rfl⟩
  have hzl : z ≤ 1000 := by rw [Hz.out]; omega
  have hpz : ps ≤ z := by rw [Hz.out, Hps.out]; omega
  have hcal : Hid (∀ W, Fr No w W → ∀ t, t < z → ∃ x : Int, (Calls Tryz.prog 89 #[.int .i64 t, .pointer (some ⟨bl, 0, none⟩), .pointer (some ⟨bk, 0, none⟩)] W fun e w' => e = .returned (.bool (decide (k < x))) ∧ Fr No W w') ∧ (x ≤ k ↔ t < ps)) := Lib.hid (fun W hW t ht => by
    have hts : t < hs.length := by rw [← Hz.out]; exact ht
    have htP : t < P.length := by omega
    have hW' := h.since hW
    have hp := hW'.pg t hts htP
    have h1 := (hi.one _ (List.getElem_mem htP)).1
    have hpr := (hp.pair (i := 0) h1).1
    rw [← headK_at h1] at hpr
    simp only [Nat.zero_mul, Nat.add_zero] at hpr
    have e1 := (b1.fr hW (fun e => e)).cell 0
    have e2 := (b2.fr hW (fun e => e)).cell 0
    simp at e1 e2
    exact ⟨_, homeC_any bl bk q o hs.length c t hs[t] (headK P[t] : Nat) k W hts (by rw [hp.len]; exact h1) e1 e2 (hW'.hdr hts) hpr, by rw [Hps.out]; exact Hif.out t htP⟩)
  rw [← Hz.out, ← Hps.out]
  clear h b1 b2 hle hll hlen
  go_enter Tryz.func88, Tryz.ntmps88
  go_wp2
  go_loopw [5, 6] (fun iv jv wr => ∃ i j : Nat, i ≤ ps ∧ ps ≤ j ∧ j ≤ z ∧ iv = .int .i64 i ∧ jv = .int .i64 j ∧ Fr No w wr) (fun i j _ => (intOf j).toNat - (intOf i).toNat)
  case atStart => exact ⟨0, z, by omega, by omega, by omega, rfl, rfl, Fr.refl _ _⟩
  case round =>
    obtain ⟨i, j, hi1, hj, hjn, rfl, rfl, hfr⟩ := hrel
    by_cases hlt : i < j
    · obtain ⟨m, Hm⟩ : ∃ m, Hid (m = (i + j) / 2) := ⟨_, Lib.hid rfl⟩
      have hm : ((i : Int) + (j : Int)) / 2 = (m : Int) := by rw [Hm.out]; omega
      have hmj : m < j := by rw [Hm.out]; omega
      have him : i ≤ m := by rw [Hm.out]; omega
      obtain ⟨x, hc, hx⟩ := hcal.out _ hfr m (by omega)
      by_cases hrr : k < x
      · have hmp : ps ≤ m := by omega
        rw [show decide (k < x) = true by simp [hrr]] at hc
        clear hx hrr
        go_wp2_with fail
        refine hc.mono ?_
        rintro e w2 ⟨rfl, hf2⟩
        have hf3 := hfr.trans' hf2 (fun _ _ e => e)
        clear hc hf2 hfr
        go_wp2
        go_roundw
        case rel => exact ⟨i, m, hi1, hmp, by omega, rfl, rfl, hf3⟩
        case measure => simp [intOf]; omega
      · have hmp : m < ps := by omega
        rw [show decide (k < x) = false by simp; omega] at hc
        clear hx hrr
        go_wp2_with fail
        refine hc.mono ?_
        rintro e w2 ⟨rfl, hf2⟩
        have hf3 := hfr.trans' hf2 (fun _ _ e => e)
        clear hc hf2 hfr
        go_wp2
        go_roundw
        case rel => exact ⟨m + 1, j, by omega, hj, hjn, by go_num, rfl, hf3⟩
        case measure => simp [intOf]; omega
    · obtain rfl : i = ps := by omega
      go_wp2
      go_ret
      exact ⟨rfl, hfr⟩
theorem search_none (f : Value) (w : World) : Calls Tryz.prog 88 #[.int .i64 0, f] w fun e w' => e = .returned (.int .i64 0) ∧ Fr No w w' := by
  go_enter Tryz.func88, Tryz.ntmps88
  go_wp2
  go_loopw [5, 6] (fun iv jv wr => iv = .int .i64 0 ∧ jv = .int .i64 0 ∧ Fr No w wr) (fun i j _ => 0)
  case atStart => exact ⟨rfl, rfl, Fr.refl _ _⟩
  case round =>
    obtain ⟨rfl, rfl, hfr⟩ := hrel
    go_wp2
    go_ret
    exact ⟨rfl, hfr⟩

set_option maxHeartbeats 2000000 in
theorem home_any (S : Nat → Prop) (q o c : Nat) (hs : List Pgh) (P : List Pg) (hi : InvP P) (k : Int) (w : World) (h : LsN w S q o c hs P) :
    Calls Tryz.prog 58 #[.slice (some ⟨q, o, none⟩) hs.length c, .int .i64 k] w fun e w' => e = .returned (.int .i64 (homeP P k)) ∧ Fr No w w' := by
  have hlen := hi.len.2
  have hle := hposP_le P k
  have g1 := ((Fr.refl No w).alloc (.cells #[.slice (some ⟨q, o, none⟩) hs.length c] 68)).alloc (.cells #[.int .i64 k] 3)
  have b1 := (Bk.made w 68 #[.slice (some ⟨q, o, none⟩) hs.length c]).alloc (.cells #[.int .i64 k] 3)
  have b2 := Bk.made1 w (.cells #[.slice (some ⟨q, o, none⟩) hs.length c] 68) 3 #[.int .i64 k]
  have hs1 := search_any S q o c hs P hi k w.heap.size (w.heap.size + 1) _ (h.since g1) b1 b2
  have x0 := b1.cell 0
  simp at x0
  have hz : homeP P k = hposP P k - 1 := rfl
  rw [hz]
  generalize hposP P k = z at *
  generalize hs.length = y at *
  clear h b1 b2 hz
  by_cases h0 : z = 0
  · subst h0
    go_enter Tryz.func58, Tryz.ntmps58
    go_wp2_with fail
    refine hs1.mono ?_
    rintro e w2 ⟨rfl, hf2⟩
    have hf3 := g1.trans' hf2 (fun _ _ e => e)
    go_wp2
    go_ret
    exact ⟨rfl, hf3⟩
  · have e1 : ((z - 1 : Nat) : Int) = (z : Int) - 1 := by omega
    rw [e1]
    go_enter Tryz.func58, Tryz.ntmps58
    go_wp2_with fail
    refine hs1.mono ?_
    rintro e w2 ⟨rfl, hf2⟩
    have hf3 := g1.trans' hf2 (fun _ _ e => e)
    go_wp2
    all_goals
      go_ret
      first
        | exact ⟨rfl, hf3⟩
        | exact ⟨by rw [show (z : Int) - 1 = 0 by omega]; rfl, hf3⟩
theorem home_none (A : Option Addr) (c : Nat) (k : Int) (w : World) :
    Calls Tryz.prog 58 #[.slice A 0 c, .int .i64 k] w fun e w' => e = .returned (.int .i64 0) ∧ Fr No w w' := by
  have g1 := ((Fr.refl No w).alloc (.cells #[.slice A 0 c] 68)).alloc (.cells #[.int .i64 k] 3)
  have b1 := (Bk.made w 68 #[.slice A 0 c]).alloc (.cells #[.int .i64 k] 3)
  have x0 := b1.cell 0
  simp at x0
  have hs1 := fun f W => search_none f W
  go_enter Tryz.func58, Tryz.ntmps58
  go_wp2_with fail
  refine (hs1 _ _).mono ?_
  rintro e w2 ⟨rfl, hf2⟩
  have hf3 := g1.trans' hf2 (fun _ _ e => e)
  go_wp2
  go_ret
  exact ⟨rfl, hf3⟩

set_option maxHeartbeats 2000000 in
theorem lfind_any (S : Nat → Prop) (q o c : Nat) (hs : List Pgh) (P : List Pg) (hi : InvP P) (hne : P ≠ []) (k : Nat) (w : World) (h : LsN w S q o c hs P) :
    Calls Tryz.prog 44 #[.slice (some ⟨q, o, none⟩) hs.length c, .int .i64 k] w fun e w' =>
      e = .returned (.tuple #[.int .i64 (atP P k), .int .i64 (posP (P.getD (atP P k) []) k), .bool (hasK (P.getD (atP P k) []) k)]) ∧ Fr No w w' := by
  have hh := home_any S q o c hs P hi k w h
  rw [homeP_at hi hne] at hh
  have hlen := hi.len.2
  have hll := h.len
  have hat := atP_lt P k hne
  have hats : atP P k < hs.length := by omega
  have hgd : P.getD (atP P k) [] = P[atP P k] := by simp [List.getD, hat]
  have hrise : Rise P[atP P k] := by
    obtain ⟨X, Y, hXY⟩ := List.append_of_mem (List.getElem_mem hat)
    have hr := hi.rise
    rw [hXY, List.flatten_append, List.flatten_cons] at hr
    exact (Rise.app (Rise.app hr).2.1).1
  have hone := hi.one _ (List.getElem_mem hat)
  have hf : Hid (∀ W, Fr No w W → W.cell? ⟨q, o + atP P k, none⟩ = some hs[atP P k].val ∧ Calls Tryz.prog 62 #[hs[atP P k].val, .int .i64 k] W fun e w' => e = .returned (.tuple #[.int .i64 (posP P[atP P k] k), .bool (hasK P[atP P k] k)]) ∧ Fr No W w') := Lib.hid (fun W hW =>
    ⟨(h.since hW).hdr hats, find_any hs[atP P k] P[atP P k] k hrise (by omega) W ((h.since hW).pg _ hats hat)⟩)
  rw [hgd]
  have hzz : atP P k < hs.length := hats
  generalize hasK P[atP P k] k = b at *
  generalize posP P[atP P k] k = ps at *
  generalize hs[atP P k] = x at *
  generalize atP P k = a at *
  generalize hs.length = z at *
  obtain ⟨xg, xo, xn, xc⟩ := x
  clear h hgd hrise hone hll hat hats
  go_enter Tryz.func44, Tryz.ntmps44
  go_wp2_with fail
  refine hh.mono ?_
  rintro e w2 ⟨rfl, hf2⟩
  obtain ⟨x0, hc⟩ := hf.out _ hf2
  unfold Pgh.val at x0 hc
  simp only at x0 hc
  clear hh
  go_wp2_with fail
  refine hc.mono ?_
  rintro e w3 ⟨rfl, hf3⟩
  have hf4 := hf2.trans' hf3 (fun _ _ e => e)
  clear hc hf2 hf3 x0
  go_wp2
  go_ret3
  exact ⟨rfl, hf4⟩
theorem lfind_none (A : Option Addr) (c : Nat) (k : Int) (w : World) :
    Calls Tryz.prog 44 #[.slice A 0 c, .int .i64 k] w fun e w' => e = .returned (.tuple #[.int .i64 0, .int .i64 0, .bool false]) ∧ Fr No w w' := by
  have hh := home_none A c k w
  go_enter Tryz.func44, Tryz.ntmps44
  go_wp2_with fail
  refine hh.mono ?_
  rintro e w2 ⟨rfl, hf2⟩
  go_wp2
  go_ret3
  exact ⟨rfl, hf2⟩
end Go.Proofs.YthenadijiepmnaaGreat
