/- Package pages: to which page a key belongs. -/
import Derived.Test.YtenmiociinogeaaBsf5
import Derived.Deep.QuietTactic
namespace Go.Proofs.Ytenmiociinogeaa
open Go.RowKit

/-- The first keys of the pages. -/
def headsP (P : List Pg) : Pg := P.map fun p => (headK p, 0)
/-- How many pages begin with a key that isn't above k. -/
def hposP (P : List Pg) (k : Int) : Nat := if k < 0 then 0 else posP (headsP P) (k.toNat + 1)
/-- The page to which a key belongs, or a number that is none. -/
def homeP (P : List Pg) (k : Int) : Nat := hposP P k - 1
theorem heads_rise : ∀ (P : List Pg), (∀ p ∈ P, 1 ≤ p.length) → Rise P.flatten → Rise (headsP P)
  | [], _, _ => Rise.nil
  | p :: r, h1, hr => by
    rw [List.flatten_cons] at hr
    obtain ⟨r1, r2, r3⟩ := Rise.app hr
    refine List.pairwise_cons.2 ⟨fun y hy => ?_, heads_rise r (fun q hq => h1 q (by simp [hq])) r2⟩
    obtain ⟨q, hq, rfl⟩ := List.mem_map.1 hy
    have l1 := h1 p (by simp)
    have l2 := h1 q (by simp [hq])
    cases p with
    | nil => simp at l1
    | cons x xs =>
      cases q with
      | nil => simp at l2
      | cons z zs => exact r3 x (by simp) z (List.mem_flatten.2 ⟨_, hq, by simp⟩)
theorem hposP_le (P : List Pg) (k : Int) : hposP P k ≤ P.length := by
  unfold hposP
  split
  · omega
  · have := posP_le (headsP P) (k.toNat + 1)
    simpa [headsP] using this
theorem hposP_iff {P : List Pg} (hi : InvP P) (k : Int) (t : Nat) (ht : t < P.length) : ((headK P[t] : Nat) : Int) ≤ k ↔ t < hposP P k := by
  unfold hposP
  by_cases hk : k < 0
  · rw [if_pos hk]
    omega
  · rw [if_neg hk, ← posP_iff (headsP P) (heads_rise P (fun p hp => (hi.one p hp).1) hi.rise) (k.toNat + 1) t (by simpa [headsP] using ht)]
    simp only [headsP, List.getElem_map]
    omega
theorem homeP_at {P : List Pg} (hi : InvP P) (hne : P ≠ []) (k : Nat) : homeP P k = atP P k := by
  have hlen : 0 < P.length := List.length_pos_iff.2 hne
  have hle := hposP_le P k
  have hget : ∀ t (ht : t < P.length), P.getD t [] = P[t] := fun t ht => by simp [List.getD, ht]
  have hif := fun t ht => hposP_iff hi (k : Int) t ht
  unfold homeP atP
  generalize hposP P k = z at *
  by_cases h0 : z = 0
  · subst h0
    rw [atTo_zero P.length (fun i h => by rw [hget i h]; have := hif i h; omega)]
  · exact (atTo_last (by rw [hget _ (by omega)]; have := hif (z - 1) (by omega); omega) P.length (by omega) (fun i h1 h2 => by rw [hget i h2]; have := hif i h2; omega)).symm
theorem homeP_lt {P : List Pg} (hne : P ≠ []) (k : Int) : homeP P k < P.length := by
  have hlen : 0 < P.length := List.length_pos_iff.2 hne
  have hle := hposP_le P k
  unfold homeP
  omega

/-- Is a page's first key above k? -/
theorem homeC_any (bl bk q o n c i : Nat) (h : Pgh) (x k : Int) (w : World) (hi : i < n) (hn : 0 < h.n) (h1 : w.cell? ⟨bl, 0, none⟩ = some (.slice (some ⟨q, o, none⟩) n c)) (h2 : w.cell? ⟨bk, 0, none⟩ = some (.int .i64 k))
    (h3 : w.cell? ⟨q, o + i, none⟩ = some h.val) (h4 : w.cell? ⟨h.g, h.o, none⟩ = some (.int .i64 x)) :
    Calls Try.prog 47 #[.int .i64 i, .pointer (some ⟨bl, 0, none⟩), .pointer (some ⟨bk, 0, none⟩)] w fun e w' => e = .returned (.bool (decide (k < x))) ∧ Fr No w w' := by
  obtain ⟨hg, ho, hn', hc⟩ := h
  unfold Pgh.val at h3
  simp only at hn h3 h4
  have hf := fun m => pFirst_any hg ho hn' hc x (w.drewN m) hn (by simpa using h4)
  go_enter Try.func47, Try.ntmps47
  go_wp2_with fail
  go_quiet ((go_at_call 36; exact Calls.quiet_of_same (hf _)))
  go_wp2
  go_ret
  exact ⟨rfl, (Fr.refl No w).drewN _⟩

theorem LsN.since {w w' : World} {S : Nat → Prop} {q o c : Nat} {hs : List Pgh} {P : List Pg} (h : LsN w S q o c hs P) (hf : Fr No w w') : LsN w' S q o c hs P := h.fr hf (fun _ _ e => e)
theorem headK_at {l : Pg} (h : 0 < l.length) : headK l = l[0].1 := by
  cases l with
  | nil => simp at h
  | cons x r => rfl

set_option maxHeartbeats 4000000 in
set_option maxRecDepth 100000 in
theorem search_any (S : Nat → Prop) (q o c : Nat) (hs : List Pgh) (P : List Pg) (hi : InvP P) (k : Int) (bl bk : Nat) (w : World) (h : LsN w S q o c hs P)
    (b1 : Bk w bl 26 #[.slice (some ⟨q, o, none⟩) hs.length c]) (b2 : Bk w bk 3 #[.int .i64 k]) :
    Calls Try.prog 46 #[.int .i64 hs.length, .func (.func 47) #[] #[.pointer (some ⟨bl, 0, none⟩), .pointer (some ⟨bk, 0, none⟩)]] w fun e w' => e = .returned (.int .i64 (hposP P k)) ∧ Fr No w w' := by
  have hlen := hi.len.2
  have hle := hposP_le P k
  have hll := h.len
  have Hif := Lib.hid (hposP_iff hi k)
  obtain ⟨z, Hz⟩ : ∃ z, Hid (z = hs.length) := ⟨_, Lib.hid rfl⟩
  obtain ⟨ps, Hps⟩ : ∃ ps, Hid (ps = hposP P k) := ⟨_, Lib.hid rfl⟩
  have hzl : z ≤ 1000 := by rw [Hz.out]; omega
  have hpz : ps ≤ z := by rw [Hz.out, Hps.out]; omega
  have hcal : Hid (∀ W, Fr No w W → ∀ t, t < z → ∃ x : Int, (Calls Try.prog 47 #[.int .i64 t, .pointer (some ⟨bl, 0, none⟩), .pointer (some ⟨bk, 0, none⟩)] W fun e w' => e = .returned (.bool (decide (k < x))) ∧ Fr No W w') ∧ (x ≤ k ↔ t < ps)) := Lib.hid (fun W hW t ht => by
    have hts : t < hs.length := by rw [← Hz.out]; exact ht
    have htP : t < P.length := by omega
    have hW' := h.since hW
    have hp := hW'.pg t hts htP
    have h1 := (hi.one _ (List.getElem_mem htP)).1
    have hpr := (hp.pair (i := 0) h1).1
    rw [← headK_at h1] at hpr
    simp only [Nat.zero_mul, Nat.add_zero] at hpr
    have e1 := (b1.fr hW (fun e => e)).cell 0
    have e2 := (b2.fr hW (fun e => e)).cell 0
    simp at e1 e2
    exact ⟨_, homeC_any bl bk q o hs.length c t hs[t] (headK P[t] : Nat) k W hts (by rw [hp.len]; exact h1) e1 e2 (hW'.hdr hts) hpr, by rw [Hps.out]; exact Hif.out t htP⟩)
  rw [← Hz.out, ← Hps.out]
  clear h b1 b2 hle hll hlen
  go_enter Try.func46, Try.ntmps46
  go_wp2
  go_loopw [5, 6] (fun iv jv wr => ∃ i j : Nat, i ≤ ps ∧ ps ≤ j ∧ j ≤ z ∧ iv = .int .i64 i ∧ jv = .int .i64 j ∧ Fr No w wr) (fun i j _ => (intOf j).toNat - (intOf i).toNat)
  case atStart => exact ⟨0, z, by omega, by omega, by omega, rfl, rfl, Fr.refl _ _⟩
  case round =>
    obtain ⟨i, j, hi1, hj, hjn, rfl, rfl, hfr⟩ := hrel
    by_cases hlt : i < j
    · obtain ⟨m, Hm⟩ : ∃ m, Hid (m = (i + j) / 2) := ⟨_, Lib.hid rfl⟩
      have hm : ((i : Int) + (j : Int)) / 2 = (m : Int) := by rw [Hm.out]; omega
      have hmj : m < j := by rw [Hm.out]; omega
      have him : i ≤ m := by rw [Hm.out]; omega
      obtain ⟨x, hc, hx⟩ := hcal.out _ hfr m (by omega)
      by_cases hrr : k < x
      · have hmp : ps ≤ m := by omega
        rw [show decide (k < x) = true by simp [hrr]] at hc
        clear hx hrr
        go_wp2_with fail
        refine hc.mono ?_
        rintro e w2 ⟨rfl, hf2⟩
        have hf3 := hfr.trans' hf2 (fun _ _ e => e)
        clear hc hf2 hfr
        go_wp2
        go_roundw
        case rel => exact ⟨i, m, hi1, hmp, by omega, rfl, rfl, hf3⟩
        case measure => simp [intOf]; omega
      · have hmp : m < ps := by omega
        rw [show decide (k < x) = false by simp; omega] at hc
        clear hx hrr
        go_wp2_with fail
        refine hc.mono ?_
        rintro e w2 ⟨rfl, hf2⟩
        have hf3 := hfr.trans' hf2 (fun _ _ e => e)
        clear hc hf2 hfr
        go_wp2
        go_roundw
        case rel => exact ⟨m + 1, j, by omega, hj, hjn, by go_num, rfl, hf3⟩
        case measure => simp [intOf]; omega
    · obtain rfl : i = ps := by omega
      go_wp2
      go_ret
      exact ⟨rfl, hfr⟩
theorem search_none (f : Value) (w : World) : Calls Try.prog 46 #[.int .i64 0, f] w fun e w' => e = .returned (.int .i64 0) ∧ Fr No w w' := by
  go_enter Try.func46, Try.ntmps46
  go_wp2
  go_loopw [5, 6] (fun iv jv wr => iv = .int .i64 0 ∧ jv = .int .i64 0 ∧ Fr No w wr) (fun i j _ => 0)
  case atStart => exact ⟨rfl, rfl, Fr.refl _ _⟩
  case round =>
    obtain ⟨rfl, rfl, hfr⟩ := hrel
    go_wp2
    go_ret
    exact ⟨rfl, hfr⟩

set_option maxHeartbeats 2000000 in
theorem home_any (S : Nat → Prop) (q o c : Nat) (hs : List Pgh) (P : List Pg) (hi : InvP P) (k : Int) (w : World) (h : LsN w S q o c hs P) :
    Calls Try.prog 37 #[.slice (some ⟨q, o, none⟩) hs.length c, .int .i64 k] w fun e w' => e = .returned (.int .i64 (homeP P k)) ∧ Fr No w w' := by
  have hlen := hi.len.2
  have hle := hposP_le P k
  have g1 := ((Fr.refl No w).alloc (.cells #[.slice (some ⟨q, o, none⟩) hs.length c] 26)).alloc (.cells #[.int .i64 k] 3)
  have b1 := (Bk.made w 26 #[.slice (some ⟨q, o, none⟩) hs.length c]).alloc (.cells #[.int .i64 k] 3)
  have b2 := Bk.made1 w (.cells #[.slice (some ⟨q, o, none⟩) hs.length c] 26) 3 #[.int .i64 k]
  have hs1 := search_any S q o c hs P hi k w.heap.size (w.heap.size + 1) _ (h.since g1) b1 b2
  have x0 := b1.cell 0
  simp at x0
  have hz : homeP P k = hposP P k - 1 := rfl
  rw [hz]
  generalize hposP P k = z at *
  generalize hs.length = y at *
  clear h b1 b2 hz
  by_cases h0 : z = 0
  · subst h0
    go_enter Try.func37, Try.ntmps37
    go_wp2_with fail
    refine hs1.mono ?_
    rintro e w2 ⟨rfl, hf2⟩
    have hf3 := g1.trans' hf2 (fun _ _ e => e)
    go_wp2
    go_ret
    exact ⟨rfl, hf3⟩
  · have e1 : ((z - 1 : Nat) : Int) = (z : Int) - 1 := by omega
    rw [e1]
    go_enter Try.func37, Try.ntmps37
    go_wp2_with fail
    refine hs1.mono ?_
    rintro e w2 ⟨rfl, hf2⟩
    have hf3 := g1.trans' hf2 (fun _ _ e => e)
    go_wp2
    all_goals
      go_ret
      first
        | exact ⟨rfl, hf3⟩
        | exact ⟨by rw [show (z : Int) - 1 = 0 by omega]; rfl, hf3⟩
theorem home_none (A : Option Addr) (c : Nat) (k : Int) (w : World) :
    Calls Try.prog 37 #[.slice A 0 c, .int .i64 k] w fun e w' => e = .returned (.int .i64 0) ∧ Fr No w w' := by
  have g1 := ((Fr.refl No w).alloc (.cells #[.slice A 0 c] 26)).alloc (.cells #[.int .i64 k] 3)
  have b1 := (Bk.made w 26 #[.slice A 0 c]).alloc (.cells #[.int .i64 k] 3)
  have x0 := b1.cell 0
  simp at x0
  have hs1 := fun f W => search_none f W
  go_enter Try.func37, Try.ntmps37
  go_wp2_with fail
  refine (hs1 _ _).mono ?_
  rintro e w2 ⟨rfl, hf2⟩
  have hf3 := g1.trans' hf2 (fun _ _ e => e)
  go_wp2
  go_ret
  exact ⟨rfl, hf3⟩

set_option maxHeartbeats 2000000 in
theorem lfind_any (S : Nat → Prop) (q o c : Nat) (hs : List Pgh) (P : List Pg) (hi : InvP P) (hne : P ≠ []) (k : Nat) (w : World) (h : LsN w S q o c hs P) :
    Calls Try.prog 26 #[.slice (some ⟨q, o, none⟩) hs.length c, .int .i64 k] w fun e w' =>
      e = .returned (.tuple #[.int .i64 (atP P k), .int .i64 (posP (P.getD (atP P k) []) k), .bool (hasK (P.getD (atP P k) []) k)]) ∧ Fr No w w' := by
  have hh := home_any S q o c hs P hi k w h
  rw [homeP_at hi hne] at hh
  have hlen := hi.len.2
  have hll := h.len
  have hat := atP_lt P k hne
  have hats : atP P k < hs.length := by omega
  have hgd : P.getD (atP P k) [] = P[atP P k] := by simp [List.getD, hat]
  have hrise : Rise P[atP P k] := by
    obtain ⟨X, Y, hXY⟩ := List.append_of_mem (List.getElem_mem hat)
    have hr := hi.rise
    rw [hXY, List.flatten_append, List.flatten_cons] at hr
    exact (Rise.app (Rise.app hr).2.1).1
  have hone := hi.one _ (List.getElem_mem hat)
  have hf : Hid (∀ W, Fr No w W → W.cell? ⟨q, o + atP P k, none⟩ = some hs[atP P k].val ∧ Calls Try.prog 38 #[hs[atP P k].val, .int .i64 k] W fun e w' => e = .returned (.tuple #[.int .i64 (posP P[atP P k] k), .bool (hasK P[atP P k] k)]) ∧ Fr No W w') := Lib.hid (fun W hW =>
    ⟨(h.since hW).hdr hats, find_any hs[atP P k] P[atP P k] k hrise (by omega) W ((h.since hW).pg _ hats hat)⟩)
  rw [hgd]
  have hzz : atP P k < hs.length := hats
  generalize hasK P[atP P k] k = b at *
  generalize posP P[atP P k] k = ps at *
  generalize hs[atP P k] = x at *
  generalize atP P k = a at *
  generalize hs.length = z at *
  obtain ⟨xg, xo, xn, xc⟩ := x
  clear h hgd hrise hone hll hat hats
  go_enter Try.func26, Try.ntmps26
  go_wp2_with fail
  refine hh.mono ?_
  rintro e w2 ⟨rfl, hf2⟩
  obtain ⟨x0, hc⟩ := hf.out _ hf2
  unfold Pgh.val at x0 hc
  simp only at x0 hc
  clear hh
  go_wp2_with fail
  refine hc.mono ?_
  rintro e w3 ⟨rfl, hf3⟩
  have hf4 := hf2.trans' hf3 (fun _ _ e => e)
  clear hc hf2 hf3 x0
  go_wp2
  go_ret3
  exact ⟨rfl, hf4⟩
theorem lfind_none (A : Option Addr) (c : Nat) (k : Int) (w : World) :
    Calls Try.prog 26 #[.slice A 0 c, .int .i64 k] w fun e w' => e = .returned (.tuple #[.int .i64 0, .int .i64 0, .bool false]) ∧ Fr No w w' := by
  have hh := home_none A c k w
  go_enter Try.func26, Try.ntmps26
  go_wp2_with fail
  refine hh.mono ?_
  rintro e w2 ⟨rfl, hf2⟩
  go_wp2
  go_ret3
  exact ⟨rfl, hf2⟩
end Go.Proofs.Ytenmiociinogeaa
