/- The document's store: its pairs; where a key is. -/
import Derived.Test.YtenmiociinogeaaRow5
namespace Go.Proofs.Ytenmiociinogeaa
open Go.RowKit

abbrev Pg := List (Nat × Int)
/-- A new list of pairs, in a row of its own. -/
def NewP (w : World) (l : Pg) (e : Ending) (w' : World) : Prop :=
  ∃ A c, e = .returned (.slice A l.length c) ∧ w'.ownsRow w.heap.size 50 2 (.slice A l.length c) l.length (prs l) ∧ Fr No w w'
theorem flat_take_le (P : List Pg) (j : Nat) : (P.take j).flatten.length ≤ P.flatten.length := by
  conv => rhs; rw [← List.take_append_drop j P, List.flatten_append, List.length_append]
  omega
theorem flat_snoc (P : List Pg) (j : Nat) (hj : j < P.length) : (P.take (j + 1)).flatten = (P.take j).flatten ++ P[j] := by
  rw [List.take_succ_eq_append_getElem hj, List.flatten_append, List.flatten_cons, List.flatten_nil, List.append_nil]
set_option maxRecDepth 100000 in
set_option maxHeartbeats 2000000 in
theorem rPairs_any (R : Nat → Prop) (p : Nat) (P : List Pg) (w : World) (h : RS w R p P) (hb : P.flatten.length ≤ 100000) :
    Calls Try.prog 22 #[.pointer (some ⟨p, 0, none⟩)] w (NewP w P.flatten) := by
  obtain ⟨v, hs, hd, hlen, hpg, -⟩ := h
  obtain ⟨A, c0, rfl, hc0⟩ := hd.shape
  have hle := hd.le
  have Hlen := Lib.hid hlen
  clear hlen
  go_enter Try.func22, Try.ntmps22
  go_wp2
  obtain ⟨z, hz⟩ : ∃ z, Hid (z = hs.length) := ⟨_, Lib.hid rfl⟩
  go_loopw [3, 4] (fun lv iv wr => ∃ (j n : Nat) (A : Option Addr) (c : Nat), j ≤ z ∧ iv = .int .i64 j ∧ lv = .slice A n c ∧ Hid (n = (P.take j).flatten.length) ∧ wr.ownsRow w.heap.size 50 2 (.slice A n c) n (prs (P.take j).flatten) ∧ Fr No w wr) (fun _ i _ => z - (intOf i).toNat)
  case atStart => exact ⟨0, 0, none, 0, by omega, rfl, rfl, Lib.hid rfl, World.ownsRow_nil _ _ _ _, Fr.refl _ _⟩
  case round =>
    obtain ⟨j, n, B, cb, hj, rfl, rfl, Hn, hown, hfr⟩ := hrel
    have hdr := hd.fr hfr (fun e => e) (fun _ _ e => e)
    have p0 := hdr.self.cell 0
    simp at p0
    rw [← hz.out] at p0
    by_cases hlt : j < z
    · have hjs : j < hs.length := by rw [← hz.out]; exact hlt
      have hjP : j < P.length := by rw [← Hlen.out]; exact hjs
      obtain ⟨g, rfl, -, -, hcell⟩ := hdr.cells hjs
      have hp := hpg j hjs hjP
      obtain ⟨C, cc, hv, hcc⟩ := hp.shape
      rw [hv] at hcell hp
      have hsl := (Sl.ofOwn hp).since hfr
      have Hs := Lib.hid (flat_snoc P j hjP)
      have hnn : n + P[j].length ≤ 100000 := by
        have h1 := flat_take_le P (j + 1)
        rw [flat_snoc P j hjP, List.length_append, ← Hn.out] at h1
        omega
      clear hp hv
      generalize P[j] = q at *
      go_wp2_with (at_builtin; refine wpList_append_new (w0 := w) rfl _ _ _ rfl 50 (.agg #[.int .i64 0, .int .i64 0]) 2 16 Try.underlying47 info_pair rfl (by omega) (.slice B n cb) n _ rfl hown hfr wr.heap.size C q.length cc (prs q) rfl (prs_len q) hsl (prs_one q) (by unfold maxLen; omega) (by omega) ?r1)
      case r1 =>
        intro A2 c2 w2 own2 f2 g2
        clear g2 hown hsl hdr p0
        go_wp2
        go_roundw
        case rel => exact ⟨j + 1, n + q.length, A2, c2, by omega, by go_num, rfl, Lib.hid (by rw [Hs.out, List.length_append, ← Hn.out]), by rw [Hs.out, prs_app]; exact own2, f2⟩
        case measure => simp [intOf]; omega
    · have hall : P.take j = P := List.take_of_length_le (by rw [← Hlen.out, ← hz.out]; omega)
      rw [hall] at hown Hn
      have Hn' := Lib.hid Hn.out
      clear hall Hn hdr
      go_wp2
      go_ret
      exact ⟨B, cb, by rw [← Hn'.out]; rfl, by rw [← Hn'.out]; exact hown, hfr⟩

/-- Where a key is in a page; -1: it isn't there. -/
def idxTo (l : Pg) (k : Nat) : Nat → Option Nat
  | 0 => none
  | j + 1 => match idxTo l k j with
    | some i => some i
    | none => if (l.getD j (0, 0)).1 = k then some j else none
def idxI (l : Pg) (k : Nat) : Int := match idxTo l k l.length with
  | some i => (i : Int)
  | none => -1
/-- Where a key is in its page. -/
def idxP (P : List Pg) (k : Nat) : Int := idxI (P.getD (atP P k) []) k
theorem idxTo_more (l : Pg) (k j i : Nat) (h : idxTo l k j = some i) : ∀ m, j ≤ m → idxTo l k m = some i := by
  intro m hm
  induction m with
  | zero => obtain rfl : j = 0 := by omega
            cases h
  | succ m ih =>
    rcases Nat.lt_or_ge m j with h1 | h1
    · obtain rfl : j = m + 1 := by omega
      exact h
    · rw [idxTo, ih h1]
theorem headK_get (P : List Pg) (j : Nat) (hj : j < P.length) (h0 : 0 < P[j].length) : headK (P.getD j []) = P[j][0].1 := by
  have e : P.getD j [] = P[j] := by simp [List.getD, hj]
  rw [e]
  unfold headK
  obtain ⟨x, r, hq⟩ : ∃ x r, P[j] = x :: r := by
    cases hq : P[j] with
    | nil => rw [hq] at h0; exact absurd h0 (by simp)
    | cons x r => exact ⟨x, r, rfl⟩
  simp [hq]
theorem atTo_lt (P : List Pg) (k : Nat) : ∀ j, atTo P k j ≤ j - 1
  | 0 => Nat.le_refl _
  | j + 1 => by
    unfold atTo
    split
    · omega
    · have := atTo_lt P k j
      omega
theorem atP_lt (P : List Pg) (k : Nat) (h : P ≠ []) : atP P k < P.length := by
  have := atTo_lt P k P.length
  have : 0 < P.length := List.length_pos_iff.2 h
  unfold atP
  omega

set_option maxRecDepth 100000 in
set_option maxHeartbeats 4000000 in
theorem rFind_any (R : Nat → Prop) (p k : Nat) (P : List Pg) (w : World) (h : RS w R p P) (hne : ∀ q ∈ P, 1 ≤ q.length) (hnb : ∀ q ∈ P, q.length ≤ 1000) :
    Calls Try.prog 28 #[.pointer (some ⟨p, 0, none⟩), .int .i64 k] w fun e w' => e = .returned (.tuple #[.int .i64 (atP P k), .int .i64 (idxP P k)]) ∧ Fr No w w' := by
  obtain ⟨v, hs, hd, hlen, hpg, -⟩ := h
  obtain ⟨A, c0, rfl, hc0⟩ := hd.shape
  have hle := hd.le
  have Hlen := Lib.hid hlen
  obtain ⟨z, hz⟩ : ∃ z, Hid (z = hs.length) := ⟨_, Lib.hid rfl⟩
  have hz5 : z ≤ 100000 := by rw [hz.out]; exact hle
  clear hlen
  go_enter Try.func28, Try.ntmps28
  go_wp2
  go_loopw [6, 7] (fun av iv wr => ∃ (j : Nat), j ≤ z ∧ iv = .int .i64 j ∧ av = .int .i64 (atTo P k j) ∧ Fr No w wr) (fun _ i _ => z - (intOf i).toNat)
  case atStart => exact ⟨0, by omega, rfl, rfl, Fr.refl _ _⟩
  case round =>
    obtain ⟨j, hj, rfl, rfl, hfr⟩ := hrel
    have hdr := hd.fr hfr (fun e => e) (fun _ _ e => e)
    have p0 := hdr.self.cell 0
    simp at p0
    rw [← hz.out] at p0
    by_cases hlt : j < z
    · have hjs : j < hs.length := by rw [← hz.out]; exact hlt
      have hjP : j < P.length := by rw [← Hlen.out]; exact hjs
      obtain ⟨g, rfl, -, -, hcell⟩ := hdr.cells hjs
      have hp := own_fr (hpg j hjs hjP) hfr (fun _ _ e => e)
      obtain ⟨C, cc, hv, hcc⟩ := PgO.shape hp
      rw [hv] at hcell hp
      have h0 := hne _ (List.getElem_mem hjP)
      obtain ⟨gg, rfl, -, -, x0, x1⟩ := PgO.cells hp (i := 0) (by omega)
      have Hh := Lib.hid (headK_get P j hjP (by omega))
      have hpos : 0 < P[j].length := by omega
      simp only [Nat.zero_mul] at x0
      clear hp hv x1 hdr
      by_cases hc : P[j][0].1 ≤ k
      · have Hat : Hid (atTo P k (j + 1) = j) := Lib.hid (by rw [atTo, if_pos (by rw [Hh.out]; exact hc)])
        have hc' : ((P[j][0].1 : Nat) : Int) ≤ (k : Int) := by omega
        generalize P[j][0].1 = kk at *
        generalize P[j].length = ll at *
        clear hc
        go_wp2
        go_roundw
        case rel => exact ⟨j + 1, by omega, by go_num, by rw [Hat.out], hfr⟩
        case measure => simp [intOf]; omega
      · have Hat : Hid (atTo P k (j + 1) = atTo P k j) := Lib.hid (by rw [atTo, if_neg (by rw [Hh.out]; exact hc)])
        have hc' : ¬ ((P[j][0].1 : Nat) : Int) ≤ (k : Int) := by omega
        generalize P[j][0].1 = kk at *
        generalize P[j].length = ll at *
        clear hc
        go_wp2
        go_roundw
        case rel => exact ⟨j + 1, by omega, by go_num, by rw [Hat.out], hfr⟩
        case measure => simp [intOf]; omega
    · have hjz : j = P.length := by rw [← Hlen.out, ← hz.out]; omega
      have ha : atTo P k j = atP P k := by rw [hjz]; rfl
      rw [ha]
      clear ha
      by_cases h0 : z = 0
      · subst h0
        have hP : P = [] := List.eq_nil_of_length_eq_zero (by omega)
        subst hP
        clear hdr
        go_wp2
        go_ret2
        exact ⟨rfl, hfr⟩
      · have hPne : P ≠ [] := by rintro rfl; simp at hjz; omega
        have hat := atP_lt P k hPne
        have hgd : P.getD (atP P k) [] = P[atP P k] := by simp [List.getD, hat]
        have hats : atP P k < hs.length := by rw [Hlen.out]; exact hat
        have hatz : atP P k < z := by rw [hz.out]; exact hats
        have hp0 := hpg _ hats hat
        have hln := hnb _ (List.getElem_mem hat)
        obtain ⟨C, cc, hv, hcc⟩ := PgO.shape hp0
        have hcl : ∀ W, Fr No w W → W.cell? ⟨p, 0, none⟩ = some (.slice A z c0) ∧ ∃ g, A = some ⟨g, 0, none⟩ ∧ W.cell? ⟨g, atP P k, none⟩ = some (.slice C P[atP P k].length cc) := fun W hW => by
          have h1 := hd.fr hW (fun e => e) (fun _ _ e => e)
          obtain ⟨g, e, -, -, hc⟩ := h1.cells hats
          have h2 := h1.self.cell 0
          simp at h2
          rw [hv] at hc
          rw [← hz.out] at h2
          exact ⟨h2, g, e, hc⟩
        rw [hv] at hp0
        have hz0 : (z : Int) ≠ 0 := by omega
        have hzb : ((z : Int) == 0) = false := by simp; omega
        obtain ⟨q, Hq⟩ : ∃ q, Hid (q = P.getD (atP P k) []) := ⟨_, Lib.hid rfl⟩
        rw [← hgd, ← Hq.out] at hcl hp0 hln
        obtain ⟨a, Ha⟩ : ∃ a, Hid (a = atP P k) := ⟨_, Lib.hid rfl⟩
        rw [← Ha.out] at hcl hatz ⊢
        clear hdr p0 hgd hv hcc hat hats hPne
        obtain ⟨p0, g, rfl, hcell⟩ := hcl wr hfr
        go_wp2
        go_loopw [8] (fun iv wx => ∃ (i : Nat), i ≤ q.length ∧ iv = .int .i64 i ∧ Hid (idxTo q k i = none) ∧ Fr No w wx) (fun i _ => q.length - (intOf i).toNat)
        case atStart => exact ⟨0, by omega, rfl, Lib.hid rfl, hfr⟩
        case round =>
          clear p0 hcell hfr
          obtain ⟨i, hi, rfl, Hno, hfr⟩ := hrel
          obtain ⟨p0, g', hg', hcell⟩ := hcl _ hfr
          injection hg' with hg'
          injection hg' with hg'
          subst hg'
          by_cases hlt2 : i < q.length
          · obtain ⟨gg, rfl, -, -, x0, x1⟩ := PgO.cells (own_fr hp0 hfr (fun _ _ e => e)) hlt2
            have hgi : q.getD i (0, 0) = q[i] := by simp [List.getD, hlt2]
            by_cases hc : q[i].1 = k
            · have Hi : Hid (idxI q k = (i : Int)) := Lib.hid (by
                have h1 : idxTo q k (i + 1) = some i := by rw [idxTo, Hno.out]; simp only; rw [hgi, if_pos hc]
                unfold idxI
                rw [idxTo_more q k (i + 1) i h1 q.length (by omega)])
              rw [hc] at x0
              clear hc hgi x1 hp0 hcl
              go_wp2
              go_ret2
              have e1 := Hi.out
              rw [Hq.out] at e1
              refine ⟨?_, hfr⟩
              rw [show idxP P k = _ from e1, ← Ha.out]
              rfl
            · have Hi : Hid (idxTo q k (i + 1) = none) := Lib.hid (by rw [idxTo, Hno.out]; simp only; rw [hgi, if_neg hc])
              have hcb : ((q[i].1 : Int) == (k : Int)) = false := by simp; omega
              have hcc2 : ¬ ((q[i].1 : Int) = (k : Int)) := by omega
              generalize q[i].1 = kk at *
              clear hc hgi x1 hp0
              go_wp2
              go_roundw
              case rel => exact ⟨i + 1, by omega, by go_num, Hi, hfr⟩
              case measure => simp [intOf]; omega
          · have Hi : Hid (idxI q k = -1) := Lib.hid (by
              unfold idxI
              rw [show q.length = i by omega, Hno.out])
            clear hp0 hcl
            go_wp2
            go_ret2
            have e1 := Hi.out
            rw [Hq.out] at e1
            refine ⟨?_, hfr⟩
            rw [show idxP P k = _ from e1, ← Ha.out]
            rfl
end Go.Proofs.Ytenmiociinogeaa
