/- The document's example of pages; the law 'PagesNone'. -/
import Derived.Test.YtenmiociinogeaaPgs5
namespace Go.Proofs.Ytenmiociinogeaa
open Go.RowKit

def nineP (j : Nat) : List Pg := (List.range j).foldl (fun P k => putP P k 1) []
theorem nineP_succ (j : Nat) : nineP (j + 1) = putP (nineP j) j 1 := by
  unfold nineP
  rw [List.range_succ, List.foldl_append]
  rfl
theorem nineP_inv : ∀ j, j ≤ 9 → InvP (nineP j)
  | 0, _ => InvP.nil
  | j + 1, h => by
    rw [nineP_succ]
    exact putP_inv (nineP_inv j (by omega)) (by omega) 1
theorem nineP_end : (nineP 9).map headK = [0, 4] ∧ (nineP 9).length = 2 := by decide +kernel
theorem i64_row {w : World} {B : Nat} {A : Option Addr} {xs : List Nat} (h : Sl w B A (xs.map fun (x : Nat) => Value.int .i64 (x : Int))) {i : Nat} (hi : i < xs.length) : ∃ ad, A = some ad ∧ ad.block < B ∧ w.cell? (ad.add i) = some (.int .i64 (xs[i] : Int)) := by
  obtain ⟨ad, e, hb, hc⟩ := h.at (k := i) (by simpa using hi)
  exact ⟨ad, e, hb, by simpa using hc⟩

set_option maxRecDepth 100000 in
set_option maxHeartbeats 4000000 in
theorem alive5_any (w : World) : Calls Try.prog 8 #[] w fun e w' => e = .returned (.bool true) ∧ Fr No w w' := by
  obtain ⟨cs, hz, hps⟩ := ps_zero
  have h0 := hps (w.alloc (.cells cs 28)) w.heap.size (Bk.made w _ cs)
  clear hps
  go_enter Try.func8, Try.ntmps8
  go_wp2
  obtain ⟨s, hs⟩ : ∃ s, Hid (s = w.heap.size) := ⟨_, Lib.hid rfl⟩
  rw [← hs.out] at h0 ⊢
  go_loopw [2] (fun iv wr => ∃ (j : Nat) (S : Nat → Prop), j ≤ 9 ∧ iv = .int .i64 j ∧ PS wr S s (nineP j) ∧ Hid (∀ k, S k → w.heap.size ≤ k) ∧ Fr No w wr) (fun i _ => 9 - (intOf i).toNat)
  case atStart => exact ⟨0, _, by omega, rfl, h0, Lib.hid (fun k e => by rw [e, hs.out]; exact Nat.le_refl _), (Fr.refl No w).alloc _⟩
  case round =>
    clear h0
    obtain ⟨j, S, hj, rfl, hP, HS, hfr⟩ := hrel
    by_cases hlt : j < 9
    · have q := pPut_any j (by omega) 1 (nineP_inv j hj) hP
      rw [← nineP_succ] at q
      clear hP
      go_wp2_with fail
      refine q.mono ?_
      rintro e w2 ⟨rfl, S', hP2, hf2, hn2⟩
      have f2 := hfr.trans' hf2 (fun k hk e => by have := HS.out k e; omega)
      have HS2 : Hid (∀ k, S' k → w.heap.size ≤ k) := Lib.hid (fun k hk => by
        rcases hn2 k hk with e | e
        · exact HS.out k e
        · have := hfr.size; omega)
      clear hf2 hn2 q
      go_wp2
      go_roundw
      case rel => exact ⟨j + 1, S', by omega, by go_num, hP2, HS2, f2⟩
      case measure => simp [intOf]; omega
    · obtain rfl : j = 9 := by omega
      have q := pPages_any (nineP_inv 9 (Nat.le_refl _)) hP
      have hmm : ((nineP 9).map fun q => Value.int .i64 (headK q : Int)) = [Value.int .i64 0, Value.int .i64 4] := by
        have h1 := nineP_end.1
        have h2 : ((nineP 9).map fun q => Value.int .i64 (headK q : Int)) = ((nineP 9).map headK).map fun (x : Nat) => Value.int .i64 (x : Int) := by rw [List.map_map]; rfl
        rw [h2, h1]
        rfl
      rw [hmm, nineP_end.2] at q
      clear hP hmm
      go_wp2_with fail
      refine q.mono ?_
      rintro e w2 ⟨A, c, rfl, hsl, hf2⟩
      obtain ⟨ad, rfl, -, hc⟩ := hsl (by simp)
      have x0 := hc 0 _ rfl
      have x1 : w2.cell? ⟨ad.block, ad.off + 1, none⟩ = some (.int .i64 4) := hc 1 _ rfl
      have f2 := hfr.trans' hf2 (fun _ _ e => e)
      simp [Addr.add] at x0
      clear hf2 q hsl hc
      go_wp2
      go_ret
      exact ⟨rfl, f2⟩
set_option maxRecDepth 100000 in
set_option maxHeartbeats 4000000 in
theorem none5_any (k v : Int) (w : World) : Calls Try.prog 6 #[.int .i64 k, .int .i64 v] w fun e w' => e = .returned (.bool true) ∧ Fr No w w' := by
  go_enter Try.func6, Try.ntmps6
  go_wp2_with fail
  refine (alive5_any _).mono ?_
  rintro e w1 ⟨rfl, g1⟩
  go_wp2_with fail
  refine (pGet_nil k _).mono ?_
  rintro e w2 ⟨rfl, f2⟩
  have g2 := g1.trans' f2 (fun _ _ e => e)
  clear g1 f2
  go_wp2_with fail
  refine (pPut_nil k v _).mono ?_
  rintro e w3 ⟨rfl, f3⟩
  have g3 := g2.trans' f3 (fun _ _ e => e)
  clear g2 f3
  go_wp2_with fail
  refine (pDel_nil k _).mono ?_
  rintro e w4 ⟨rfl, f4⟩
  have g4 := g3.trans' f4 (fun _ _ e => e)
  clear g3 f4
  go_wp2_with fail
  refine (pScan_nil 0 999 _).mono ?_
  rintro e w5 ⟨A5, c5, rfl, f5⟩
  have g5 := g4.trans' f5 (fun _ _ e => e)
  clear g4 f5
  go_wp2_with fail
  refine (pLen_nil _).mono ?_
  rintro e w6 ⟨rfl, f6⟩
  have g6 := g5.trans' f6 (fun _ _ e => e)
  clear g5 f6
  go_wp2_with fail
  refine (pPages_nil _).mono ?_
  rintro e w7 ⟨A7, c7, rfl, f7⟩
  have g7 := g6.trans' f7 (fun _ _ e => e)
  clear g6 f7
  go_wp2_with fail
  refine (pCopy_nil _).mono ?_
  rintro e w8 ⟨rfl, f8⟩
  have g8 := g7.trans' f8 (fun _ _ e => e)
  clear g7 f8
  go_wp2_with fail
  refine (pSame_nil2 _).mono ?_
  rintro e w9 ⟨rfl, f9⟩
  have g9 := g8.trans' f9 (fun _ _ e => e)
  clear g8 f9
  go_wp2
  go_ret
  exact ⟨rfl, g9⟩

set_option maxRecDepth 100000 in
set_option maxHeartbeats 4000000 in
/-- A store of package pages and one of the document's that have the same pages. -/
theorem same5_any (S R : Nat → Prop) (s p : Nat) (P : List Pg) (hi : InvP P) (w : World) (hs : PS w S s P) (hr : RS w R p P) :
    Calls Try.prog 16 #[.pointer (some ⟨s, 0, none⟩), .pointer (some ⟨p, 0, none⟩)] w fun e w' => e = .returned (.bool true) ∧ Fr No w w' := by
  have q1 := pPages_any hi hs
  have hPS : ∀ W, Fr No w W → PS W S s P := fun W h => hs.fr h (fun _ _ e => e)
  have hRS : ∀ W, Fr No w W → RS W R p P := fun W h => hr.fr h (fun _ _ e => e)
  have hscan : scanP P.flatten 0 999 = P.flatten := scanP_all hi.key
  have hlen := hi.len
  obtain ⟨v, hh, hd, hll, hpg, -⟩ := hr
  obtain ⟨A, c0, rfl, hc0⟩ := hd.shape
  have Hll := Lib.hid hll
  obtain ⟨z, hz⟩ : ∃ z, Hid (z = P.length) := ⟨_, Lib.hid rfl⟩
  have hz1 : z ≤ 1000 := by rw [hz.out]; exact hlen.2
  have hp0 : ∀ W, Fr No w W → W.cell? ⟨p, 0, none⟩ = some (.slice A z c0) := fun W h => by
    have h2 := (hd.fr h (fun e => e) (fun _ _ e => e)).self.cell 0
    simp at h2
    rw [hll, ← hz.out] at h2
    exact h2
  rw [← hz.out] at q1
  clear hs hll
  go_enter Try.func16, Try.ntmps16
  go_wp2_with fail
  refine q1.mono ?_
  rintro e w1 ⟨LA, lc, rfl, hsl, hf1⟩
  have p1 := hp0 _ hf1
  clear q1
  go_wp2
  go_loopw [6] (fun iv wr => ∃ j : Nat, j ≤ z ∧ iv = .int .i64 j ∧ Fr No w1 wr) (fun i _ => z - (intOf i).toNat)
  case atStart => exact ⟨0, by omega, rfl, Fr.refl _ _⟩
  case round =>
    clear p1
    obtain ⟨j, hj, rfl, hfr⟩ := hrel
    have hfw := hf1.trans' hfr (fun _ _ e => e)
    by_cases hlt : j < z
    · have hjP : j < P.length := by rw [← hz.out]; exact hlt
      have hjs : j < hh.length := by rw [Hll.out]; exact hjP
      have hdr := hd.fr hfw (fun e => e) (fun _ _ e => e)
      obtain ⟨g, rfl, -, -, hcell⟩ := hdr.cells hjs
      have hp := (hpg j hjs hjP).since hfw
      obtain ⟨C, cc, hv, hcc⟩ := PgO.shape hp
      rw [hv] at hcell hp
      have h0 := (hi.one _ (List.getElem_mem hjP)).1
      obtain ⟨gg, rfl, -, -, x0, -⟩ := PgO.cells hp (i := 0) (by omega)
      have Hh := headK_get P j hjP (by omega)
      have hgd : P.getD j [] = P[j] := by simp [List.getD, hjP]
      rw [hgd] at Hh
      rw [← Hh] at x0
      simp only [Nat.zero_mul] at x0
      obtain ⟨ad, rfl, hadB, hc⟩ := hsl.at (k := j) (by simpa using hjP)
      have l0 := (hfr.cell (p := ad.add j) (by rw [block_add]; exact hadB) (fun e => e)).trans hc
      simp only [List.getElem_map] at l0
      have p1 := hp0 _ hfw
      have hql : 0 < P[j].length := by omega
      clear hp hv hdr hc Hh hgd
      generalize headK P[j] = kk at *
      generalize P[j].length = ql at *
      go_wp2
      go_quiet (fail)
      go_wp2
      go_roundw
      case rel => exact ⟨j + 1, by omega, by go_num, hfr.drewN _⟩
      case measure => simp [intOf]; omega
    · have q2 := pScan_any 0 999 hi (hPS _ hfw)
      rw [hscan] at q2
      have q3 := fun W h => rPairs_any R p P W (hRS W h) (by omega)
      have q5 := fun W h => pLen_any hi (hPS W h)
      have hl1 := hlen.1
      clear hscan hpg hsl hp0 hRS hPS hi hd
      generalize P.flatten = fl at *
      go_wp2_with fail
      refine q2.mono ?_
      rintro e w2 ⟨A2, c2, rfl, hs2, f2⟩
      have g2 := hfw.trans' f2 (fun _ _ e => e)
      go_wp2_with fail
      refine (q3 _ g2).mono ?_
      rintro e w3 ⟨A3, c3, rfl, own3, f3⟩
      have g3 := g2.trans' f3 (fun _ _ e => e)
      go_wp2_with fail
      refine (refSame5_any fl fl A2 A3 _ _ c2 c3 w3 (hs2.since f3) (Sl.ofOwn own3) rfl rfl (by omega) (by omega)).mono ?_
      rintro e w4 ⟨rfl, f4⟩
      have g4 := g3.trans' f4 (fun _ _ e => e)
      have hde : decide (fl = fl) = true := by simp
      rw [hde]
      clear hs2 own3 f2 f3 f4 g2 g3 q2
      go_wp2_with fail
      refine (q5 _ g4).mono ?_
      rintro e w5 ⟨rfl, f5⟩
      have g5 := g4.trans' f5 (fun _ _ e => e)
      go_wp2_with fail
      refine (q3 _ g5).mono ?_
      rintro e w6 ⟨A6, c6, rfl, own6, f6⟩
      have g6 := g5.trans' f6 (fun _ _ e => e)
      clear own6 f5 f6 g4 g5 q3 q5
      go_wp2
      go_ret
      exact ⟨rfl, g6⟩
end Go.Proofs.Ytenmiociinogeaa
