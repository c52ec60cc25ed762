/- The law 'FootReads', walked. -/
import Derived.Test.YthincpklokgjhaaRgt10
import Derived.Test.YthincpklokgjhaaGtf10
import Derived.Test.YthincpklokgjhaaRfm10
import Derived.Test.YthincpklokgjhaaCov10
import Derived.Test.YthincpklokgjhaaHand
import Derived.Deep.RegionHeld3
namespace Go.Proofs.Ythincpklokgjhaa
open Go.RowKit

theorem gotS_words10 {B q : Nat} {w : World} {st : Option (List Nat)} (h : RR w B q st) : ∃ (A : Option Addr) (n c : Nat), w.cell? ⟨q, 0, none⟩ = some (.slice A n c) ∧ w.cell? ⟨q, 1, none⟩ = some (.bool st.isNone) ∧ ∀ ys, st = some ys → ys.length = n := by
  obtain ⟨A, n, c, b, _, h3⟩ := h
  exact ⟨A, n, c, b.cell 0, b.cell 1, fun ys e => (h3 ys e).1⟩

/-- A footprint lies apart of a block without numbers. -/
theorem fsp_apart {w : World} {p B : Nat} {ty : TypeId} {cs : Array Value} {A : Option Addr} {l : List Fsp} (hB : Bk w p ty cs) (hsl : Sl w B A (l.flatMap Fsp.cells)) (hne : ∀ (i : Nat) (v : Int), cs[i]? ≠ some (.int .i64 v)) : ∀ ad, A = some ad → l.flatMap Fsp.cells ≠ [] → ad.block ≠ p := by
  intro ad hA hx he
  have hl : l ≠ [] := by rintro rfl; exact hx rfl
  have hl0 : 0 < l.length := Nat.pos_of_ne_zero (fun e => hl (List.eq_nil_of_length_eq_zero e))
  obtain ⟨ad', e, _, hc, _⟩ := hsl.fsp (k := 0) hl0
  rw [hA] at e
  injection e with e
  subst e
  have hb : w.heap[(ad.add (0 * 5)).block]? = some (.cells cs ty (0, 0)) := by rw [block_add, he]; exact hB
  unfold World.cell? at hc
  rw [hb] at hc
  simp only at hc
  split at hc
  · cases hc
  · exact hne _ _ hc

set_option maxHeartbeats 4000000 in
theorem footReads_any (xs : List Nat) (A : Option Addr) (n c : Nat) (w : World) (hsl : Sl w w.heap.size A (u64s xs)) (hn : xs.length = n) (hnc : n ≤ c) (hcm : c ≤ maxLen) (hA : A = none → n = 0 ∧ c = 0) (h64 : ∀ u ∈ xs, u < 18446744073709551616) :
    Calls Try.prog 6 #[.slice A n c] w (Has w true) := by
  have Hn := Lib.hid hn
  have Hsl := Lib.hid hsl
  have HA := Lib.hid hA
  have H64 := Lib.hid h64
  have Hcm := Lib.hid hcm
  clear hn hsl hA h64 hcm
  go_enter Try.func6, Try.ntmps6
  go_wp2_with fail
  refine (alive10 _).mono ?_
  rintro e w1 ⟨rfl, hf1⟩
  by_cases h200 : 200 < n
  · have d0 : decide (200 < (n : Int)) = true := by simp; omega
    go_wp2
    go_ret
    exact ⟨rfl, hf1⟩
  have d0 : decide (200 < (n : Int)) = false := by simp; omega
  go_wp2_with fail
  refine (qnew_any xs A n c w1 (Hsl.out.since hf1) Hn.out HA.out (by omega) H64.out).mono ?_
  rintro e w2 ⟨r, rfl, hrB, hrd2, hf2⟩
  have hz2 := hf1.then0 hf2 (fun _ h => h.elim)
  have hrl := hrd2.lt
  have hf3 : Fr No w2 (w2.alloc (.cells #[.slice A n c, .bool false] 54)) := (Fr.refl _ _).alloc _
  have hrd3 := hrd2.fr hf3 (fun e => e) (fun _ e => e.elim)
  have hrr3 : RR (w2.alloc (.cells #[.slice A n c, .bool false] 54)) w.heap.size w2.heap.size (some xs) :=
    ⟨A, n, c, Bk.made _ _ _, hz2.size, fun ys e => by
      simp only [Option.some.injEq] at e
      subst e
      exact ⟨Hn.out, hnc, Hcm.out, Hsl.out.fr (hz2.then0 hf3 (fun _ h => h.elim)) (Nat.le_refl _) (fun _ _ _ e => e), H64.out⟩⟩
  have Hrd3 := Lib.hid hrd3
  have Hrr3 := Lib.hid hrr3
  have Hf1 := Lib.hid hf1
  have Hz2 := Lib.hid hz2
  clear hrd2 hrd3 hrr3 hf1
  go_wp2_with fail
  refine (get10_any r _ _ Hrd3.out (fun k hk => by have h : k < w2.heap.size := hk; simp; omega)).mono ?_
  rintro e w4 ⟨A4, c4, rfl, hsl4, hrd4, hf4⟩
  obtain ⟨q, hq⟩ : ∃ q, Hid (q = w2.heap.size) := ⟨_, Lib.hid rfl⟩
  have hrq : r < q := by rw [hq.out]; exact hrl
  have hrr4 : RR w4 w.heap.size q (some xs) := by
    rw [hq.out]
    exact Hrr3.out.fr hf4 (fun e => by have e : w2.heap.size = r := e; omega) (fun k e => by have e : k = r := e; have := Hf1.out.size; omega)
  have hz4 : Fr No w w4 := (Hz2.out.alloc _).trans' hf4 (fun i hi e => by have e : i = r := e; have := Hf1.out.size; omega)
  have Hrr4 := Lib.hid hrr4
  have Hsl4 := Lib.hid hsl4
  have Hrd4 := Lib.hid hrd4
  rw [← hq.out]
  clear hrr4 hsl4 hrd4
  go_wp2_with fail
  refine (refGet10_any q w.heap.size _ _ Hrr4.out).mono ?_
  rintro e w5 ⟨A5, c5, rfl, hsl5, hrr5, hf5⟩
  have hz5 : Fr No w w5 := hz4.trans' hf5 (fun i hi e => by have e : i = q := e; have h1 := hq.out; have h2 := Hz2.out.size; omega)
  have hrd5 := Hrd4.out.frG hf5 (fun e => by have e : r = q := e; omega) (fun k hk e => by have e : k = q := e; have h1 := hq.out; have h : k < w2.heap.size := hk; omega)
  have hs45 : Sl w5 w5.heap.size A4 ((gotFL (some xs)).flatMap Fsp.cells) := (Hsl4.out.fr hf5 (Nat.le_refl _) (fun ad e hne hs => by
    obtain ⟨A6, n6, c6, b6, _, _⟩ := Hrr4.out
    refine fsp_apart b6 Hsl4.out (fun i v => ?_) ad e hne hs
    match i with
    | 0 => simp
    | 1 => simp
    | i + 2 => simp)).more hf5.size
  have hlen : (gotFL (some xs)).length ≤ 4 := by
    unfold gotFL
    split
    · rw [lsF_len]
      exact gotFN_le _
    · simp
  obtain ⟨A6, n6, c6, g0, g1, g2⟩ := gotS_words10 hrr5
  have HSame := Lib.hid (fun (W : World) (h : Fr No w5 W) => same10_any (gotFL (some xs)) A4 A5 (gotFL (some xs)).length c4 c5 W (hs45.since h) (hsl5.since h) rfl (by omega))
  have HOk := Lib.hid (fun (W : World) (h : Fr No w5 W) => qok_any r (gotFS (some xs)) W (hrd5.fr h (fun e => e) (fun _ e => e.elim)))
  have HEnd := Lib.hid (fun (W : World) (h : Fr No w5 W) => qend_any r (gotFS (some xs)) W (hrd5.fr h (fun e => e) (fun _ e => e.elim)))
  have Hz5 := Lib.hid hz5
  have hrr5l := hrr5.lt
  generalize (gotFL (some xs)).length = L at *
  generalize gotFS (some xs) = st at *
  clear hsl5 hrr5 hrd5 hs45 Hsl4 Hrd4 Hrr4 Hrd3 Hrr3 hf4 hf5 hf2 hf3 hz2 hz4 hz5
  have hB0 : ∃ b : Bool, st.isSome = b ∧ st.isNone = !b := ⟨st.isSome, rfl, by cases st <;> rfl⟩
  obtain ⟨b, hb1, hb2⟩ := hB0
  obtain ⟨z, hz⟩ : ∃ z : Bool, z = decide (st = some []) := ⟨_, rfl⟩
  rw [hb1] at HOk
  rw [← hz] at HEnd
  rw [hb2] at g1
  have Hend : Hid (z = (b && ((n6 : Int) == 0))) := Lib.hid (by
    cases st with
    | none =>
      simp at hb1
      subst hb1
      simp [hz]
    | some ys =>
      have := g2 ys rfl
      simp at hb1
      subst hb1
      rw [hz]
      cases ys with
      | nil =>
        simp at this
        simp [← this]
      | cons a s =>
        simp at this
        simp
        omega)
  clear hz hb1 hb2 g2
  cases b
  · have e1 : z = false := by rw [Hend.out]; rfl
    subst e1
    go_wp2_with fail
    refine wp_region_held_drew (S := fun w' => w'.cell? ⟨q, 0, none⟩ = some (.slice A6 n6 c6) ∧ w'.cell? ⟨q, 1, none⟩ = some (.bool true)) (by kernel_rfl) ⟨g0, g1⟩ (fun hHeld => ?_)
    refine any_take 21 (.slice A4 L c4) (i := 0) rfl rfl (by kernel_rfl) (by kernel_rfl) (by kernel_rfl) (fun _ _ _ h => h) (by rfl) (by intro w hSw; (try dsimp only at hSw); go_simp; try with_reducible rfl) (by assumption) ?_
    simp only [Act.put, List.setIfInBounds_toArray, List.set_cons_zero, List.set_cons_succ]
    refine any_take 22 (.slice A5 L c5) (i := 1) rfl rfl (by kernel_rfl) (by kernel_rfl) (by kernel_rfl) (fun _ _ _ h => h) (by rfl) (by intro w hSw; (try dsimp only at hSw); go_simp; try with_reducible rfl) (by assumption) ?_
    simp only [Act.put, List.setIfInBounds_toArray, List.set_cons_zero, List.set_cons_succ]
    refine wpAnyH_ready (rs := [2]) (by kernel_rfl) (by simp) ?_
    refine AllReadyH.cons rfl (fun K' hK => ?_) AllReadyH.nil
    go_simp
    go_at_call 27
    refine (HSame.out _ ((Fr.refl No w5).drew)).mono ?_
    rintro e wS ⟨rfl, hfS⟩
    have hFS : Fr No w5 wS := ((Fr.refl No w5).drew).then0 hfS (fun _ h => h.elim)
    dsimp only
    refine hK.out _ _ ⟨(hFS.cell (p := ⟨q, 0, none⟩) hrr5l (fun e => e)).trans g0, (hFS.cell (p := ⟨q, 1, none⟩) hrr5l (fun e => e)).trans g1⟩ (fun hHeld => ?_)
    clear hK
    try simp only [Act.put, List.setIfInBounds_toArray, List.set_cons_zero, List.set_cons_succ]
    refine any_take 24 (.bool true) (i := 3) rfl rfl (by kernel_rfl) (by kernel_rfl) (by kernel_rfl) (fun _ _ _ h => h) (by rfl) (by intro w hSw; (try dsimp only at hSw); go_simp; try with_reducible rfl) (by assumption) ?_
    simp only [Act.put, List.setIfInBounds_toArray, List.set_cons_zero, List.set_cons_succ]
    refine any_take 25 (.pointer (some ⟨r, 0, none⟩)) (i := 4) rfl rfl (by kernel_rfl) (by kernel_rfl) (by kernel_rfl) (fun _ _ _ h => h) (by rfl) (by intro w hSw; (try dsimp only at hSw); go_simp; try with_reducible rfl) (by assumption) ?_
    simp only [Act.put, List.setIfInBounds_toArray, List.set_cons_zero, List.set_cons_succ]
    refine any_take 27 (.pointer (some ⟨q, 0, none⟩)) (i := 6) rfl rfl (by kernel_rfl) (by kernel_rfl) (by kernel_rfl) (fun _ _ _ h => h) (by rfl) (by intro w hSw; (try dsimp only at hSw); go_simp; try with_reducible rfl) (by assumption) ?_
    simp only [Act.put, List.setIfInBounds_toArray, List.set_cons_zero, List.set_cons_succ]
    refine any_take 28 (.pointer (some ⟨q, 0, none⟩)) (i := 7) rfl rfl (by kernel_rfl) (by kernel_rfl) (by kernel_rfl) (fun _ _ _ h => h) (by rfl) (by intro w hSw; (try dsimp only at hSw); go_simp; try with_reducible rfl) (by assumption) ?_
    simp only [Act.put, List.setIfInBounds_toArray, List.set_cons_zero, List.set_cons_succ]
    refine any_take 29 (.pointer (some ⟨q, 1, none⟩)) (i := 8) rfl rfl (by kernel_rfl) (by kernel_rfl) (by kernel_rfl) (fun _ _ _ h => h) (by rfl) (by intro w hSw; (try dsimp only at hSw); go_simp; try with_reducible rfl) (by assumption) ?_
    simp only [Act.put, List.setIfInBounds_toArray, List.set_cons_zero, List.set_cons_succ]
    refine any_take 30 (.bool true) (i := 9) rfl rfl (by kernel_rfl) (by kernel_rfl) (by kernel_rfl) (fun _ _ _ h => h) (by rfl) (by intro w hSw; (try dsimp only at hSw); go_simp; try with_reducible rfl) (by assumption) ?_
    simp only [Act.put, List.setIfInBounds_toArray, List.set_cons_zero, List.set_cons_succ]
    refine any_take 31 (.bool false) (i := 10) rfl rfl (by kernel_rfl) (by kernel_rfl) (by kernel_rfl) (fun _ _ _ h => h) (by rfl) (by intro w hSw; (try dsimp only at hSw); go_simp; try with_reducible rfl) (by assumption) ?_
    simp only [Act.put, List.setIfInBounds_toArray, List.set_cons_zero, List.set_cons_succ]
    refine wpAnyH_ready (rs := [5]) (by kernel_rfl) (by simp) ?_
    refine AllReadyH.cons rfl (fun K' hK => ?_) AllReadyH.nil
    go_simp
    go_at_call 29
    refine (HOk.out _ hFS).mono ?_
    rintro e' wO ⟨rfl, rfl⟩
    dsimp only
    refine hK.out _ _ ⟨(hFS.cell (p := ⟨q, 0, none⟩) hrr5l (fun e => e)).trans g0, (hFS.cell (p := ⟨q, 1, none⟩) hrr5l (fun e => e)).trans g1⟩ (fun hHeld => ?_)
    clear hK
    try simp only [Act.put, List.setIfInBounds_toArray, List.set_cons_zero, List.set_cons_succ]
    refine any_take 32 (.bool true) (i := 11) rfl rfl (by kernel_rfl) (by kernel_rfl) (by kernel_rfl) (fun _ _ _ h => h) (by rfl) (by intro w hSw; (try dsimp only at hSw); go_simp; try with_reducible rfl) (by assumption) ?_
    simp only [Act.put, List.setIfInBounds_toArray, List.set_cons_zero, List.set_cons_succ]
    refine any_take 33 (.bool true) (i := 12) rfl rfl (by kernel_rfl) (by kernel_rfl) (by kernel_rfl) (fun _ _ _ h => h) (by rfl) (by intro w hSw; (try dsimp only at hSw); go_simp; try with_reducible rfl) (by assumption) ?_
    simp only [Act.put, List.setIfInBounds_toArray, List.set_cons_zero, List.set_cons_succ]
    refine any_take 34 (.bool true) (i := 13) rfl rfl (by kernel_rfl) (by kernel_rfl) (by kernel_rfl) (fun _ _ _ h => h) (by rfl) (by intro w hSw; (try dsimp only at hSw); go_simp; try with_reducible rfl) (by assumption) ?_
    simp only [Act.put, List.setIfInBounds_toArray, List.set_cons_zero, List.set_cons_succ]
    refine any_take 35 (.pointer (some ⟨r, 0, none⟩)) (i := 14) rfl rfl (by kernel_rfl) (by kernel_rfl) (by kernel_rfl) (fun _ _ _ h => h) (by rfl) (by intro w hSw; (try dsimp only at hSw); go_simp; try with_reducible rfl) (by assumption) ?_
    simp only [Act.put, List.setIfInBounds_toArray, List.set_cons_zero, List.set_cons_succ]
    refine any_take 37 (.pointer (some ⟨q, 0, none⟩)) (i := 16) rfl rfl (by kernel_rfl) (by kernel_rfl) (by kernel_rfl) (fun _ _ _ h => h) (by rfl) (by intro w hSw; (try dsimp only at hSw); go_simp; try with_reducible rfl) (by assumption) ?_
    simp only [Act.put, List.setIfInBounds_toArray, List.set_cons_zero, List.set_cons_succ]
    refine any_take 38 (.pointer (some ⟨q, 0, none⟩)) (i := 17) rfl rfl (by kernel_rfl) (by kernel_rfl) (by kernel_rfl) (fun _ _ _ h => h) (by rfl) (by intro w hSw; (try dsimp only at hSw); go_simp; try with_reducible rfl) (by assumption) ?_
    simp only [Act.put, List.setIfInBounds_toArray, List.set_cons_zero, List.set_cons_succ]
    refine any_take 39 (.pointer (some ⟨q, 1, none⟩)) (i := 18) rfl rfl (by kernel_rfl) (by kernel_rfl) (by kernel_rfl) (fun _ _ _ h => h) (by rfl) (by intro w hSw; (try dsimp only at hSw); go_simp; try with_reducible rfl) (by assumption) ?_
    simp only [Act.put, List.setIfInBounds_toArray, List.set_cons_zero, List.set_cons_succ]
    refine any_take 40 (.bool true) (i := 19) rfl rfl (by kernel_rfl) (by kernel_rfl) (by kernel_rfl) (fun _ _ _ h => h) (by rfl) (by intro w hSw; (try dsimp only at hSw); go_simp; try with_reducible rfl) (by assumption) ?_
    simp only [Act.put, List.setIfInBounds_toArray, List.set_cons_zero, List.set_cons_succ]
    refine any_take 41 (.bool false) (i := 20) rfl rfl (by kernel_rfl) (by kernel_rfl) (by kernel_rfl) (fun _ _ _ h => h) (by rfl) (by intro w hSw; (try dsimp only at hSw); go_simp; try with_reducible rfl) (by assumption) ?_
    simp only [Act.put, List.setIfInBounds_toArray, List.set_cons_zero, List.set_cons_succ]
    refine wpAnyH_ready (rs := [15]) (by kernel_rfl) (by simp) ?_
    refine AllReadyH.cons rfl (fun K' hK => ?_) AllReadyH.nil
    go_simp
    go_at_call 26
    refine (HEnd.out _ hFS).mono ?_
    rintro e' wE ⟨rfl, hfE⟩
    have hFE : Fr No w5 wE := hFS.then0 hfE (fun _ h => h.elim)
    dsimp only
    refine hK.out _ _ ⟨(hFE.cell (p := ⟨q, 0, none⟩) hrr5l (fun e => e)).trans g0, (hFE.cell (p := ⟨q, 1, none⟩) hrr5l (fun e => e)).trans g1⟩ (fun hHeld => ?_)
    clear hK
    try simp only [Act.put, List.setIfInBounds_toArray, List.set_cons_zero, List.set_cons_succ]
    refine any_take 42 (.bool false) (i := 21) rfl rfl (by kernel_rfl) (by kernel_rfl) (by kernel_rfl) (fun _ _ _ h => h) (by rfl) (by intro w hSw; (try dsimp only at hSw); go_simp; try with_reducible rfl) (by assumption) ?_
    simp only [Act.put, List.setIfInBounds_toArray, List.set_cons_zero, List.set_cons_succ]
    refine any_skip 43 (i := 22) rfl rfl (by kernel_rfl) (by kernel_rfl) (by kernel_rfl) (fun _ _ _ h => h) (by rfl) (by assumption) ?_
    simp only [Act.put, List.setIfInBounds_toArray, List.set_cons_zero, List.set_cons_succ]
    refine any_skip 44 (i := 23) rfl rfl (by kernel_rfl) (by kernel_rfl) (by kernel_rfl) (fun _ _ _ h => h) (by rfl) (by assumption) ?_
    simp only [Act.put, List.setIfInBounds_toArray, List.set_cons_zero, List.set_cons_succ]
    refine any_skip 45 (i := 24) rfl rfl (by kernel_rfl) (by kernel_rfl) (by kernel_rfl) (fun _ _ _ h => h) (by rfl) (by assumption) ?_
    simp only [Act.put, List.setIfInBounds_toArray, List.set_cons_zero, List.set_cons_succ]
    refine any_skip 46 (i := 25) rfl rfl (by kernel_rfl) (by kernel_rfl) (by kernel_rfl) (fun _ _ _ h => h) (by rfl) (by assumption) ?_
    simp only [Act.put, List.setIfInBounds_toArray, List.set_cons_zero, List.set_cons_succ]
    refine any_skip 47 (i := 26) rfl rfl (by kernel_rfl) (by kernel_rfl) (by kernel_rfl) (fun _ _ _ h => h) (by rfl) (by assumption) ?_
    simp only [Act.put, List.setIfInBounds_toArray, List.set_cons_zero, List.set_cons_succ]
    refine any_skip 48 (i := 27) rfl rfl (by kernel_rfl) (by kernel_rfl) (by kernel_rfl) (fun _ _ _ h => h) (by rfl) (by assumption) ?_
    simp only [Act.put, List.setIfInBounds_toArray, List.set_cons_zero, List.set_cons_succ]
    refine any_take 49 (.bool false) (i := 28) rfl rfl (by kernel_rfl) (by kernel_rfl) (by kernel_rfl) (fun _ _ _ h => h) (by rfl) (by intro w hSw; (try dsimp only at hSw); go_simp; try with_reducible rfl) (by assumption) ?_
    simp only [Act.put, List.setIfInBounds_toArray, List.set_cons_zero, List.set_cons_succ]
    refine any_take 50 (.bool true) (i := 29) rfl rfl (by kernel_rfl) (by kernel_rfl) (by kernel_rfl) (fun _ _ _ h => h) (by rfl) (by intro w hSw; (try dsimp only at hSw); go_simp; try with_reducible rfl) (by assumption) ?_
    simp only [Act.put, List.setIfInBounds_toArray, List.set_cons_zero, List.set_cons_succ]
    refine any_take 51 (.bool true) (i := 30) rfl rfl (by kernel_rfl) (by kernel_rfl) (by kernel_rfl) (fun _ _ _ h => h) (by rfl) (by intro w hSw; (try dsimp only at hSw); go_simp; try with_reducible rfl) (by assumption) ?_
    simp only [Act.put, List.setIfInBounds_toArray, List.set_cons_zero, List.set_cons_succ]
    refine any_take 2 (.bool true) (i := 31) rfl rfl (by kernel_rfl) (by kernel_rfl) (by kernel_rfl) (fun _ _ _ h => h) (by rfl) (by intro w hSw; (try dsimp only at hSw); go_simp; try with_reducible rfl) (by assumption) ?_
    simp only [Act.put, List.setIfInBounds_toArray, List.set_cons_zero, List.set_cons_succ]
    refine wpAnyH_done (by kernel_rfl) ?_ _
    clear hHeld
    go_wp2
    go_ret
    exact ⟨rfl, Hz5.out.then0 hFE (fun _ h => h.elim)⟩
  · by_cases h6 : n6 = 0
    · subst h6
      have e1 : z = true := by rw [Hend.out]; rfl
      subst e1
      go_wp2_with fail
      go_region_held3 (fun w' => w'.cell? ⟨q, 0, none⟩ = some (.slice A6 0 c6) ∧ w'.cell? ⟨q, 1, none⟩ = some (.bool false))
        (first | go_keep | exact ⟨g0S, g1S⟩ | exact ⟨g0E, g1E⟩)
        (first
          | (go_at_call 27
             refine (HSame.out _ ((Fr.refl No w5).drew)).mono ?_
             rintro e wS ⟨rfl, hfS⟩
             have hFS : Fr No w5 wS := ((Fr.refl No w5).drew).then0 hfS (fun _ h => h.elim)
             have g0S := (hFS.cell (p := ⟨q, 0, none⟩) hrr5l (fun e => e)).trans g0
             have g1S := (hFS.cell (p := ⟨q, 1, none⟩) hrr5l (fun e => e)).trans g1)
          | (go_at_call 29
             refine (HOk.out _ hFS).mono ?_
             rintro e' wO ⟨rfl, rfl⟩)
          | (go_at_call 26
             refine (HEnd.out _ hFS).mono ?_
             rintro e' wE ⟨rfl, hfE⟩
             have hFE : Fr No w5 wE := hFS.then0 hfE (fun _ h => h.elim)
             have g0E := (hFE.cell (p := ⟨q, 0, none⟩) hrr5l (fun e => e)).trans g0
             have g1E := (hFE.cell (p := ⟨q, 1, none⟩) hrr5l (fun e => e)).trans g1))
      all_goals
        go_wp2
        go_ret
        exact ⟨rfl, Hz5.out.then0 hFE (fun _ h => h.elim)⟩
    · have e0 : ((n6 : Int) == 0) = false := by rw [beq_eq_false_iff_ne]; omega
      have e1 : z = false := by rw [Hend.out, e0]; rfl
      subst e1
      go_wp2_with fail
      go_region_held3 (fun w' => w'.cell? ⟨q, 0, none⟩ = some (.slice A6 n6 c6) ∧ w'.cell? ⟨q, 1, none⟩ = some (.bool false))
        (first | go_keep | exact ⟨g0S, g1S⟩ | exact ⟨g0E, g1E⟩)
        (first
          | (go_at_call 27
             refine (HSame.out _ ((Fr.refl No w5).drew)).mono ?_
             rintro e wS ⟨rfl, hfS⟩
             have hFS : Fr No w5 wS := ((Fr.refl No w5).drew).then0 hfS (fun _ h => h.elim)
             have g0S := (hFS.cell (p := ⟨q, 0, none⟩) hrr5l (fun e => e)).trans g0
             have g1S := (hFS.cell (p := ⟨q, 1, none⟩) hrr5l (fun e => e)).trans g1)
          | (go_at_call 29
             refine (HOk.out _ hFS).mono ?_
             rintro e' wO ⟨rfl, rfl⟩)
          | (go_at_call 26
             refine (HEnd.out _ hFS).mono ?_
             rintro e' wE ⟨rfl, hfE⟩
             have hFE : Fr No w5 wE := hFS.then0 hfE (fun _ h => h.elim)
             have g0E := (hFE.cell (p := ⟨q, 0, none⟩) hrr5l (fun e => e)).trans g0
             have g1E := (hFE.cell (p := ⟨q, 1, none⟩) hrr5l (fun e => e)).trans g1))
      all_goals
        go_wp2
        go_ret
        exact ⟨rfl, Hz5.out.then0 hFE (fun _ h => h.elim)⟩
end Go.Proofs.Ythincpklokgjhaa
