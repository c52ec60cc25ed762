/- The law 'FramesGet'. -/
import Derived.Test.YtinfeollcmfjeaaLw6
import Derived.Test.YtinfeollcmfjeaaAll6
namespace Go.Proofs.Ytinfeollcmfjeaa
open Go.RowKit

theorem stepsF_count {e : Int} {l : List Nat} {n : Nat} {fs : List Frm} {k : Nat} (h : stepsF e l n = some (fs, k)) : n ≤ k := by
  induction n generalizing fs k with
  | zero => omega
  | succ n ih =>
    simp only [stepsF, Option.bind_eq_some_iff, Option.map_eq_some_iff] at h
    obtain ⟨⟨gs, j⟩, h1, ⟨f, m⟩, h2, h3⟩ := h
    simp only [Prod.mk.injEq] at h3
    obtain ⟨rfl, rfl⟩ := h3
    have := ih h1
    have := (getF_len h2).2.2.1
    omega
theorem Told.count {e : Int} {l : List Nat} {fs : List Frm} {k : Nat} (h : Told e l fs k) : fs.length ≤ k ∧ k ≤ l.length := ⟨stepsF_count h.1, (stepsF_len h.1).2⟩

set_option maxRecDepth 100000 in
set_option maxHeartbeats 4000000 in
theorem lawGet_any (ep n : Int) (he : -9223372036854775808 ≤ ep ∧ ep < 9223372036854775808) (hn : -9223372036854775808 ≤ n ∧ n < 9223372036854775808) (l : List Nat) (h64 : ∀ u ∈ l, u < 18446744073709551616) (m : Nat) (A : Option Addr) (c : Nat) (w : World) (h : Sl w w.heap.size A (u64s l)) (hm : l.length = m) (hmc : m ≤ c) (hc : c ≤ maxLen) :
    Calls Try.prog 4 #[.int .i64 ep, .int .i64 n, .slice A m c] w fun e w' => e = .returned (.bool true) ∧ Fr No w w' := by
  by_cases hbig : 3000 < m
  · have hd : decide ((3000 : Int) < (m : Int)) = true := by simp; omega
    go_enter Try.func4, Try.ntmps4
    go_wp2_with fail
    refine (alive6_any _).mono ?_
    rintro e w1 ⟨rfl, f1⟩
    go_wp2
    go_ret
    exact ⟨rfl, f1⟩
  · have hd : decide ((3000 : Int) < (m : Int)) = false := by simp; omega
    have HG := Lib.hid (fun W (hW : Fr No w W) => get_any ep n he hn l h64 m A c W (h.since hW) hm hmc hc)
    have HR := Lib.hid (fun W (hW : Fr No w W) => refGet_any ep n l h64 m A c W (h.since hW) hm hmc hc)
    have HA := Lib.hid (fun W (hW : Fr No w W) => all_any ep he l h64 m A c W (h.since hW) hm hmc hc (by omega))
    have HRA := Lib.hid (fun W (hW : Fr No w W) => refAll_any ep l h64 m A c W (h.since hW) hm hmc hc (by omega))
    obtain ⟨r, Hr⟩ : ∃ r, Hid (getF ep n l = r) := ⟨_, Lib.hid rfl⟩
    rw [Hr.out] at HG HR
    have hml : m ≤ 3000 := by omega
    have Hml := Lib.hid hm
    clear h64 h hm hbig hc hmc he hn Hr
    go_enter Try.func4, Try.ntmps4
    go_wp2_with fail
    refine (alive6_any _).mono ?_
    rintro e w1 ⟨rfl, f1⟩
    go_wp2_with fail
    refine (HG.out _ f1).mono ?_
    rintro e w2 ⟨⟨xk, xA, xw, xc⟩, k, rfl, f2, hx, -, -, hrx⟩
    have g2 := f1.trans' f2 (fun _ _ e => e)
    have g3 := g2.alloc (.cells #[.int .i64 xk, .slice xA xw.length xc] 24)
    have Hx := Lib.hid (fun W (hW : Fr No w2 W) => hx.since hW)
    have bx : Bk (w2.alloc (.cells #[.int .i64 xk, .slice xA xw.length xc] 24)) w2.heap.size 24 #[.int .i64 xk, .slice xA xw.length xc] := Bk.made w2 _ _
    have HRx := Lib.hid hrx
    clear hx f1 f2 g2 hrx
    unfold FrV.agg
    dsimp only
    go_wp2_with fail
    refine (HR.out _ g3).mono ?_
    rintro e w3 ⟨⟨yk, yA, yw, yc⟩, k2, rfl, f3, hy, -, hry⟩
    have hkk : k = k2 := by
      have := HRx.out.symm.trans hry
      exact (Prod.mk.injEq .. ▸ this).2
    have Hff : Hid (FrV.f ⟨xk, xA, xw, xc⟩ = FrV.f ⟨yk, yA, yw, yc⟩) := Lib.hid (by
      have := HRx.out.symm.trans hry
      exact (Prod.mk.injEq .. ▸ this).1)
    subst hkk
    have bx3 := bx.fr f3 (fun e => e)
    have fx := Hx.out w3 (((Fr.refl No w2).alloc _).trans' f3 (fun _ _ e => e))
    have gx : Fr No w3 (w3.alloc (.cells #[.int .i64 yk, .slice yA yw.length yc] 24)) := (Fr.refl _ _).alloc _
    have gy : Fr No (w3.alloc (.cells #[.int .i64 yk, .slice yA yw.length yc] 24)) ((w3.alloc (.cells #[.int .i64 yk, .slice yA yw.length yc] 24)).alloc (.cells #[.int .i64 xk, .slice xA xw.length xc] 24)) := (Fr.refl _ _).alloc _
    have gz : Fr No ((w3.alloc (.cells #[.int .i64 yk, .slice yA yw.length yc] 24)).alloc (.cells #[.int .i64 xk, .slice xA xw.length xc] 24)) (((w3.alloc (.cells #[.int .i64 yk, .slice yA yw.length yc] 24)).alloc (.cells #[.int .i64 xk, .slice xA xw.length xc] 24)).alloc (.cells #[.int .i64 yk, .slice yA yw.length yc] 24)) := (Fr.refl _ _).alloc _
    have HS : Hid (Calls Try.prog 16 #[.slice (some ⟨w3.heap.size + 1, 0, none⟩) 1 1, .slice (some ⟨w3.heap.size + 1 + 1, 0, none⟩) 1 1] (((w3.alloc (.cells #[.int .i64 yk, .slice yA yw.length yc] 24)).alloc (.cells #[.int .i64 xk, .slice xA xw.length xc] 24)).alloc (.cells #[.int .i64 yk, .slice yA yw.length yc] 24)) fun e w' => e = .returned (.bool true) ∧ Fr No (((w3.alloc (.cells #[.int .i64 yk, .slice yA yw.length yc] 24)).alloc (.cells #[.int .i64 xk, .slice xA xw.length xc] 24)).alloc (.cells #[.int .i64 yk, .slice yA yw.length yc] 24)) w') := Lib.hid (by
      have q1 := (frs_one (w3.alloc (.cells #[.int .i64 yk, .slice yA yw.length yc] 24)) ⟨xk, xA, xw, xc⟩ (fx.since gx)).since gz
      have q2 := frs_one ((w3.alloc (.cells #[.int .i64 yk, .slice yA yw.length yc] 24)).alloc (.cells #[.int .i64 xk, .slice xA xw.length xc] 24)) ⟨yk, yA, yw, yc⟩ ((hy.since gx).since gy)
      rw [World.size_alloc] at q1
      rw [World.size_alloc, World.size_alloc] at q2
      refine (refSame6_any [⟨xk, xA, xw, xc⟩] [⟨yk, yA, yw, yc⟩] _ _ 1 1 1 1 _ q1 q2 rfl rfl (by omega) (by omega)).mono ?_
      rintro e w' ⟨⟨b, rfl, hb⟩, hf⟩
      have : b = true := hb.2 (by simp only [List.map_cons, List.map_nil]; rw [Hff.out])
      exact ⟨by rw [this], hf⟩)
    have g4 := (((g3.trans' f3 (fun _ _ e => e)).alloc (.cells #[.int .i64 yk, .slice yA yw.length yc] 24)).alloc (.cells #[.int .i64 xk, .slice xA xw.length xc] 24)).alloc (.cells #[.int .i64 yk, .slice yA yw.length yc] 24)
    have x0 : (w3.alloc (.cells #[.int .i64 yk, .slice yA yw.length yc] 24)).cell? ⟨w2.heap.size, 0, none⟩ = some (.int .i64 xk) := (bx3.fr gx (fun e => e)).cell 0
    have x1 : (w3.alloc (.cells #[.int .i64 yk, .slice yA yw.length yc] 24)).cell? ⟨w2.heap.size, 1, none⟩ = some (.slice xA xw.length xc) := (bx3.fr gx (fun e => e)).cell 1
    have by' : Bk (w3.alloc (.cells #[.int .i64 yk, .slice yA yw.length yc] 24)) w3.heap.size 24 #[.int .i64 yk, .slice yA yw.length yc] := Bk.made w3 _ _
    have y0 : ((w3.alloc (.cells #[.int .i64 yk, .slice yA yw.length yc] 24)).alloc (.cells #[.int .i64 xk, .slice xA xw.length xc] 24)).cell? ⟨w3.heap.size, 0, none⟩ = some (.int .i64 yk) := (by'.fr gy (fun e => e)).cell 0
    have y1 : ((w3.alloc (.cells #[.int .i64 yk, .slice yA yw.length yc] 24)).alloc (.cells #[.int .i64 xk, .slice xA xw.length xc] 24)).cell? ⟨w3.heap.size, 1, none⟩ = some (.slice yA yw.length yc) := (by'.fr gy (fun e => e)).cell 1
    have G4 := Lib.hid g4
    unfold FrV.agg
    dsimp only
    generalize r.isSome = bb at *
    clear bx bx3 fx gx gy gz by' g3 f3 hy g4 hry HRx Hx HR HG hd
    go_wp2_with (go_at_call 16; refine HS.out.mono ?_; rintro e w5 ⟨rfl, f5⟩; clear x0 x1 y0 y1)
    have g5 := G4.out.trans' f5 (fun _ _ e => e)
    refine (HA.out _ g5).mono ?_
    rintro e w6 ⟨xs, A6, c6, k6, rfl, ht6, ho6⟩
    have g6 := g5.trans' ho6.fr (fun _ _ e => e)
    have HO6 := Lib.hid ho6
    have HT6 := Lib.hid ht6
    clear HS f5 g5 G4 ho6 ht6
    obtain ⟨n6, N6⟩ : ∃ n6, Hid (n6 = xs.length) := ⟨_, Lib.hid rfl⟩
    rw [← N6.out]
    go_wp2_with fail
    refine (HRA.out _ g6).mono ?_
    rintro e w7 ⟨ys, A7, c7, k7, rfl, ht7, ho7⟩
    obtain ⟨hxy, hkk⟩ := HT6.out.uniq ht7
    subst hkk
    have hc6 := HT6.out.count
    rw [List.length_map, ← N6.out, Hml.out] at hc6
    have hc7 := ht7.count
    rw [List.length_map, Hml.out] at hc7
    obtain ⟨n7, N7⟩ : ∃ n7, Hid (n7 = ys.length) := ⟨_, Lib.hid rfl⟩
    rw [← N7.out] at hc7 ⊢
    have HSa : Hid (Calls Try.prog 16 #[.slice A6 n6 c6, .slice A7 n7 c7] w7 fun e w' => e = .returned (.bool true) ∧ Fr No w7 w') := Lib.hid (by
      refine (refSame6_any xs ys A6 A7 n6 n7 c6 c7 w7 (HO6.out.since ho7.fr).frs ho7.frs N6.out.symm N7.out.symm (by omega) (by omega)).mono ?_
      rintro e w' ⟨⟨b, rfl, hb⟩, hf⟩
      have : b = true := hb.2 hxy
      exact ⟨by rw [this], hf⟩)
    have G7 := Lib.hid (g6.trans' ho7.fr (fun _ _ e => e))
    clear ht7 ho7 hxy g6 HO6 HT6 hc6 hc7
    go_wp2_with (go_at_call 16; refine HSa.out.mono ?_; rintro e w8 ⟨rfl, f8⟩)
    go_ret
    exact ⟨rfl, G7.out.trans' f8 (fun _ _ e => e)⟩
end Go.Proofs.Ytinfeollcmfjeaa
