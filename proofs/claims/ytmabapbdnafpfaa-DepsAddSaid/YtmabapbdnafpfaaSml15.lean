/- Package deps: is a node there, is it ahead, does one depend directly on another one; is a number in a list. -/
import Derived.Test.YtmabapbdnafpfaaNxd15
import Derived.Test.YtmabapbdnafpfaaLof15
import Derived.Test.YtmabapbdnafpfaaLtw15
import Derived.Test.YtmabapbdnafpfaaHand
namespace Go.Proofs.Ytmabapbdnafpfaa
open Go.RowKit

set_option maxHeartbeats 1000000 in
theorem has15 (A : Option Addr) (n c : Nat) (i : Int) (w : World) : Calls Try.prog 23 #[.slice A n c, .int .i64 i] w (Has w (decide (0 ≤ i ∧ i < n))) := by
  by_cases h0 : 0 ≤ i
  · have e : decide (0 ≤ i ∧ i < n) = decide (i < (n : Int)) := decide_eq_decide.2 (by omega)
    rw [e]
    go_enter Try.func23, Try.ntmps23
    go_wp2
    go_ret
    exact ⟨rfl, Fr.refl _ _⟩
  · have e : decide (0 ≤ i ∧ i < n) = false := decide_eq_false (by omega)
    rw [e]
    go_enter Try.func23, Try.ntmps23
    go_wp2
    go_ret
    exact ⟨rfl, Fr.refl _ _⟩
set_option maxHeartbeats 2000000 in
theorem ahead15 (A : Option Addr) (n c : Nat) (k i : Int) (w : World) : Calls Try.prog 20 #[.slice A n c, .int .i64 k, .int .i64 i] w (Has w (decide (0 ≤ k ∧ k < i ∧ i < n))) := by
  have Hk := Lib.hid (fun W => has15 A n c k W)
  have Hi := Lib.hid (fun W => has15 A n c i W)
  by_cases hk : 0 ≤ k ∧ k < n
  · rw [decide_eq_true hk] at Hk
    by_cases hi : 0 ≤ i ∧ i < n
    · rw [decide_eq_true hi] at Hi
      have e : decide (0 ≤ k ∧ k < i ∧ i < n) = decide (k < i) := decide_eq_decide.2 (by omega)
      rw [e]
      clear hk hi e
      go_enter Try.func20, Try.ntmps20
      go_wp2_with fail
      refine (Hk.out _).mono ?_
      rintro e w1 ⟨rfl, f1⟩
      have F1 := Lib.hid f1
      clear f1
      go_wp2_with fail
      refine (Hi.out _).mono ?_
      rintro e w2 ⟨rfl, f2⟩
      go_wp2
      go_ret
      exact ⟨rfl, F1.out.trans' f2 (fun _ _ e => e)⟩
    · rw [decide_eq_false hi] at Hi
      have e : decide (0 ≤ k ∧ k < i ∧ i < n) = false := decide_eq_false (by omega)
      rw [e]
      clear hk hi e
      go_enter Try.func20, Try.ntmps20
      go_wp2_with fail
      refine (Hk.out _).mono ?_
      rintro e w1 ⟨rfl, f1⟩
      have F1 := Lib.hid f1
      clear f1
      go_wp2_with fail
      refine (Hi.out _).mono ?_
      rintro e w2 ⟨rfl, f2⟩
      go_wp2
      go_ret
      exact ⟨rfl, F1.out.trans' f2 (fun _ _ e => e)⟩
  · rw [decide_eq_false hk] at Hk
    have e : decide (0 ≤ k ∧ k < i ∧ i < n) = false := decide_eq_false (by omega)
    rw [e]
    clear hk e
    go_enter Try.func20, Try.ntmps20
    go_wp2_with fail
    refine (Hk.out _).mono ?_
    rintro e w1 ⟨rfl, f1⟩
    go_wp2
    go_ret
    exact ⟨rfl, f1⟩
set_option maxRecDepth 100000 in
set_option maxHeartbeats 4000000 in
theorem direct15 (a b : Ndl) (w : World) (hC : ∀ W, Fr No w W → Calls Try.prog 29 #[a.agg, b.agg] W (Has W (confN a.n b.n))) : Calls Try.prog 21 #[a.agg, b.agg] w (Has w (dirN a.n b.n)) := by
  have HC := Lib.hid hC
  clear hC
  unfold dirN
  generalize confN a.n b.n = cf at *
  unfold Ndl.agg Ndl.arr at *
  generalize a.n.saga = sa at *
  generalize a.n.cls = ca at *
  generalize a.n.step = ta at *
  generalize a.n.back = ka at *
  generalize a.n.rd.length = na at *
  generalize a.n.wt.length = ma at *
  generalize a.rA = Ra at *
  generalize a.rc = rca at *
  generalize a.wA = Va at *
  generalize a.wc = wca at *
  generalize b.n.saga = sb at *
  generalize b.n.cls = cb at *
  generalize b.n.step = tb at *
  generalize b.n.back = kb at *
  generalize b.n.rd.length = nb at *
  generalize b.n.wt.length = mb at *
  generalize b.rA = Rb at *
  generalize b.rc = rcb at *
  generalize b.wA = Vb at *
  generalize b.wc = wcb at *
  by_cases hs : sa = sb
  · have d1 : (sa == sb) = true := by simp [hs]
    rw [decide_eq_true hs, Bool.true_or]
    subst hs
    go_enter Try.func21, Try.ntmps21
    go_wp2_with fail
    go_ret
    exact ⟨rfl, ((Fr.refl _ _).alloc _).alloc _⟩
  · have d1 : (sa == sb) = false := by simpa using hs
    rw [decide_eq_false hs, Bool.false_or]
    clear hs
    go_enter Try.func21, Try.ntmps21
    go_wp2_with fail
    have F0 := Lib.hid (((Fr.refl No w).alloc (.cells #[.int .i64 sa, .int .i64 ca, .int .i64 ta, .bool ka, .slice Ra na rca, .slice Va ma wca] 27)).alloc (.cells #[.int .i64 sb, .int .i64 cb, .int .i64 tb, .bool kb, .slice Rb nb rcb, .slice Vb mb wcb] 27))
    refine (HC.out _ F0.out).mono ?_
    rintro e w1 ⟨rfl, f1⟩
    go_wp2
    go_ret
    exact ⟨rfl, F0.out.trans' f1 (fun _ _ e => e)⟩
/-- Where a list has a number, from a place on. -/
def hasK (l : List Nat) (k : Int) : Bool := l.any fun x => decide ((x : Int) = k)
theorem hasK_depL (h : List Nd) (i k : Nat) : hasK (depL h i) (k : Int) = depB h i k := by
  unfold hasK
  rw [Bool.eq_iff_iff, List.any_eq_true]
  constructor
  · rintro ⟨x, hx, e⟩
    rw [decide_eq_true_eq] at e
    have : x = k := by omega
    rw [← this]
    exact depL_mem.1 hx
  · intro e
    exact ⟨k, depL_mem.2 e, by simp⟩
set_option maxRecDepth 100000 in
set_option maxHeartbeats 4000000 in
theorem index15 (l : List Nat) (A : Option Addr) (n c : Nat) (k : Int) (w : World) (hs : Sl w w.heap.size A (nums l)) (hn : l.length = n) (hnm : n ≤ 1048576) : Calls Try.prog 30 #[.slice A n c, .int .i64 k] w fun e w' => ∃ r : Int, e = .returned (.int .i64 r) ∧ decide (0 ≤ r) = hasK l k ∧ Fr No w w' := by
  have Hnum := Lib.hid (fun (j : Nat) (hj : j < l.length) W (h : Fr No w W) => (hs.since h).num hj)
  have Hst := Lib.hid (fun (j : Nat) (hj : j < l.length) (hp : (l.take j).any (fun x => decide ((x : Int) = k)) = false) => any_step16 (fun x : Nat => decide ((x : Int) = k)) l j hj hp)
  have Hfd := Lib.hid (fun (j : Nat) (hj : j < l.length) (e : ((l[j] : Nat) : Int) = k) => show hasK l k = true from List.any_eq_true.2 ⟨_, List.getElem_mem hj, decide_eq_true e⟩)
  have Htk := Lib.hid (fun (j : Nat) (hj : j = l.length) (hp : (l.take j).any (fun x => decide ((x : Int) = k)) = false) => show hasK l k = false by rwa [hj, List.take_length] at hp)
  have Hn := Lib.hid hn
  generalize hasK l k = q at *
  clear hs hn
  go_enter Try.func30, Try.ntmps30
  go_wp2
  go_loopw [8] (fun iv wr => ∃ j : Nat, j ≤ n ∧ iv = .int .i64 (j : Int) ∧ Hid ((l.take j).any (fun x => decide ((x : Int) = k)) = false) ∧ Hid (Fr No w wr)) (fun iv _ => n - (intOf iv).toNat)
  case atStart => exact ⟨0, Nat.zero_le _, rfl, Lib.hid (by simp), Lib.hid (Fr.refl _ _)⟩
  case round =>
    obtain ⟨j, hj, rfl, hpre, hfr⟩ := hrel
    by_cases hlt : j < n
    · have hjl : j < l.length := by rw [Hn.out]; exact hlt
      have hjn : ((j : Nat) : Int) < (n : Int) := by omega
      obtain ⟨ad, rfl, hab, a0⟩ := Hnum.out j hjl wr hfr.out
      have hst := Lib.hid (Hst.out j hjl hpre.out)
      have hfd := Lib.hid (Hfd.out j hjl)
      generalize ((l[j] : Nat) : Int) = x at *
      clear hpre Hnum Hst Hfd Htk
      by_cases e : x = k
      · have HT := Lib.hid (hfd.out e)
        have d1 : (k == x) = true := by simp [e]
        clear hst hfd
        subst e
        go_wp2
        go_ret
        exact ⟨_, rfl, by rw [HT.out]; exact decide_eq_true (by omega), hfr.out⟩
      · have d1 : (k == x) = false := by
          rw [beq_eq_false_iff_ne]
          exact fun h => e h.symm
        have hs2 : Hid ((l.take (j + 1)).any (fun x => decide ((x : Int) = k)) = false) := Lib.hid (by rw [hst.out]; exact decide_eq_false e)
        clear hst hfd e
        go_wp2
        go_roundw
        case rel => exact ⟨j + 1, by omega, by go_num, hs2, hfr⟩
        case measure => simp [intOf]; omega
    · obtain rfl : j = n := by omega
      have HT := Lib.hid (Htk.out j Hn.out.symm hpre.out)
      clear hpre Hnum Hst Hfd Htk
      go_wp2
      go_ret
      exact ⟨-1, rfl, by rw [HT.out]; rfl, hfr.out⟩
set_option maxHeartbeats 1000000 in
theorem contains15 (l : List Nat) (A : Option Addr) (n c : Nat) (k : Int) (w : World) (hs : Sl w w.heap.size A (nums l)) (hn : l.length = n) (hnm : n ≤ 1048576) : Calls Try.prog 22 #[.slice A n c, .int .i64 k] w (Has w (hasK l k)) := by
  have C := index15 l A n c k w hs hn hnm
  generalize hasK l k = q at *
  clear hs hn
  go_enter Try.func22, Try.ntmps22
  go_wp2_with fail
  refine C.mono ?_
  rintro e w1 ⟨r, rfl, hr, f1⟩
  have HR := Lib.hid hr
  clear hr C
  go_wp2
  go_ret
  exact ⟨by rw [← HR.out]; rfl, f1⟩
set_option maxRecDepth 100000 in
set_option maxHeartbeats 8000000 in
theorem direct15_any (h : List Ndl) (A : Option Addr) (n c : Nat) (w : World) (i k : Int) (hs : Nds w A h) (hh : h.length = n)
    (hC : ∀ (a b : Nat) (ha : a < h.length) (hb : b < h.length) W, Fr No w W → Calls Try.prog 29 #[h[a].agg, h[b].agg] W (Has W (confN h[a].n h[b].n))) :
    Calls Try.prog 13 #[.slice A n c, .int .i64 i, .int .i64 k] w (Has w (dirI (ndsOf h) i k)) := by
  have hlen : (ndsOf h).length = n := by simp [ndsOf, hh]
  have Ha := Lib.hid (fun W => ahead15 A n c k i W)
  have D0 : Hid (Fr No w w.drew) := Lib.hid ((Fr.refl No w).drew)
  by_cases hin : 0 ≤ k ∧ k < i ∧ i < n
  · rw [decide_eq_true hin] at Ha
    obtain ⟨a, rfl⟩ := Int.eq_ofNat_of_zero_le (show 0 ≤ i by omega)
    obtain ⟨b, rfl⟩ := Int.eq_ofNat_of_zero_le hin.1
    have han : a < h.length := by omega
    have hbn : b < h.length := by omega
    have hba : b < a := by omega
    have a1 : ((a : Nat) : Int) < (n : Int) := by omega
    have b1 : ((b : Nat) : Int) < (n : Int) := by omega
    have hI : dirI (ndsOf h) a b = dirN h[a].n h[b].n := by
      unfold dirI dirB dirN
      rw [decide_eq_true (show (0 : Int) ≤ a ∧ (0 : Int) ≤ b by omega), Bool.true_and, Int.toNat_natCast, Int.toNat_natCast, hlen, decide_eq_true (show b < a ∧ a < n by omega), Bool.true_and, ndsOf_at han, ndsOf_at hbn]
    rw [hI]
    have Hd := Lib.hid (fun W (hW : Fr No w W) => direct15 h[a] h[b] W (fun V hV => hC a b han hbn V (hW.trans' hV (fun _ _ e => e))))
    have HSS0 := Lib.hid (fun W (hW : Fr No w W) => (hs.since hW).sl.nd han)
    have HSS1 := Lib.hid (fun W (hW : Fr No w W) => (hs.since hW).sl.nd hbn)
    clear hI hC hs hin hlen
    obtain ⟨ad, hA, hab, -⟩ := HSS0.out w (Fr.refl _ _)
    subst hA
    generalize dirN h[a].n h[b].n = r at *
    unfold Ndl.agg Ndl.arr at Hd
    generalize h[a] = ya at *
    generalize h[b] = yb at *
    generalize ya.n.saga = sa at *
    generalize ya.n.cls = ca at *
    generalize ya.n.step = ta at *
    generalize ya.n.back = ka at *
    generalize ya.n.rd.length = na at *
    generalize ya.n.wt.length = ma at *
    generalize ya.rA = Ra at *
    generalize ya.rc = rca at *
    generalize ya.wA = Va at *
    generalize ya.wc = wca at *
    generalize yb.n.saga = sb at *
    generalize yb.n.cls = cb at *
    generalize yb.n.step = tb at *
    generalize yb.n.back = kb at *
    generalize yb.n.rd.length = nb at *
    generalize yb.n.wt.length = mb at *
    generalize yb.rA = Rb at *
    generalize yb.rc = rcb at *
    generalize yb.wA = Vb at *
    generalize yb.wc = wcb at *
    have HSS : Hid (∀ V, Fr No w V → (fun V => V.cell? (ad.add (a * 6)) = some (.int .i64 sa) ∧ V.cell? ⟨(ad.add (a * 6)).block, (ad.add (a * 6)).off + 1, none⟩ = some (.int .i64 ca) ∧ V.cell? ⟨(ad.add (a * 6)).block, (ad.add (a * 6)).off + 2, none⟩ = some (.int .i64 ta) ∧ V.cell? ⟨(ad.add (a * 6)).block, (ad.add (a * 6)).off + 3, none⟩ = some (.bool ka) ∧ V.cell? ⟨(ad.add (a * 6)).block, (ad.add (a * 6)).off + 4, none⟩ = some (.slice Ra na rca) ∧ V.cell? ⟨(ad.add (a * 6)).block, (ad.add (a * 6)).off + 5, none⟩ = some (.slice Va ma wca) ∧ V.cell? (ad.add (b * 6)) = some (.int .i64 sb) ∧ V.cell? ⟨(ad.add (b * 6)).block, (ad.add (b * 6)).off + 1, none⟩ = some (.int .i64 cb) ∧ V.cell? ⟨(ad.add (b * 6)).block, (ad.add (b * 6)).off + 2, none⟩ = some (.int .i64 tb) ∧ V.cell? ⟨(ad.add (b * 6)).block, (ad.add (b * 6)).off + 3, none⟩ = some (.bool kb) ∧ V.cell? ⟨(ad.add (b * 6)).block, (ad.add (b * 6)).off + 4, none⟩ = some (.slice Rb nb rcb) ∧ V.cell? ⟨(ad.add (b * 6)).block, (ad.add (b * 6)).off + 5, none⟩ = some (.slice Vb mb wcb)) V) := Lib.hid (fun V hV => by
      obtain ⟨ae, hA, -, p0, p1, p2, p3, p4, p5⟩ := HSS0.out V hV
      injection hA with hA
      subst hA
      obtain ⟨af, hA, -, q0, q1, q2, q3, q4, q5⟩ := HSS1.out V hV
      injection hA with hA
      subst hA
      exact ⟨p0, p1, p2, p3, p4, p5, q0, q1, q2, q3, q4, q5⟩)
    clear HSS0 HSS1
    go_enter Try.func13, Try.ntmps13
    go_wp2_with fail
    refine wp_region_held_drew (S := fun V => V.cell? (ad.add (a * 6)) = some (.int .i64 sa) ∧ V.cell? ⟨(ad.add (a * 6)).block, (ad.add (a * 6)).off + 1, none⟩ = some (.int .i64 ca) ∧ V.cell? ⟨(ad.add (a * 6)).block, (ad.add (a * 6)).off + 2, none⟩ = some (.int .i64 ta) ∧ V.cell? ⟨(ad.add (a * 6)).block, (ad.add (a * 6)).off + 3, none⟩ = some (.bool ka) ∧ V.cell? ⟨(ad.add (a * 6)).block, (ad.add (a * 6)).off + 4, none⟩ = some (.slice Ra na rca) ∧ V.cell? ⟨(ad.add (a * 6)).block, (ad.add (a * 6)).off + 5, none⟩ = some (.slice Va ma wca) ∧ V.cell? (ad.add (b * 6)) = some (.int .i64 sb) ∧ V.cell? ⟨(ad.add (b * 6)).block, (ad.add (b * 6)).off + 1, none⟩ = some (.int .i64 cb) ∧ V.cell? ⟨(ad.add (b * 6)).block, (ad.add (b * 6)).off + 2, none⟩ = some (.int .i64 tb) ∧ V.cell? ⟨(ad.add (b * 6)).block, (ad.add (b * 6)).off + 3, none⟩ = some (.bool kb) ∧ V.cell? ⟨(ad.add (b * 6)).block, (ad.add (b * 6)).off + 4, none⟩ = some (.slice Rb nb rcb) ∧ V.cell? ⟨(ad.add (b * 6)).block, (ad.add (b * 6)).off + 5, none⟩ = some (.slice Vb mb wcb)) (by kernel_rfl) (HSS.out _ D0.out) (fun hHeld => ?_)
    refine any_take 7 (.slice (some ad) n c) (i := 0) rfl rfl (by kernel_rfl) (by kernel_rfl) (by kernel_rfl) (fun _ _ _ h => h) (by rfl) (by intro w hSw; (try dsimp only at hSw); go_simp; try with_reducible rfl) (by assumption) ?_
    simp only [Act.put, List.setIfInBounds_toArray, List.set_cons_zero, List.set_cons_succ]
    refine any_take 8 (.int .i64 (b : Int)) (i := 1) rfl rfl (by kernel_rfl) (by kernel_rfl) (by kernel_rfl) (fun _ _ _ h => h) (by rfl) (by intro w hSw; (try dsimp only at hSw); go_simp; try with_reducible rfl) (by assumption) ?_
    simp only [Act.put, List.setIfInBounds_toArray, List.set_cons_zero, List.set_cons_succ]
    refine any_take 9 (.int .i64 (a : Int)) (i := 2) rfl rfl (by kernel_rfl) (by kernel_rfl) (by kernel_rfl) (fun _ _ _ h => h) (by rfl) (by intro w hSw; (try dsimp only at hSw); go_simp; try with_reducible rfl) (by assumption) ?_
    simp only [Act.put, List.setIfInBounds_toArray, List.set_cons_zero, List.set_cons_succ]
    refine wpAnyH_ready (rs := [3]) (by kernel_rfl) (by simp) ?_
    refine AllReadyH.cons rfl (fun K' hK => ?_) AllReadyH.nil
    go_simp
    go_at_call 20
    refine (Ha.out _).mono ?_
    rintro e' v1 ⟨rfl, f4⟩
    have D1 := Lib.hid (D0.out.trans' f4 (fun _ _ e => e))
    clear f4
    dsimp only
    refine hK.out _ _ (HSS.out _ D1.out) (fun hHeld => ?_)
    clear hK
    try simp only [Act.put, List.setIfInBounds_toArray, List.set_cons_zero, List.set_cons_succ]
    refine any_take 11 (.bool true) (i := 4) rfl rfl (by kernel_rfl) (by kernel_rfl) (by kernel_rfl) (fun _ _ _ h => h) (by rfl) (by intro w hSw; (try dsimp only at hSw); go_simp; try with_reducible rfl) (by assumption) ?_
    simp only [Act.put, List.setIfInBounds_toArray, List.set_cons_zero, List.set_cons_succ]
    refine any_take 12 (.slice (some ad) n c) (i := 5) rfl rfl (by kernel_rfl) (by kernel_rfl) (by kernel_rfl) (fun _ _ _ h => h) (by rfl) (by intro w hSw; (try dsimp only at hSw); go_simp; try with_reducible rfl) (by assumption) ?_
    simp only [Act.put, List.setIfInBounds_toArray, List.set_cons_zero, List.set_cons_succ]
    refine any_take 13 (.int .i64 (a : Int)) (i := 6) rfl rfl (by kernel_rfl) (by kernel_rfl) (by kernel_rfl) (fun _ _ _ h => h) (by rfl) (by intro w hSw; (try dsimp only at hSw); go_simp; try with_reducible rfl) (by assumption) ?_
    simp only [Act.put, List.setIfInBounds_toArray, List.set_cons_zero, List.set_cons_succ]
    refine any_take 14 (.pointer (some (ad.add (a * 6)))) (i := 7) rfl rfl (by kernel_rfl) (by kernel_rfl) (by kernel_rfl) (fun _ _ _ h => h) (by rfl) (by intro w hSw; (try dsimp only at hSw); go_simp; try with_reducible rfl) (by assumption) ?_
    simp only [Act.put, List.setIfInBounds_toArray, List.set_cons_zero, List.set_cons_succ]
    refine any_take 15 (.agg #[.int .i64 sa, .int .i64 ca, .int .i64 ta, .bool ka, .slice Ra na rca, .slice Va ma wca]) (i := 8) rfl rfl (by kernel_rfl) (by kernel_rfl) (by kernel_rfl) (fun _ _ _ h => h) (by rfl) (by intro w hSw; (try dsimp only at hSw); go_simp; try with_reducible rfl) (by assumption) ?_
    simp only [Act.put, List.setIfInBounds_toArray, List.set_cons_zero, List.set_cons_succ]
    refine any_take 16 (.slice (some ad) n c) (i := 9) rfl rfl (by kernel_rfl) (by kernel_rfl) (by kernel_rfl) (fun _ _ _ h => h) (by rfl) (by intro w hSw; (try dsimp only at hSw); go_simp; try with_reducible rfl) (by assumption) ?_
    simp only [Act.put, List.setIfInBounds_toArray, List.set_cons_zero, List.set_cons_succ]
    refine any_take 17 (.int .i64 (b : Int)) (i := 10) rfl rfl (by kernel_rfl) (by kernel_rfl) (by kernel_rfl) (fun _ _ _ h => h) (by rfl) (by intro w hSw; (try dsimp only at hSw); go_simp; try with_reducible rfl) (by assumption) ?_
    simp only [Act.put, List.setIfInBounds_toArray, List.set_cons_zero, List.set_cons_succ]
    refine any_take 18 (.pointer (some (ad.add (b * 6)))) (i := 11) rfl rfl (by kernel_rfl) (by kernel_rfl) (by kernel_rfl) (fun _ _ _ h => h) (by rfl) (by intro w hSw; (try dsimp only at hSw); go_simp; try with_reducible rfl) (by assumption) ?_
    simp only [Act.put, List.setIfInBounds_toArray, List.set_cons_zero, List.set_cons_succ]
    refine any_take 19 (.agg #[.int .i64 sb, .int .i64 cb, .int .i64 tb, .bool kb, .slice Rb nb rcb, .slice Vb mb wcb]) (i := 12) rfl rfl (by kernel_rfl) (by kernel_rfl) (by kernel_rfl) (fun _ _ _ h => h) (by rfl) (by intro w hSw; (try dsimp only at hSw); go_simp; try with_reducible rfl) (by assumption) ?_
    simp only [Act.put, List.setIfInBounds_toArray, List.set_cons_zero, List.set_cons_succ]
    refine wpAnyH_ready (rs := [13]) (by kernel_rfl) (by simp) ?_
    refine AllReadyH.cons rfl (fun K' hK => ?_) AllReadyH.nil
    go_simp
    go_at_call 21
    refine (Hd.out _ D1.out).mono ?_
    rintro e' v2 ⟨rfl, f5⟩
    have D2 := Lib.hid (D1.out.trans' f5 (fun _ _ e => e))
    clear f5
    dsimp only
    refine hK.out _ _ (HSS.out _ D2.out) (fun hHeld => ?_)
    clear hK
    try simp only [Act.put, List.setIfInBounds_toArray, List.set_cons_zero, List.set_cons_succ]
    refine any_take 21 (.bool r) (i := 14) rfl rfl (by kernel_rfl) (by kernel_rfl) (by kernel_rfl) (fun _ _ _ h => h) (by rfl) (by intro w hSw; (try dsimp only at hSw); go_simp; try with_reducible rfl) (by assumption) ?_
    simp only [Act.put, List.setIfInBounds_toArray, List.set_cons_zero, List.set_cons_succ]
    refine any_take 6 (.bool r) (i := 15) rfl rfl (by kernel_rfl) (by kernel_rfl) (by kernel_rfl) (fun _ _ _ h => h) (by rfl) (by intro w hSw; (try dsimp only at hSw); go_simp; try with_reducible rfl) (by assumption) ?_
    simp only [Act.put, List.setIfInBounds_toArray, List.set_cons_zero, List.set_cons_succ]
    refine wpAnyH_done (by kernel_rfl) ?_ _
    clear hHeld
    go_wp2
    go_ret
    exact ⟨rfl, D2.out⟩
  · rw [decide_eq_false hin] at Ha
    have hI : dirI (ndsOf h) i k = false := dirI_out (by rw [hlen]; omega)
    rw [hI]
    clear hin hI hlen hC hs hh
    go_enter Try.func13, Try.ntmps13
    go_wp2_with fail
    refine wp_region_held_drew (S := fun _ => True) (by kernel_rfl) (trivial) (fun hHeld => ?_)
    refine any_take 7 (.slice A n c) (i := 0) rfl rfl (by kernel_rfl) (by kernel_rfl) (by kernel_rfl) (fun _ _ _ h => h) (by rfl) (by intro w hSw; (try dsimp only at hSw); go_simp; try with_reducible rfl) (by assumption) ?_
    simp only [Act.put, List.setIfInBounds_toArray, List.set_cons_zero, List.set_cons_succ]
    refine any_take 8 (.int .i64 k) (i := 1) rfl rfl (by kernel_rfl) (by kernel_rfl) (by kernel_rfl) (fun _ _ _ h => h) (by rfl) (by intro w hSw; (try dsimp only at hSw); go_simp; try with_reducible rfl) (by assumption) ?_
    simp only [Act.put, List.setIfInBounds_toArray, List.set_cons_zero, List.set_cons_succ]
    refine any_take 9 (.int .i64 i) (i := 2) rfl rfl (by kernel_rfl) (by kernel_rfl) (by kernel_rfl) (fun _ _ _ h => h) (by rfl) (by intro w hSw; (try dsimp only at hSw); go_simp; try with_reducible rfl) (by assumption) ?_
    simp only [Act.put, List.setIfInBounds_toArray, List.set_cons_zero, List.set_cons_succ]
    refine wpAnyH_ready (rs := [3]) (by kernel_rfl) (by simp) ?_
    refine AllReadyH.cons rfl (fun K' hK => ?_) AllReadyH.nil
    go_simp
    go_at_call 20
    refine (Ha.out _).mono ?_
    rintro e' v1 ⟨rfl, f4⟩
    have D1 := Lib.hid (D0.out.trans' f4 (fun _ _ e => e))
    clear f4
    dsimp only
    refine hK.out _ _ (trivial) (fun hHeld => ?_)
    clear hK
    try simp only [Act.put, List.setIfInBounds_toArray, List.set_cons_zero, List.set_cons_succ]
    refine any_take 11 (.bool false) (i := 4) rfl rfl (by kernel_rfl) (by kernel_rfl) (by kernel_rfl) (fun _ _ _ h => h) (by rfl) (by intro w hSw; (try dsimp only at hSw); go_simp; try with_reducible rfl) (by assumption) ?_
    simp only [Act.put, List.setIfInBounds_toArray, List.set_cons_zero, List.set_cons_succ]
    refine any_skip 12 (i := 5) rfl rfl (by kernel_rfl) (by kernel_rfl) (by kernel_rfl) (fun _ _ _ h => h) (by rfl) (by assumption) ?_
    simp only [Act.put, List.setIfInBounds_toArray, List.set_cons_zero, List.set_cons_succ]
    refine any_skip 13 (i := 6) rfl rfl (by kernel_rfl) (by kernel_rfl) (by kernel_rfl) (fun _ _ _ h => h) (by rfl) (by assumption) ?_
    simp only [Act.put, List.setIfInBounds_toArray, List.set_cons_zero, List.set_cons_succ]
    refine any_skip 14 (i := 7) rfl rfl (by kernel_rfl) (by kernel_rfl) (by kernel_rfl) (fun _ _ _ h => h) (by rfl) (by assumption) ?_
    simp only [Act.put, List.setIfInBounds_toArray, List.set_cons_zero, List.set_cons_succ]
    refine any_skip 15 (i := 8) rfl rfl (by kernel_rfl) (by kernel_rfl) (by kernel_rfl) (fun _ _ _ h => h) (by rfl) (by assumption) ?_
    simp only [Act.put, List.setIfInBounds_toArray, List.set_cons_zero, List.set_cons_succ]
    refine any_skip 16 (i := 9) rfl rfl (by kernel_rfl) (by kernel_rfl) (by kernel_rfl) (fun _ _ _ h => h) (by rfl) (by assumption) ?_
    simp only [Act.put, List.setIfInBounds_toArray, List.set_cons_zero, List.set_cons_succ]
    refine any_skip 17 (i := 10) rfl rfl (by kernel_rfl) (by kernel_rfl) (by kernel_rfl) (fun _ _ _ h => h) (by rfl) (by assumption) ?_
    simp only [Act.put, List.setIfInBounds_toArray, List.set_cons_zero, List.set_cons_succ]
    refine any_skip 18 (i := 11) rfl rfl (by kernel_rfl) (by kernel_rfl) (by kernel_rfl) (fun _ _ _ h => h) (by rfl) (by assumption) ?_
    simp only [Act.put, List.setIfInBounds_toArray, List.set_cons_zero, List.set_cons_succ]
    refine any_skip 19 (i := 12) rfl rfl (by kernel_rfl) (by kernel_rfl) (by kernel_rfl) (fun _ _ _ h => h) (by rfl) (by assumption) ?_
    simp only [Act.put, List.setIfInBounds_toArray, List.set_cons_zero, List.set_cons_succ]
    refine any_skip 20 (i := 13) rfl rfl (by kernel_rfl) (by kernel_rfl) (by kernel_rfl) (fun _ _ _ h => h) (by rfl) (by assumption) ?_
    simp only [Act.put, List.setIfInBounds_toArray, List.set_cons_zero, List.set_cons_succ]
    refine any_take 21 (.bool false) (i := 14) rfl rfl (by kernel_rfl) (by kernel_rfl) (by kernel_rfl) (fun _ _ _ h => h) (by rfl) (by intro w hSw; (try dsimp only at hSw); go_simp; try with_reducible rfl) (by assumption) ?_
    simp only [Act.put, List.setIfInBounds_toArray, List.set_cons_zero, List.set_cons_succ]
    refine any_take 6 (.bool false) (i := 15) rfl rfl (by kernel_rfl) (by kernel_rfl) (by kernel_rfl) (fun _ _ _ h => h) (by rfl) (by intro w hSw; (try dsimp only at hSw); go_simp; try with_reducible rfl) (by assumption) ?_
    simp only [Act.put, List.setIfInBounds_toArray, List.set_cons_zero, List.set_cons_succ]
    refine wpAnyH_done (by kernel_rfl) ?_ _
    clear hHeld
    go_wp2
    go_ret
    exact ⟨rfl, D1.out⟩
end Go.Proofs.Ytmabapbdnafpfaa
