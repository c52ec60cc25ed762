/- The document's own map is copied; two numbers' sum and difference; may a step be? -/
import Derived.Test.YthenadijiepmnaaGreatRpa13
import Derived.Test.YthenadijiepmnaaGreatRun13
import Derived.Test.YthenadijiepmnaaGreatRse10
import Derived.Test.YthenadijiepmnaaGreatRfo9
namespace Go.Proofs.YthenadijiepmnaaGreat
open Go.RowKit

theorem mcells_one (b : Nat → Bool) (v : Nat → Int) : ∀ u ∈ (mcells b v).toList, u.oneCell' = true := by
  intro u hu
  unfold mcells flags valsC at hu
  simp only [Array.toList_append, List.mem_append] at hu
  rcases hu with hu | hu
  · simp only [List.mem_map] at hu
    obtain ⟨k, -, rfl⟩ := hu
    rfl
  · simp only [List.mem_map] at hu
    obtain ⟨k, -, rfl⟩ := hu
    rfl
theorem ld_map {W : World} {g : Nat} {b : Nat → Bool} {v : Nat → Int} (h : Bk W g 76 (mcells b v)) : LdO W 76 ⟨g, 0, none⟩ (.agg (mcells b v)) := by
  have h0 : W.rangeAt g 0 (mcells b v).toList := fun j u hu => by
    rw [Nat.zero_add, h.cell, ← Array.getElem?_toList]
    exact hu
  have e := run_loadAt_mid (P := Tryz.prog) W g 0 76 (mcells b v).toList _ h0 Tryz.underlying76 rfl (by rw [Array.length_toList, mcells_size]; kernel_rfl)
  simp only [Instr.loadAt, Instr.sureAddr, Sem.run_bind, Sem.run_pure, Result.andThen_ok, Array.toArray_toList] at e
  exact e
theorem st_map {W : World} {g : Nat} {cs : Array Value} (hcs : cs.size = 2000) (h : Bk W g 76 cs) (b : Nat → Bool) (v : Nat → Int) : StO W 76 ⟨g, 0, none⟩ (.agg (mcells b v)) (W.setRow g (mcells b v)) := by
  have hC : (Tryz.prog.info? 76).map (·.size) = some 2000 := by kernel_rfl
  obtain ⟨i, hi, hs⟩ := Option.map_eq_some_iff.1 hC
  have hl : (mcells b v).toList.length = 2000 := by rw [Array.length_toList, mcells_size]
  have := run_storeCells_from (P := Tryz.prog) g _ (mcells b v).toList 0 _ W h (by rw [hcs, hl]) (mcells_one b v)
  unfold StO storeVar
  simp [sizeOf, typeInfo, hi, hs, Value.cells, mcells_size]
  simpa using this
set_option maxRecDepth 100000 in
set_option maxHeartbeats 4000000 in
theorem refCopy13_any (g : Nat) (m : Mp) (w : World) (h : RM w g m) : Calls Tryz.prog 33 #[.pointer (some ⟨g, 0, none⟩)] w fun e w' => ∃ c, e = .returned (.pointer (some ⟨c, 0, none⟩)) ∧ RM w' c m ∧ w.heap.size ≤ c ∧ Fr No w w' := by
  obtain ⟨Z, hZ, hz⟩ := zero_map
  obtain ⟨b, v, hb, hm⟩ := h
  have HL := Lib.hid (ld_map hb)
  have bN := Bk.made w 76 Z
  have HS := Lib.hid (st_map (by rw [hZ, mcells_size]) bN b v)
  have HR := Lib.hid (show RM ((w.alloc (.cells Z 76)).setRow w.heap.size (mcells b v)) w.heap.size m from ⟨b, v, bk_row12 bN _, hm⟩)
  have HF : Hid (Fr No w ((w.alloc (.cells Z 76)).setRow w.heap.size (mcells b v))) := Lib.hid (fr_row12 ((Fr.refl No w).alloc _) (.inr (Nat.le_refl _)) _)
  generalize mcells b v = V at *
  clear hZ hb hm bN
  go_enter Tryz.func33, Tryz.ntmps33
  go_wp2_with (first | refine wpl_ld rfl rfl HL.out ?_ | refine wpl_st rfl rfl rfl HS.out ?_)
  go_ret
  exact ⟨_, rfl, HR.out, Nat.le_refl _, HF.out⟩
theorem refSum13_any {a b : Int} (ha : I64 a) (hb : I64 b) (w : World) : Calls Tryz.prog 35 #[.int .i64 a, .int .i64 b] w fun e w' => e = .returned (.tuple #[.int .i64 (if fitI (a + b) = true then a + b else 0), .bool (fitI (a + b))]) ∧ w = w' := by
  unfold I64 at ha hb
  obtain ⟨f, hf⟩ : ∃ f, fitI (a + b) = f := ⟨_, rfl⟩
  rw [hf]
  have HF : Hid (if f = true then -9223372036854775808 ≤ a + b ∧ a + b ≤ 9223372036854775807 else ¬ (-9223372036854775808 ≤ a + b ∧ a + b ≤ 9223372036854775807)) := Lib.hid (by
    unfold fitI at hf
    cases f
    · exact of_decide_eq_false hf
    · exact of_decide_eq_true hf)
  clear hf
  by_cases h1 : 0 < b
  · have h2 : ¬ (b < 0) := by omega
    cases f
    · have h3 : 9223372036854775807 - b < a := by have := HF.out; rw [if_neg (by decide)] at this; omega
      go_enter Tryz.func35, Tryz.ntmps35
      go_wp2
      go_ret2
      exact ⟨rfl, rfl⟩
    · have h3 : ¬ (9223372036854775807 - b < a) := by have := HF.out; rw [if_pos rfl] at this; omega
      have h4 : -9223372036854775808 ≤ a + b ∧ a + b ≤ 9223372036854775807 := by have := HF.out; rw [if_pos rfl] at this; exact this
      go_enter Tryz.func35, Tryz.ntmps35
      go_wp2
      go_ret2
      exact ⟨rfl, rfl⟩
  · by_cases h2 : b < 0
    · cases f
      · have h3 : a < -9223372036854775808 - b := by have := HF.out; rw [if_neg (by decide)] at this; omega
        go_enter Tryz.func35, Tryz.ntmps35
        go_wp2
        go_ret2
        exact ⟨rfl, rfl⟩
      · have h3 : ¬ (a < -9223372036854775808 - b) := by have := HF.out; rw [if_pos rfl] at this; omega
        have h4 : -9223372036854775808 ≤ a + b ∧ a + b ≤ 9223372036854775807 := by have := HF.out; rw [if_pos rfl] at this; exact this
        go_enter Tryz.func35, Tryz.ntmps35
        go_wp2
        go_ret2
        exact ⟨rfl, rfl⟩
    · have h4 : -9223372036854775808 ≤ a + b ∧ a + b ≤ 9223372036854775807 := by omega
      cases f
      · exact absurd h4 (by have := HF.out; rw [if_neg (by decide)] at this; exact this)
      · go_enter Tryz.func35, Tryz.ntmps35
        go_wp2
        go_ret2
        exact ⟨rfl, rfl⟩
theorem refLess13_any {a b : Int} (ha : I64 a) (hb : I64 b) (w : World) : Calls Tryz.prog 36 #[.int .i64 a, .int .i64 b] w fun e w' => e = .returned (.tuple #[.int .i64 (if fitI (a - b) = true then a - b else 0), .bool (fitI (a - b))]) ∧ w = w' := by
  unfold I64 at ha hb
  obtain ⟨f, hf⟩ : ∃ f, fitI (a - b) = f := ⟨_, rfl⟩
  rw [hf]
  have HF : Hid (if f = true then -9223372036854775808 ≤ a - b ∧ a - b ≤ 9223372036854775807 else ¬ (-9223372036854775808 ≤ a - b ∧ a - b ≤ 9223372036854775807)) := Lib.hid (by
    unfold fitI at hf
    cases f
    · exact of_decide_eq_false hf
    · exact of_decide_eq_true hf)
  clear hf
  by_cases h1 : b < 0
  · have h2 : ¬ (0 < b) := by omega
    cases f
    · have h3 : 9223372036854775807 + b < a := by have := HF.out; rw [if_neg (by decide)] at this; omega
      go_enter Tryz.func36, Tryz.ntmps36
      go_wp2
      go_ret2
      exact ⟨rfl, rfl⟩
    · have h3 : ¬ (9223372036854775807 + b < a) := by have := HF.out; rw [if_pos rfl] at this; omega
      have h4 : -9223372036854775808 ≤ a - b ∧ a - b ≤ 9223372036854775807 := by have := HF.out; rw [if_pos rfl] at this; exact this
      go_enter Tryz.func36, Tryz.ntmps36
      go_wp2
      go_ret2
      exact ⟨rfl, rfl⟩
  · by_cases h2 : 0 < b
    · cases f
      · have h3 : a < -9223372036854775808 + b := by have := HF.out; rw [if_neg (by decide)] at this; omega
        go_enter Tryz.func36, Tryz.ntmps36
        go_wp2
        go_ret2
        exact ⟨rfl, rfl⟩
      · have h3 : ¬ (a < -9223372036854775808 + b) := by have := HF.out; rw [if_pos rfl] at this; omega
        have h4 : -9223372036854775808 ≤ a - b ∧ a - b ≤ 9223372036854775807 := by have := HF.out; rw [if_pos rfl] at this; exact this
        go_enter Tryz.func36, Tryz.ntmps36
        go_wp2
        go_ret2
        exact ⟨rfl, rfl⟩
    · have h4 : -9223372036854775808 ≤ a - b ∧ a - b ≤ 9223372036854775807 := by omega
      cases f
      · exact absurd h4 (by have := HF.out; rw [if_neg (by decide)] at this; exact this)
      · go_enter Tryz.func36, Tryz.ntmps36
        go_wp2
        go_ret2
        exact ⟨rfl, rfl⟩
set_option maxHeartbeats 2000000 in
theorem refRight13_any (w : World) (x : StI w) (hx : x.Few) : Calls Tryz.prog 32 #[x.agg, x.args] w (Has w x.right) := by
  have HAx := Lib.hid (fun W (h : Fr No w W) => refArgs_any x.gs x.gA x.gs.length x.gc W (x.hg.since h) rfl hx.2.2)
  have HPx := Lib.hid (fun W (h : Fr No w W) => refMay_any x.code x.gs.length x.cA x.code.length x.cc W (x.hc.since h) rfl)
  have HFx := Lib.hid (fun W (h : Fr No w W) => refMay10_any x.foot x.gs.length x.fA x.foot.length x.fc W (x.hf.since h) rfl)
  have Hri : Hid (x.right = (argsOk x.gs && ((decide (x.code.length = 0) || progOk x.code x.gs.length) && footOk x.foot x.gs.length))) := Lib.hid (by
    unfold StI.right rightB footRight
    cases argsOk x.gs <;> cases footOk x.foot x.gs.length <;> simp)
  unfold StI.agg StI.args
  have f0 : Fr No w (w.alloc (.cells #[.slice x.cA x.code.length x.cc, .slice x.fA x.foot.length x.fc] 25)) := (Fr.refl _ _).alloc _
  have b0 := Bk.made w 25 #[.slice x.cA x.code.length x.cc, .slice x.fA x.foot.length x.fc]
  obtain ⟨n, hn⟩ : ∃ n, x.code.length = n := ⟨_, rfl⟩
  have Hb0 := Lib.hid (fun W (h : Fr No (w.alloc (.cells #[.slice x.cA x.code.length x.cc, .slice x.fA x.foot.length x.fc] 25)) W) => b0.fr h (fun e => e))
  have HF := Lib.hid f0
  rw [hn] at HPx Hb0 HF Hri ⊢
  generalize x.right = ri at *
  generalize argsOk x.gs = va at *
  generalize progOk x.code x.gs.length = vp at *
  generalize footOk x.foot x.gs.length = vf at *
  generalize x.foot.length = m at *
  generalize x.gs.length = g at *
  obtain ⟨q, hq⟩ : ∃ q, w.heap.size = q := ⟨_, rfl⟩
  rw [hq] at Hb0
  clear b0 f0 hn
  cases va
  · go_enter Tryz.func32, Tryz.ntmps32
    go_wp2_with fail
    refine (HAx.out _ HF.out).mono ?_
    rintro e w1 ⟨rfl, f1⟩
    go_wp2
    go_ret
    exact ⟨by rw [Hri.out]; rfl, HF.out.trans' f1 (fun _ _ e => e)⟩
  · by_cases h0 : n = 0
    · subst h0
      go_enter Tryz.func32, Tryz.ntmps32
      go_wp2_with fail
      refine (HAx.out _ HF.out).mono ?_
      rintro e w1 ⟨rfl, f1⟩
      have g0 := (Hb0.out _ f1).cell 0
      have g1 := (Hb0.out _ f1).cell 1
      simp only [List.getElem?_toArray, List.getElem?_cons_zero, List.getElem?_cons_succ] at g0 g1
      have F1 := Lib.hid (HF.out.trans' f1 (fun _ _ e => e))
      clear f1
      go_wp2_with fail
      refine (HFx.out _ F1.out).mono ?_
      rintro e w2 ⟨rfl, f2⟩
      have F2 := Lib.hid (F1.out.trans' f2 (fun _ _ e => e))
      clear f2
      go_wp2
      go_ret
      exact ⟨by rw [Hri.out]; rfl, F2.out⟩
    · have e1 : ((n : Int) == 0) = false := by rw [beq_eq_false_iff_ne]; omega
      have Hr2 : Hid (ri = (vp && vf)) := Lib.hid (by rw [Hri.out, decide_eq_false h0]; cases vp <;> cases vf <;> rfl)
      go_enter Tryz.func32, Tryz.ntmps32
      go_wp2_with fail
      refine (HAx.out _ HF.out).mono ?_
      rintro e w1 ⟨rfl, f1⟩
      have g0 := (Hb0.out _ f1).cell 0
      have g1 := (Hb0.out _ f1).cell 1
      simp only [List.getElem?_toArray, List.getElem?_cons_zero, List.getElem?_cons_succ] at g0 g1
      have F0 := Lib.hid f1
      have F1 := Lib.hid (HF.out.trans' f1 (fun _ _ e => e))
      clear f1
      go_wp2_with fail
      refine (HPx.out _ F1.out).mono ?_
      rintro e w2 ⟨rfl, f2⟩
      have F2 := Lib.hid (F1.out.trans' f2 (fun _ _ e => e))
      have g2 := (Hb0.out _ (F0.out.trans' f2 (fun _ _ e => e))).cell 1
      simp only [List.getElem?_toArray, List.getElem?_cons_zero, List.getElem?_cons_succ] at g2
      clear f2
      cases vp
      · go_wp2
        go_ret
        exact ⟨by rw [Hr2.out]; rfl, F2.out⟩
      · go_wp2_with fail
        refine (HFx.out _ F2.out).mono ?_
        rintro e w3 ⟨rfl, f3⟩
        have F3 := Lib.hid (F2.out.trans' f3 (fun _ _ e => e))
        clear f3
        go_wp2
        go_ret
        exact ⟨by rw [Hr2.out]; rfl, F3.out⟩
end Go.Proofs.YthenadijiepmnaaGreat
