/- The law 'ProgSure', walked. -/
import Derived.Test.YteackcbnncichaaDoorMay9b
import Derived.Test.YteackcbnncichaaDoorTxt9
namespace Go.Proofs.YteackcbnncichaaDoor
open Go.RowKit

theorem ins_take (l : List Ins) (k : Nat) : (l.take k).flatMap Ins.cells = (l.flatMap Ins.cells).take (k * 9) := by
  induction l generalizing k with
  | nil => simp
  | cons x r ih =>
    cases k with
    | zero => simp
    | succ k =>
      have h9 := x.cells_len
      rw [List.take_succ_cons, List.flatMap_cons, List.flatMap_cons, ih, List.take_append, h9, show (k + 1) * 9 - 9 = k * 9 by omega, List.take_of_length_le (l := x.cells) (by rw [h9]; omega)]
theorem ins_drop (l : List Ins) (k : Nat) : (l.drop k).flatMap Ins.cells = (l.flatMap Ins.cells).drop (k * 9) := by
  induction l generalizing k with
  | nil => simp
  | cons x r ih =>
    cases k with
    | zero => simp
    | succ k =>
      have h9 := x.cells_len
      rw [List.drop_succ_cons, List.flatMap_cons, ih, List.drop_append, h9, show (k + 1) * 9 - 9 = k * 9 by omega, List.drop_eq_nil_of_le (show x.cells.length ≤ (k + 1) * 9 by rw [h9]; omega), List.nil_append]
theorem one_take (l : List Ins) (k : Nat) (hk : k < l.length) : (l.drop k).take 1 = [l[k]] := by
  rw [List.drop_eq_getElem_cons hk]
  rfl

set_option maxHeartbeats 2000000 in
theorem progSure_any (l : List Ins) (A : Option Addr) (n c u : Nat) (w : World) (hsl : Sl w w.heap.size A (l.flatMap Ins.cells)) (hn : l.length = n) (hnc : n ≤ c) (hu : u < 256) :
    Calls Tryd.prog 6 #[.slice A n c, .int .u8 u] w (Has w true) := by
  have Hn := Lib.hid hn
  have Hsl := Lib.hid hsl
  clear hsl hn
  go_enter Tryd.func6, Tryd.ntmps6
  go_wp2_with fail
  refine (alive9 _).mono ?_
  rintro e w1 ⟨rfl, hf1⟩
  by_cases h20 : 20 < n
  · have d0 : decide (20 < (n : Int)) = true := by simp; omega
    go_wp2
    go_ret
    exact ⟨rfl, hf1⟩
  · have d0 : decide (20 < (n : Int)) = false := by simp; omega
    have hk4 : u % 4 < 4 := Nat.mod_lt _ (by omega)
    obtain ⟨k, hk⟩ : ∃ k, k = u % 4 := ⟨_, rfl⟩
    have hrem : ((u : Int) % 4) = (k : Int) := by omega
    have hk3 : k < 4 := by omega
    clear hk hk4
    have C1 := Lib.hid (fun (W : World) (m : Int) (hf : Fr No w W) => may_any l m A n c W (Hsl.out.since hf) Hn.out (by omega))
    go_wp2_with fail
    refine (C1.out _ k hf1).mono ?_
    rintro e w2 ⟨rfl, hf2⟩
    have hz2 := hf1.then0 hf2 (fun _ h => h.elim)
    have CS := Lib.hid (fun (W : World) (hf : Fr No w W) => sure_any l A n c W (Hsl.out.since hf) Hn.out (by omega))
    have Hmore := Lib.hid (fun (h : progOk l k = true) (hk : k < 3) => progOk_more h (by omega))
    clear hf1 hf2
    have CO := Lib.hid (fun (hs : progSure l = true) (j : Nat) (hj : j < n) (W : World) (hf : Fr No w W) => by
      have hjl : j < l.length := by rw [Hn.out]; exact hj
      have h1 := (Hsl.out.since hf).drop (k := j) (n := n) (cap := c) (sz := 9) (by rw [flat_len _ 9 Ins.cells_len, Hn.out]) (by omega) hnc
      rw [if_neg (by omega)] at h1
      have h2 := h1.take (1 * 9)
      rw [← ins_drop, ← ins_take, one_take l j hjl] at h2
      have h3 := sure_any [l[j]] (A.map (·.add (j * 9))) 1 (c - j) W h2 rfl (by omega)
      rw [progSure_one hs hjl] at h3
      exact h3)
    have CT := Lib.hid (fun (hs : progSure l = true) (j : Nat) (hj : j < n) (W : World) (hf : Fr No w W) => by
      have h2 := (Hsl.out.since hf).take (j * 9)
      rw [← ins_take] at h2
      have h3 := sure_any (l.take j) A j c W h2 (by rw [List.length_take, Hn.out]; omega) (by omega)
      rw [progSure_take hs j] at h3
      exact h3)
    cases hr : progOk l k
    · go_wp2
      go_loopw [6] (fun i wr => ∃ k : Nat, k ≤ n ∧ i = .int .i64 k ∧ Fr No w wr) (fun i _ => n - (intOf i).toNat)
      case atStart => exact ⟨0, Nat.zero_le _, rfl, hz2⟩
      case round =>
        obtain ⟨j, hj, rfl, hfr⟩ := hrel
        by_cases hlt : j < n
        · go_wp2_with fail
          refine (CS.out _ hfr).mono ?_
          rintro e w3 ⟨rfl, hf3⟩
          have hz3 := hfr.then0 hf3 (fun _ h => h.elim)
          cases hs : progSure l
          · go_wp2
            go_ret
            exact ⟨rfl, hz3⟩
          · go_wp2_with fail
            refine (CO.out hs j hlt _ hz3).mono ?_
            rintro e w4 ⟨rfl, hf4⟩
            have hz4 := hz3.then0 hf4 (fun _ h => h.elim)
            go_wp2_with fail
            refine (CT.out hs j hlt _ hz4).mono ?_
            rintro e w5 ⟨rfl, hf5⟩
            go_wp2
            go_roundw
            case rel => exact ⟨j + 1, by omega, by go_num, hz4.then0 hf5 (fun _ h => h.elim)⟩
            case measure => simp [intOf]; omega
        · go_wp2
          go_ret
          exact ⟨rfl, hfr⟩
    · by_cases hk : k < 3
      · have d3 : decide ((k : Int) < 3) = true := by simp; omega
        have hm := Hmore.out hr hk
        go_wp2_with fail
        refine (C1.out _ (k + 1) hz2).mono ?_
        rw [hm]
        rintro e w2b ⟨rfl, hf2b⟩
        have hz2 := hz2.then0 hf2b (fun _ h => h.elim)
        go_wp2
        go_loopw [6] (fun i wr => ∃ k : Nat, k ≤ n ∧ i = .int .i64 k ∧ Fr No w wr) (fun i _ => n - (intOf i).toNat)
        case atStart => exact ⟨0, Nat.zero_le _, rfl, hz2⟩
        case round =>
          obtain ⟨j, hj, rfl, hfr⟩ := hrel
          by_cases hlt : j < n
          · go_wp2_with fail
            refine (CS.out _ hfr).mono ?_
            rintro e w3 ⟨rfl, hf3⟩
            have hz3 := hfr.then0 hf3 (fun _ h => h.elim)
            cases hs : progSure l
            · go_wp2
              go_ret
              exact ⟨rfl, hz3⟩
            · go_wp2_with fail
              refine (CO.out hs j hlt _ hz3).mono ?_
              rintro e w4 ⟨rfl, hf4⟩
              have hz4 := hz3.then0 hf4 (fun _ h => h.elim)
              go_wp2_with fail
              refine (CT.out hs j hlt _ hz4).mono ?_
              rintro e w5 ⟨rfl, hf5⟩
              go_wp2
              go_roundw
              case rel => exact ⟨j + 1, by omega, by go_num, hz4.then0 hf5 (fun _ h => h.elim)⟩
              case measure => simp [intOf]; omega
          · go_wp2
            go_ret
            exact ⟨rfl, hfr⟩
      · have d3 : decide ((k : Int) < 3) = false := by simp; omega
        go_wp2
        go_loopw [6] (fun i wr => ∃ k : Nat, k ≤ n ∧ i = .int .i64 k ∧ Fr No w wr) (fun i _ => n - (intOf i).toNat)
        case atStart => exact ⟨0, Nat.zero_le _, rfl, hz2⟩
        case round =>
          obtain ⟨j, hj, rfl, hfr⟩ := hrel
          by_cases hlt : j < n
          · go_wp2_with fail
            refine (CS.out _ hfr).mono ?_
            rintro e w3 ⟨rfl, hf3⟩
            have hz3 := hfr.then0 hf3 (fun _ h => h.elim)
            cases hs : progSure l
            · go_wp2
              go_ret
              exact ⟨rfl, hz3⟩
            · go_wp2_with fail
              refine (CO.out hs j hlt _ hz3).mono ?_
              rintro e w4 ⟨rfl, hf4⟩
              have hz4 := hz3.then0 hf4 (fun _ h => h.elim)
              go_wp2_with fail
              refine (CT.out hs j hlt _ hz4).mono ?_
              rintro e w5 ⟨rfl, hf5⟩
              go_wp2
              go_roundw
              case rel => exact ⟨j + 1, by omega, by go_num, hz4.then0 hf5 (fun _ h => h.elim)⟩
              case measure => simp [intOf]; omega
          · go_wp2
            go_ret
            exact ⟨rfl, hfr⟩
end Go.Proofs.YteackcbnncichaaDoor
