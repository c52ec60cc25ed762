/- Package pages: the first pair of a store. -/
import Derived.Test.YtenmiociinogeaaWth5
namespace Go.Proofs.Ytenmiociinogeaa
open Go.RowKit

set_option maxHeartbeats 4000000 in
set_option maxRecDepth 100000 in
theorem with_none (A : Option Addr) (c k : Nat) (v : Int) (w : World) :
    Calls Try.prog 32 #[.slice A 0 c, .int .i64 0, .int .i64 0, .agg #[.int .i64 k, .int .i64 v]] w fun e w' =>
      ∃ q o c' hs, e = .returned (.slice (some ⟨q, o, none⟩) hs.length c') ∧ LsN w' (fun x => w.heap.size ≤ x ∧ x < w'.heap.size) q o c' hs [[(k, v)]] ∧ Fr No w w' := by
  have Hins : Hid (∀ W b, Bk W b 50 #[.int .i64 k, .int .i64 v] → Calls Try.prog 43 #[.slice none 0 0, .int .i64 0, .slice (some ⟨b, 0, none⟩) 1 1] W fun e w3 =>
      ∃ yc, e = .returned (.slice (some ⟨W.heap.size, 0, none⟩) 1 yc) ∧ PgA w3 ⟨W.heap.size, 0, 1, yc⟩ [(k, v)] ∧ Fr No W w3) := Lib.hid (fun W b hb => by
    refine (insPr_end_grow (n := 0) (c := 0) (b := b) (xs := []) (us := [.int .i64 k, .int .i64 v]) (w := W) none rfl (by omega) rfl rfl (by intro u hu; simp at hu; rcases hu with rfl | rfl <;> rfl) ⟨by simp, _, hb, by simp, fun j u hu => by rw [Nat.zero_add]; simpa using hu⟩ (.inr ⟨rfl, rfl⟩)).mono ?_
    rintro e w3 ⟨yc, rfl, a1, a2, a3, a4⟩
    exact ⟨yc, rfl, ⟨rfl, a1, a2, a3⟩, a4⟩)
  have hmk : ∀ W : World, (Instr.makeSlice 26 (.int .i64 1) (.int .i64 1)).run Try.prog W = .ok (.slice (some ⟨W.heap.size, 0, none⟩) 1 1) (W.alloc (.cells #[.slice none 0 0] 72)) := fun W => by
    obtain ⟨i, hi, hz, hs, hb⟩ := info_parts info_page
    have hr := run_make (P := Try.prog) W 26 72 i _ Try.underlying26 hi hz .i64 .i64 1 1 (by omega) (by omega) (by rw [hb]; omega) (by omega)
    rw [hs] at hr
    rw [show madeCells (Value.agg #[.slice none 0 0]).cells (Int.toNat 1 * 1) = #[.slice none 0 0] by first | rfl | (unfold madeCells; rw [show Array.range (Int.toNat 1 * 1) = #[0] by first | rfl | decide]; simp [Value.cells])] at hr
    exact hr
  have b1 := Bk.made w 50 #[.int .i64 (k : Int), .int .i64 v]
  have x0 : (w.alloc (.cells #[.int .i64 (k : Int), .int .i64 v] 50)).cell? ⟨w.heap.size, 0, none⟩ = some (.int .i64 (k : Int)) := b1.cell 0
  have x1 : (w.alloc (.cells #[.int .i64 (k : Int), .int .i64 v] 50)).cell? ⟨w.heap.size, 1, none⟩ = some (.int .i64 v) := b1.cell 1
  clear b1
  go_enter Try.func32, Try.ntmps32
  go_wp2_with fail
  obtain ⟨w2, hw2⟩ : ∃ w2, w2 = ((w.alloc (.cells #[.int .i64 (k : Int), .int .i64 v] 50)).alloc (.cells #[.slice none 0 0] 72)) := ⟨_, rfl⟩
  have hsz : w2.heap.size = w.heap.size + 2 := by rw [hw2]; simp
  have hf : Fr No w w2 := by rw [hw2]; exact ((Fr.refl No w).alloc _).alloc _
  have d1 : Bk w2 w.heap.size 50 #[.int .i64 (k : Int), .int .i64 v] := by rw [hw2]; exact (Bk.made w _ _).alloc _
  have d2 : Bk w2 (w.heap.size + 1) 72 #[.slice none 0 0] := by rw [hw2]; exact Bk.made1 w _ _ _
  rw [← hw2]
  obtain ⟨z, Hzw⟩ : ∃ z, Hid (z = w.heap.size) := ⟨_, Lib.hid rfl⟩
  rw [← Hzw.out] at hsz d1 d2 ⊢
  have y0 : w2.cell? ⟨z, 0, none⟩ = some (.int .i64 (k : Int)) := d1.cell 0
  have y1 : w2.cell? ⟨z, 1, none⟩ = some (.int .i64 v) := d1.cell 1
  have y2 : w2.cell? ⟨z + 1, 0, none⟩ = some (.slice none 0 0) := d2.cell 0
  have y3 : (w2.alloc (.cells #[.int .i64 (k : Int), .int .i64 v] 50)).cell? ⟨z + 1, 0, none⟩ = some (.slice none 0 0) := (d2.alloc _).cell 0
  have D2 := Lib.hid d2
  have Hf := Lib.hid hf
  have Hsz := Lib.hid hsz
  clear d1 d2 hf hsz hw2 x0 x1 hmk
  first | go_region_with (first
    | (go_at_call 43
       refine (Hins.out _ w2.heap.size (by first | exact Bk.made w2 _ _ | exact (Bk.made w2 _ _).drew)).mono ?_
       rintro e w3 ⟨yc, rfl, hP, hF⟩
       have HP := Lib.hid hP
       have HF := Lib.hid hF
       have D3 := ((D2.out.alloc (.cells #[.int .i64 (k : Int), .int .i64 v] 50)).drew).fr hF (fun e => e)
       have z2 : w3.cell? ⟨z + 1, 0, none⟩ = some (.slice none 0 0) := D3.cell 0
       have z1 := D3.frozen 0
       have HD := Lib.hid D3
       clear hP hF D3)) | fail
  all_goals
    have hsz := Hsz.out
    have e3 : ((w2.alloc (.cells #[.int .i64 (k : Int), .int .i64 v] 50)).drew).heap.size = z + 3 := by show (w2.alloc _).heap.size = _; rw [World.size_alloc]; omega
    rw [e3] at HP
    rw [show w2.heap.size + 1 = z + 3 by omega]
    have HR : Hid (LsN (w3.setCell ⟨z + 1, 0, none⟩ (.slice (some ⟨z + 3, 0, none⟩) 1 yc)) (fun x => z ≤ x ∧ x < (w3.setCell ⟨z + 1, 0, none⟩ (.slice (some ⟨z + 3, 0, none⟩) 1 yc)).heap.size) (z + 1) 0 1 [⟨z + 3, 0, 1, yc⟩] [[(k, v)]] ∧ Fr No w (w3.setCell ⟨z + 1, 0, none⟩ (.slice (some ⟨z + 3, 0, none⟩) 1 yc))) := Lib.hid (by
      have hst : Fr (fun x => x = z + 1) w3 (w3.setCell ⟨z + 1, 0, none⟩ (.slice (some ⟨z + 3, 0, none⟩) 1 yc)) := (Fr.refl (fun x => x = z + 1) w3).setCell (p := ⟨z + 1, 0, none⟩) (.inl rfl) _
      have hs1 := hst.size
      have hg := HP.out.rg.lt
      simp only at hg
      have hq := HD.out.put 0 (.slice (some ⟨z + 3, 0, none⟩) 1 yc)
      refine ⟨⟨rfl, by simp, by unfold maxLen; omega, ⟨by simp, _, hq, by simp, fun j u hu => ?_⟩, fun i h1 h2 => ?_, List.pairwise_singleton _ _, ⟨by omega, by have := hq.lt; omega⟩, fun h hh => ?_, fun x hx => hx.2⟩, ?_⟩
      · rcases j with _ | j
        · simpa [Pgh.val] using hu
        · simp at hu
      · obtain rfl : i = 0 := by simp at h1; omega
        exact HP.out.fr hst (by show ¬ (z + 3 = z + 1); omega)
      · rw [List.mem_singleton.1 hh]
        exact ⟨by show z ≤ z + 3; omega, by show z + 3 < _; omega⟩
      · exact ((((Hf.out.alloc _).drew).trans' HF.out (fun _ _ e => e))).trans' hst (fun i hi e => by have := Hzw.out; omega))
    have hc4 : (w3.setCell ⟨z + 1, 0, none⟩ (.slice (some ⟨z + 3, 0, none⟩) 1 yc)).cell? ⟨z + 1, 0, none⟩ = some (.slice (some ⟨z + 3, 0, none⟩) 1 yc) := HR.out.1.hdr (i := 0) (by simp)
    clear HP HF HD Hf D2 z1 z2 y0 y1 y2 y3 Hins
    generalize (w3.setCell ⟨z + 1, 0, none⟩ (.slice (some ⟨z + 3, 0, none⟩) 1 yc)) = w4 at *
    go_wp2
    go_ret
    have hr := HR.out
    rw [Hzw.out] at hr
    exact ⟨_, 0, 1, [⟨_, 0, 1, yc⟩], by rw [Hzw.out]; rfl, hr⟩
end Go.Proofs.Ytenmiociinogeaa
