/- The document's example of an instruction in words: 'get r2 5+a0'. -/
import Derived.Test.YteackcbnncichaaDoorPrg9
import Derived.Test.YteackcbnncichaaDoorRows
import Derived.Test.YteackcbnncichaaDoorJoin9
import Derived.Deep.RegionHeld3
namespace Go.Proofs.YteackcbnncichaaDoor
open Go.RowKit Go.Shelf

theorem joinX : Builder.Extra Tryd.prog joinA_ren where
  sizeBuilder := by kernel_rfl
  liesBuilder := by kernel_rfl
  t5 := Tryd.underlying5
  a5 := Tryd.isAgg5
  z5 := Tryd.sizeOf5
  v5 := Tryd.zeroValue5
  infoByte := by kernel_rfl
  cellsByte := by kernel_rfl
  sizeByte := by kernel_rfl
  neB5 := by decide

def digS (d : Int) : ByteArray := if d = 0 then ⟨#[48]⟩ else if d = 2 then ⟨#[50]⟩ else ⟨#[53]⟩
set_option maxHeartbeats 400000 in
theorem itoa9 (d : Int) (h : d = 0 ∨ d = 2 ∨ d = 5) (w : World) : Calls Tryd.prog 64 #[.int .i64 d] w fun e w' => e = .returned (.string (digS d)) ∧ w = w' := by
  rcases h with rfl | rfl | rfl
  all_goals
    go_enter Tryd.func64, Tryd.ntmps64
    go_wp2
    go_ret
    exact ⟨rfl, rfl⟩

set_option maxHeartbeats 400000 in
theorem reg9 (w : World) : Calls Tryd.prog 44 #[.int .i64 2] w fun e w' => e = .returned (.string ⟨#[114, 50]⟩) ∧ w = w' := by
  have h2 : digS 2 = ⟨#[50]⟩ := rfl
  go_enter Tryd.func44, Tryd.ntmps44
  go_wp2_with (go_at_call 64; refine (itoa9 _ (by simp) _).mono ?_; rintro e w' ⟨rfl, rfl⟩; rw [h2])
  go_ret
  exact ⟨rfl, rfl⟩

set_option maxHeartbeats 400000 in
theorem keyText9 (w : World) : Calls Tryd.prog 45 #[.agg #[.int .i64 0, .int .i64 5]] w fun e w' => e = .returned (.string ⟨#[53, 43, 97, 48]⟩) ∧ Fr No w w' := by
  have h5 : digS 5 = ⟨#[53]⟩ := rfl
  have h0 : digS 0 = ⟨#[48]⟩ := rfl
  go_enter Tryd.func45, Tryd.ntmps45
  go_wp2_with (go_at_call 64; refine (itoa9 _ (by simp) _).mono ?_; rintro e w' ⟨rfl, rfl⟩; first | rw [h5] | rw [h0])
  go_ret
  exact ⟨rfl, (Fr.refl _ _).alloc _⟩

set_option maxHeartbeats 1000000 in
theorem line9 (w : World) (b c : Nat) (hb : b < w.heap.size) (h0 : w.cell? ⟨b, 0, none⟩ = some (.string ⟨#[103, 101, 116]⟩)) (h1 : w.cell? ⟨b, 1, none⟩ = some (.string ⟨#[114, 50]⟩)) (h2 : w.cell? ⟨b, 2, none⟩ = some (.string ⟨#[53, 43, 97, 48]⟩)) (hc : 3 ≤ c) :
    Calls Tryd.prog 46 #[.slice (some ⟨b, 0, none⟩) 3 c] w fun e w' => e = .returned (.string ⟨#[103, 101, 116, 32, 114, 50, 32, 53, 43, 97, 48]⟩) ∧ Fr No w w' := by
  have HJ := Any.strings_Join joinA joinX b 0 c [⟨#[103, 101, 116]⟩, ⟨#[114, 50]⟩, ⟨#[53, 43, 97, 48]⟩] ⟨#[32]⟩ w (by
    intro j x hx
    match j, hx with
    | 0, hx => simp at hx; subst hx; simpa using h0
    | 1, hx => simp at hx; subst hx; simpa using h1
    | 2, hx => simp at hx; subst hx; simpa using h2) hb (by simp) (by simpa using hc) (by decide)
  have HJ2 : Calls Tryd.prog 65 #[.slice (some ⟨b, 0, none⟩) 3 c, .string ⟨#[32]⟩] w fun e w' => e = .returned (.string ⟨#[103, 101, 116, 32, 114, 50, 32, 53, 43, 97, 48]⟩) ∧ Below w.heap.size w w' := HJ
  go_enter Tryd.func46, Tryd.ntmps46
  go_wp2_with (go_at_call 65; refine HJ2.mono ?_; rintro e w' ⟨rfl, hb1⟩)
  go_ret
  exact ⟨rfl, Fr.ofBelow hb1 No⟩
set_option maxHeartbeats 1000000 in
theorem text9 (w : World) : Calls Tryd.prog 26 #[.agg #[.int .i64 1, .int .i64 2, .int .i64 0, .int .i64 0, .int .i64 0, .int .i64 5, .int .i64 0, .int .i64 0, .int .i64 0]] w fun e w' =>
    e = .returned (.string ⟨#[103, 101, 116, 32, 114, 50, 32, 53, 43, 97, 48]⟩) ∧ Fr No w w' := by
  go_enter Tryd.func26, Tryd.ntmps26
  go_wp2_with fail
  go_region_held3 (fun w' => w'.cell? ⟨w.heap.size, 0, none⟩ = some (.int .i64 1) ∧ w'.cell? ⟨w.heap.size, 1, none⟩ = some (.int .i64 2) ∧ w'.cell? ⟨w.heap.size, 4, none⟩ = some (.int .i64 0) ∧ w'.cell? ⟨w.heap.size, 5, none⟩ = some (.int .i64 5))
    (first | go_keep | (refine ⟨(hf1.cell (by simp) (fun e => e)).trans ?_, (hf1.cell (by simp) (fun e => e)).trans ?_, (hf1.cell (by simp) (fun e => e)).trans ?_, (hf1.cell (by simp) (fun e => e)).trans ?_⟩ <;> simp)) (first
    | (go_at_call 44; refine (reg9 _).mono ?_; rintro e w1 ⟨rfl, rfl⟩)
    | (go_at_call 45; refine (keyText9 _).mono ?_; rintro e w1 ⟨rfl, hf1⟩))
  rename_i hh
  obtain ⟨h0, -, -, -⟩ := hh
  go_wp2_with fail
  refine (line9 _ w1.heap.size 3 (by simp) (by simp) (by simp) (by simp) (Nat.le_refl _)).mono ?_
  rintro e w2 ⟨rfl, hf2⟩
  go_wp2
  go_ret
  exact ⟨rfl, ((((Fr.refl No w).alloc _).drew.then0 hf1 (fun _ h => h.elim)).alloc _).then0 hf2 (fun _ h => h.elim)⟩

set_option maxHeartbeats 400000 in
theorem alive9 (w : World) : Calls Tryd.prog 7 #[] w fun e w' => e = .returned (.bool true) ∧ Fr No w w' := by
  go_enter Tryd.func7, Tryd.ntmps7
  go_wp2_with (go_at_call 26; refine (text9 _).mono ?_; rintro e w' ⟨rfl, hf1⟩)
  go_ret
  exact ⟨rfl, hf1⟩
end Go.Proofs.YteackcbnncichaaDoor
