/- What the law's 'read' does: whether what is read is an item's. -/
import Derived.Test.YteakdcnbjcnpnaaCodesR
namespace Go.Proofs.Yteakdcnbjcnpnaa
open Go.RowKit

/-- Whether what is read is an item's, and what is left. -/
def It.isB (t : It) (st : Option (List Nat)) : Bool :=
  if t.kind = 0 then ((((cntR t.most st).map (·.1)).getD 0 : Nat) : Int) == t.n else if t.kind = 1 then (((sgnR st).map (·.1)).getD 0) == t.x
  else if t.kind = 2 then (((flagR st).map (·.1)).getD false) == (t.n == 1) else if t.kind = 3 then ByteArray.toList (((textR st).map (·.1)).getD ⟨#[]⟩) == t.s.toList
  else decide ((((wordsR t.most st).map (·.1)).getD []) = t.L)
def It.rest (t : It) (st : Option (List Nat)) : Option (List Nat) :=
  if t.kind = 0 then (cntR t.most st).map (·.2) else if t.kind = 1 then (sgnR st).map (·.2) else if t.kind = 2 then (flagR st).map (·.2) else if t.kind = 3 then (textR st).map (·.2) else (wordsR t.most st).map (·.2)

set_option maxHeartbeats 2000000 in
theorem lawRead_0 (p : Nat) (st : Option (List Nat)) (t : It) (w : World) (hr : Rdr w p st) (hk : t.kind = 0) (hm : -9223372036854775808 ≤ t.most ∧ t.most < 9223372036854775808) :
    Calls Try.prog 14 #[.pointer (some ⟨p, 0, none⟩), t.val] w (Red w p (t.rest st) (.bool (t.isB st))) := by
  have H1 : Hid (t.rest st = (cntR t.most st).map (·.2)) := Lib.hid (by simp [It.rest, hk])
  have H2 : Hid (t.isB st = (((((cntR t.most st).map (·.1)).getD 0 : Nat) : Int) == t.n)) := Lib.hid (by simp [It.isB, hk])
  have hpl := hr.lt
  have Hr := Lib.hid hr
  clear hr
  unfold It.val
  rw [hk]
  clear hk
  go_enter Try.func14, Try.ntmps14
  go_wp2_with fail
  go_region_held3 (fun w' => w'.cell? ⟨w.heap.size, 1, none⟩ = some (.int .i64 t.n) ∧ w'.cell? ⟨w.heap.size, 2, none⟩ = some (.int .i64 t.most))
    (first | go_keep | (refine ⟨(hf1.cell (by simp) (by simp [Only]; omega)).trans ?_, (hf1.cell (by simp) (by simp [Only]; omega)).trans ?_⟩ <;> simp))
    (first
     | (go_at_call 26
        refine (rcount_any p t.most st _ (Hr.out.fr ((Fr.refl No w).alloc _).drew id (fun _ h => h.elim)) hm).mono ?_
        rintro e w1 ⟨rfl, hr1, hf1⟩))
  go_wp2
  go_ret
  exact ⟨by rw [H2.out]; rfl, by rw [H1.out]; exact hr1, ((((Fr.refl (Only p) w).alloc _).drew).trans' hf1 (fun _ _ h => h)).drewN 0⟩
set_option maxHeartbeats 2000000 in
theorem lawRead_1 (p : Nat) (st : Option (List Nat)) (t : It) (w : World) (hr : Rdr w p st) (hk : t.kind = 1) :
    Calls Try.prog 14 #[.pointer (some ⟨p, 0, none⟩), t.val] w (Red w p (t.rest st) (.bool (t.isB st))) := by
  have H1 : Hid (t.rest st = (sgnR st).map (·.2)) := Lib.hid (by simp [It.rest, hk])
  have H2 : Hid (t.isB st = ((((sgnR st).map (·.1)).getD 0) == t.x)) := Lib.hid (by simp [It.isB, hk])
  have hpl := hr.lt
  have Hr := Lib.hid hr
  clear hr
  unfold It.val
  rw [hk]
  clear hk
  go_enter Try.func14, Try.ntmps14
  go_wp2_with fail
  go_region_held3 (fun w' => w'.cell? ⟨w.heap.size, 3, none⟩ = some (.int .i64 t.x))
    (first | go_keep | exact (hf1.cell (by simp) (by simp [Only]; omega)).trans (by simp))
    (first
     | (go_at_call 27
        refine (rsigned_any p st _ (Hr.out.fr ((Fr.refl No w).alloc _).drew id (fun _ h => h.elim))).mono ?_
        rintro e w1 ⟨rfl, hr1, hf1⟩))
  go_wp2
  go_ret
  exact ⟨by rw [H2.out]; rfl, by rw [H1.out]; exact hr1, ((((Fr.refl (Only p) w).alloc _).drew).trans' hf1 (fun _ _ h => h)).drewN 0⟩
set_option maxHeartbeats 2000000 in
theorem lawRead_2 (p : Nat) (st : Option (List Nat)) (t : It) (w : World) (hr : Rdr w p st) (hk : t.kind = 2) :
    Calls Try.prog 14 #[.pointer (some ⟨p, 0, none⟩), t.val] w (Red w p (t.rest st) (.bool (t.isB st))) := by
  have H1 : Hid (t.rest st = (flagR st).map (·.2)) := Lib.hid (by simp [It.rest, hk])
  have H2 : Hid (t.isB st = ((((flagR st).map (·.1)).getD false) == (t.n == 1))) := Lib.hid (by simp [It.isB, hk])
  have hpl := hr.lt
  have Hr := Lib.hid hr
  clear hr
  unfold It.val
  rw [hk]
  clear hk
  go_enter Try.func14, Try.ntmps14
  go_wp2_with fail
  go_region_held3 (fun w' => w'.cell? ⟨w.heap.size, 1, none⟩ = some (.int .i64 t.n))
    (first | go_keep | exact (hf1.cell (by simp) (by simp [Only]; omega)).trans (by simp))
    (first
     | (go_at_call 28
        refine (rflag_any p st _ (Hr.out.fr ((Fr.refl No w).alloc _).drew id (fun _ h => h.elim))).mono ?_
        rintro e w1 ⟨rfl, hr1, hf1⟩))
  go_wp2
  go_ret
  exact ⟨by rw [H2.out]; rfl, by rw [H1.out]; exact hr1, ((((Fr.refl (Only p) w).alloc _).drew).trans' hf1 (fun _ _ h => h)).drewN 0⟩
set_option maxHeartbeats 2000000 in
theorem lawRead_3 (p : Nat) (st : Option (List Nat)) (t : It) (w : World) (hr : Rdr w p st) (hk : t.kind = 3) :
    Calls Try.prog 14 #[.pointer (some ⟨p, 0, none⟩), t.val] w (Red w p (t.rest st) (.bool (t.isB st))) := by
  have H1 : Hid (t.rest st = (textR st).map (·.2)) := Lib.hid (by simp [It.rest, hk])
  have H2 : Hid (t.isB st = (ByteArray.toList (((textR st).map (·.1)).getD ⟨#[]⟩) == t.s.toList)) := Lib.hid (by simp [It.isB, hk])
  have hpl := hr.lt
  have Hr := Lib.hid hr
  clear hr
  unfold It.val
  rw [hk]
  clear hk
  go_enter Try.func14, Try.ntmps14
  go_wp2_with fail
  go_region_held3 (fun w' => w'.cell? ⟨w.heap.size, 4, none⟩ = some (.string t.s))
    (first | go_keep | exact (hf1.cell (by simp) (by simp [Only]; omega)).trans (by simp))
    (first
     | (go_at_call 29
        refine (rtext_any p st _ (Hr.out.fr ((Fr.refl No w).alloc _).drew id (fun _ h => h.elim))).mono ?_
        rintro e w1 ⟨rfl, hr1, hf1⟩))
  go_wp2
  go_ret
  exact ⟨by rw [H2.out]; rfl, by rw [H1.out]; exact hr1, ((((Fr.refl (Only p) w).alloc _).drew).trans' hf1 (fun _ _ h => h)).drewN 0⟩

set_option maxHeartbeats 2000000 in
theorem lawRead_4 (p : Nat) (st : Option (List Nat)) (t : It) (w : World) (hr : Rdr w p st) (hk : t.kind = 4) (hm : -9223372036854775808 ≤ t.most ∧ t.most < 9223372036854775808) (hsl : Sl w w.heap.size t.A (u64s t.L)) (hap : ∀ ad, t.A = some ad → t.L ≠ [] → ad.block ≠ p)
    (hL : t.L.length ≤ 1000000) (hst : (st.getD []).length ≤ 1000000) :
    Calls Try.prog 14 #[.pointer (some ⟨p, 0, none⟩), t.val] w (Red w p (t.rest st) (.bool (t.isB st))) := by
  have H1 : Hid (t.rest st = (wordsR t.most st).map (·.2)) := Lib.hid (by simp [It.rest, hk])
  have H2 : Hid (t.isB st = decide ((((wordsR t.most st).map (·.1)).getD []) = t.L)) := Lib.hid (by simp [It.isB, hk])
  have hlw : (((wordsR t.most st).map (·.1)).getD []).length ≤ 1000000 := by
    match st, hst with
    | none, _ => simp [wordsR, cntR]
    | some [], _ => simp [wordsR, cntR]
    | some (u :: r), hst =>
      simp at hst
      by_cases h1 : 0 ≤ t.most ∧ (u : Int) ≤ t.most
      · by_cases h2 : u ≤ r.length
        · simp [wordsR, cntR, h1, h2]
          omega
        · simp [wordsR, cntR, h1, h2]
      · simp [wordsR, cntR, h1]
  have hC : ∀ W, Rdr W p st → Calls Try.prog 30 #[.pointer (some ⟨p, 0, none⟩), .int .i64 t.most] W (RedL W p ((wordsR t.most st).map (·.2)) (((wordsR t.most st).map (·.1)).getD [])) := fun W h => rwords_any p t.most st W h hm (by omega)
  have hpl := hr.lt
  have Hr := Lib.hid (fun o => hr.fr (((Fr.refl No w).alloc o).drew) id (fun _ h => h.elim))
  generalize (((wordsR t.most st).map (·.1)).getD []) = zs at *
  generalize ((wordsR t.most st).map (·.2)) = st2 at *
  obtain ⟨n, hn⟩ : ∃ n, n = t.L.length := ⟨_, rfl⟩
  have HC := Lib.hid hC
  have Hsl := Lib.hid hsl
  have Hap := Lib.hid hap
  unfold It.val
  rw [hk, ← hn]
  rw [← hn] at hL
  have Hn := Lib.hid hn
  clear hk hC hr hst hsl hap hn hm
  go_enter Try.func14, Try.ntmps14
  go_wp2_with fail
  go_region_held3 (fun w' => w'.cell? ⟨w.heap.size, 2, none⟩ = some (.int .i64 t.most) ∧ w'.cell? ⟨w.heap.size, 5, none⟩ = some (.slice t.A n t.c))
    (first | go_keep
           | (refine ⟨(hf1.cell (by simp) (by simp [Only]; omega)).trans ?_, (hf1.cell (by simp) (by simp [Only]; omega)).trans ?_⟩ <;> simp)
           | (refine ⟨(hf2.cell (by have := hf1.size; simp at this; simp; omega) id).trans ((hf1.cell (by simp) (by simp [Only]; omega)).trans ?_), (hf2.cell (by have := hf1.size; simp at this; simp; omega) id).trans ((hf1.cell (by simp) (by simp [Only]; omega)).trans ?_)⟩ <;> simp))
    (first
     | (go_at_call 30
        refine (HC.out _ (Hr.out _)).mono ?_
        rintro e w1 ⟨A1, c1, rfl, hown1, hr1, hf1⟩)
     | (go_at_call 10
        refine (refWords_any zs t.L A1 t.A zs.length n c1 t.c w1 (Sl.ofOwn hown1) ?hsl rfl Hn.out.symm (by omega) (by omega)).mono ?_
        case hsl => exact ((Hsl.out.fr ((((Fr.refl (Only p) w).alloc _).drew).trans' hf1 (fun _ _ h => h)) (Nat.le_refl _) (fun ad h1 h2 => Hap.out ad h1 (u64s_ne h2))).more (by have := hf1.size; simp at this; omega))
        rintro e w2 ⟨rfl, hf2⟩))
  go_wp2
  go_ret
  exact ⟨by rw [H2.out]; rfl, by rw [H1.out]; exact hr1.fr hf2 id (fun _ h => h.elim), ((((Fr.refl (Only p) w).alloc _).drew).trans' hf1 (fun _ _ h => h)).trans' hf2 (fun _ _ h => h.elim)⟩

theorem lawRead_any (p : Nat) (st : Option (List Nat)) (t : It) (w : World) (hr : Rdr w p st) (hk : 0 ≤ t.kind ∧ t.kind ≤ 4) (hm : -9223372036854775808 ≤ t.most ∧ t.most < 9223372036854775808) (hsl : Sl w w.heap.size t.A (u64s t.L)) (hap : ∀ ad, t.A = some ad → t.L ≠ [] → ad.block ≠ p)
    (hL : t.L.length ≤ 1000000) (hst : (st.getD []).length ≤ 1000000) :
    Calls Try.prog 14 #[.pointer (some ⟨p, 0, none⟩), t.val] w (Red w p (t.rest st) (.bool (t.isB st))) := by
  rcases (show t.kind = 0 ∨ t.kind = 1 ∨ t.kind = 2 ∨ t.kind = 3 ∨ t.kind = 4 by omega) with h | h | h | h | h
  · exact lawRead_0 p st t w hr h hm
  · exact lawRead_1 p st t w hr h
  · exact lawRead_2 p st t w hr h
  · exact lawRead_3 p st t w hr h
  · exact lawRead_4 p st t w hr h hm hsl (fun ad h1 h2 => hap ad h1 h2) hL hst

end Go.Proofs.Yteakdcnbjcnpnaa
