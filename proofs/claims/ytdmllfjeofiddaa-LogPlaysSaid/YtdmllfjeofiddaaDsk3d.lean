/- A device of package disk: which sectors were written since. -/
import Derived.Test.YtdmllfjeofiddaaDsk3a
import Derived.Test.YtdmllfjeofiddaaKeys3
namespace Go.Proofs.Ytdmllfjeofiddaa
open Go.RowKit Go.Shelf Go.Maps

theorem sorts3 (m : Nat) : AnyZI.SortsIn Try.prog sortedA_ren Fence.wide m :=
  ⟨fun blk off cap ss W hH hblk hsz => callsIn_wide.2 (AnyM.slices_Sort_int sortA blk off cap ss W hH hblk hsz),
   fun p cap W => callsIn_wide.2 (AnyM.slices_Sort_int_none sortA p cap W)⟩
theorem keys3 (mb : Option Nat) (W : World) : Calls Try.prog 57 #[.map mb] W fun e w' => e = .returned (.func (.func 66) #[] #[.pointer (some ⟨W.heap.size, 0, none⟩)]) ∧ w' = W.alloc (.cells #[.map mb] 71) :=
  (callsIn_wide (n := 5)).1 (AnyZI.keys_in keysA Fence.wide 5 trivial rfl mb W)
set_option maxHeartbeats 1000000 in
theorem sorted3 (b nn : Nat) (D0 : DataW Value) (R : Value → Option (DataW Value × List MemPlace)) (w : World) (hown : w.ownsMap Try.prog 3 R b nn D0) (hmax : Maps.size D0 ≤ maxLen) (hbytes : Maps.size D0 * 8 ≤ 140737488355328) :
    Calls Try.prog 56 #[.func (.func 66) #[] #[.pointer (some ⟨w.heap.size, 0, none⟩)]] (w.alloc (.cells #[.map (some b)] 71)) fun e w' =>
      ∃ (v : Value) (ss : List Int), e = .returned v ∧ ss.Perm (intKeys D0) ∧ w'.ownsRow (w.alloc (.cells #[.map (some b)] 71)).heap.size 3 1 v ss.length ((ss.mergeSort (fun x y => decide (x ≤ y))).map encZ) ∧ (v = .slice none 0 0 ↔ ss = []) ∧ Below (w.alloc (.cells #[.map (some b)] 71)).heap.size (w.alloc (.cells #[.map (some b)] 71)) w' := by
  have hbl := hown.lt
  have hseq : SeqGives Fence.wide 2 Try.prog 66 #[.pointer (some ⟨w.heap.size, 0, none⟩)] encZ (fun ss => ss.Perm (intKeys D0)) (Maps.size D0) (w.alloc (.cells #[.map (some b)] 71)) :=
    AnyZI.keys_gives (ρ := keysA_ren) { keysA with } Fence.wide _ trivial rfl (by omega) w.heap.size b nn D0 _ (by simp) (by simp) (by
      obtain ⟨es, clock, hb, Ft, hs, hD⟩ := hown
      exact ⟨es, clock, (Below.heap_alloc _ _ b hbl).trans hb, Ft, hs, hD⟩)
  have cS := AnyZI.sorted_in sortedA Fence.wide 5 trivial trivial trivial trivial rfl (by omega) (sorts3 _) (enters_of Try.func65 (by kernel_rfl) rfl) 66 #[.pointer (some ⟨w.heap.size, 0, none⟩)] trivial (enters_of Try.func66 (by kernel_rfl) rfl) _ _ hmax hbytes _ hseq
  exact (callsIn_wide (n := 5)).1 cS

theorem wr_some (D : Dv) (i : Nat) : (D.wr i).isSome = D.di i := by
  unfold Dv.wr
  cases D.di i <;> rfl
section
variable {S : Nat → Prop} {d L m c a b : Nat} {D : Dv}
set_option maxHeartbeats 1000000 in
theorem dkDirty (w : World) (h : DK w d L m c D a b) : Calls Try.prog 42 #[.pointer (some ⟨d, 0, none⟩)] w fun e w' =>
    ∃ A c, e = .returned (.slice A D.dirty.length c) ∧ Sl w' w'.heap.size A (i64s D.dirty) ∧ Fr No w w' ∧ (∀ ad, A = some ad → D.dirty ≠ [] → w.heap.size ≤ ad.block) := by
  obtain ⟨-, c1, -, -⟩ := h.cells
  obtain ⟨D0, cc, ho, hsz, hsort⟩ := h.mp.keys int_k
  have hmx : (4096 : Nat) ≤ maxLen := by decide
  have hn4 := h.n
  have cS := sorted3 m cc D0 heldR w ho (by omega) (by omega)
  have cK := keys3 (some m) w
  have Hs : Hid (∀ ss : List Int, ss.Perm (intKeys D0) → ss.mergeSort (fun x y => decide (x ≤ y)) = D.dirty.map fun (i : Nat) => (i : Int)) := Lib.hid (fun ss hp => by
    rw [hsort ss hp]
    unfold Dv.dirty
    congr 2
    funext i
    exact wr_some D i)
  clear h ho hsz hsort
  go_enter Try.func42, Try.ntmps42
  go_wp2_with fail
  refine cK.mono ?_
  rintro e w' ⟨rfl, rfl⟩
  go_wp2_with fail
  refine cS.mono ?_
  rintro e w' ⟨v, ss, rfl, hp, hrow, -, hB⟩
  have e1 := Hs.out ss hp
  have e2 : ss.length = D.dirty.length := by
    have := congrArg List.length e1
    simpa using this
  rw [e1, e2] at hrow
  obtain ⟨A, c', rfl, -, -, -⟩ := own_shape hrow
  have Hr := Lib.hid hrow
  have Hf : Hid (Fr No w w') := Lib.hid (((Fr.refl No w).alloc _).trans' (Fr.ofBelow hB No) (fun _ _ e => e))
  clear hrow e1 e2 hp hB cS
  go_wp2
  go_ret
  refine ⟨A, c', rfl, ?_, Hf.out, ?_⟩
  · have h1 : i64s D.dirty = (D.dirty.map fun (i : Nat) => (i : Int)).map encZ := by
      unfold i64s
      rw [List.map_map]
      rfl
    rw [h1]
    exact Sl.ofOwn Hr.out
  · intro ad e hne
    subst e
    have := Hr.out.lt ad.block rfl
    simp at this
    omega
theorem dDirty_any (w : World) (h : DD w S d D a b) : Calls Try.prog 42 #[.pointer (some ⟨d, 0, none⟩)] w fun e w' =>
    ∃ A c, e = .returned (.slice A D.dirty.length c) ∧ Sl w' w'.heap.size A (i64s D.dirty) ∧ Fr No w w' := by
  obtain ⟨_, _, _, L, m, c, -, hk⟩ := h
  refine (dkDirty w hk).mono ?_
  rintro e w' ⟨A, c, he, h1, h2, -⟩
  exact ⟨A, c, he, h1, h2⟩
theorem dDirty_nil (w : World) : Calls Try.prog 42 #[.pointer none] w fun e w' => ∃ A c, e = .returned (.slice A 0 c) ∧ Fr No w w' := by
  go_enter Try.func42, Try.ntmps42
  go_wp2
  go_ret
  exact ⟨none, 0, rfl, Fr.refl _ _⟩
end
end Go.Proofs.Ytdmllfjeofiddaa
