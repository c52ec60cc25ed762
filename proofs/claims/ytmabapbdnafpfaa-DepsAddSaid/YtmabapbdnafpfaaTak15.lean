/- Package deps: a set of numbers that is a map; a node is put into it with all that it depends on; its numbers, rising. -/
import Derived.Test.YtmabapbdnafpfaaNxd15
import Derived.Test.YtmabapbdnafpfaaMaps
import Derived.Test.YtmabapbdnafpfaaKeys3
namespace Go.Proofs.Ytmabapbdnafpfaa
open Go.RowKit Go.Shelf Go.Maps

theorem int_k15 : Try.prog.underlying 3 = some (.int .i64) := Try.underlying3
theorem map_t15 : Try.prog.underlying 51 = some (.map 3 52) := Try.underlying51
theorem zero_t15 (w : World) : (zeroValue 52).run Try.prog w = .ok (.agg #[]) w := Try.zeroValue52 w
/-- A set, as what stands in a map. -/
def onV (s : Nat → Bool) (i : Nat) : Option Value := if s i = true then some (.agg #[]) else none
theorem onV_some (s : Nat → Bool) (i : Nat) : (onV s i).isSome = s i := by
  unfold onV
  cases s i <;> rfl
theorem onV_get (s : Nat → Bool) (i : Nat) : (onV s i).getD (.agg #[]) = .agg #[] := by
  unfold onV
  cases s i <;> rfl
theorem onV_put (s : Nat → Bool) (k : Nat) : upd (onV s) k (some (.agg #[])) = onV (fun j => s j || decide (j = k)) := by
  funext j
  by_cases e : j = k
  · subst e
    rw [upd_same]
    simp [onV]
  · rw [upd_other _ _ _ _ e]
    simp [onV, e]
section
variable {P : Program} {k : TypeId} {w w' : World} {m n : Nat} {f : Nat → Option Value}
theorem MI.noCell (h : MI P k w m n f) (ad : Addr) (he : ad.block = m) : w.cell? ad = none := by
  obtain ⟨D, ⟨es, clock, hb, _⟩, _⟩ := h
  unfold World.cell?
  rw [he, hb]
theorem add_block15 (ad : Addr) (k : Nat) : (ad.add k).block = ad.block := by cases k <;> simp [Addr.add]
theorem MI.cellNe (h : MI P k w m n f) {ad : Addr} {v : Value} (hc : w.cell? ad = some v) : ad.block ≠ m := by
  intro e
  have := h.noCell ad e
  rw [hc] at this
  cases this
end
/-- A number lies on, where only the map has turned. -/
theorem MI.carry {P : Program} {k : TypeId} {w W : World} {m n : Nat} {f : Nat → Option Value} (h : MI P k w m n f) (hf : Fr (fun x => x = m) w W) {ad : Addr} {v : Value} (hc : w.cell? ad = some v) (hb : ad.block < w.heap.size) : W.cell? ad = some v := (hf.cell hb (h.cellNe hc)).trans hc
set_option maxRecDepth 100000 in
set_option maxHeartbeats 4000000 in
theorem take15 (m N b0 b1 : Nat) (s : Nat → Bool) (k : Nat) (ls : List IL) (L : Option Addr) (nl lc : Nat) (w : World) (hk : k < N) (hN : N ≤ 1048576) (hon : Bk w b1 51 #[.map (some m)]) (hbl : Bk w b0 29 #[.slice L nl lc])
    (hm : MI Try.prog 3 w m N (onV s)) (hI : Ils w L ls) (hnl : ls.length = nl) (hkl : k < ls.length) (hlt : ∀ x ∈ ls[k].l, x < N) (hlen : ls[k].l.length ≤ 1048576) :
    Calls Try.prog 25 #[.int .i64 (k : Int), .pointer (some ⟨b1, 0, none⟩), .pointer (some ⟨b0, 0, none⟩)] w fun e w' =>
      e = .returned (.tuple #[]) ∧ MI Try.prog 3 w' m N (onV (fun j => s j || (decide (j = k) || decide (j ∈ ls[k].l)))) ∧ Fr (fun x => x = m) w w' := by
  obtain ⟨w1, hup, hm1, hf1, -⟩ := hm.store int_k15 map_t15 hk (by omega) (.agg #[])
  rw [onV_put] at hm1
  have x1 := hon.cell 0
  have y0 : w1.cell? ⟨b0, 0, none⟩ = some (.slice L nl lc) := (hf1.cell hbl.lt (fun e => hm.apart hbl e.symm)).trans (hbl.cell 0)
  have hb1 : Bk w1 b1 51 #[.map (some m)] := hon.fr hf1 (fun e => hm.apart hon e.symm)
  obtain ⟨ad, rfl, hab, c0⟩ := hI.sl.il hkl
  have c1 := hm.carry hf1 c0 (by rw [add_block15]; exact hab)
  have hin : ((k : Nat) : Int) < (nl : Int) := by omega
  have hsl := hI.all _ (List.getElem_mem hkl)
  have Hnum := Lib.hid (fun (j : Nat) (hj : j < ls[k].l.length) W (h : Fr (fun x => x = m) w W) => show ∃ ad, ls[k].A = some ad ∧ W.cell? (ad.add j) = some (.int .i64 ((ls[k].l[j] : Nat) : Int)) by
    obtain ⟨ad, e, hb, c⟩ := hsl.num hj
    exact ⟨ad, e, hm.carry h c (by rw [add_block15]; exact hb)⟩)
  have Hon := Lib.hid (fun W (h : Fr (fun x => x = m) w W) => show W.cell? ⟨b1, 0, none⟩ = some (.map (some m)) from (hon.fr h (fun e => hm.apart hon e.symm)).cell 0)
  have Hlt := Lib.hid (fun (j : Nat) (hj : j < ls[k].l.length) => hlt _ (List.getElem_mem hj))
  have HM1 := Lib.hid hm1
  have HF1 := Lib.hid hf1
  simp at x1
  clear hon hbl hm hI hlt hsl hm1 hf1 hb1 c0 hab
  obtain ⟨l, hl⟩ : ∃ l, l = ls[k].l := ⟨_, rfl⟩
  obtain ⟨A2, hA2⟩ : ∃ x, x = ls[k].A := ⟨_, rfl⟩
  obtain ⟨c2, hc2⟩ : ∃ x, x = ls[k].c := ⟨_, rfl⟩
  simp only [← hl, ← hA2, ← hc2] at *
  clear hl hA2 hc2
  obtain ⟨ll, hll⟩ : ∃ x, l.length = x := ⟨_, rfl⟩
  rw [hll] at hlen c1
  have Hll := Lib.hid hll
  clear hll
  go_enter Try.func25, Try.ntmps25
  go_wp2
  clear hup x1 y0 c1
  go_loopw [14] (fun iv wr => ∃ j : Nat, j ≤ ll ∧ iv = .int .i64 (j : Int) ∧ Hid (MI Try.prog 3 wr m N (onV (fun x => s x || (decide (x = k) || decide (x ∈ l.take j))))) ∧ Hid (Fr (fun x => x = m) w wr)) (fun iv _ => ll - (intOf iv).toNat)
  case atStart => exact ⟨0, Nat.zero_le _, rfl, Lib.hid (HM1.out.congr (fun i _ => by simp [onV])), HF1⟩
  case round =>
    obtain ⟨j, hj, rfl, hM, hfr⟩ := hrel
    by_cases hjl : j < ll
    · have hjl2 : j < l.length := by rw [Hll.out]; exact hjl
      have hjn : ((j : Nat) : Int) < (ll : Int) := by omega
      obtain ⟨ae, rfl, a0⟩ := Hnum.out j hjl2 wr hfr.out
      have x1 := Hon.out wr hfr.out
      obtain ⟨w2, hup, hm2, hf2, -⟩ := hM.out.store int_k15 map_t15 (Hlt.out j hjl2) (by omega) (.agg #[])
      rw [onV_put] at hm2
      have HM2 : Hid (MI Try.prog 3 w2 m N (onV (fun x => s x || (decide (x = k) || decide (x ∈ l.take (j + 1)))))) := Lib.hid (hm2.congr (fun i _ => by
        rw [List.take_succ_eq_append_getElem hjl2]
        simp only [onV, List.mem_append, List.mem_singleton, Bool.decide_or, Bool.or_assoc]))
      have HF2 : Hid (Fr (fun x => x = m) w w2) := Lib.hid (hfr.out.trans' hf2 (fun _ _ e => e))
      generalize l[j] = x at *
      clear hm2 hf2 hM hfr Hnum Hon Hlt
      go_wp2
      go_roundw
      case rel => exact ⟨j + 1, by omega, by go_num, HM2, HF2⟩
      case measure => simp [intOf]; omega
    · obtain rfl : j = ll := by omega
      have HM2 : Hid (MI Try.prog 3 wr m N (onV (fun x => s x || (decide (x = k) || decide (x ∈ l))))) := Lib.hid (hM.out.congr (fun i _ => by rw [← Hll.out, List.take_length]))
      clear hM Hnum Hon Hlt
      go_wp2
      go_end0
      exact ⟨rfl, HM2.out, hfr.out⟩
/-- The numbers of a set that is a map, rising. -/
theorem sorts15 (m : Nat) : AnyZI.SortsIn Try.prog sortedA_ren Fence.wide m :=
  ⟨fun blk off cap ss W hH hblk hsz => callsIn_wide.2 (AnyM.slices_Sort_int sortA blk off cap ss W hH hblk hsz),
   fun p cap W => callsIn_wide.2 (AnyM.slices_Sort_int_none sortA p cap W)⟩
theorem keys15 (mb : Option Nat) (W : World) : Calls Try.prog 28 #[.map mb] W fun e w' => e = .returned (.func (.func 36) #[] #[.pointer (some ⟨W.heap.size, 0, none⟩)]) ∧ w' = W.alloc (.cells #[.map mb] 51) :=
  (callsIn_wide (n := 5)).1 (AnyZI.keys_in keysA Fence.wide 5 trivial rfl mb W)
set_option maxHeartbeats 1000000 in
theorem sorted15 (b nn : Nat) (D0 : DataW Value) (R : Value → Option (DataW Value × List MemPlace)) (w : World) (hown : w.ownsMap Try.prog 3 R b nn D0) (hmax : Maps.size D0 ≤ maxLen) (hbytes : Maps.size D0 * 8 ≤ 140737488355328) :
    Calls Try.prog 27 #[.func (.func 36) #[] #[.pointer (some ⟨w.heap.size, 0, none⟩)]] (w.alloc (.cells #[.map (some b)] 51)) fun e w' =>
      ∃ (v : Value) (ss : List Int), e = .returned v ∧ ss.Perm (intKeys D0) ∧ w'.ownsRow (w.alloc (.cells #[.map (some b)] 51)).heap.size 3 1 v ss.length ((ss.mergeSort (fun x y => decide (x ≤ y))).map encZ) ∧ (v = .slice none 0 0 ↔ ss = []) ∧ Below (w.alloc (.cells #[.map (some b)] 51)).heap.size (w.alloc (.cells #[.map (some b)] 51)) w' := by
  have hbl := hown.lt
  have hseq : SeqGives Fence.wide 2 Try.prog 36 #[.pointer (some ⟨w.heap.size, 0, none⟩)] encZ (fun ss => ss.Perm (intKeys D0)) (Maps.size D0) (w.alloc (.cells #[.map (some b)] 51)) :=
    AnyZI.keys_gives (ρ := keysA_ren) { keysA with } Fence.wide _ trivial rfl (by omega) w.heap.size b nn D0 _ (by simp) (by simp) (by
      obtain ⟨es, clock, hb, Ft, hs, hD⟩ := hown
      exact ⟨es, clock, (Below.heap_alloc _ _ b hbl).trans hb, Ft, hs, hD⟩)
  have cS := AnyZI.sorted_in sortedA Fence.wide 5 trivial trivial trivial trivial rfl (by omega) (sorts15 _) (enters_of Try.func35 (by kernel_rfl) rfl) 36 #[.pointer (some ⟨w.heap.size, 0, none⟩)] trivial (enters_of Try.func36 (by kernel_rfl) rfl) _ _ hmax hbytes _ hseq
  exact (callsIn_wide (n := 5)).1 cS
/-- The numbers of a set, rising, as a row of the call's own. -/
theorem told15 (m N : Nat) (s : Nat → Bool) (w : World) (hN : N ≤ 1048576) (hm : MI Try.prog 3 w m N (onV s)) :
    Calls Try.prog 27 #[.func (.func 36) #[] #[.pointer (some ⟨w.heap.size, 0, none⟩)]] (w.alloc (.cells #[.map (some m)] 51)) fun e w' =>
      ∃ (A : Option Addr) (c : Nat), e = .returned (.slice A ((List.range N).filter s).length c) ∧ w'.ownsRow w.heap.size 3 1 (.slice A ((List.range N).filter s).length c) ((List.range N).filter s).length (nums ((List.range N).filter s)) ∧ Fr No w w' := by
  obtain ⟨D0, cc, ho, hsz, hsort⟩ := hm.keys int_k15
  have hmx : (1048576 : Nat) ≤ maxLen := by decide
  refine (sorted15 m cc D0 heldR w ho (by omega) (by omega)).mono ?_
  rintro e w' ⟨v, ss, rfl, hp, hrow, -, hB⟩
  have e1 := hsort ss hp
  have e0 : (fun i => (onV s i).isSome) = s := funext fun i => onV_some s i
  rw [e0] at e1
  have e2 : ss.length = ((List.range N).filter s).length := by
    have := congrArg List.length e1
    simpa using this
  rw [e1, e2] at hrow
  obtain ⟨A, c', rfl, -, -, -⟩ := own_shape hrow
  refine ⟨A, c', rfl, ?_, ((Fr.refl No w).alloc _).trans' (Fr.ofBelow hB No) (fun _ _ e => e)⟩
  have h1 : nums ((List.range N).filter s) = (((List.range N).filter s).map fun (i : Nat) => (i : Int)).map encZ := by
    unfold nums
    rw [List.map_map]
    rfl
  rw [h1]
  exact own_base hrow (by simp)
end Go.Proofs.Ytmabapbdnafpfaa
