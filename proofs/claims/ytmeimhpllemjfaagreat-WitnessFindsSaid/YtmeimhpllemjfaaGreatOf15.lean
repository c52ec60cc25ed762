/- Package deps: a set of numbers that is a map; a node is put into it with all that it depends on; its numbers, rising. -/
import Derived.Test.YtmeimhpllemjfaaGreatDep15
import Derived.Test.YtmeimhpllemjfaaGreatMaps
import Derived.Test.YtmeimhpllemjfaaGreatKeys3
import Derived.Test.YtmeimhpllemjfaaGreatHand
import Derived.Laws.EntriesVeiled
import Derived.Test.YtmeimhpllemjfaaGreatLas14
import Derived.Deep.RegionLaw
namespace Go.Proofs.YtmeimhpllemjfaaGreat
open Go.RowKit Go.Shelf Go.Maps

theorem int_k15 : Tryz.prog.underlying 3 = some (.int .i64) := Tryz.underlying3
theorem map_t15 : Tryz.prog.underlying 96 = some (.map 3 97) := Tryz.underlying96
theorem zero_t15 (w : World) : (zeroValue 97).run Tryz.prog w = .ok (.agg #[]) w := Tryz.zeroValue97 w
def onV (s : Nat → Bool) (i : Nat) : Option Value := if s i = true then some (.agg #[]) else none
theorem onV_some (s : Nat → Bool) (i : Nat) : (onV s i).isSome = s i := by
  unfold onV
  cases s i <;> rfl
theorem onV_get (s : Nat → Bool) (i : Nat) : (onV s i).getD (.agg #[]) = .agg #[] := by
  unfold onV
  cases s i <;> rfl
theorem onV_put (s : Nat → Bool) (k : Nat) : upd (onV s) k (some (.agg #[])) = onV (fun j => s j || decide (j = k)) := by
  funext j
  by_cases e : j = k
  · subst e
    rw [upd_same]
    simp [onV]
  · rw [upd_other _ _ _ _ e]
    simp [onV, e]
section
variable {P : Program} {k : TypeId} {w w' : World} {m n : Nat} {f : Nat → Option Value}
theorem MI.noCell (h : MI P k w m n f) (ad : Addr) (he : ad.block = m) : w.cell? ad = none := by
  obtain ⟨D, ⟨es, clock, hb, _⟩, _⟩ := h
  unfold World.cell?
  rw [he, hb]
theorem add_block15 (ad : Addr) (k : Nat) : (ad.add k).block = ad.block := by cases k <;> simp [Addr.add]
theorem MI.cellNe (h : MI P k w m n f) {ad : Addr} {v : Value} (hc : w.cell? ad = some v) : ad.block ≠ m := by
  intro e
  have := h.noCell ad e
  rw [hc] at this
  cases this
end
theorem MI.carry {P : Program} {k : TypeId} {w W : World} {m n : Nat} {f : Nat → Option Value} (h : MI P k w m n f) (hf : Fr (fun x => x = m) w W) {ad : Addr} {v : Value} (hc : w.cell? ad = some v) (hb : ad.block < w.heap.size) : W.cell? ad = some v := (hf.cell hb (h.cellNe hc)).trans hc
set_option maxRecDepth 100000 in
set_option maxHeartbeats 4000000 in
theorem take15 (m N b0 b1 : Nat) (s : Nat → Bool) (k : Nat) (ls : List IL) (L : Option Addr) (nl lc : Nat) (w : World) (hk : k < N) (hN : N ≤ 1048576) (hon : Bk w b1 96 #[.map (some m)]) (hbl : Bk w b0 63 #[.slice L nl lc])
    (hm : MI Tryz.prog 3 w m N (onV s)) (hI : Ils w L ls) (hnl : ls.length = nl) (hkl : k < ls.length) (hlt : ∀ x ∈ ls[k].l, x < N) (hlen : ls[k].l.length ≤ 1048576) :
    Calls Tryz.prog 60 #[.int .i64 (k : Int), .pointer (some ⟨b1, 0, none⟩), .pointer (some ⟨b0, 0, none⟩)] w fun e w' =>
      e = .returned (.tuple #[]) ∧ MI Tryz.prog 3 w' m N (onV (fun j => s j || (decide (j = k) || decide (j ∈ ls[k].l)))) ∧ Fr (fun x => x = m) w w' := by
  obtain ⟨w1, hup, hm1, hf1, -⟩ := hm.store int_k15 map_t15 hk (by omega) (.agg #[])
  rw [onV_put] at hm1
  have x1 := hon.cell 0
  have y0 : w1.cell? ⟨b0, 0, none⟩ = some (.slice L nl lc) := (hf1.cell hbl.lt (fun e => hm.apart hbl e.symm)).trans (hbl.cell 0)
  have hb1 : Bk w1 b1 96 #[.map (some m)] := hon.fr hf1 (fun e => hm.apart hon e.symm)
  obtain ⟨ad, rfl, hab, c0⟩ := hI.sl.il hkl
  have c1 := hm.carry hf1 c0 (by rw [add_block15]; exact hab)
  have hin : ((k : Nat) : Int) < (nl : Int) := by omega
  have hsl := hI.all _ (List.getElem_mem hkl)
  have Hnum := Lib.hid (fun (j : Nat) (hj : j < ls[k].l.length) W (h : Fr (fun x => x = m) w W) => show ∃ ad, ls[k].A = some ad ∧ W.cell? (ad.add j) = some (.int .i64 ((ls[k].l[j] : Nat) : Int)) by
    obtain ⟨ad, e, hb, c⟩ := hsl.num hj
    exact ⟨ad, e, hm.carry h c (by rw [add_block15]; exact hb)⟩)
  have Hon := Lib.hid (fun W (h : Fr (fun x => x = m) w W) => show W.cell? ⟨b1, 0, none⟩ = some (.map (some m)) from (hon.fr h (fun e => hm.apart hon e.symm)).cell 0)
  have Hlt := Lib.hid (fun (j : Nat) (hj : j < ls[k].l.length) => hlt _ (List.getElem_mem hj))
  have HM1 := Lib.hid hm1
  have HF1 := Lib.hid hf1
  simp at x1
  clear hon hbl hm hI hlt hsl hm1 hf1 hb1 c0 hab
  obtain ⟨l, hl⟩ : ∃ l, l = ls[k].l := ⟨_, rfl⟩
  obtain ⟨A2, hA2⟩ : ∃ x, x = ls[k].A := ⟨_, rfl⟩
  obtain ⟨c2, hc2⟩ : ∃ x, x = ls[k].c := ⟨_, rfl⟩
  simp only [← hl, ← hA2, ← hc2] at *
  clear hl hA2 hc2
  obtain ⟨ll, hll⟩ : ∃ x, l.length = x := ⟨_, rfl⟩
  rw [hll] at hlen c1
  have Hll := Lib.hid hll
  clear hll
  go_enter Tryz.func60, Tryz.ntmps60
  go_wp2
  clear hup x1 y0 c1
  go_loopw [14] (fun iv wr => ∃ j : Nat, j ≤ ll ∧ iv = .int .i64 (j : Int) ∧ Hid (MI Tryz.prog 3 wr m N (onV (fun x => s x || (decide (x = k) || decide (x ∈ l.take j))))) ∧ Hid (Fr (fun x => x = m) w wr)) (fun iv _ => ll - (intOf iv).toNat)
  case atStart => exact ⟨0, Nat.zero_le _, rfl, Lib.hid (HM1.out.congr (fun i _ => by simp [onV])), HF1⟩
  case round =>
    obtain ⟨j, hj, rfl, hM, hfr⟩ := hrel
    by_cases hjl : j < ll
    · have hjl2 : j < l.length := by rw [Hll.out]; exact hjl
      have hjn : ((j : Nat) : Int) < (ll : Int) := by omega
      obtain ⟨ae, rfl, a0⟩ := Hnum.out j hjl2 wr hfr.out
      have x1 := Hon.out wr hfr.out
      obtain ⟨w2, hup, hm2, hf2, -⟩ := hM.out.store int_k15 map_t15 (Hlt.out j hjl2) (by omega) (.agg #[])
      rw [onV_put] at hm2
      have HM2 : Hid (MI Tryz.prog 3 w2 m N (onV (fun x => s x || (decide (x = k) || decide (x ∈ l.take (j + 1)))))) := Lib.hid (hm2.congr (fun i _ => by
        rw [List.take_succ_eq_append_getElem hjl2]
        simp only [onV, List.mem_append, List.mem_singleton, Bool.decide_or, Bool.or_assoc]))
      have HF2 : Hid (Fr (fun x => x = m) w w2) := Lib.hid (hfr.out.trans' hf2 (fun _ _ e => e))
      generalize l[j] = x at *
      clear hm2 hf2 hM hfr Hnum Hon Hlt
      go_wp2
      go_roundw
      case rel => exact ⟨j + 1, by omega, by go_num, HM2, HF2⟩
      case measure => simp [intOf]; omega
    · obtain rfl : j = ll := by omega
      have HM2 : Hid (MI Tryz.prog 3 wr m N (onV (fun x => s x || (decide (x = k) || decide (x ∈ l))))) := Lib.hid (hM.out.congr (fun i _ => by rw [← Hll.out, List.take_length]))
      clear hM Hnum Hon Hlt
      go_wp2
      go_end0
      exact ⟨rfl, HM2.out, hfr.out⟩
theorem sorts15 (m : Nat) : AnyZI.SortsIn Tryz.prog sortedA_ren Fence.wide m :=
  ⟨fun blk off cap ss W hH hblk hsz => callsIn_wide.2 (AnyM.slices_Sort_int sortA blk off cap ss W hH hblk hsz),
   fun p cap W => callsIn_wide.2 (AnyM.slices_Sort_int_none sortA p cap W)⟩
theorem keys15 (mb : Option Nat) (W : World) : Calls Tryz.prog 64 #[.map mb] W fun e w' => e = .returned (.func (.func 86) #[] #[.pointer (some ⟨W.heap.size, 0, none⟩)]) ∧ w' = W.alloc (.cells #[.map mb] 96) :=
  (callsIn_wide (n := 5)).1 (AnyZI.keys_in keysA Fence.wide 5 trivial rfl mb W)
set_option maxHeartbeats 1000000 in
theorem sorted15 (b nn : Nat) (D0 : DataW Value) (R : Value → Option (DataW Value × List MemPlace)) (w : World) (hown : w.ownsMap Tryz.prog 3 R b nn D0) (hmax : Maps.size D0 ≤ maxLen) (hbytes : Maps.size D0 * 8 ≤ 140737488355328) :
    Calls Tryz.prog 63 #[.func (.func 86) #[] #[.pointer (some ⟨w.heap.size, 0, none⟩)]] (w.alloc (.cells #[.map (some b)] 96)) fun e w' =>
      ∃ (v : Value) (ss : List Int), e = .returned v ∧ ss.Perm (intKeys D0) ∧ w'.ownsRow (w.alloc (.cells #[.map (some b)] 96)).heap.size 3 1 v ss.length ((ss.mergeSort (fun x y => decide (x ≤ y))).map (Value.int .i64)) ∧ (v = .slice none 0 0 ↔ ss = []) ∧ Below (w.alloc (.cells #[.map (some b)] 96)).heap.size (w.alloc (.cells #[.map (some b)] 96)) w' := by
  have hbl := hown.lt
  have hseq : SeqGives Fence.wide 2 Tryz.prog 86 #[.pointer (some ⟨w.heap.size, 0, none⟩)] (Value.int .i64) (fun ss => ss.Perm (intKeys D0)) (Maps.size D0) (w.alloc (.cells #[.map (some b)] 96)) :=
    AnyZI.keys_gives (ρ := keysA_ren) { keysA with } Fence.wide _ trivial rfl (by omega) w.heap.size b nn D0 _ (by simp) (by simp) (by
      obtain ⟨es, clock, hb, Ft, hs, hD⟩ := hown
      exact ⟨es, clock, (Below.heap_alloc _ _ b hbl).trans hb, Ft, hs, hD⟩)
  have cS := AnyZI.sorted_in sortedA Fence.wide 5 trivial trivial trivial trivial rfl (by omega) (sorts15 _) (enters_of Tryz.func85 (by kernel_rfl) rfl) 86 #[.pointer (some ⟨w.heap.size, 0, none⟩)] trivial (enters_of Tryz.func86 (by kernel_rfl) rfl) _ _ hmax hbytes _ hseq
  exact (callsIn_wide (n := 5)).1 cS
theorem told15 (m N : Nat) (s : Nat → Bool) (w : World) (hN : N ≤ 1048576) (hm : MI Tryz.prog 3 w m N (onV s)) :
    Calls Tryz.prog 63 #[.func (.func 86) #[] #[.pointer (some ⟨w.heap.size, 0, none⟩)]] (w.alloc (.cells #[.map (some m)] 96)) fun e w' =>
      ∃ (A : Option Addr) (c : Nat), e = .returned (.slice A ((List.range N).filter s).length c) ∧ w'.ownsRow w.heap.size 3 1 (.slice A ((List.range N).filter s).length c) ((List.range N).filter s).length (nums ((List.range N).filter s)) ∧ Fr No w w' := by
  obtain ⟨D0, cc, ho, hsz, hsort⟩ := hm.keys int_k15
  have hmx : (1048576 : Nat) ≤ maxLen := by decide
  refine (sorted15 m cc D0 heldR w ho (by omega) (by omega)).mono ?_
  rintro e w' ⟨v, ss, rfl, hp, hrow, -, hB⟩
  have e1 := hsort ss hp
  have e0 : (fun i => (onV s i).isSome) = s := funext fun i => onV_some s i
  rw [e0] at e1
  have e2 : ss.length = ((List.range N).filter s).length := by
    have := congrArg List.length e1
    simpa using this
  rw [e1, e2] at hrow
  obtain ⟨A, c', rfl, -, -, -⟩ := own_shape hrow
  refine ⟨A, c', rfl, ?_, ((Fr.refl No w).alloc _).trans' (Fr.ofBelow hB No) (fun _ _ e => e)⟩
  have h1 : nums ((List.range N).filter s) = (((List.range N).filter s).map fun (i : Nat) => (i : Int)).map (Value.int .i64) := by
    unfold nums
    rw [List.map_map]
    rfl
  rw [h1]
  exact own_base hrow (by simp)
end Go.Proofs.YtmeimhpllemjfaaGreat
/- Package deps: is a node there, is it ahead, does one depend directly on another one; is a number in a list. -/
namespace Go.Proofs.YtmeimhpllemjfaaGreat
open Go.RowKit

set_option maxRecDepth 100000 in
set_option maxHeartbeats 4000000 in
theorem direct15 (a b : Ndl) (w : World) (hC : ∀ W, Fr No w W → Calls Tryz.prog 83 #[a.agg, b.agg] W (Has W (confN a.n b.n))) : Calls Tryz.prog 62 #[a.agg, b.agg] w (Has w (dirN a.n b.n)) := by
  have HC := Lib.hid hC
  clear hC
  unfold dirN
  generalize confN a.n b.n = cf at *
  unfold Ndl.agg Ndl.arr at *
  generalize a.n.saga = sa at *
  generalize a.n.cls = ca at *
  generalize a.n.step = ta at *
  generalize a.n.back = ka at *
  generalize a.n.rd.length = na at *
  generalize a.n.wt.length = ma at *
  generalize a.rA = Ra at *
  generalize a.rc = rca at *
  generalize a.wA = Va at *
  generalize a.wc = wca at *
  generalize b.n.saga = sb at *
  generalize b.n.cls = cb at *
  generalize b.n.step = tb at *
  generalize b.n.back = kb at *
  generalize b.n.rd.length = nb at *
  generalize b.n.wt.length = mb at *
  generalize b.rA = Rb at *
  generalize b.rc = rcb at *
  generalize b.wA = Vb at *
  generalize b.wc = wcb at *
  by_cases hs : sa = sb
  · have d1 : (sa == sb) = true := by simp [hs]
    rw [decide_eq_true hs, Bool.true_or]
    subst hs
    go_enter Tryz.func62, Tryz.ntmps62
    go_wp2_with fail
    go_ret
    exact ⟨rfl, ((Fr.refl _ _).alloc _).alloc _⟩
  · have d1 : (sa == sb) = false := by simpa using hs
    rw [decide_eq_false hs, Bool.false_or]
    clear hs
    go_enter Tryz.func62, Tryz.ntmps62
    go_wp2_with fail
    have F0 := Lib.hid (((Fr.refl No w).alloc (.cells #[.int .i64 sa, .int .i64 ca, .int .i64 ta, .bool ka, .slice Ra na rca, .slice Va ma wca] 37)).alloc (.cells #[.int .i64 sb, .int .i64 cb, .int .i64 tb, .bool kb, .slice Rb nb rcb, .slice Vb mb wcb] 37))
    refine (HC.out _ F0.out).mono ?_
    rintro e w1 ⟨rfl, f1⟩
    go_wp2
    go_ret
    exact ⟨rfl, F0.out.trans' f1 (fun _ _ e => e)⟩
def hasK (l : List Nat) (k : Int) : Bool := l.any fun x => decide ((x : Int) = k)
theorem hasK_depL (h : List Nd) (i k : Nat) : hasK (depL h i) (k : Int) = depB h i k := by
  unfold hasK
  rw [Bool.eq_iff_iff, List.any_eq_true]
  constructor
  · rintro ⟨x, hx, e⟩
    rw [decide_eq_true_eq] at e
    have : x = k := by omega
    rw [← this]
    exact depL_mem.1 hx
  · intro e
    exact ⟨k, depL_mem.2 e, by simp⟩
set_option maxRecDepth 100000 in
set_option maxHeartbeats 4000000 in
theorem index15 (l : List Nat) (A : Option Addr) (n c : Nat) (k : Int) (w : World) (hs : Sl w w.heap.size A (nums l)) (hn : l.length = n) (hnm : n ≤ 1048576) : Calls Tryz.prog 41 #[.slice A n c, .int .i64 k] w fun e w' => ∃ r : Int, e = .returned (.int .i64 r) ∧ decide (0 ≤ r) = hasK l k ∧ Fr No w w' := by
  have Hnum := Lib.hid (fun (j : Nat) (hj : j < l.length) W (h : Fr No w W) => (hs.since h).num hj)
  have Hst := Lib.hid (fun (j : Nat) (hj : j < l.length) (hp : (l.take j).any (fun x => decide ((x : Int) = k)) = false) => any_step (fun x : Nat => decide ((x : Int) = k)) l j hj hp)
  have Hfd := Lib.hid (fun (j : Nat) (hj : j < l.length) (e : ((l[j] : Nat) : Int) = k) => show hasK l k = true from List.any_eq_true.2 ⟨_, List.getElem_mem hj, decide_eq_true e⟩)
  have Htk := Lib.hid (fun (j : Nat) (hj : j = l.length) (hp : (l.take j).any (fun x => decide ((x : Int) = k)) = false) => show hasK l k = false by rwa [hj, List.take_length] at hp)
  have Hn := Lib.hid hn
  generalize hasK l k = q at *
  clear hs hn
  go_enter Tryz.func41, Tryz.ntmps41
  go_wp2
  go_loopw [8] (fun iv wr => ∃ j : Nat, j ≤ n ∧ iv = .int .i64 (j : Int) ∧ Hid ((l.take j).any (fun x => decide ((x : Int) = k)) = false) ∧ Hid (Fr No w wr)) (fun iv _ => n - (intOf iv).toNat)
  case atStart => exact ⟨0, Nat.zero_le _, rfl, Lib.hid (by simp), Lib.hid (Fr.refl _ _)⟩
  case round =>
    obtain ⟨j, hj, rfl, hpre, hfr⟩ := hrel
    by_cases hlt : j < n
    · have hjl : j < l.length := by rw [Hn.out]; exact hlt
      have hjn : ((j : Nat) : Int) < (n : Int) := by omega
      obtain ⟨ad, rfl, hab, a0⟩ := Hnum.out j hjl wr hfr.out
      have hst := Lib.hid (Hst.out j hjl hpre.out)
      have hfd := Lib.hid (Hfd.out j hjl)
      generalize ((l[j] : Nat) : Int) = x at *
      clear hpre Hnum Hst Hfd Htk
      by_cases e : x = k
      · have HT := Lib.hid (hfd.out e)
        have d1 : (k == x) = true := by simp [e]
        clear hst hfd
        subst e
        go_wp2
        go_ret
        exact ⟨_, rfl, by rw [HT.out]; exact decide_eq_true (by omega), hfr.out⟩
      · have d1 : (k == x) = false := by
          rw [beq_eq_false_iff_ne]
          exact fun h => e h.symm
        have hs2 : Hid ((l.take (j + 1)).any (fun x => decide ((x : Int) = k)) = false) := Lib.hid (by rw [hst.out]; exact decide_eq_false e)
        clear hst hfd e
        go_wp2
        go_roundw
        case rel => exact ⟨j + 1, by omega, by go_num, hs2, hfr⟩
        case measure => simp [intOf]; omega
    · obtain rfl : j = n := by omega
      have HT := Lib.hid (Htk.out j Hn.out.symm hpre.out)
      clear hpre Hnum Hst Hfd Htk
      go_wp2
      go_ret
      exact ⟨-1, rfl, by rw [HT.out]; rfl, hfr.out⟩
set_option maxHeartbeats 1000000 in
theorem contains15 (l : List Nat) (A : Option Addr) (n c : Nat) (k : Int) (w : World) (hs : Sl w w.heap.size A (nums l)) (hn : l.length = n) (hnm : n ≤ 1048576) : Calls Tryz.prog 69 #[.slice A n c, .int .i64 k] w (Has w (hasK l k)) := by
  have C := index15 l A n c k w hs hn hnm
  generalize hasK l k = q at *
  clear hs hn
  go_enter Tryz.func69, Tryz.ntmps69
  go_wp2_with fail
  refine C.mono ?_
  rintro e w1 ⟨r, rfl, hr, f1⟩
  have HR := Lib.hid hr
  clear hr C
  go_wp2
  go_ret
  exact ⟨by rw [← HR.out]; rfl, f1⟩
end Go.Proofs.YtmeimhpllemjfaaGreat
/- Package deps: what a node that comes behind a history depends on, rising. -/
namespace Go.Proofs.YtmeimhpllemjfaaGreat
open Go.RowKit Go.Shelf

attribute [local go_sem] Oper.semAt_some

theorem mi_own15 {β : Type} (B m N : Nat) (s : Nat → Bool) (hB : m < B) : OwnFrom B (fun (_ : β) W => MI Tryz.prog 3 W m N (onV s)) := fun _ X Y row hs hg hr => hs.block (hg.block m hs.lt (fun e => by
    have := (hr m e.symm).1
    omega))
section
variable {F : Fence} {n : Nat} {dst : Option Tmp} {x y : Operand} {ty : TypeId} {pos : String} {after : Array Edge} {a : Act} {w : World} {K : Act → World → Prop} {Q : Exit → Act → World → Prop} {ad : Addr}
theorem exec_al15 {g : Option (Tmp × Bool)} : (execOp a.eval { dst := dst, op := .alloc 97, type := ty, pos := pos, after := after, guard := g }).run Tryz.prog w = .ok (.value (.pointer (some ⟨w.heap.size, 0, none⟩))) (w.alloc (.cells #[] 97)) := by
  simp [go_sem]
theorem wplIn_al15 {ops : Array Oper} {rest : List Oper} {g : Option (Tmp × Bool)} (hn : g = none) (hk : wpListIn F n Tryz.prog ops Q rest (a.put dst (.pointer (some ⟨w.heap.size, 0, none⟩))) (w.alloc (.cells #[] 97))) : wpListIn F n Tryz.prog ops Q ({ dst := dst, op := .alloc 97, type := ty, pos := pos, after := after, guard := g } :: rest) a w := by
  subst hn
  refine wpListIn_plain rfl (fun K hK => ⟨fun f hf => (by cases hf), ?_⟩)
  have : ({ dst := dst, op := .alloc 97, type := ty, pos := pos, after := after, guard := none } : Oper).semAt F.round a.eval = execOp a.eval { dst := dst, op := .alloc 97, type := ty, pos := pos, after := after, guard := none } := by
    cases F.round <;> rfl
  rw [this, exec_al15]
  exact hK _ _ hk
theorem exec_st15 {g : Option (Tmp × Bool)} (hg : a.eval x = .pointer (some ad)) (hv : a.eval y = .agg #[]) : (execOp a.eval { dst := dst, op := .store 97 x y, type := ty, pos := pos, after := after, guard := g }).run Tryz.prog w = .ok .skip w := by
  have hC : (Tryz.prog.info? 97).map (·.size) = some 0 := by kernel_rfl
  obtain ⟨i, hi, hs⟩ := Option.map_eq_some_iff.1 hC
  have h2 : (storeVar 97 ad (.agg #[])).run Tryz.prog w = .ok () w := by
    unfold storeVar
    simp [sizeOf, typeInfo, hi, hs, Value.cells, storeCells]
  unfold execOp
  simp only [hg, hv, Instr.storeAt, Instr.sureAddr, Sem.run_bind, Sem.run_pure, Result.andThen_ok, h2]
theorem wplIn_st15 {ops : Array Oper} {rest : List Oper} {g : Option (Tmp × Bool)} (hn : g = none) (hg : a.eval x = .pointer (some ad)) (hv : a.eval y = .agg #[]) (hk : wpListIn F n Tryz.prog ops Q rest (a.put dst undef) w) : wpListIn F n Tryz.prog ops Q ({ dst := dst, op := .store 97 x y, type := ty, pos := pos, after := after, guard := g } :: rest) a w := by
  subst hn
  refine wpListIn_plain rfl (fun K hK => ⟨fun f hf => (by cases hf), ?_⟩)
  have : ({ dst := dst, op := .store 97 x y, type := ty, pos := pos, after := after, guard := none } : Oper).semAt F.round a.eval = execOp a.eval { dst := dst, op := .store 97 x y, type := ty, pos := pos, after := after, guard := none } := by
    cases F.round <;> rfl
  rw [this, exec_st15 hg hv]
  exact hK _ _ hk
end
structure NxW (w : World) (L : Option Addr) (nl lc m : Nat) (n : Ndl) (s : Nat → Bool) (W : World) : Prop where
  bl : Bk W w.heap.size 63 #[.slice L nl lc]
  bn : Bk W (w.heap.size + 1) 37 n.arr
  mi : MI Tryz.prog 3 W (w.heap.size + 1 + 1) m (onV s)
  bo : Bk W (w.heap.size + 1 + 1 + 1) 96 #[.map (some (w.heap.size + 1 + 1))]
  bf : Bk W (w.heap.size + 1 + 1 + 1 + 1) 98 #[.func (.func 60) #[] #[.pointer (some ⟨w.heap.size + 1 + 1 + 1, 0, none⟩), .pointer (some ⟨w.heap.size, 0, none⟩)]]
  below : Below w.heap.size w W
theorem NxW.fr {w : World} {L : Option Addr} {nl lc m : Nat} {n : Ndl} {s : Nat → Bool} {W V : World} (h : NxW w L nl lc m n s W) (hf : Fr No W V) : NxW w L nl lc m n s V :=
  ⟨h.bl.fr hf (fun e => e), h.bn.fr hf (fun e => e), h.mi.fr hf (fun e => e), h.bo.fr hf (fun e => e), h.bf.fr hf (fun e => e), h.below.trans (hf.toBelow h.below.size (fun _ e => e.elim))⟩
theorem NxW.put {w : World} {L : Option Addr} {nl lc m : Nat} {n : Ndl} {s s' : Nat → Bool} {W V : World} (h : NxW w L nl lc m n s W) (hf : Fr (fun x => x = w.heap.size + 1 + 1) W V) (hm : MI Tryz.prog 3 V (w.heap.size + 1 + 1) m (onV s')) : NxW w L nl lc m n s' V :=
  ⟨h.bl.fr hf (by omega), h.bn.fr hf (by omega), hm, h.bo.fr hf (by omega), h.bf.fr hf (by omega), h.below.trans (hf.toBelow h.below.size (fun _ e => by omega))⟩
theorem NxW.own (w : World) (L : Option Addr) (nl lc m : Nat) (n : Ndl) {β : Type} (f : β → Nat → Bool) (B : Nat) (hB : w.heap.size + 5 ≤ B) : OwnFrom B (fun (x : β) W => NxW w L nl lc m n (f x) W) := by
  intro x X Y row ⟨h1, h2, h3, h4, h5, h6⟩ hg hr
  exact ⟨bk_ownN (β := Unit) B _ _ _ () X Y row h1 hg hr, bk_ownN (β := Unit) B _ _ _ () X Y row h2 hg hr, mi_own15 (β := Unit) B _ _ _ (by omega) () X Y row h3 hg hr, bk_ownN (β := Unit) B _ _ _ () X Y row h4 hg hr, bk_ownN (β := Unit) B _ _ _ () X Y row h5 hg hr, ownFrom_below (β := Unit) (Nat.le_refl _) (by omega) () X Y row h6 hg hr⟩
theorem NxW.kp {w : World} {L : Option Addr} {nl lc m : Nat} {n : Ndl} {s : Nat → Bool} {W V : World} (h : NxW w L nl lc m n s W) (hf : Fr (fun x => x = w.heap.size + 1 + 1) W V) {B0 : Nat} (hB0 : w.heap.size + 1 + 1 < B0) : KeepsFrom B0 W V ∧ KpN w.heap.size W V :=
  ⟨⟨hf.size, fun j o hj ho _ => (hf.block j (Array.getElem?_eq_some_iff.1 ho).1 (by omega)).trans ho⟩, hf.toBelow h.below.size (fun _ e => by omega), fun g cs hb => hb.fr hf (fun e => h.mi.apart hb e.symm)⟩
theorem depL_len (h : List Nd) (i : Nat) : (depL h i).length ≤ i := by
  unfold depL
  exact Nat.le_trans (List.length_filter_le _ _) (by simp)

set_option maxRecDepth 100000 in
set_option maxHeartbeats 8000000 in
theorem next15 (h : List Ndl) (A : Option Addr) (m c : Nat) (n : Ndl) (ls : List IL) (L : Option Addr) (lc : Nat) (w : World) (hs : Nds w A h) (hm : h.length = m) (hl : m ≤ 1048576) (hI : Ils w L ls) (hO : OfL (ndsOf h) ls)
    (hd : ∀ (x : BX h) W, Below w.heap.size w W → Calls Tryz.prog 62 #[n.agg, (h[x.1]'x.2).agg] W (Has W (dirN n.n (h[x.1]'x.2).n))) :
    Calls Tryz.prog 42 #[.slice L m lc, .slice A m c, n.agg] w fun e w' =>
      ∃ (A' : Option Addr) (c' : Nat), e = .returned (.slice A' (depL (ndsOf h ++ [n.n]) m).length c') ∧ w'.ownsRow w.heap.size 3 1 (.slice A' (depL (ndsOf h ++ [n.n]) m).length c') (depL (ndsOf h ++ [n.n]) m).length (nums (depL (ndsOf h ++ [n.n]) m)) ∧ Fr No w w' := by
  refine (callsIn_wide (n := 3)).1 ?_
  have h1 : 1 ≤ 3 := by omega
  have hlen : (ndsOf h).length = m := by simp [ndsOf, hm]
  have hll : ls.length = m := by rw [hO.len, hlen]
  obtain ⟨res, hres⟩ : ∃ r, Hid (r = depL (ndsOf h ++ [n.n]) m) := ⟨_, Lib.hid rfl⟩
  rw [← hres.out]
  have Hf := Lib.hid hd
  have Ht := Lib.hid (fun (k : Nat) (hk : k < m) (s : Nat → Bool) W (hW : NxW w L m lc m n s W) => show Calls Tryz.prog 60 #[.int .i64 (k : Int), .pointer (some ⟨w.heap.size + 1 + 1 + 1, 0, none⟩), .pointer (some ⟨w.heap.size, 0, none⟩)] W fun e w' =>
      e = .returned (.tuple #[]) ∧ MI Tryz.prog 3 w' (w.heap.size + 1 + 1) m (onV (fun j => s j || (decide (j = k) || depB (ndsOf h) k j))) ∧ Fr (fun x => x = w.heap.size + 1 + 1) W w' by
    have hkl : k < ls.length := by omega
    have hlk := hO.at hkl
    refine (take15 (w.heap.size + 1 + 1) m w.heap.size (w.heap.size + 1 + 1 + 1) s k ls L m lc W hk hl hW.bo hW.bl hW.mi (hI.since (Fr.ofBelow hW.below No)) hll hkl (fun x hx => by
      rw [hlk] at hx
      have := depL_lt hx
      omega) (by rw [hlk]; have := depL_len (ndsOf h) k; omega)).mono ?_
    rintro e w' ⟨h1, h2, h3⟩
    have e5 : (fun j => s j || (decide (j = k) || decide (j ∈ ls[k].l))) = fun j => s j || (decide (j = k) || depB (ndsOf h) k j) := by
      funext j
      have e6 : decide (j ∈ ls[k].l) = depB (ndsOf h) k j := by rw [Bool.eq_iff_iff, decide_eq_true_eq, hlk]; exact depL_mem
      rw [e6]
    rw [e5] at h2
    exact ⟨h1, h2, h3⟩)
  have Hend := Lib.hid (fun (s : Nat → Bool) (hs : NxI (ndsOf h) n.n s 0) => show (List.range m).filter s = res by
    rw [hres.out, ← hlen]
    exact depL_new (ndsOf h) n.n s hs.fin)
  have Hnx := Lib.hid (fun (ys : List (BX h)) (hy : ys.map (·.1) = dnL h.length 0) => show NxI (ndsOf h) n.n (nxL (ndsOf h) n.n (ys.map (·.1))) 0 by
    rw [hy, hm, ← hlen]
    exact nx_down (ndsOf h) n.n (dnL (ndsOf h).length) (dnL_all _) (fun j hj => dnL_step hj) _ 0 (Nat.zero_add _))
  have Hat := Lib.hid (fun (k : Nat) (hk : k < h.length) => ndsOf_at hk)
  clear hd hO hlen hll hI hres
  unfold Ndl.agg Ndl.arr
  refine callsIn_of_wp_marks Tryz.func42 rfl trivial ?_ rfl
  simp only [Tryz.ntmps42, List.size_toArray, List.length_cons, List.length_nil, Nat.reduceAdd, Nat.reduceSub, Array.replicate_succ, Array.replicate_zero, List.push_toArray, List.append_toArray, List.nil_append, List.cons_append]
  have hmm := @run_makeMap Tryz.prog
  have hmf : ∀ (fn : Fn) (first cap : Array Value) (w : World), (Instr.makeFunc fn first cap).run Tryz.prog w = .ok (.func fn first cap) w := fun _ _ _ _ => rfl
  gi_wp2_with (first
    | (refine ⟨trivial, ?_⟩; gi_at_call 61; refine (backward_in Fence.wide _ trivial rfl _ _ _ _).mono ?_; rintro e w' ⟨rfl, rfl⟩))
  obtain ⟨V0, hV0⟩ : ∃ V0, V0 = ((((w.alloc (.cells #[.slice L m lc] 63)).alloc (.cells #[.int .i64 n.n.saga, .int .i64 n.n.cls, .int .i64 n.n.step, .bool n.n.back, .slice n.rA n.n.rd.length n.rc, .slice n.wA n.n.wt.length n.wc] 37)).alloc (.map #[] 0)).alloc (.cells #[.map (some (w.heap.size + 1 + 1))] 96)).alloc (.cells #[.func (.func 60) #[] #[.pointer (some ⟨w.heap.size + 1 + 1 + 1, 0, none⟩), .pointer (some ⟨w.heap.size, 0, none⟩)]] 98) := ⟨_, rfl⟩
  have hsz0 : V0.heap.size = w.heap.size + 1 + 1 + 1 + 1 + 1 := by rw [hV0]; simp
  have hFV : Fr No w V0 := by rw [hV0]; exact (((((Fr.refl No w).alloc _).alloc _).alloc _).alloc _).alloc _
  have hN0 : NxW w L m lc m n (fun _ => false) V0 := by
    have b0 := Bk.made w 63 #[.slice L m lc]
    have b1 := Bk.made (w.alloc (.cells #[.slice L m lc] 63)) 37 #[.int .i64 n.n.saga, .int .i64 n.n.cls, .int .i64 n.n.step, .bool n.n.back, .slice n.rA n.n.rd.length n.rc, .slice n.wA n.n.wt.length n.wc]
    have b2 := MI.made ((w.alloc (.cells #[.slice L m lc] 63)).alloc (.cells #[.int .i64 n.n.saga, .int .i64 n.n.cls, .int .i64 n.n.step, .bool n.n.back, .slice n.rA n.n.rd.length n.rc, .slice n.wA n.n.wt.length n.wc] 37)) Tryz.prog 3 m
    have b3 := Bk.made (((w.alloc (.cells #[.slice L m lc] 63)).alloc (.cells #[.int .i64 n.n.saga, .int .i64 n.n.cls, .int .i64 n.n.step, .bool n.n.back, .slice n.rA n.n.rd.length n.rc, .slice n.wA n.n.wt.length n.wc] 37)).alloc (.map #[] 0)) 96 #[.map (some (w.heap.size + 1 + 1))]
    have b4 := Bk.made ((((w.alloc (.cells #[.slice L m lc] 63)).alloc (.cells #[.int .i64 n.n.saga, .int .i64 n.n.cls, .int .i64 n.n.step, .bool n.n.back, .slice n.rA n.n.rd.length n.rc, .slice n.wA n.n.wt.length n.wc] 37)).alloc (.map #[] 0)).alloc (.cells #[.map (some (w.heap.size + 1 + 1))] 96)) 98 #[.func (.func 60) #[] #[.pointer (some ⟨w.heap.size + 1 + 1 + 1, 0, none⟩), .pointer (some ⟨w.heap.size, 0, none⟩)]]
    simp only [World.size_alloc] at b1 b2 b3 b4
    refine ⟨?_, ?_, ?_, ?_, ?_, hFV.below0⟩
    · rw [hV0]; exact (((b0.alloc _).alloc _).alloc _).alloc _
    · rw [hV0]; exact ((b1.alloc _).alloc _).alloc _
    · rw [hV0]; exact ((b2.congr (fun i _ => rfl)).alloc _).alloc _
    · rw [hV0]; exact b3.alloc _
    · rw [hV0]; exact b4
  rw [← hV0]
  clear hV0
  obtain ⟨W0, hW0⟩ : ∃ W0, W0 = V0.alloc (.cells #[.slice A m c] 27) := ⟨_, rfl⟩
  have hsz : W0.heap.size = w.heap.size + 1 + 1 + 1 + 1 + 1 + 1 := by rw [hW0]; simp [hsz0]
  have hF0 : Fr No w W0 := by rw [hW0]; exact hFV.alloc _
  have hN1 : NxW w L m lc m n (fun _ => false) W0 := by rw [hW0]; exact hN0.fr ((Fr.refl No V0).alloc _)
  have bP : Bk W0 (w.heap.size + 1 + 1 + 1 + 1 + 1) 27 #[.slice A m c] := by
    rw [hW0, ← hsz0]
    exact Bk.made V0 _ _
  have hB0 : w.heap.size ≤ W0.heap.size := by omega
  have hbw : Below w.heap.size w W0 := hF0.below0
  have HS := Lib.hid hs.sl
  have Hm := Lib.hid hm
  rw [← hW0]
  clear hW0 hs hm hN0 hFV
  have hsq : SeqStopsK Fence.wide 2 Tryz.prog 82 #[.pointer (some ⟨w.heap.size + 1 + 1 + 1 + 1 + 1, 0, none⟩)] (encB (l := h)) (KpN w.heap.size) (fun ys => ys.map (·.1) = dnL h.length 0) (fun pre => pre.map (·.1) <+: dnL h.length 0) h.length W0 := fun lp J Jx W hW hJ _ hY h0 =>
    back1_in 2 lp w.heap.size (w.heap.size + 1 + 1 + 1 + 1 + 1) h A m c W (by omega) (HS.out.below (hbw.trans (hW.mono hB0))) Hm.out (Nat.le_trans hB0 hW.size) ((hW.block _ bP.lt).trans bP) (by omega) J Jx hY h0
  refine wpIn_rangeFunc_ownH rfl h1 (gf := 82) (lb := #[.pointer (some ⟨w.heap.size + 1 + 1 + 1 + 1 + 1, 0, none⟩)]) rfl trivial (enters_of Tryz.func82 (by kernel_rfl) rfl)
    hsq KpN.trans (KpN.putObj hB0) (Below.refl _ _) (fun _ => rfl)
    (fun (pre : List (BX h)) W => NxW w L m lc m n (nxL (ndsOf h) n.n (pre.map (·.1))) W)
    (fun _ _ _ => False)
    (NxW.own w L m lc m n (fun (pre : List (BX h)) => nxL (ndsOf h) n.n (pre.map (·.1))) _ (by omega))
    (fun _ _ _ _ _ hs _ _ => hs)
    hN1
    (fun x a' W => ∃ Bx, w.heap.size + 1 + 1 + 1 + 1 < Bx ∧ Bk W Bx 37 (h[x.1]'x.2).arr ∧ a' = { tmps := #[.slice L m lc, .slice A m c, .agg #[.int .i64 n.n.saga, .int .i64 n.n.cls, .int .i64 n.n.step, .bool n.n.back, .slice n.rA n.n.rd.length n.rc, .slice n.wA n.n.wt.length n.wc], .pointer (some ⟨w.heap.size, 0, none⟩), undef, .pointer (some ⟨w.heap.size + 1, 0, none⟩), .slice none 0 0, .pointer (some ⟨w.heap.size + 1 + 1 + 1, 0, none⟩), .pointer (some ⟨w.heap.size + 1 + 1 + 1 + 1, 0, none⟩), .int .i64 (x.1 : Int), .pointer (some ⟨Bx, 0, none⟩), undef, undef, .map (some (w.heap.size + 1 + 1)), .func (.func 60) #[] #[.pointer (some ⟨w.heap.size + 1 + 1 + 1, 0, none⟩), .pointer (some ⟨w.heap.size, 0, none⟩)], .slice A m c, .func (.func 82) #[] #[.pointer (some ⟨w.heap.size + 1 + 1 + 1 + 1 + 1, 0, none⟩)], .int .i64 (x.1 : Int), (h[x.1]'x.2).agg, undef, undef, undef, undef, undef, undef, undef, undef, undef, undef, undef, undef, undef, undef, undef, undef, undef, undef, undef], defers := [] })
    (fun x a' _ X Y row hs hg hr => by
      obtain ⟨Bx, a1, a2, a3⟩ := hs
      exact ⟨Bx, a1, bk_ownN _ Bx _ _ () X Y row a2 hg hr, a3⟩)
    ?assign ?body ?done ?stop
  case assign =>
    rintro lp pre ⟨k, hk⟩ W K hN hK
    have hlt := hN.bf.lt
    dsimp only
    obtain ⟨y, hy⟩ : ∃ y, h[k] = y := ⟨_, rfl⟩
    dsimp only at hK
    unfold encB at *
    dsimp only at *
    rw [hy] at hK ⊢
    unfold Ndl.agg Ndl.arr at *
    have k1 : Fr No W (W.alloc (.cells #[.int .i64 y.n.saga, .int .i64 y.n.cls, .int .i64 y.n.step, .bool y.n.back, .slice y.rA y.n.rd.length y.rc, .slice y.wA y.n.wt.length y.wc] 37)) := (Fr.refl No W).alloc _
    have hx0 : Bk (W.alloc (.cells #[.int .i64 y.n.saga, .int .i64 y.n.cls, .int .i64 y.n.step, .bool y.n.back, .slice y.rA y.n.rd.length y.rc, .slice y.wA y.n.wt.length y.wc] 37)) W.heap.size 37 #[.int .i64 y.n.saga, .int .i64 y.n.cls, .int .i64 y.n.step, .bool y.n.back, .slice y.rA y.n.rd.length y.rc, .slice y.wA y.n.wt.length y.wc] := Bk.made W _ _
    gi_wp2
    exact hK _ _ ((KeepsOthers.alloc _ _).from _) ((KpN.refl _ W).fr0 k1 hN.below.size) (hN.fr k1) ⟨W.heap.size, by omega, hx0, rfl⟩
  case body =>
    rintro lp pre ⟨k, hk⟩ a' W hl' hr' hN ⟨Bx, a1, hbx, rfl⟩ hlt
    dsimp only at hbx ⊢
    obtain ⟨s, hse⟩ : ∃ s, s = nxL (ndsOf h) n.n (pre.map (·.1)) := ⟨_, rfl⟩
    rw [← hse] at hN
    have hkm : k < m := by rw [← Hm.out]; exact hk
    have Hs2 : Hid (nxL (ndsOf h) n.n ((pre ++ [⟨k, hk⟩] : List (BX h)).map (·.1)) = if (!s k && dirN n.n h[k].n) = true then fun j => s j || (decide (j = k) || depB (ndsOf h) k j) else s) := Lib.hid (by
      rw [List.map_append, hse]
      refine (nxL_snoc _ _ _ _).trans ?_
      unfold nxS
      rw [Hat.out k hk])
    clear hse hl' hr' hlt
    obtain ⟨W1, hW1⟩ : ∃ W1, W1 = W.alloc (.cells #[] 97) := ⟨_, rfl⟩
    have f1 : Fr No W W1 := by rw [hW1]; exact (Fr.refl No W).alloc _
    have D1 := Lib.hid (Hf.out ⟨k, hk⟩ W1 (hN.below.trans (f1.toBelow hN.below.size (fun _ e => e.elim))))
    have hlk := hN.mi.look int_k15 map_t15 hkm (by omega) (zero_t15 W)
    rw [onV_get, onV_some] at hlk
    have hwe := hW1.symm
    have x7 := hN.bo.cell 0
    simp at x7
    have hN1 := hN.fr f1
    have hbx1 := hbx.fr f1 (fun e => e)
    have HN1 := Lib.hid hN1
    have HK := Lib.hid (fun V (hf : Fr (fun x => x = w.heap.size + 1 + 1) W1 V) => hN.kp ((f1.weak (fun _ _ e => e.elim)).trans' hf (fun _ _ e => e)) (B0 := W0.heap.size) (by omega))
    have HT := Lib.hid (fun V (hV : NxW w L m lc m n s V) => Ht.out k hkm s V hV)
    have hcn := hN1.bn
    unfold Ndl.arr at hcn hbx1
    have n0 := hcn.cell 0
    have n1 := hcn.cell 1
    have n2 := hcn.cell 2
    have n3 := hcn.cell 3
    have n4 := hcn.cell 4
    have n5 := hcn.cell 5
    have y0 := hbx1.cell 0
    have y1 := hbx1.cell 1
    have y2 := hbx1.cell 2
    have y3 := hbx1.cell 3
    have y4 := hbx1.cell 4
    have y5 := hbx1.cell 5
    simp only [List.getElem?_toArray, List.getElem?_cons_zero, List.getElem?_cons_succ] at n0 n1 n2 n3 n4 n5 y0 y1 y2 y3 y4 y5
    dsimp only at D1
    unfold Ndl.agg Ndl.arr at D1 ⊢
    generalize dirN n.n h[k].n = d at *
    generalize h[k] = y at *
    obtain ⟨b, hb⟩ : ∃ b, b = s k := ⟨_, rfl⟩
    rw [← hb] at hlk Hs2
    clear hN1 hcn hbx1 hbx hN hb f1 hW1 Ht Hf Hat bP hbw hF0 hsq
    cases b
    case true =>
      have HE : Hid (KeepsFrom W0.heap.size W W1 ∧ KpN w.heap.size W W1 ∧ NxW w L m lc m n (nxL (ndsOf h) n.n ((pre ++ [⟨k, hk⟩] : List (BX h)).map (·.1))) W1) := Lib.hid ⟨(HK.out W1 (Fr.refl _ _)).1, (HK.out W1 (Fr.refl _ _)).2, by rw [Hs2.out]; exact HN1.out⟩
      clear n0 n1 n2 n3 n4 n5 y0 y1 y2 y3 y4 y5 HN1 HK HT Hs2 D1
      gi_wp2_with (first
        | ((with_reducible refine wplIn_al15 ?_ ?_); (· rfl); simp only [Act.put, szA, szB, szC]; rw [hwe])
        | ((with_reducible refine wplIn_st15 (ad := ⟨W.heap.size, 0, none⟩) ?_ ?_ ?_ ?_); (· rfl); (· rfl); (· rfl); simp only [Act.put])
        | (refine ⟨trivial, ?_⟩))
      exact HE.out
    case false =>
      gi_wp2_with (first
        | ((with_reducible refine wplIn_al15 ?_ ?_); (· rfl); simp only [Act.put, szA, szB, szC]; rw [hwe])
        | ((with_reducible refine wplIn_st15 (ad := ⟨W.heap.size, 0, none⟩) ?_ ?_ ?_ ?_); (· rfl); (· rfl); (· rfl); simp only [Act.put]))
      refine ⟨trivial, ?_⟩
      gi_at_call 62
      refine (callsIn_wide.2 D1.out).mono ?_
      rintro e w1 ⟨rfl, g1⟩
      have HN2 := Lib.hid (HN1.out.fr g1)
      have HK2 := Lib.hid (fun V (hf : Fr (fun x => x = w.heap.size + 1 + 1) w1 V) => HK.out V ((g1.weak (fun _ _ e => e.elim)).trans' hf (fun _ _ e => e)))
      clear n0 n1 n2 n3 n4 n5 y0 y1 y2 y3 y4 y5 HN1 HK D1 x7 hlk hwe g1
      cases d
      · have HE : Hid (KeepsFrom W0.heap.size W w1 ∧ KpN w.heap.size W w1 ∧ NxW w L m lc m n (nxL (ndsOf h) n.n ((pre ++ [⟨k, hk⟩] : List (BX h)).map (·.1))) w1) := Lib.hid ⟨(HK2.out w1 (Fr.refl _ _)).1, (HK2.out w1 (Fr.refl _ _)).2, by rw [Hs2.out]; exact HN2.out⟩
        clear HN2 HK2 HT Hs2
        gi_wp2
        exact HE.out
      · have HC := Lib.hid (HT.out w1 HN2.out)
        have HE : Hid (∀ V, MI Tryz.prog 3 V (w.heap.size + 1 + 1) m (onV (fun j => s j || (decide (j = k) || depB (ndsOf h) k j))) → Fr (fun x => x = w.heap.size + 1 + 1) w1 V → KeepsFrom W0.heap.size W V ∧ KpN w.heap.size W V ∧ NxW w L m lc m n (nxL (ndsOf h) n.n ((pre ++ [⟨k, hk⟩] : List (BX h)).map (·.1))) V) := Lib.hid (fun V hm hf => ⟨(HK2.out V hf).1, (HK2.out V hf).2, by rw [Hs2.out]; exact HN2.out.put hf hm⟩)
        have x8 := HN2.out.bf.cell 0
        simp at x8
        clear HN2 HK2 HT Hs2
        gi_wp2_with fail
        refine ⟨trivial, ?_⟩
        gi_at_call 60
        refine (callsIn_wide.2 HC.out).mono ?_
        rintro e w2 ⟨rfl, hm2, g2⟩
        have HE2 := Lib.hid (HE.out w2 hm2 g2)
        clear hm2 g2 HE HC x8
        gi_wp2
        exact HE2.out
  case done =>
    rintro D ys W hD hys hN hK
    have hsI := Hnx.out ys hys
    have hse := Hend.out _ hsI
    generalize nxL (ndsOf h) n.n (ys.map (·.1)) = s at *
    have x7 := hN.bo.cell 0
    simp at x7
    have cK := Lib.hid (callsIn_wide.2 (keys15 (some (w.heap.size + 1 + 1)) W) : CallsIn Fence.wide 2 _ _ _ _ _)
    have cS := Lib.hid (told15 (w.heap.size + 1 + 1) m s W hl hN.mi)
    rw [hse] at cS
    have HB := Lib.hid hN.below
    have HD := Lib.hid (fun V (hf : Fr No W V) => show V.heap[D]? = some (.deferred (some [])) from (hf.block D (Array.getElem?_eq_some_iff.1 hK).1 (fun e => e)).trans hK)
    clear hse hsI hys hN hK Hf Ht Hend Hnx Hat hsq
    gi_wp2_with fail
    refine ⟨trivial, ?_⟩
    gi_at_call 64
    refine cK.out.mono ?_
    rintro e w1 ⟨rfl, rfl⟩
    gi_wp2_with fail
    refine ⟨trivial, ?_⟩
    gi_at_call 63
    refine (callsIn_wide.2 cS.out).mono ?_
    rintro e w1 ⟨A', c', rfl, hrow, f1⟩
    have hK2 := HD.out w1 f1
    have HR := Lib.hid (fun o' => ownsRow_putObj hrow o' hK2 rfl)
    have HF := Lib.hid (fun o' => (HB.out.trans (f1.toBelow HB.out.size (fun _ e => e.elim))).trans (belowK_b (w := w) (Nat.le_refl _) w1 D _ o' (by omega) hK2 rfl rfl))
    have hBW := HB.out.size
    clear hrow f1 HB HD cS cK x7
    gi_wp2
    refine ⟨by simp, .inl ⟨_, _, rfl, run_takeDeferred hK2, ?_⟩⟩
    exact ⟨_, results_tmp rfl _ _ _, A', c', rfl, own_base (HR.out _) hBW, Fr.ofBelow (HF.out _) _⟩
  case stop =>
    rintro D cd pre W hD hS hx hK
    exact hx.elim
end Go.Proofs.YtmeimhpllemjfaaGreat
/- Package deps: what each node of a history depends on. -/
namespace Go.Proofs.YtmeimhpllemjfaaGreat
open Go.RowKit

theorem step_append_one15 {P : Program} {w : World} {ops : Array Oper} {o : Oper} {a : Act} {K : Act → World → Prop} {Q : Exit → Act → World → Prop} {E : Prop} (hgd : o.guard = none) (s x : Operand) (t : TypeId)
    (ho : o.op = .call { callee := .builtin .append, args := #[s, x], argTypes := #[t, t] })
    (base : Nat) (e : TypeId) (z : Value) (size bytes : Nat) (ht : P.underlying t = some (.slice e)) (hinfo : (P.info? e).map (fun i => (i.zero, i.size, i.bytes)) = some (some z, size, bytes)) (hzs : z.cells.size = size) (hsz : 0 < size)
    (v : Value) (n : Nat) (xs : List Value) (us : Array Value) (hus : us.size = size) (hu : ∀ u ∈ us.toList, u.oneCell' = true) (hs : a.eval s = v) (H : Nat) (hH : w.heap.size = H) (hx : a.eval x = .slice (some ⟨H, 0, none⟩) 1 1) (hown : w.ownsRow base e size v n xs)
    (h63 : n + 1 ≤ maxLen) (hbytes : (n + 1) * bytes ≤ 140737488355328) (hbase : base ≤ w.heap.size)
    (h : ∀ A' c' w', w'.ownsRow base e size (.slice A' (n + 1) c') (n + 1) (xs ++ us.toList) → Fr (fun k => v.ownBlock = some k) w w' → K (a.put o.dst (.slice A' (n + 1) c')) w') :
    if Region.wanted o (yielded ops a.tmps) = true then Oper.wp P o a (w.alloc (.cells us e)) K Q else E := by
  subst hH
  obtain ⟨i, hi, hz, hz1, hz2⟩ := info_parts hinfo
  refine step_append_src _ hgd s x t ho base e i z size bytes ht hi hz hz1 hz2 hzs hsz v n xs hs (hown.alloc _) (w.heap.size + 1) _ 1 1 us.toList hx (by simp [hus]) (Sl.made w e us) hu h63 hbytes (by simp; omega) ?_
  intro v' w' q1 q2 q3
  obtain ⟨A', c', rfl, -, -, -⟩ := own_shape q1
  exact h A' c' w' q1 (((Fr.refl _ w).alloc _).grown q2 (fun k hk => .inl hk))
theorem info_il15 : (Tryz.prog.info? 28).map (fun i => (i.zero, i.size, i.bytes)) = some (some (.slice none 0 0), 1, 24) := by kernel_rfl
structure Own15 (w : World) (B : Nat) (A : Option Addr) (c : Nat) (ls : List IL) : Prop where
  row : w.ownsRow B 28 1 (.slice A ls.length c) ls.length (ls.map IL.cell)
  all : ∀ x ∈ ls, w.ownsRow B 3 1 x.cell x.l.length (nums x.l)
theorem Own15.ils {w : World} {B : Nat} {A : Option Addr} {c : Nat} {ls : List IL} (h : Own15 w B A c ls) : Ils w A ls := ⟨Sl.ofOwn h.row, fun x hx => Sl.ofOwn (h.all x hx)⟩
theorem Own15.fr {w W : World} {B : Nat} {A : Option Addr} {c : Nat} {ls : List IL} (h : Own15 w B A c ls) (hf : Fr No w W) : Own15 W B A c ls := ⟨own_fr h.row hf (fun _ _ e => e), fun x hx => own_fr (h.all x hx) hf (fun _ _ e => e)⟩
theorem Own15.nil (w : World) (B : Nat) : Own15 w B none 0 [] := ⟨World.ownsRow_nil _ _ _ _, fun x hx => by cases hx⟩
theorem Own15.app {w W : World} {B : Nat} {A A' : Option Addr} {c c' : Nat} {ls : List IL} {x : IL} (h : Own15 w B A c ls) (hx : w.ownsRow B 3 1 x.cell x.l.length (nums x.l))
    (hr : W.ownsRow B 28 1 (.slice A' (ls.length + 1) c') (ls.length + 1) (ls.map IL.cell ++ [x.cell])) (hf : Fr (fun k => (Value.slice A ls.length c).ownBlock = some k) w W) : Own15 W B A' c' (ls ++ [x]) := by
  refine ⟨?_, fun y hy => ?_⟩
  · rw [List.length_append, List.length_singleton, List.map_append]
    exact hr
  · have hy2 : w.ownsRow B 3 1 y.cell y.l.length (nums y.l) := by
      rcases List.mem_append.1 hy with hy | hy
      · exact h.all y hy
      · rw [List.mem_singleton.1 hy]; exact hx
    exact own_fr hy2 hf (fun k hk e => own_types hy2 h.row (by decide) hk e)
theorem take_flat15 {α : Type} (f : α → List Value) (m : Nat) (hm : ∀ x, (f x).length = m) (l : List α) (j : Nat) : (l.take j).flatMap f = (l.flatMap f).take (j * m) := by
  induction l generalizing j with
  | nil => simp
  | cons x r ih =>
    cases j with
    | zero => simp
    | succ j =>
      have e : (j + 1) * m = m + j * m := by rw [Nat.succ_mul]; omega
      have h := hm x
      rw [List.take_succ_cons, List.flatMap_cons, List.flatMap_cons, ih, e]
      generalize f x = u at *
      generalize j * m = i
      subst h
      exact (List.take_length_add_append i).symm
theorem Nds.take15 {w : World} {A : Option Addr} {l : List Ndl} (h : Nds w A l) (j : Nat) : Nds w A (l.take j) :=
  ⟨by rw [take_flat15 Ndl.cells 6 Ndl.cells_len]; exact h.sl.take _, fun x hx => h.all x (List.mem_of_mem_take hx)⟩
theorem nextAt15 (h : List Ndl) (A : Option Addr) (c : Nat) (w : World) (hs : Nds w A h) (hnm : h.length ≤ 1048576)
    (hC : ∀ (a b : Nat) (ha : a < h.length) (hb : b < h.length) W, Fr No w W → Calls Tryz.prog 83 #[h[a].agg, h[b].agg] W (Has W (confN h[a].n h[b].n)))
    (i : Nat) (hi : i < h.length) (ls : List IL) (L : Option Addr) (lc B : Nat) (hO : OfL (ndsOf (h.take i)) ls) (W : World) (hW : Fr No w W) (hI : Own15 W B L lc ls) (hB : B ≤ W.heap.size) :
    Calls Tryz.prog 42 #[.slice L i lc, .slice A i c, h[i].agg] W fun e w' =>
      ∃ x : IL, e = .returned x.cell ∧ w'.ownsRow B 3 1 x.cell x.l.length (nums x.l) ∧ OfL (ndsOf (h.take (i + 1))) (ls ++ [x]) ∧ Fr No W w' := by
  have hl : (h.take i).length = i := by rw [List.length_take]; omega
  refine (next15 (h.take i) A i c h[i] ls L lc W ((hs.since hW).take15 i) hl (by omega) hI.ils hO (fun x V hV => ?_)).mono ?_
  · have hx : x.1 < i := by have := x.2; omega
    have hxh : x.1 < h.length := by omega
    have e : (h.take i)[x.1]'x.2 = h[x.1] := List.getElem_take
    rw [e]
    exact direct15 h[i] h[x.1] V (fun U hU => hC i x.1 hi hxh U ((hW.trans' (Fr.ofBelow hV No) (fun _ _ e => e)).trans' hU (fun _ _ e => e)))
  · rintro e w' ⟨A', c', rfl, hr, hf⟩
    refine ⟨⟨A', depL (ndsOf (h.take i) ++ [h[i].n]) i, c'⟩, rfl, own_base hr hB, ?_, hf⟩
    have e2 : (ndsOf (h.take i)).length = i := by rw [ndsOf_len, hl]
    rw [take_snoc_nd h hi]
    exact hO.more _ _ (by rw [e2])
set_option maxRecDepth 100000 in
set_option maxHeartbeats 8000000 in
theorem of15 (h : List Ndl) (A : Option Addr) (n c : Nat) (w : World) (hs : Nds w A h) (hn : h.length = n) (hnm : n ≤ 1048576) (hnc : n ≤ c)
    (hC : ∀ (a b : Nat) (ha : a < h.length) (hb : b < h.length) W, Fr No w W → Calls Tryz.prog 83 #[h[a].agg, h[b].agg] W (Has W (confN h[a].n h[b].n))) :
    Calls Tryz.prog 26 #[.slice A n c] w fun e w' => ∃ L ls lc, e = .returned (.slice L ls.length lc) ∧ Own15 w' w.heap.size L lc ls ∧ OfL (ndsOf h) ls ∧ Fr No w w' := by
  have Hnx := Lib.hid (fun i hi ls L lc hO W hW hI => nextAt15 h A c w hs (by omega) hC i hi ls L lc w.heap.size hO W hW hI hW.size)
  have Hnd := Lib.hid (fun (k : Nat) (hk : k < h.length) W (hW : Fr No w W) => (hs.since hW).sl.nd hk)
  have Hn := Lib.hid hn
  have Hfin := Lib.hid (fun (i : Nat) (hi : i = h.length) => show ndsOf (h.take i) = ndsOf h by rw [hi, List.take_length])
  have Hlen := Lib.hid (fun (i : Nat) (hi : i ≤ h.length) (ls : List IL) (hO : OfL (ndsOf (h.take i)) ls) => show ls.length = i by rw [hO.len, ndsOf_len, List.length_take]; omega)
  have Hagg := Lib.hid (fun (i : Nat) (hi : i < h.length) => show h[i].agg = .agg #[.int .i64 h[i].n.saga, .int .i64 h[i].n.cls, .int .i64 h[i].n.step, .bool h[i].n.back, .slice h[i].rA h[i].n.rd.length h[i].rc, .slice h[i].wA h[i].n.wt.length h[i].wc] from rfl)
  clear hs hn hC
  go_enter Tryz.func26, Tryz.ntmps26
  go_wp2
  go_loopw [3, 8] (fun lv iv wr => ∃ (i : Nat) (L : Option Addr) (lc : Nat) (ls : List IL), i ≤ n ∧ lv = .slice L i lc ∧ iv = .int .i64 (i : Int) ∧ ls.length = i ∧ Hid (Own15 wr w.heap.size L lc ls) ∧ Hid (OfL (ndsOf (h.take i)) ls) ∧ Hid (Fr No w wr)) (fun _ iv _ => n - (intOf iv).toNat)
  case atStart => exact ⟨0, none, 0, [], Nat.zero_le _, rfl, rfl, rfl, Lib.hid (Own15.nil _ _), Lib.hid OfL.nil, Lib.hid (Fr.refl _ _)⟩
  case round =>
    obtain ⟨i, L, lc, ls, hi, rfl, rfl, hls, hI, hO, hfr⟩ := hrel
    by_cases hlt : i < n
    · have hil : i < h.length := by rw [Hn.out]; exact hlt
      have hin : ((i : Nat) : Int) < (n : Int) := by omega
      have hic : ((i : Nat) : Int) ≤ (c : Int) := by omega
      obtain ⟨ad, rfl, hab, a0, a1, a2, a3, a4, a5⟩ := Hnd.out i hil wr hfr.out
      have hag := Hagg.out i hil
      obtain ⟨W1, hW1⟩ : ∃ W1, W1 = wr.alloc (.cells #[.int .i64 h[i].n.saga, .int .i64 h[i].n.cls, .int .i64 h[i].n.step, .bool h[i].n.back, .slice h[i].rA h[i].n.rd.length h[i].rc, .slice h[i].wA h[i].n.wt.length h[i].wc] 37) := ⟨_, rfl⟩
      have f1 : Fr No wr W1 := by rw [hW1]; exact (Fr.refl _ _).alloc _
      have f1d : Fr No wr W1.drew := f1.drew
      have D1 : Hid (Fr No w W1.drew) := Lib.hid (hfr.out.trans' f1d (fun _ _ e => e))
      have HI1 := Lib.hid (hI.out.fr f1d)
      have hC1 := Lib.hid (Hnx.out i hil ls L lc hO.out W1.drew D1.out HI1.out)
      rw [hag] at hC1
      have bx : Bk W1.drew wr.heap.size 37 #[.int .i64 h[i].n.saga, .int .i64 h[i].n.cls, .int .i64 h[i].n.step, .bool h[i].n.back, .slice h[i].rA h[i].n.rd.length h[i].rc, .slice h[i].wA h[i].n.wt.length h[i].wc] := by rw [hW1]; exact Bk.made _ _ _
      have y0 := bx.cell 0
      have y1 := bx.cell 1
      have y2 := bx.cell 2
      have y3 := bx.cell 3
      have y4 := bx.cell 4
      have y5 := bx.cell 5
      simp only [List.getElem?_toArray, List.getElem?_cons_zero, List.getElem?_cons_succ] at y0 y1 y2 y3 y4 y5
      have hwe := hW1.symm
      clear hW1 f1 f1d bx hI hO hfr hag Hnx Hnd Hfin Hagg
      generalize h[i] = y at *
      go_wp2_with fail
      go_region_law (first
        | (refine step_append_one15 rfl _ _ 63 rfl w.heap.size 28 (.slice none 0 0) 1 24 Tryz.underlying63 info_il15 rfl (by omega) (.slice L i lc) i (ls.map IL.cell) #[.slice xA xn xc] rfl (by intro u hu; simp at hu; subst hu; rfl) rfl w4.heap.size rfl rfl (by have q := K1.out.row; rw [hls] at q; exact q) (by unfold maxLen; omega) (by omega) (by exact hsz4) ?_
           intro A' c' w5 o5 f5
           have HI5 : Hid (Own15 w5 w.heap.size A' c' (ls ++ [⟨xA, xl, xc⟩])) := Lib.hid (K1.out.app HX.out (by rw [hls]; have e := HXn.out; unfold IL.cell; rw [e]; exact o5) (by rw [hls]; exact f5))
           have HF5 : Hid (Fr No w w5) := Lib.hid (F4.out.trans' f5 (fun k hk e => by have := K1.out.row.lt k (by rw [hls]; exact e); omega)))
        | (go_simp
           go_at_call 42
           refine (hC1.out).mono ?_
           rintro e w4 ⟨⟨xA, xl, xc⟩, rfl, hx, hox, f4⟩
           have F4 := Lib.hid (D1.out.trans' f4 (fun _ _ e => e))
           have hsz4 := F4.out.size
           have K1 := Lib.hid (HI1.out.fr f4)
           have HX := Lib.hid hx
           have HO5 := Lib.hid hox
           unfold IL.cell
           obtain ⟨xn, hxn⟩ : ∃ n, xl.length = n := ⟨_, rfl⟩
           dsimp only
           rw [hxn]
           have HXn := Lib.hid hxn
           clear hx hox f4 hxn))
      all_goals
        go_wp2
        go_roundw
        case rel => exact ⟨i + 1, A', c', ls ++ [⟨xA, xl, xc⟩], by omega, rfl, by go_num, by simp [hls], HI5, HO5, HF5⟩
        case measure => simp [intOf]; omega
    · obtain rfl : i = n := by omega
      have HF := Lib.hid (Hfin.out i Hn.out.symm)
      rw [HF.out] at hO
      clear Hnx Hnd Hfin Hlen Hagg HF
      subst hls
      go_wp2
      go_ret
      exact ⟨L, ls, lc, rfl, hI.out, hO.out, hfr.out⟩
end Go.Proofs.YtmeimhpllemjfaaGreat
