/- Package deps: what a node that comes behind a history depends on, rising. -/
import Derived.Laws.EntriesVeiled
import Derived.Test.YtmabapbdnafpfaaTak15
import Derived.Test.YtmabapbdnafpfaaSml15
import Derived.Test.YtmabapbdnafpfaaLas14
namespace Go.Proofs.Ytmabapbdnafpfaa
open Go.RowKit Go.Shelf

attribute [local go_sem] Oper.semAt_some

theorem mi_own15 {β : Type} (B m N : Nat) (s : Nat → Bool) (hB : m < B) : OwnFrom B (fun (_ : β) W => MI Try.prog 3 W m N (onV s)) := fun _ X Y row hs hg hr => hs.block (hg.block m hs.lt (fun e => by
    have := (hr m e.symm).1
    omega))
section
variable {F : Fence} {n : Nat} {dst : Option Tmp} {x y : Operand} {ty : TypeId} {pos : String} {after : Array Edge} {a : Act} {w : World} {K : Act → World → Prop} {Q : Exit → Act → World → Prop} {ad : Addr}
theorem exec_al15 {g : Option (Tmp × Bool)} : (execOp a.eval { dst := dst, op := .alloc 52, type := ty, pos := pos, after := after, guard := g }).run Try.prog w = .ok (.value (.pointer (some ⟨w.heap.size, 0, none⟩))) (w.alloc (.cells #[] 52)) := by
  simp [go_sem]
theorem wplIn_al15 {ops : Array Oper} {rest : List Oper} {g : Option (Tmp × Bool)} (hn : g = none) (hk : wpListIn F n Try.prog ops Q rest (a.put dst (.pointer (some ⟨w.heap.size, 0, none⟩))) (w.alloc (.cells #[] 52))) : wpListIn F n Try.prog ops Q ({ dst := dst, op := .alloc 52, type := ty, pos := pos, after := after, guard := g } :: rest) a w := by
  subst hn
  refine wpListIn_plain rfl (fun K hK => ⟨fun f hf => (by cases hf), ?_⟩)
  have : ({ dst := dst, op := .alloc 52, type := ty, pos := pos, after := after, guard := none } : Oper).semAt F.round a.eval = execOp a.eval { dst := dst, op := .alloc 52, type := ty, pos := pos, after := after, guard := none } := by
    cases F.round <;> rfl
  rw [this, exec_al15]
  exact hK _ _ hk
theorem exec_st15 {g : Option (Tmp × Bool)} (hg : a.eval x = .pointer (some ad)) (hv : a.eval y = .agg #[]) : (execOp a.eval { dst := dst, op := .store 52 x y, type := ty, pos := pos, after := after, guard := g }).run Try.prog w = .ok .skip w := by
  have hC : (Try.prog.info? 52).map (·.size) = some 0 := by kernel_rfl
  obtain ⟨i, hi, hs⟩ := Option.map_eq_some_iff.1 hC
  have h2 : (storeVar 52 ad (.agg #[])).run Try.prog w = .ok () w := by
    unfold storeVar
    simp [sizeOf, typeInfo, hi, hs, Value.cells, storeCells]
  unfold execOp
  simp only [hg, hv, Instr.storeAt, Instr.sureAddr, Sem.run_bind, Sem.run_pure, Result.andThen_ok, h2]
theorem wplIn_st15 {ops : Array Oper} {rest : List Oper} {g : Option (Tmp × Bool)} (hn : g = none) (hg : a.eval x = .pointer (some ad)) (hv : a.eval y = .agg #[]) (hk : wpListIn F n Try.prog ops Q rest (a.put dst undef) w) : wpListIn F n Try.prog ops Q ({ dst := dst, op := .store 52 x y, type := ty, pos := pos, after := after, guard := g } :: rest) a w := by
  subst hn
  refine wpListIn_plain rfl (fun K hK => ⟨fun f hf => (by cases hf), ?_⟩)
  have : ({ dst := dst, op := .store 52 x y, type := ty, pos := pos, after := after, guard := none } : Oper).semAt F.round a.eval = execOp a.eval { dst := dst, op := .store 52 x y, type := ty, pos := pos, after := after, guard := none } := by
    cases F.round <;> rfl
  rw [this, exec_st15 hg hv]
  exact hK _ _ hk
end
/-- Where next's variables lie, and what the set is. -/
structure NxW (w : World) (L : Option Addr) (nl lc m : Nat) (n : Ndl) (s : Nat → Bool) (W : World) : Prop where
  bl : Bk W w.heap.size 29 #[.slice L nl lc]
  bn : Bk W (w.heap.size + 1) 27 n.arr
  mi : MI Try.prog 3 W (w.heap.size + 1 + 1) m (onV s)
  bo : Bk W (w.heap.size + 1 + 1 + 1) 51 #[.map (some (w.heap.size + 1 + 1))]
  bf : Bk W (w.heap.size + 1 + 1 + 1 + 1) 53 #[.func (.func 25) #[] #[.pointer (some ⟨w.heap.size + 1 + 1 + 1, 0, none⟩), .pointer (some ⟨w.heap.size, 0, none⟩)]]
  below : Below w.heap.size w W
theorem NxW.fr {w : World} {L : Option Addr} {nl lc m : Nat} {n : Ndl} {s : Nat → Bool} {W V : World} (h : NxW w L nl lc m n s W) (hf : Fr No W V) : NxW w L nl lc m n s V :=
  ⟨h.bl.fr hf (fun e => e), h.bn.fr hf (fun e => e), h.mi.fr hf (fun e => e), h.bo.fr hf (fun e => e), h.bf.fr hf (fun e => e), h.below.trans (hf.toBelow h.below.size (fun _ e => e.elim))⟩
theorem NxW.put {w : World} {L : Option Addr} {nl lc m : Nat} {n : Ndl} {s s' : Nat → Bool} {W V : World} (h : NxW w L nl lc m n s W) (hf : Fr (fun x => x = w.heap.size + 1 + 1) W V) (hm : MI Try.prog 3 V (w.heap.size + 1 + 1) m (onV s')) : NxW w L nl lc m n s' V :=
  ⟨h.bl.fr hf (by omega), h.bn.fr hf (by omega), hm, h.bo.fr hf (by omega), h.bf.fr hf (by omega), h.below.trans (hf.toBelow h.below.size (fun _ e => by omega))⟩
theorem NxW.own (w : World) (L : Option Addr) (nl lc m : Nat) (n : Ndl) {β : Type} (f : β → Nat → Bool) (B : Nat) (hB : w.heap.size + 5 ≤ B) : OwnFrom B (fun (x : β) W => NxW w L nl lc m n (f x) W) := by
  intro x X Y row ⟨h1, h2, h3, h4, h5, h6⟩ hg hr
  exact ⟨bk_ownN (β := Unit) B _ _ _ () X Y row h1 hg hr, bk_ownN (β := Unit) B _ _ _ () X Y row h2 hg hr, mi_own15 (β := Unit) B _ _ _ (by omega) () X Y row h3 hg hr, bk_ownN (β := Unit) B _ _ _ () X Y row h4 hg hr, bk_ownN (β := Unit) B _ _ _ () X Y row h5 hg hr, ownFrom_below (β := Unit) (Nat.le_refl _) (by omega) () X Y row h6 hg hr⟩
theorem NxW.kp {w : World} {L : Option Addr} {nl lc m : Nat} {n : Ndl} {s : Nat → Bool} {W V : World} (h : NxW w L nl lc m n s W) (hf : Fr (fun x => x = w.heap.size + 1 + 1) W V) {B0 : Nat} (hB0 : w.heap.size + 1 + 1 < B0) : KeepsFrom B0 W V ∧ KpN w.heap.size W V :=
  ⟨⟨hf.size, fun j o hj ho _ => (hf.block j (Array.getElem?_eq_some_iff.1 ho).1 (by omega)).trans ho⟩, hf.toBelow h.below.size (fun _ e => by omega), fun g cs hb => hb.fr hf (fun e => h.mi.apart hb e.symm)⟩
theorem depL_len (h : List Nd) (i : Nat) : (depL h i).length ≤ i := by
  unfold depL
  exact Nat.le_trans (List.length_filter_le _ _) (by simp)

set_option maxRecDepth 100000 in
set_option maxHeartbeats 8000000 in
theorem next15 (h : List Ndl) (A : Option Addr) (m c : Nat) (n : Ndl) (ls : List IL) (L : Option Addr) (lc : Nat) (w : World) (hs : Nds w A h) (hm : h.length = m) (hl : m ≤ 1048576) (hI : Ils w L ls) (hO : OfL (ndsOf h) ls)
    (hd : ∀ (x : BX h) W, Below w.heap.size w W → Calls Try.prog 21 #[n.agg, (h[x.1]'x.2).agg] W (Has W (dirN n.n (h[x.1]'x.2).n))) :
    Calls Try.prog 19 #[.slice L m lc, .slice A m c, n.agg] w fun e w' =>
      ∃ (A' : Option Addr) (c' : Nat), e = .returned (.slice A' (depL (ndsOf h ++ [n.n]) m).length c') ∧ w'.ownsRow w.heap.size 3 1 (.slice A' (depL (ndsOf h ++ [n.n]) m).length c') (depL (ndsOf h ++ [n.n]) m).length (nums (depL (ndsOf h ++ [n.n]) m)) ∧ Fr No w w' := by
  refine (callsIn_wide (n := 3)).1 ?_
  have h1 : 1 ≤ 3 := by omega
  have hlen : (ndsOf h).length = m := by simp [ndsOf, hm]
  have hll : ls.length = m := by rw [hO.len, hlen]
  obtain ⟨res, hres⟩ : ∃ r, Hid (r = depL (ndsOf h ++ [n.n]) m) := ⟨_, Lib.hid rfl⟩
  rw [← hres.out]
  have Hf := Lib.hid hd
  have Ht := Lib.hid (fun (k : Nat) (hk : k < m) (s : Nat → Bool) W (hW : NxW w L m lc m n s W) => show Calls Try.prog 25 #[.int .i64 (k : Int), .pointer (some ⟨w.heap.size + 1 + 1 + 1, 0, none⟩), .pointer (some ⟨w.heap.size, 0, none⟩)] W fun e w' =>
      e = .returned (.tuple #[]) ∧ MI Try.prog 3 w' (w.heap.size + 1 + 1) m (onV (fun j => s j || (decide (j = k) || depB (ndsOf h) k j))) ∧ Fr (fun x => x = w.heap.size + 1 + 1) W w' by
    have hkl : k < ls.length := by omega
    have hlk := hO.at hkl
    refine (take15 (w.heap.size + 1 + 1) m w.heap.size (w.heap.size + 1 + 1 + 1) s k ls L m lc W hk hl hW.bo hW.bl hW.mi (hI.since (Fr.ofBelow hW.below No)) hll hkl (fun x hx => by
      rw [hlk] at hx
      have := depL_lt hx
      omega) (by rw [hlk]; have := depL_len (ndsOf h) k; omega)).mono ?_
    rintro e w' ⟨h1, h2, h3⟩
    have e5 : (fun j => s j || (decide (j = k) || decide (j ∈ ls[k].l))) = fun j => s j || (decide (j = k) || depB (ndsOf h) k j) := by
      funext j
      have e6 : decide (j ∈ ls[k].l) = depB (ndsOf h) k j := by rw [Bool.eq_iff_iff, decide_eq_true_eq, hlk]; exact depL_mem
      rw [e6]
    rw [e5] at h2
    exact ⟨h1, h2, h3⟩)
  have Hend := Lib.hid (fun (s : Nat → Bool) (hs : NxI (ndsOf h) n.n s 0) => show (List.range m).filter s = res by
    rw [hres.out, ← hlen]
    exact depL_new (ndsOf h) n.n s hs.fin)
  have Hnx := Lib.hid (fun (ys : List (BX h)) (hy : ys.map (·.1) = dnL h.length 0) => show NxI (ndsOf h) n.n (nxL (ndsOf h) n.n (ys.map (·.1))) 0 by
    rw [hy, hm, ← hlen]
    exact nx_down (ndsOf h) n.n (dnL (ndsOf h).length) (dnL_all _) (fun j hj => dnL_step hj) _ 0 (Nat.zero_add _))
  have Hat := Lib.hid (fun (k : Nat) (hk : k < h.length) => ndsOf_at hk)
  clear hd hO hlen hll hI hres
  unfold Ndl.agg Ndl.arr
  refine callsIn_of_wp_marks Try.func19 rfl trivial ?_ rfl
  simp only [Try.ntmps19, List.size_toArray, List.length_cons, List.length_nil, Nat.reduceAdd, Nat.reduceSub, Array.replicate_succ, Array.replicate_zero, List.push_toArray, List.append_toArray, List.nil_append, List.cons_append]
  have hmm := @run_makeMap Try.prog
  have hmf : ∀ (fn : Fn) (first cap : Array Value) (w : World), (Instr.makeFunc fn first cap).run Try.prog w = .ok (.func fn first cap) w := fun _ _ _ _ => rfl
  gi_wp2_with (first
    | (refine ⟨trivial, ?_⟩; gi_at_call 26; refine (backward_in Fence.wide _ trivial rfl _ _ _ _).mono ?_; rintro e w' ⟨rfl, rfl⟩))
  obtain ⟨V0, hV0⟩ : ∃ V0, V0 = ((((w.alloc (.cells #[.slice L m lc] 29)).alloc (.cells #[.int .i64 n.n.saga, .int .i64 n.n.cls, .int .i64 n.n.step, .bool n.n.back, .slice n.rA n.n.rd.length n.rc, .slice n.wA n.n.wt.length n.wc] 27)).alloc (.map #[] 0)).alloc (.cells #[.map (some (w.heap.size + 1 + 1))] 51)).alloc (.cells #[.func (.func 25) #[] #[.pointer (some ⟨w.heap.size + 1 + 1 + 1, 0, none⟩), .pointer (some ⟨w.heap.size, 0, none⟩)]] 53) := ⟨_, rfl⟩
  have hsz0 : V0.heap.size = w.heap.size + 1 + 1 + 1 + 1 + 1 := by rw [hV0]; simp
  have hFV : Fr No w V0 := by rw [hV0]; exact (((((Fr.refl No w).alloc _).alloc _).alloc _).alloc _).alloc _
  have hN0 : NxW w L m lc m n (fun _ => false) V0 := by
    have b0 := Bk.made w 29 #[.slice L m lc]
    have b1 := Bk.made (w.alloc (.cells #[.slice L m lc] 29)) 27 #[.int .i64 n.n.saga, .int .i64 n.n.cls, .int .i64 n.n.step, .bool n.n.back, .slice n.rA n.n.rd.length n.rc, .slice n.wA n.n.wt.length n.wc]
    have b2 := MI.made ((w.alloc (.cells #[.slice L m lc] 29)).alloc (.cells #[.int .i64 n.n.saga, .int .i64 n.n.cls, .int .i64 n.n.step, .bool n.n.back, .slice n.rA n.n.rd.length n.rc, .slice n.wA n.n.wt.length n.wc] 27)) Try.prog 3 m
    have b3 := Bk.made (((w.alloc (.cells #[.slice L m lc] 29)).alloc (.cells #[.int .i64 n.n.saga, .int .i64 n.n.cls, .int .i64 n.n.step, .bool n.n.back, .slice n.rA n.n.rd.length n.rc, .slice n.wA n.n.wt.length n.wc] 27)).alloc (.map #[] 0)) 51 #[.map (some (w.heap.size + 1 + 1))]
    have b4 := Bk.made ((((w.alloc (.cells #[.slice L m lc] 29)).alloc (.cells #[.int .i64 n.n.saga, .int .i64 n.n.cls, .int .i64 n.n.step, .bool n.n.back, .slice n.rA n.n.rd.length n.rc, .slice n.wA n.n.wt.length n.wc] 27)).alloc (.map #[] 0)).alloc (.cells #[.map (some (w.heap.size + 1 + 1))] 51)) 53 #[.func (.func 25) #[] #[.pointer (some ⟨w.heap.size + 1 + 1 + 1, 0, none⟩), .pointer (some ⟨w.heap.size, 0, none⟩)]]
    simp only [World.size_alloc] at b1 b2 b3 b4
    refine ⟨?_, ?_, ?_, ?_, ?_, hFV.below0⟩
    · rw [hV0]; exact (((b0.alloc _).alloc _).alloc _).alloc _
    · rw [hV0]; exact ((b1.alloc _).alloc _).alloc _
    · rw [hV0]; exact ((b2.congr (fun i _ => rfl)).alloc _).alloc _
    · rw [hV0]; exact b3.alloc _
    · rw [hV0]; exact b4
  rw [← hV0]
  clear hV0
  obtain ⟨W0, hW0⟩ : ∃ W0, W0 = V0.alloc (.cells #[.slice A m c] 22) := ⟨_, rfl⟩
  have hsz : W0.heap.size = w.heap.size + 1 + 1 + 1 + 1 + 1 + 1 := by rw [hW0]; simp [hsz0]
  have hF0 : Fr No w W0 := by rw [hW0]; exact hFV.alloc _
  have hN1 : NxW w L m lc m n (fun _ => false) W0 := by rw [hW0]; exact hN0.fr ((Fr.refl No V0).alloc _)
  have bP : Bk W0 (w.heap.size + 1 + 1 + 1 + 1 + 1) 22 #[.slice A m c] := by
    rw [hW0, ← hsz0]
    exact Bk.made V0 _ _
  have hB0 : w.heap.size ≤ W0.heap.size := by omega
  have hbw : Below w.heap.size w W0 := hF0.below0
  have HS := Lib.hid hs.sl
  have Hm := Lib.hid hm
  rw [← hW0]
  clear hW0 hs hm hN0 hFV
  have hsq : SeqStopsK Fence.wide 2 Try.prog 33 #[.pointer (some ⟨w.heap.size + 1 + 1 + 1 + 1 + 1, 0, none⟩)] (encB (l := h)) (KpN w.heap.size) (fun ys => ys.map (·.1) = dnL h.length 0) (fun pre => pre.map (·.1) <+: dnL h.length 0) h.length W0 := fun lp J Jx W hW hJ _ hY h0 =>
    back1_in 2 lp w.heap.size (w.heap.size + 1 + 1 + 1 + 1 + 1) h A m c W (by omega) (HS.out.below (hbw.trans (hW.mono hB0))) Hm.out (Nat.le_trans hB0 hW.size) ((hW.block _ bP.lt).trans bP) (by omega) J Jx hY h0
  refine wpIn_rangeFunc_ownH rfl h1 (gf := 33) (lb := #[.pointer (some ⟨w.heap.size + 1 + 1 + 1 + 1 + 1, 0, none⟩)]) rfl trivial (enters_of Try.func33 (by kernel_rfl) rfl)
    hsq KpN.trans (KpN.putObj hB0) (Below.refl _ _) (fun _ => rfl)
    (fun (pre : List (BX h)) W => NxW w L m lc m n (nxL (ndsOf h) n.n (pre.map (·.1))) W)
    (fun _ _ _ => False)
    (NxW.own w L m lc m n (fun (pre : List (BX h)) => nxL (ndsOf h) n.n (pre.map (·.1))) _ (by omega))
    (fun _ _ _ _ _ hs _ _ => hs)
    hN1
    (fun x a' W => ∃ Bx, w.heap.size + 1 + 1 + 1 + 1 < Bx ∧ Bk W Bx 27 (h[x.1]'x.2).arr ∧ a' = { tmps := #[.slice L m lc, .slice A m c, .agg #[.int .i64 n.n.saga, .int .i64 n.n.cls, .int .i64 n.n.step, .bool n.n.back, .slice n.rA n.n.rd.length n.rc, .slice n.wA n.n.wt.length n.wc], .pointer (some ⟨w.heap.size, 0, none⟩), undef, .pointer (some ⟨w.heap.size + 1, 0, none⟩), .slice none 0 0, .pointer (some ⟨w.heap.size + 1 + 1 + 1, 0, none⟩), .pointer (some ⟨w.heap.size + 1 + 1 + 1 + 1, 0, none⟩), .int .i64 (x.1 : Int), .pointer (some ⟨Bx, 0, none⟩), undef, undef, .map (some (w.heap.size + 1 + 1)), .func (.func 25) #[] #[.pointer (some ⟨w.heap.size + 1 + 1 + 1, 0, none⟩), .pointer (some ⟨w.heap.size, 0, none⟩)], .slice A m c, .func (.func 33) #[] #[.pointer (some ⟨w.heap.size + 1 + 1 + 1 + 1 + 1, 0, none⟩)], .int .i64 (x.1 : Int), (h[x.1]'x.2).agg, undef, undef, undef, undef, undef, undef, undef, undef, undef, undef, undef, undef, undef, undef, undef, undef, undef, undef, undef], defers := [] })
    (fun x a' _ X Y row hs hg hr => by
      obtain ⟨Bx, a1, a2, a3⟩ := hs
      exact ⟨Bx, a1, bk_ownN _ Bx _ _ () X Y row a2 hg hr, a3⟩)
    ?assign ?body ?done ?stop
  case assign =>
    rintro lp pre ⟨k, hk⟩ W K hN hK
    have hlt := hN.bf.lt
    dsimp only
    obtain ⟨y, hy⟩ : ∃ y, h[k] = y := ⟨_, rfl⟩
    dsimp only at hK
    unfold encB at *
    dsimp only at *
    rw [hy] at hK ⊢
    unfold Ndl.agg Ndl.arr at *
    have k1 : Fr No W (W.alloc (.cells #[.int .i64 y.n.saga, .int .i64 y.n.cls, .int .i64 y.n.step, .bool y.n.back, .slice y.rA y.n.rd.length y.rc, .slice y.wA y.n.wt.length y.wc] 27)) := (Fr.refl No W).alloc _
    have hx0 : Bk (W.alloc (.cells #[.int .i64 y.n.saga, .int .i64 y.n.cls, .int .i64 y.n.step, .bool y.n.back, .slice y.rA y.n.rd.length y.rc, .slice y.wA y.n.wt.length y.wc] 27)) W.heap.size 27 #[.int .i64 y.n.saga, .int .i64 y.n.cls, .int .i64 y.n.step, .bool y.n.back, .slice y.rA y.n.rd.length y.rc, .slice y.wA y.n.wt.length y.wc] := Bk.made W _ _
    gi_wp2
    exact hK _ _ ((KeepsOthers.alloc _ _).from _) ((KpN.refl _ W).fr0 k1 hN.below.size) (hN.fr k1) ⟨W.heap.size, by omega, hx0, rfl⟩
  case body =>
    rintro lp pre ⟨k, hk⟩ a' W hl' hr' hN ⟨Bx, a1, hbx, rfl⟩ hlt
    dsimp only at hbx ⊢
    obtain ⟨s, hse⟩ : ∃ s, s = nxL (ndsOf h) n.n (pre.map (·.1)) := ⟨_, rfl⟩
    rw [← hse] at hN
    have hkm : k < m := by rw [← Hm.out]; exact hk
    have Hs2 : Hid (nxL (ndsOf h) n.n ((pre ++ [⟨k, hk⟩] : List (BX h)).map (·.1)) = if (!s k && dirN n.n h[k].n) = true then fun j => s j || (decide (j = k) || depB (ndsOf h) k j) else s) := Lib.hid (by
      rw [List.map_append, hse]
      refine (nxL_snoc _ _ _ _).trans ?_
      unfold nxS
      rw [Hat.out k hk])
    clear hse hl' hr' hlt
    obtain ⟨W1, hW1⟩ : ∃ W1, W1 = W.alloc (.cells #[] 52) := ⟨_, rfl⟩
    have f1 : Fr No W W1 := by rw [hW1]; exact (Fr.refl No W).alloc _
    have D1 := Lib.hid (Hf.out ⟨k, hk⟩ W1 (hN.below.trans (f1.toBelow hN.below.size (fun _ e => e.elim))))
    have hlk := hN.mi.look int_k15 map_t15 hkm (by omega) (zero_t15 W)
    rw [onV_get, onV_some] at hlk
    have hwe := hW1.symm
    have x7 := hN.bo.cell 0
    simp at x7
    have hN1 := hN.fr f1
    have hbx1 := hbx.fr f1 (fun e => e)
    have HN1 := Lib.hid hN1
    have HK := Lib.hid (fun V (hf : Fr (fun x => x = w.heap.size + 1 + 1) W1 V) => hN.kp ((f1.weak (fun _ _ e => e.elim)).trans' hf (fun _ _ e => e)) (B0 := W0.heap.size) (by omega))
    have HT := Lib.hid (fun V (hV : NxW w L m lc m n s V) => Ht.out k hkm s V hV)
    have hcn := hN1.bn
    unfold Ndl.arr at hcn hbx1
    have n0 := hcn.cell 0
    have n1 := hcn.cell 1
    have n2 := hcn.cell 2
    have n3 := hcn.cell 3
    have n4 := hcn.cell 4
    have n5 := hcn.cell 5
    have y0 := hbx1.cell 0
    have y1 := hbx1.cell 1
    have y2 := hbx1.cell 2
    have y3 := hbx1.cell 3
    have y4 := hbx1.cell 4
    have y5 := hbx1.cell 5
    simp only [List.getElem?_toArray, List.getElem?_cons_zero, List.getElem?_cons_succ] at n0 n1 n2 n3 n4 n5 y0 y1 y2 y3 y4 y5
    dsimp only at D1
    unfold Ndl.agg Ndl.arr at D1 ⊢
    generalize dirN n.n h[k].n = d at *
    generalize h[k] = y at *
    obtain ⟨b, hb⟩ : ∃ b, b = s k := ⟨_, rfl⟩
    rw [← hb] at hlk Hs2
    clear hN1 hcn hbx1 hbx hN hb f1 hW1 Ht Hf Hat bP hbw hF0 hsq
    cases b
    case true =>
      have HE : Hid (KeepsFrom W0.heap.size W W1 ∧ KpN w.heap.size W W1 ∧ NxW w L m lc m n (nxL (ndsOf h) n.n ((pre ++ [⟨k, hk⟩] : List (BX h)).map (·.1))) W1) := Lib.hid ⟨(HK.out W1 (Fr.refl _ _)).1, (HK.out W1 (Fr.refl _ _)).2, by rw [Hs2.out]; exact HN1.out⟩
      clear n0 n1 n2 n3 n4 n5 y0 y1 y2 y3 y4 y5 HN1 HK HT Hs2 D1
      gi_wp2_with (first
        | ((with_reducible refine wplIn_al15 ?_ ?_); (· rfl); simp only [Act.put, List.setIfInBounds_toArray, List.set_cons_zero, List.set_cons_succ]; rw [hwe])
        | ((with_reducible refine wplIn_st15 (ad := ⟨W.heap.size, 0, none⟩) ?_ ?_ ?_ ?_); (· rfl); (· rfl); (· rfl); simp only [Act.put])
        | (refine ⟨trivial, ?_⟩))
      exact HE.out
    case false =>
      gi_wp2_with (first
        | ((with_reducible refine wplIn_al15 ?_ ?_); (· rfl); simp only [Act.put, List.setIfInBounds_toArray, List.set_cons_zero, List.set_cons_succ]; rw [hwe])
        | ((with_reducible refine wplIn_st15 (ad := ⟨W.heap.size, 0, none⟩) ?_ ?_ ?_ ?_); (· rfl); (· rfl); (· rfl); simp only [Act.put]))
      refine ⟨trivial, ?_⟩
      gi_at_call 21
      refine (callsIn_wide.2 D1.out).mono ?_
      rintro e w1 ⟨rfl, g1⟩
      have HN2 := Lib.hid (HN1.out.fr g1)
      have HK2 := Lib.hid (fun V (hf : Fr (fun x => x = w.heap.size + 1 + 1) w1 V) => HK.out V ((g1.weak (fun _ _ e => e.elim)).trans' hf (fun _ _ e => e)))
      clear n0 n1 n2 n3 n4 n5 y0 y1 y2 y3 y4 y5 HN1 HK D1 x7 hlk hwe g1
      cases d
      · have HE : Hid (KeepsFrom W0.heap.size W w1 ∧ KpN w.heap.size W w1 ∧ NxW w L m lc m n (nxL (ndsOf h) n.n ((pre ++ [⟨k, hk⟩] : List (BX h)).map (·.1))) w1) := Lib.hid ⟨(HK2.out w1 (Fr.refl _ _)).1, (HK2.out w1 (Fr.refl _ _)).2, by rw [Hs2.out]; exact HN2.out⟩
        clear HN2 HK2 HT Hs2
        gi_wp2
        exact HE.out
      · have HC := Lib.hid (HT.out w1 HN2.out)
        have HE : Hid (∀ V, MI Try.prog 3 V (w.heap.size + 1 + 1) m (onV (fun j => s j || (decide (j = k) || depB (ndsOf h) k j))) → Fr (fun x => x = w.heap.size + 1 + 1) w1 V → KeepsFrom W0.heap.size W V ∧ KpN w.heap.size W V ∧ NxW w L m lc m n (nxL (ndsOf h) n.n ((pre ++ [⟨k, hk⟩] : List (BX h)).map (·.1))) V) := Lib.hid (fun V hm hf => ⟨(HK2.out V hf).1, (HK2.out V hf).2, by rw [Hs2.out]; exact HN2.out.put hf hm⟩)
        have x8 := HN2.out.bf.cell 0
        simp at x8
        clear HN2 HK2 HT Hs2
        gi_wp2_with fail
        refine ⟨trivial, ?_⟩
        gi_at_call 25
        refine (callsIn_wide.2 HC.out).mono ?_
        rintro e w2 ⟨rfl, hm2, g2⟩
        have HE2 := Lib.hid (HE.out w2 hm2 g2)
        clear hm2 g2 HE HC x8
        gi_wp2
        exact HE2.out
  case done =>
    rintro D ys W hD hys hN hK
    have hsI := Hnx.out ys hys
    have hse := Hend.out _ hsI
    generalize nxL (ndsOf h) n.n (ys.map (·.1)) = s at *
    have x7 := hN.bo.cell 0
    simp at x7
    have cK := Lib.hid (callsIn_wide.2 (keys15 (some (w.heap.size + 1 + 1)) W) : CallsIn Fence.wide 2 _ _ _ _ _)
    have cS := Lib.hid (told15 (w.heap.size + 1 + 1) m s W hl hN.mi)
    rw [hse] at cS
    have HB := Lib.hid hN.below
    have HD := Lib.hid (fun V (hf : Fr No W V) => show V.heap[D]? = some (.deferred (some [])) from (hf.block D (Array.getElem?_eq_some_iff.1 hK).1 (fun e => e)).trans hK)
    clear hse hsI hys hN hK Hf Ht Hend Hnx Hat hsq
    gi_wp2_with fail
    refine ⟨trivial, ?_⟩
    gi_at_call 28
    refine cK.out.mono ?_
    rintro e w1 ⟨rfl, rfl⟩
    gi_wp2_with fail
    refine ⟨trivial, ?_⟩
    gi_at_call 27
    refine (callsIn_wide.2 cS.out).mono ?_
    rintro e w1 ⟨A', c', rfl, hrow, f1⟩
    have hK2 := HD.out w1 f1
    have HR := Lib.hid (fun o' => ownsRow_putObj hrow o' hK2 rfl)
    have HF := Lib.hid (fun o' => (HB.out.trans (f1.toBelow HB.out.size (fun _ e => e.elim))).trans (belowK_b (w := w) (Nat.le_refl _) w1 D _ o' (by omega) hK2 rfl rfl))
    have hBW := HB.out.size
    clear hrow f1 HB HD cS cK x7
    gi_wp2
    refine ⟨by simp, .inl ⟨_, _, rfl, run_takeDeferred hK2, ?_⟩⟩
    exact ⟨_, results_tmp rfl _ _ _, A', c', rfl, own_base (HR.out _) hBW, Fr.ofBelow (HF.out _) _⟩
  case stop =>
    rintro D cd pre W hD hS hx hK
    exact hx.elim
end Go.Proofs.Ytmabapbdnafpfaa
