/- Package step: all instructions of a step, one behind the other; what fails is told behind a recover. -/
import Derived.Test.YthenadijiepmnaaGreatOpt13
import Derived.Test.YthenadijiepmnaaGreatWlo12
import Derived.Recover
namespace Go.Proofs.YthenadijiepmnaaGreat
open Go.RowKit

/-- Which function does an instruction. -/
def doF (o : Nat) : Nat :=
  if o = 1 then 74 else if o = 2 then 75 else if o = 3 then 76 else if o = 4 then 77
  else if o = 5 then 78 else if o = 6 then 79 else if o = 7 then 80 else 81
def fnV (n : Nat) : Value := .func (.func n) #[] #[]
def doArr : Array Value := #[.nilFunc, fnV 74, fnV 75, fnV 76, fnV 77, fnV 78, fnV 79, fnV 80, fnV 81]
theorem doArr_at {o : Nat} (h1 : 1 ≤ o) (h2 : o ≤ 8) : doArr[o]? = some (fnV (doF o)) := by
  rcases (show o = 1 ∨ o = 2 ∨ o = 3 ∨ o = 4 ∨ o = 5 ∨ o = 6 ∨ o = 7 ∨ o = 8 by omega) with rfl | rfl | rfl | rfl | rfl | rfl | rfl | rfl <;> rfl
theorem doF_enters {o : Nat} (h1 : 1 ≤ o) (h2 : o ≤ 8) (args : Array Value) (w : World) : (callFunc (doF o) args).run Tryz.prog w = .ok (.enter (doF o) args) w := by
  rcases (show o = 1 ∨ o = 2 ∨ o = 3 ∨ o = 4 ∨ o = 5 ∨ o = 6 ∨ o = 7 ∨ o = 8 by omega) with rfl | rfl | rfl | rfl | rfl | rfl | rfl | rfl
  · exact enters_of Tryz.func74 (by kernel_rfl) rfl args w
  · exact enters_of Tryz.func75 (by kernel_rfl) rfl args w
  · exact enters_of Tryz.func76 (by kernel_rfl) rfl args w
  · exact enters_of Tryz.func77 (by kernel_rfl) rfl args w
  · exact enters_of Tryz.func78 (by kernel_rfl) rfl args w
  · exact enters_of Tryz.func79 (by kernel_rfl) rfl args w
  · exact enters_of Tryz.func80 (by kernel_rfl) rfl args w
  · exact enters_of Tryz.func81 (by kernel_rfl) rfl args w
/-- An instruction that may be, done by its function. -/
theorem dOp_any {x : Dx} {w : World} {s : Sst} (hs : Dst x w) (hg : DG x s w) {i : Ins} (hi : InsOk i x.gs.length) (hx : I64 i.x) {o : Nat} (ho : i.op = (o : Int)) : Calls Tryz.prog (doF o) #[.pointer (some ⟨x.d, 0, none⟩), i.agg] w (OpC x i s w) := by
  obtain ⟨p1, p2, p3, p4, p5, p6, p7, p8, p9, p10⟩ := hi
  rcases (show o = 1 ∨ o = 2 ∨ o = 3 ∨ o = 4 ∨ o = 5 ∨ o = 6 ∨ o = 7 ∨ o = 8 by omega) with rfl | rfl | rfl | rfl | rfl | rfl | rfl | rfl
  · exact dGet_any hs hg ho p2 ((keyOk_iff _ _ _).2 (p9 (by omega)))
  · exact dPut_any hs hg ho p2 ((keyOk_iff _ _ _).2 (p9 (by omega)))
  · exact dDelete_any hs hg ho p2 ((keyOk_iff _ _ _).2 (p9 (by omega)))
  · exact dScan_any hs hg ho p2 ((keyOk_iff _ _ _).2 (p9 (by omega))) ((keyOk_iff _ _ _).2 (p10 (by omega)))
  · exact dSet_any hs hg ho p2 hx
  · exact dAdd_any hs hg ho p2 (p8 (by omega)).1 (p8 (by omega)).2
  · exact dSub_any hs hg ho p2 (p8 (by omega)).1 (p8 (by omega)).2
  · exact dGuard_any hs hg ho p2
theorem ld_do {W : World} {H : Nat} (h : Bk W H 113 doArr) : LdO W 113 ⟨H, 0, none⟩ (.agg doArr) := by
  have h0 : W.rangeAt H 0 doArr.toList := fun j u hu => by
    rw [Nat.zero_add, h.cell, ← Array.getElem?_toList]
    exact hu
  have := run_loadAt_mid (P := Tryz.prog) W H 0 113 doArr.toList _ h0 Tryz.underlying113 rfl (by unfold doArr; kernel_rfl)
  rw [Array.toArray_toList] at this
  have e := this
  simp only [Instr.loadAt, Instr.sureAddr, Sem.run_bind, Sem.run_pure, Result.andThen_ok] at e
  exact e
theorem st_do {W : World} {H : Nat} {cs : Array Value} (hc : cs.size = 9) (h : Bk W H 113 cs) : StO W 113 ⟨H, 0, none⟩ (.agg doArr) (W.setRow H doArr) := by
  have h1 : ((Value.agg doArr).cells).size = 9 := rfl
  have hC : (Tryz.prog.info? 113).map (·.size) = some 9 := by kernel_rfl
  obtain ⟨i, hi, hs⟩ := Option.map_eq_some_iff.1 hC
  have := run_storeCells_from (P := Tryz.prog) H _ doArr.toList 0 _ W h (by rw [hc]; rfl) (fun u hu => by
    simp [doArr] at hu
    rcases hu with rfl | rfl | rfl | rfl | rfl | rfl | rfl | rfl | rfl <;> rfl)
  unfold StO storeVar
  simp [sizeOf, typeInfo, hi, hs, h1]
  exact this
theorem instructions_any (w : World) : Calls Tryz.prog 49 #[] w fun e w' => e = .returned (.agg doArr) ∧ Fr No w w' := by
  obtain ⟨Z, hZ⟩ : ∃ Z : Array Value, Z = #[.nilFunc, .nilFunc, .nilFunc, .nilFunc, .nilFunc, .nilFunc, .nilFunc, .nilFunc, .nilFunc] := ⟨_, rfl⟩
  have f0 : Fr No w (w.alloc (.cells Z 113)) := (Fr.refl _ _).alloc _
  have hb := Bk.made w 113 Z
  have hst := st_do (by rw [hZ]; rfl) hb
  have hld := ld_do (bk_row12 hb doArr)
  have hf := Lib.hid (fr_row12 f0 (g := w.heap.size) (.inr (Nat.le_refl _)) doArr)
  have Hst := Lib.hid hst
  have Hld := Lib.hid hld
  clear f0 hb hst hld
  subst hZ
  go_enter Tryz.func49, Tryz.ntmps49
  go_wp2_with ((with_reducible refine wpl_st ?_ ?_ ?_ Hst.out ?_); (· rfl); (· rfl); (· rfl); simp only [Act.put])
  exact bodyPost_ret (cell_result Tryz.results49 Hld.out rfl) rfl ⟨rfl, hf.out⟩

/-- What fails is told; if nothing failed, nothing is. -/
theorem as13 (v : Value) (w : World) : (Instr.typeAssert (.iface 111 v) 20 111 false).run Tryz.prog w = .ok v w := by kernel_rfl
theorem caught13 (p : Addr) (c y : Int) (older : List PanicEntry) (w : World) (hc : w.cell? p = some (.int .i64 y)) (hz : w.frozen? p = false) :
    CallsD Tryz.prog 48 #[.pointer (some p)] (.panicking ({ v := .iface 111 (.int .i64 c), recovered := false } :: older)) w fun e u' w' =>
      e = .returned (.tuple #[]) ∧ u' = .panicking ({ v := .iface 111 (.int .i64 c), recovered := true } :: older) ∧ w' = w.setCell p (.int .i64 c) := by
  refine callsD_of_wpS Tryz.func48 rfl fun c₀ cs hu => ?_
  apply wpS_seq
  apply wpS_region
  simp [wpOpsS, go_sem, recoverD, hu, Tryz.ntmps48, Exit.thenS]
  apply wpS_seq
  apply wpS_region
  simp [wpOpsS, go_sem, Exit.thenS]
  refine wpS_cond (t := true) (by simp [Act.eval, Array.replicate]) ?_
  simp only [if_true]
  apply wpS_region
  simp [wpOpsS, go_sem, as13, hc, hz, bodyPostS, results, Tryz.results48]
theorem quiet13 (p : Addr) (w : World) :
    CallsD Tryz.prog 48 #[.pointer (some p)] .returning w fun e u' w' => e = .returned (.tuple #[]) ∧ u' = .returning ∧ w' = w := by
  refine callsD_of_wpS Tryz.func48 rfl fun c₀ cs hu => ?_
  apply wpS_seq
  apply wpS_region
  simp [wpOpsS, go_sem, recoverD, hu, Tryz.ntmps48, Exit.thenS]
  apply wpS_seq
  apply wpS_region
  simp [wpOpsS, go_sem, Exit.thenS]
  refine wpS_cond (t := false) (by simp [Act.eval, Array.replicate]) ?_
  simp only [Bool.false_eq_true, if_false]
  refine wpS_of_wp (wp_skip ?_)
  cases c₀
  simp_all [bodyPostS, results, Tryz.results48]
end Go.Proofs.YthenadijiepmnaaGreat
/- Package step: all instructions of a step, one behind the other. -/
namespace Go.Proofs.YthenadijiepmnaaGreat
open Go.RowKit

/-- A panic's frame, as far as what is deferred looks at it. -/
def Kat (D : List Deferred) (k : Nat) (p : Addr) (a : Act) : Prop := a.defers = D ∧ a.tmps[2]? = some (.int .i64 (k : Int)) ∧ a.tmps[3]? = some (.pointer (some p))
theorem Kat.put {D : List Deferred} {k : Nat} {p : Addr} {a : Act} {d : Tmp} {v : Value} (h2 : d ≠ 2) (h3 : d ≠ 3) (h : Kat D k p (a.put (some d) v)) : Kat D k p a := by
  obtain ⟨q1, q2, q3⟩ := h
  refine ⟨q1, ?_, ?_⟩
  · rw [← q2]
    exact (Array.getElem?_setIfInBounds_ne (by omega)).symm
  · rw [← q3]
    exact (Array.getElem?_setIfInBounds_ne (by omega)).symm
def Pz (K : Act → Prop) (Q : Exit → Act → World → Prop) : Exit → Act → World → Prop
  | .panic c, a, w => K a ∧ ∀ a', K a' → Q (.panic c) a' w
  | e, a, w => Q e a w
theorem wp_pz (K : Act → Prop) {P : Program} {c : Code} {Q : Exit → Act → World → Prop} {a : Act} {w : World} (h : c.wp P (Pz K Q) a w) : c.wp P Q a w :=
  wp_mono h fun e a w h => by
    cases e <;> first | exact h | exact h.2 _ h.1
theorem Pz.put {D : List Deferred} {k : Nat} {p : Addr} {Q : Exit → Act → World → Prop} {d : Tmp} {v : Value} (h2 : d ≠ 2) (h3 : d ≠ 3) (c : List PanicEntry) (a : Act) (w : World) (h : Pz (Kat D k p) Q (.panic c) (a.put (some d) v) w) : Pz (Kat D k p) Q (.panic c) a w := ⟨h.1.put h2 h3, h.2⟩
theorem oneH_callP {P : Program} {Q : Exit → Act → World → Prop} {o : Oper} {a : Act} {w : World} {K' : Act → World → Prop} {E : Prop} {f : Nat} {args : Array Value} (d : Tmp) (hd : o.dst = some d) {ops : Array Oper} (hw : Region.wanted o (yielded ops a.tmps) = true) (hy : (execOp a.eval o).run P w = .ok (.enter f args) w) {R : Ending → World → Prop} (hc : Calls P f args w R)
    (h1 : ∀ v w', R (.returned v) w' → K' (a.put (some d) v) w') (h2 : ∀ c w', R (.panicked c) w' → Q (.panic c) a w') (h3 : ∀ w', ¬ R .outgrown w') :
    if Region.wanted o (yielded ops a.tmps) = true then Oper.wp P o a w K' Q else E := by
  rw [if_pos hw]
  unfold Oper.wp
  rw [hy]
  refine hc.mono ?_
  rintro e w' h
  cases e with
  | returned v =>
    show K' (a.put o.dst v) w'
    rw [hd]
    exact h1 v w' h
  | panicked c => exact h2 c w' h
  | outgrown => exact (h3 w' h).elim
section
variable {x : Dx} {w w' : World} {s : Sst}
theorem DG.box (h : DG x s w) {g : Nat} {t : TypeId} {cs : Array Value} (hb : Bk w g t cs) (ht : 72 ≠ t) (hd : g ≠ x.d) (hf : Fr (fun k => k = g) w w') : DG x s w' := by
  obtain ⟨rA, rc, wA, wc, h1, h2, h3⟩ := h.dl.lies
  exact ⟨⟨⟨rA, rc, wA, wc, h1.fr hf (fun e => hd e.symm), own_fr h2 hf (fun k hk e => own_apart h2 hb ht (by rw [hk, e])), own_fr h3 hf (fun k hk e => own_apart h3 hb ht (by rw [hk, e]))⟩, h.dl.mp.fr hf (h.dl.mp.apart hb), h.dl.reg⟩, h.un, h.vals⟩
/-- What all instructions come to. -/
def AllC (x : Dx) (s : Sst) (w : World) (e : Ending) (w' : World) : Prop :=
  match runI x.ask x.mr x.mw x.gs x.code 0 s with
  | .ok s' => e = .returned (.tuple #[.int .i64 0, .int .i64 0]) ∧ DG x s' w' ∧ Fr (DM x) w w'
  | .error (c, k) => e = .returned (.tuple #[.int .i64 (k : Int), .int .i64 (c : Int)]) ∧ Fr (DM x) w w'
set_option maxRecDepth 100000 in
set_option maxHeartbeats 8000000 in
theorem dAll_any (hs : Dst x w) (hg : DG x s w) : Calls Tryz.prog 28 #[.pointer (some ⟨x.d, 0, none⟩)] w (AllC x s w) := by
  have hmf : ∀ (fn : Fn) (first cap : Array Value) (w : World), (Instr.makeFunc fn first cap).run Tryz.prog w = .ok (.func fn first cap) w := fun _ _ _ _ => rfl
  have hdl := hg.dl.lt
  have hml := hg.dl.mp.lt
  obtain ⟨N, hN⟩ : ∃ N, x.code.length = N := ⟨_, rfl⟩
  have hN8 : N ≤ 8 := by have := hs.cl; omega
  have HS := Lib.hid (fun W (hW : Fr (DM x) w W) => hs.fr hW)
  have HG0 := Lib.hid (fun W (hW : Fr No w W) => hg.fr0 hW)
  have HOp := Lib.hid (fun (W : World) (s1 : Sst) (k : Nat) (hk : k < x.code.length) (h1 : Dst x W) (h2 : DG x s1 W) (o : Nat) (ho : x.code[k].op = (o : Int)) => dOp_any h1 h2 (hs.ins hk) (hs.imm _ (List.getElem_mem hk)) ho)
  have HIn := Lib.hid (fun (k : Nat) (hk : k < x.code.length) => (hs.ins hk).1)
  have Hcd := Lib.hid (fun W (hW : Fr (DM x) w W) => ((hs.fr hW).code.more (Nat.le_of_lt (hs.fr hW).lt)))
  have HN := Lib.hid hN
  have HIn2 := Lib.hid (fun W => instructions_any W)
  have fc : Fr No w (w.alloc (.cells #[.int .i64 0] 35)) := (Fr.refl _ _).alloc _
  have HFc := Lib.hid fc
  have bc := Lib.hid (Bk.made w 35 #[.int .i64 0])
  obtain ⟨d, hdd⟩ : ∃ d, x.d = d := ⟨_, rfl⟩
  obtain ⟨cb, hcb⟩ : ∃ cb, w.heap.size = cb := ⟨_, rfl⟩
  have Hdd := Lib.hid hdd
  have Hcb := Lib.hid hcb
  have HD : Hid (∀ i, DM x i → i < cb) := Lib.hid (fun i e => by rcases e with e | e <;> omega)
  have hdcb : d < cb := by omega
  rw [hcb] at bc
  clear hs hg hN fc hdl hml
  rw [hdd]
  clear hdd
  go_enter_defers Tryz.func28, Tryz.ntmps28
  go_wp2_with fail
  refine (HIn2.out _).mono ?_
  rintro e w1 ⟨rfl, f1⟩
  have HF1 : Hid (Fr No w w1) := Lib.hid (HFc.out.trans' f1 (fun _ _ e => e))
  have bc1 := Lib.hid (bc.out.fr f1 (fun e => e))
  obtain ⟨ab, hab⟩ : ∃ ab, w1.heap.size = ab := ⟨_, rfl⟩
  have Hab := Lib.hid hab
  have hcab : cb < ab := by have := bc1.out.lt; omega
  obtain ⟨Z, hZ⟩ : ∃ Z : Array Value, Z = #[.nilFunc, .nilFunc, .nilFunc, .nilFunc, .nilFunc, .nilFunc, .nilFunc, .nilFunc, .nilFunc] := ⟨_, rfl⟩
  have hbA := Bk.made w1 113 Z
  have hst := st_do (by rw [hZ]; rfl) hbA
  have hbB := bk_row12 hbA doArr
  have fA := fr_row12 (HF1.out.alloc (.cells Z 113)) (g := w1.heap.size) (.inr (by have := HF1.out.size; omega)) doArr
  have fB := fr_row12 ((Fr.refl No w1).alloc (.cells Z 113)) (g := w1.heap.size) (.inr (Nat.le_refl _)) doArr
  obtain ⟨W1, hW1⟩ : ∃ W1, (w1.alloc (.cells Z 113)).setRow w1.heap.size doArr = W1 := ⟨_, rfl⟩
  rw [hW1] at hst hbB fA fB
  rw [hab] at hst hbB
  have Hst := Lib.hid hst
  have HbA := Lib.hid hbB
  have HbC := Lib.hid (bc1.out.fr fB (fun e => e))
  have HFW := Lib.hid fA
  have HG1 := Lib.hid (HG0.out _ fA)
  obtain ⟨c0, -⟩ := HG1.out.dl.cell
  rw [Hdd.out, HN.out] at c0
  subst hZ
  clear hst hbB fA fB hbA f1 HF1 HFc bc bc1 hW1 HG0 HIn2
  go_wp2_with ((with_reducible refine wpl_st ?_ ?_ ?_ Hst.out ?_); (· rfl); (· rfl); (· rfl); simp only [Act.put])
  go_loopw [15] (fun iv wr => ∃ (k : Nat) (s1 : Sst), k ≤ N ∧ iv = .int .i64 k ∧ Hid (runI x.ask x.mr x.mw x.gs (x.code.take k) 0 s = .ok s1) ∧ Hid (DG x s1 wr) ∧ Hid (Fr (DM x) W1 wr)) (fun i _ => N - (intOf i).toNat)
  case atStart => exact ⟨0, s, Nat.zero_le _, rfl, Lib.hid (by simp [runI]), HG1, Lib.hid (Fr.refl _ _)⟩
  case round =>
    clear HG1 c0 Hst hmf
    obtain ⟨k, s1, hk, rfl, hrun, hgr, hfr⟩ := hrel
    have hfw := Lib.hid (HFW.out.nm.trans' hfr.out (fun _ _ e => e))
    by_cases hlt : k < N
    · have hkl : k < x.code.length := by rw [HN.out]; exact hlt
      obtain ⟨ad, had, hb, g0, g1, g2, g3, g4, g5, g6, g7, g8⟩ := (Hcd.out _ hfw.out).ins9 hkl
      rw [had]
      have hin := HIn.out k hkl
      obtain ⟨o, ho⟩ : ∃ o : Nat, x.code[k].op = (o : Int) := ⟨x.code[k].op.toNat, (Int.toNat_of_nonneg (by omega)).symm⟩
      have ho1 : 1 ≤ o ∧ o ≤ 8 := by omega
      have HO := Lib.hid (fun W (h1 : Dst x W) (h2 : DG x s1 W) => HOp.out W s1 k hkl h1 h2 o ho)
      have Hnx := Lib.hid (fun s2 (h : stepI x.ask x.mr x.mw x.gs x.code[k] s1 = .ok s2) => runI_next hkl hrun.out h)
      have Hfl := Lib.hid (fun e (h : stepI x.ask x.mr x.mw x.gs x.code[k] s1 = .error e) => runI_fails hkl hrun.out h)
      rw [ho] at g0
      unfold OpC at HO
      unfold Ins.agg at HO
      rw [ho] at HO
      generalize stepI x.ask x.mr x.mw x.gs x.code[k] s1 = st at *
      generalize x.code[k].a = ia at *
      generalize x.code[k].b = ib at *
      generalize x.code[k].c = ic at *
      generalize x.code[k].ka = ika at *
      generalize x.code[k].kb = ikb at *
      generalize x.code[k].la = ila at *
      generalize x.code[k].lb = ilb at *
      generalize x.code[k].x = ix at *
      clear hin ho hb had
      have f0 : Fr No wr (wr.alloc (.cells #[.int .i64 (o : Int), .int .i64 ia, .int .i64 ib, .int .i64 ic, .int .i64 ika, .int .i64 ikb, .int .i64 ila, .int .i64 ilb, .int .i64 ix] 66)).drew := ((Fr.refl _ _).alloc _).drew
      have bx : Bk (wr.alloc (.cells #[.int .i64 (o : Int), .int .i64 ia, .int .i64 ib, .int .i64 ic, .int .i64 ika, .int .i64 ikb, .int .i64 ila, .int .i64 ilb, .int .i64 ix] 66)).drew wr.heap.size 66 #[.int .i64 (o : Int), .int .i64 ia, .int .i64 ib, .int .i64 ic, .int .i64 ika, .int .i64 ikb, .int .i64 ila, .int .i64 ilb, .int .i64 ix] := (Bk.made wr _ _).fr ((Fr.refl No _).drew) (fun e => e)
      obtain ⟨q, hq⟩ : ∃ q, wr.heap.size = q := ⟨_, rfl⟩
      rw [hq] at bx
      have Hqd : Hid (∀ i, DM x i → i ≠ q) := Lib.hid (fun i e h => by have h1 := HD.out i e; have h2 := HFW.out.size; have h3 := hfr.out.size; have h4 := Hcb.out; omega)
      have Hq := Lib.hid (fun W (hW : Fr (DM x) (wr.alloc (.cells #[.int .i64 (o : Int), .int .i64 ia, .int .i64 ib, .int .i64 ic, .int .i64 ika, .int .i64 ikb, .int .i64 ila, .int .i64 ilb, .int .i64 ix] 66)).drew W) => bx.fr hW (fun e => Hqd.out _ e rfl))
      have HA := Lib.hid (fun W (hW : Fr (DM x) wr W) => HbA.out.fr (hfr.out.trans' hW (fun _ _ e => e)) (fun e => by have := HD.out _ e; omega))
      have HC := Lib.hid (fun W (hW : Fr (DM x) wr W) => HbC.out.fr (hfr.out.trans' hW (fun _ _ e => e)) (fun e => by have := HD.out _ e; omega))
      have Hoa := Lib.hid (doArr_at ho1.1 ho1.2)
      have hen := doF_enters ho1.1 ho1.2
      have HOc := Lib.hid (HO.out _ ((HS.out _ hfw.out).fr0 f0) (hgr.out.fr0 f0))
      rw [Hdd.out] at HOc
      have HF0 := Lib.hid f0
      have HFw := Lib.hid (fun W (hW : Fr (DM x) (wr.alloc (.cells #[.int .i64 (o : Int), .int .i64 ia, .int .i64 ib, .int .i64 ic, .int .i64 ika, .int .i64 ikb, .int .i64 ila, .int .i64 ilb, .int .i64 ix] 66)).drew W) => (f0.nm (x := x)).trans' hW (fun _ _ e => e))
      have b0 := bx.cell 0
      have b1 := bx.cell 1
      have b2 := bx.cell 2
      have b3 := bx.cell 3
      have b4 := bx.cell 4
      have b5 := bx.cell 5
      have b6 := bx.cell 6
      have b7 := bx.cell 7
      have b8 := bx.cell 8
      have ba := ((HA.out _ (f0.nm)).cell o).trans Hoa.out
      unfold fnV at ba
      simp only [List.getElem?_toArray, List.getElem?_cons_succ, List.getElem?_cons_zero] at b0 b1 b2 b3 b4 b5 b6 b7 b8
      have q1 : (0 : Int) ≤ (o : Int) := by omega
      have q2 : (o : Int) < 9 := by omega
      clear bx f0 ho1 HO HOp HIn
      cases st with
      | ok s2 =>
        simp only at HOc
        go_wp2_with fail
        refine wp_pz (Kat [{ target := Target.fn (Fn.func 48) #[.pointer (some ⟨cb, 0, none⟩)], args := #[] }] k ⟨cb, 0, none⟩) ?_
        refine wp_region_held_drew (S := fun w' => w'.cell? ⟨q, 0, none⟩ = some (.int .i64 (o : Int)) ∧ w'.cell? ⟨q, 1, none⟩ = some (.int .i64 ia) ∧ w'.cell? ⟨q, 2, none⟩ = some (.int .i64 ib) ∧ w'.cell? ⟨q, 3, none⟩ = some (.int .i64 ic) ∧ w'.cell? ⟨q, 4, none⟩ = some (.int .i64 ika) ∧ w'.cell? ⟨q, 5, none⟩ = some (.int .i64 ikb) ∧ w'.cell? ⟨q, 6, none⟩ = some (.int .i64 ila) ∧ w'.cell? ⟨q, 7, none⟩ = some (.int .i64 ilb) ∧ w'.cell? ⟨q, 8, none⟩ = some (.int .i64 ix) ∧ w'.cell? ⟨ab, o, none⟩ = some (.func (.func (doF o)) #[] #[])) (by kernel_rfl) (⟨b0, b1, b2, b3, b4, b5, b6, b7, b8, ba⟩) (fun hHeld => ?_)
        refine any_take 21 (.pointer (some ⟨q, 0, none⟩)) (i := 0) rfl rfl (by kernel_rfl) (by kernel_rfl) (by kernel_rfl) (fun c a w h => Pz.put (by decide) (by decide) c a w h) (by rfl) (by intro w hSw; (try dsimp only at hSw); go_simp; try with_reducible rfl) (by assumption) ?_
        simp only [Act.put, List.setIfInBounds_toArray, List.set_cons_zero, List.set_cons_succ]
        refine any_take 22 (.int .i64 (o : Int)) (i := 1) rfl rfl (by kernel_rfl) (by kernel_rfl) (by kernel_rfl) (fun c a w h => Pz.put (by decide) (by decide) c a w h) (by rfl) (by intro w hSw; (try dsimp only at hSw); go_simp; try with_reducible rfl) (by assumption) ?_
        simp only [Act.put, List.setIfInBounds_toArray, List.set_cons_zero, List.set_cons_succ]
        refine any_take 23 (.pointer (some ⟨ab, o, none⟩)) (i := 2) rfl rfl (by kernel_rfl) (by kernel_rfl) (by kernel_rfl) (fun c a w h => Pz.put (by decide) (by decide) c a w h) (by rfl) (by intro w hSw; (try dsimp only at hSw); go_simp; try with_reducible rfl) (by assumption) ?_
        simp only [Act.put, List.setIfInBounds_toArray, List.set_cons_zero, List.set_cons_succ]
        refine any_take 24 (.func (.func (doF o)) #[] #[]) (i := 3) rfl rfl (by kernel_rfl) (by kernel_rfl) (by kernel_rfl) (fun c a w h => Pz.put (by decide) (by decide) c a w h) (by rfl) (by intro w hSw; (try dsimp only at hSw); go_simp; try with_reducible rfl) (by assumption) ?_
        simp only [Act.put, List.setIfInBounds_toArray, List.set_cons_zero, List.set_cons_succ]
        refine any_take 25 (.pointer (some ⟨d, 0, none⟩)) (i := 4) rfl rfl (by kernel_rfl) (by kernel_rfl) (by kernel_rfl) (fun c a w h => Pz.put (by decide) (by decide) c a w h) (by rfl) (by intro w hSw; (try dsimp only at hSw); go_simp; try with_reducible rfl) (by assumption) ?_
        simp only [Act.put, List.setIfInBounds_toArray, List.set_cons_zero, List.set_cons_succ]
        refine any_take 26 (.agg #[.int .i64 (o : Int), .int .i64 ia, .int .i64 ib, .int .i64 ic, .int .i64 ika, .int .i64 ikb, .int .i64 ila, .int .i64 ilb, .int .i64 ix]) (i := 5) rfl rfl (by kernel_rfl) (by kernel_rfl) (by kernel_rfl) (fun c a w h => Pz.put (by decide) (by decide) c a w h) (by rfl) (by intro w hSw; (try dsimp only at hSw); go_simp; try with_reducible rfl) (by assumption) ?_
        simp only [Act.put, List.setIfInBounds_toArray, List.set_cons_zero, List.set_cons_succ]
        refine wpAnyH_ready (rs := [6]) (by kernel_rfl) (by simp) ?_
        refine AllReadyH.cons rfl (fun K' hK => ?_) AllReadyH.nil
        refine oneH_callP (f := doF o) (args := #[.pointer (some ⟨d, 0, none⟩), .agg #[.int .i64 (o : Int), .int .i64 ia, .int .i64 ib, .int .i64 ic, .int .i64 ika, .int .i64 ikb, .int .i64 ila, .int .i64 ilb, .int .i64 ix]]) 27 rfl (by rfl) (by go_simp) HOc.out ?_ ?_ ?_
        · rintro v w2 ⟨he, h2, f2⟩
          have hbq := Hq.out _ f2
          have d0 := hbq.cell 0
          have d1 := hbq.cell 1
          have d2 := hbq.cell 2
          have d3 := hbq.cell 3
          have d4 := hbq.cell 4
          have d5 := hbq.cell 5
          have d6 := hbq.cell 6
          have d7 := hbq.cell 7
          have d8 := hbq.cell 8
          have da := ((HA.out _ (HFw.out _ f2)).cell o).trans Hoa.out
          unfold fnV at da
          simp only [List.getElem?_toArray, List.getElem?_cons_succ, List.getElem?_cons_zero] at d0 d1 d2 d3 d4 d5 d6 d7 d8
          have HG2 := Lib.hid h2
          have HF2 := Lib.hid (hfr.out.trans' (HFw.out _ f2) (fun _ _ e => e))
          injection he with he
          subst he
          refine hK.out _ _ ⟨d0, d1, d2, d3, d4, d5, d6, d7, d8, da⟩ (fun hHeld => ?_)
          clear hK hbq d0 d1 d2 d3 d4 d5 d6 d7 d8 da h2 f2
          try simp only [Act.put, List.setIfInBounds_toArray, List.set_cons_zero, List.set_cons_succ]
          refine wpAnyH_done (by kernel_rfl) ?_ _
          clear hHeld
          simp only [Pz]
          go_wp2
          go_roundw
          case rel => exact ⟨k + 1, s2, by omega, by go_num, Lib.hid (Hnx.out _ rfl), HG2, HF2⟩
          case measure => simp [intOf]; omega
        · rintro c w2 ⟨he, -⟩
          cases he
        · rintro w2 ⟨he, -⟩
          cases he
      | error er =>
        simp only at HOc
        go_wp2_with fail
        refine wp_pz (Kat [{ target := Target.fn (Fn.func 48) #[.pointer (some ⟨cb, 0, none⟩)], args := #[] }] k ⟨cb, 0, none⟩) ?_
        refine wp_region_held_drew (S := fun w' => w'.cell? ⟨q, 0, none⟩ = some (.int .i64 (o : Int)) ∧ w'.cell? ⟨q, 1, none⟩ = some (.int .i64 ia) ∧ w'.cell? ⟨q, 2, none⟩ = some (.int .i64 ib) ∧ w'.cell? ⟨q, 3, none⟩ = some (.int .i64 ic) ∧ w'.cell? ⟨q, 4, none⟩ = some (.int .i64 ika) ∧ w'.cell? ⟨q, 5, none⟩ = some (.int .i64 ikb) ∧ w'.cell? ⟨q, 6, none⟩ = some (.int .i64 ila) ∧ w'.cell? ⟨q, 7, none⟩ = some (.int .i64 ilb) ∧ w'.cell? ⟨q, 8, none⟩ = some (.int .i64 ix) ∧ w'.cell? ⟨ab, o, none⟩ = some (.func (.func (doF o)) #[] #[])) (by kernel_rfl) (⟨b0, b1, b2, b3, b4, b5, b6, b7, b8, ba⟩) (fun hHeld => ?_)
        refine any_take 21 (.pointer (some ⟨q, 0, none⟩)) (i := 0) rfl rfl (by kernel_rfl) (by kernel_rfl) (by kernel_rfl) (fun c a w h => Pz.put (by decide) (by decide) c a w h) (by rfl) (by intro w hSw; (try dsimp only at hSw); go_simp; try with_reducible rfl) (by assumption) ?_
        simp only [Act.put, List.setIfInBounds_toArray, List.set_cons_zero, List.set_cons_succ]
        refine any_take 22 (.int .i64 (o : Int)) (i := 1) rfl rfl (by kernel_rfl) (by kernel_rfl) (by kernel_rfl) (fun c a w h => Pz.put (by decide) (by decide) c a w h) (by rfl) (by intro w hSw; (try dsimp only at hSw); go_simp; try with_reducible rfl) (by assumption) ?_
        simp only [Act.put, List.setIfInBounds_toArray, List.set_cons_zero, List.set_cons_succ]
        refine any_take 23 (.pointer (some ⟨ab, o, none⟩)) (i := 2) rfl rfl (by kernel_rfl) (by kernel_rfl) (by kernel_rfl) (fun c a w h => Pz.put (by decide) (by decide) c a w h) (by rfl) (by intro w hSw; (try dsimp only at hSw); go_simp; try with_reducible rfl) (by assumption) ?_
        simp only [Act.put, List.setIfInBounds_toArray, List.set_cons_zero, List.set_cons_succ]
        refine any_take 24 (.func (.func (doF o)) #[] #[]) (i := 3) rfl rfl (by kernel_rfl) (by kernel_rfl) (by kernel_rfl) (fun c a w h => Pz.put (by decide) (by decide) c a w h) (by rfl) (by intro w hSw; (try dsimp only at hSw); go_simp; try with_reducible rfl) (by assumption) ?_
        simp only [Act.put, List.setIfInBounds_toArray, List.set_cons_zero, List.set_cons_succ]
        refine any_take 25 (.pointer (some ⟨d, 0, none⟩)) (i := 4) rfl rfl (by kernel_rfl) (by kernel_rfl) (by kernel_rfl) (fun c a w h => Pz.put (by decide) (by decide) c a w h) (by rfl) (by intro w hSw; (try dsimp only at hSw); go_simp; try with_reducible rfl) (by assumption) ?_
        simp only [Act.put, List.setIfInBounds_toArray, List.set_cons_zero, List.set_cons_succ]
        refine any_take 26 (.agg #[.int .i64 (o : Int), .int .i64 ia, .int .i64 ib, .int .i64 ic, .int .i64 ika, .int .i64 ikb, .int .i64 ila, .int .i64 ilb, .int .i64 ix]) (i := 5) rfl rfl (by kernel_rfl) (by kernel_rfl) (by kernel_rfl) (fun c a w h => Pz.put (by decide) (by decide) c a w h) (by rfl) (by intro w hSw; (try dsimp only at hSw); go_simp; try with_reducible rfl) (by assumption) ?_
        simp only [Act.put, List.setIfInBounds_toArray, List.set_cons_zero, List.set_cons_succ]
        refine wpAnyH_ready (rs := [6]) (by kernel_rfl) (by simp) ?_
        refine AllReadyH.cons rfl (fun K' hK => ?_) AllReadyH.nil
        refine oneH_callP (f := doF o) (args := #[.pointer (some ⟨d, 0, none⟩), .agg #[.int .i64 (o : Int), .int .i64 ia, .int .i64 ib, .int .i64 ic, .int .i64 ika, .int .i64 ikb, .int .i64 ila, .int .i64 ilb, .int .i64 ix]]) 27 rfl (by rfl) (by go_simp) HOc.out ?_ ?_ ?_
        · rintro v w2 ⟨he, -⟩
          cases he
        · rintro c w2 ⟨he, f2⟩
          injection he with he
          subst he
          refine ⟨⟨rfl, rfl, rfl⟩, fun a' hK' => ?_⟩
          obtain ⟨e1, e2, e3⟩ := hK'
          have bcr := HC.out _ (HFw.out _ f2)
          have HFin : Hid (AllC x s w (.returned (.tuple #[.int .i64 (k : Int), .int .i64 (er : Int)])) (w2.setCell ⟨cb, 0, none⟩ (.int .i64 (er : Int)))) := Lib.hid (by
            unfold AllC
            rw [Hfl.out _ rfl]
            exact ⟨rfl, (hfw.out.trans' (HFw.out _ f2) (fun _ _ e => e)).setCell (p := ⟨cb, 0, none⟩) (.inr (by show w.heap.size ≤ cb; have := Hcb.out; omega)) _⟩)
          have c9 := (bcr.put 0 (.int .i64 (er : Int))).cell 0
          simp at c9
          change Leaves _ _ a'.tmps _ a'.defers _ _
          rw [e1]
          refine leaves_cons (f := 48) (args := #[.pointer (some ⟨cb, 0, none⟩)]) (by simp) (by simp [go_sem]) ?_
          refine (caught13 ⟨cb, 0, none⟩ (er : Int) 0 [] _ (bcr.cell 0) (bcr.frozen 0)).mono ?_
          rintro e u' w'' ⟨rfl, rfl, rfl⟩
          have hfin := HFin.out
          simp [Leaves, settle, results, Tryz.results28, go_sem, c9, e2, e3]
          exact hfin
        · rintro w2 ⟨he, -⟩
          cases he
    · obtain rfl : k = N := by omega
      have hst1 : runI x.ask x.mr x.mw x.gs x.code 0 s = .ok s1 := by
        have h := hrun.out
        rwa [List.take_of_length_le (by rw [HN.out]; exact Nat.le_refl _)] at h
      have bcr := HbC.out.fr hfr.out (fun e => by have := HD.out _ e; omega)
      have cc := bcr.cell 0
      simp only [List.getElem?_toArray, List.getElem?_cons_zero] at cc
      have cz := bcr.frozen 0
      have HFin : Hid (AllC x s w (.returned (.tuple #[.int .i64 0, .int .i64 0])) (wr.setCell ⟨cb, 0, none⟩ (.int .i64 0))) := Lib.hid (by
        unfold AllC
        rw [hst1]
        exact ⟨rfl, hgr.out.box bcr (by decide) (by rw [Hdd.out]; omega) ((Fr.refl (fun k => k = cb) wr).setCell (p := ⟨cb, 0, none⟩) (.inl rfl) _), hfw.out.setCell (p := ⟨cb, 0, none⟩) (.inr (by show w.heap.size ≤ cb; have := Hcb.out; omega)) _⟩)
      have c9 := Lib.hid ((bcr.put 0 (.int .i64 0)).cell 0)
      clear hrun hst1 hgr hfr hfw bcr HOp HIn
      go_wp2
      refine leaves_cons (f := 48) (args := #[.pointer (some ⟨cb, 0, none⟩)]) (by simp) (by simp [go_sem]) ?_
      refine (quiet13 ⟨cb, 0, none⟩ _).mono ?_
      rintro e u' w'' ⟨rfl, rfl, rfl⟩
      have c9' := c9.out
      simp at c9'
      have hfin := HFin.out
      simp [Leaves, settle, results, Tryz.results28, go_sem, c9']
      exact hfin
end
end Go.Proofs.YthenadijiepmnaaGreat
