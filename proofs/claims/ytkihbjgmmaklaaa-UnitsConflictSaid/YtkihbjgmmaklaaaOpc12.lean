/- Package cat: a catalogue with other breakpoints; with all, with none. -/
import Derived.Test.YtkihbjgmmaklaaaCpr12
import Derived.Test.YtkihbjgmmaklaaaMyp12
import Derived.Test.YtkihbjgmmaklaaaHand
namespace Go.Proofs.Ytkihbjgmmaklaaa
open Go.RowKit

/-- A catalogue of the same classes, copied, with breakpoints. -/
def CopW (w : World) (p : PCt) (e : Ending) (w' : World) : Prop := ∃ y : Ctl, e = .returned y.agg ∧ y.p = p ∧ (∀ V, Fr (fun i => i < w.heap.size) w' V → Clss V y.cA y.cls) ∧ Fr No w w'
theorem build_cat (A : Option Addr) (n c : Nat) (b : Nat → Int) (W : World) (a : Act) {dst : Option Tmp} {ty : TypeId} {pos : String} {after : Array Edge} {g : Option (Tmp × Bool)} {u v : Operand} (hu : a.eval u = .slice A n c) (hv : a.eval v = .agg (br16 b)) :
    (execOp a.eval { dst := dst, op := .build 26 #[(0, u), (1, v)], type := ty, pos := pos, after := after, guard := g }).run Try.prog W = .ok (.value (.agg (brA (.slice A n c) b))) W := by
  have h : ∀ ρ : Operand → Value, ρ u = .slice A n c → ρ v = .agg (br16 b) → (execOp ρ { dst := dst, op := .build 26 #[(0, u), (1, v)], type := ty, pos := pos, after := after, guard := g }).run Try.prog W = .ok (.value (.agg (brA (.slice A n c) b))) W := by
    intro ρ h1 h2
    unfold execOp
    go_simp
    kernel_rfl
  exact h _ hu hv
set_option maxRecDepth 100000 in
set_option maxHeartbeats 4000000 in
theorem with_any (x : Ctl) (b' : Nat → Int) (w : World) (hx : Clss w x.cA x.cls) (hn : x.cls.length ≤ 1099511627776) (hf : ∀ c ∈ x.cls, c.Few) : Calls Try.prog 30 #[x.agg, .agg (br16 b')] w (CopW w ⟨x.p.cs, b'⟩) := by
  unfold Ctl.agg
  obtain ⟨Z, hZ⟩ : ∃ Z, Z = x.arr := ⟨_, rfl⟩
  rw [← hZ]
  rw [Ctl.arr_eq] at hZ
  have HC := Lib.hid (fun W (hW : Fr No w W) => copClasses_any x.cls x.cA x.cls.length x.cc W (hx.since hW) rfl hn hf)
  obtain ⟨W0, hW0⟩ : ∃ W0, W0 = ((w.alloc (.cells Z 26)).alloc (.cells (br16 b') 24)).alloc (.cells (brA (.slice none 0 0) fun _ => 0) 26) := ⟨_, rfl⟩
  have f0 : Fr No w W0 := by rw [hW0]; exact (((Fr.refl _ _).alloc _).alloc _).alloc _
  have bZ : Bk W0 w.heap.size 26 Z := by rw [hW0]; exact ((Bk.made w _ _).fr ((Fr.refl No _).alloc _) (fun e => e)).fr ((Fr.refl No _).alloc _) (fun e => e)
  have bB : Bk W0 (w.heap.size + 1) 24 (br16 b') := by
    have h := Bk.made (w.alloc (.cells Z 26)) 24 (br16 b')
    rw [World.size_alloc] at h
    rw [hW0]
    exact h.fr ((Fr.refl No _).alloc _) (fun e => e)
  have bR : Bk W0 (w.heap.size + 1 + 1) 26 (brA (.slice none 0 0) fun _ => 0) := by
    have h := Bk.made ((w.alloc (.cells Z 26)).alloc (.cells (br16 b') 24)) 26 (brA (.slice none 0 0) fun _ => 0)
    rw [World.size_alloc, World.size_alloc] at h
    rw [hW0]
    exact h
  have HFA : Hid (∀ W, Fr (Only (w.heap.size + 1 + 1)) W0 W → (W.cell? ⟨w.heap.size, 0, none⟩ = some (.slice x.cA x.cls.length x.cc)) ∧ LdO W 24 ⟨w.heap.size + 1, 0, none⟩ (.agg (br16 b'))) := Lib.hid (fun W h =>
    ⟨by rw [(bZ.fr h (fun e => by have e : w.heap.size = w.heap.size + 1 + 1 := e; omega)).cell, hZ]; rfl, ld_br (bB.fr h (fun e => by have e : w.heap.size + 1 = w.heap.size + 1 + 1 := e; omega))⟩)
  have HF := Lib.hid f0
  have HR := Lib.hid bR
  have hwe : ((w.alloc (.cells Z 26)).alloc (.cells (br16 b') 24)).alloc (.cells #[.slice none 0 0, .int .i64 0, .int .i64 0, .int .i64 0, .int .i64 0, .int .i64 0, .int .i64 0, .int .i64 0, .int .i64 0, .int .i64 0, .int .i64 0, .int .i64 0, .int .i64 0, .int .i64 0, .int .i64 0, .int .i64 0, .int .i64 0] 26) = W0 := hW0.symm
  have Hxp : Hid (x.p.cs = x.cls.map Cls.p) := Lib.hid rfl
  generalize x.p.cs = cs at *
  obtain ⟨cA, cls, cc, b⟩ := x
  simp only at *
  obtain ⟨n, hnn⟩ : ∃ n, n = cls.length := ⟨_, rfl⟩
  rw [← hnn] at HC HFA hn
  have Hnn := Lib.hid hnn
  clear hx hf hZ hW0 f0 bZ bB bR hnn
  go_enter Try.func30, Try.ntmps30
  go_wp2_with fail
  have HC1 := Lib.hid (HC.out _ (HF.out.drew))
  refine wp_region_held_drew (S := fun W => W.cell? ⟨w.heap.size, 0, none⟩ = some (.slice cA n cc) ∧ LdO W 24 ⟨w.heap.size + 1, 0, none⟩ (.agg (br16 b'))) (by kernel_rfl) (HFA.out _ ((Fr.refl _ W0).drew)) (fun hHeld => ?_)
  refine any_take 5 (.pointer (some ⟨w.heap.size, 0, none⟩)) (i := 0) rfl rfl (by kernel_rfl) (by kernel_rfl) (by kernel_rfl) (fun _ _ _ h => h) (by rfl) (by intro w hSw; (try dsimp only at hSw); go_simp; try with_reducible rfl) (by assumption) ?_
  simp only [Act.put, List.setIfInBounds_toArray, List.set_cons_zero, List.set_cons_succ]
  refine any_take 6 (.slice cA n cc) (i := 1) rfl rfl (by kernel_rfl) (by kernel_rfl) (by kernel_rfl) (fun _ _ _ h => h) (by rfl) (by intro w hSw; have h0 := hSw.1; go_simp; try with_reducible rfl) (by assumption) ?_
  simp only [Act.put, List.setIfInBounds_toArray, List.set_cons_zero, List.set_cons_succ]
  refine any_take 8 ((.agg (br16 b'))) (i := 3) rfl rfl (by kernel_rfl) (by kernel_rfl) (by kernel_rfl) (fun _ _ _ h => h) (by rfl) (by intro w hSw; exact exec_ld rfl hSw.2) (by assumption) ?_
  simp only [Act.put, List.setIfInBounds_toArray, List.set_cons_zero, List.set_cons_succ]
  refine wpAnyH_ready (rs := [2]) (by kernel_rfl) (by simp) ?_
  refine AllReadyH.cons rfl (fun K' hK => ?_) AllReadyH.nil
  go_simp
  go_at_call 52
  refine (HC1.out).mono ?_
  rintro e' w1 ⟨A1, c1, cls1, rfl, p1, o1, f1⟩
  have F1 := Lib.hid ((Fr.refl No W0).drew.trans' f1 (fun _ _ e => e))
  dsimp only
  refine hK.out _ _ (HFA.out _ (F1.out.weak (fun _ _ e => e.elim))) (fun hHeld => ?_)
  clear hK
  try simp only [Act.put, List.setIfInBounds_toArray, List.set_cons_zero, List.set_cons_succ]
  refine any_take 9 (.agg (brA (.slice A1 n c1) b')) (i := 4) rfl rfl (by kernel_rfl) (by kernel_rfl) (by kernel_rfl) (fun _ _ _ h => h) (by rfl) (by intro w hSw; exact build_cat A1 n c1 b' w _ rfl rfl) (by assumption) ?_
  simp only [Act.put, List.setIfInBounds_toArray, List.set_cons_zero, List.set_cons_succ]
  have bR1 := HR.out.fr F1.out (fun e => e)
  have hst := st_cat (v' := .slice A1 n c1) (b' := b') rfl rfl rfl bR1
  have hlt1 := bR1.lt
  obtain ⟨WF, hWF⟩ : ∃ WF, Hid (WF = w1.setRow (w.heap.size + 1 + 1) (brA (.slice A1 n c1) b')) := ⟨_, Lib.hid rfl⟩
  rw [← hWF.out] at hst
  have hFX : Fr (Only (w.heap.size + 1 + 1)) w1 WF := by rw [hWF.out]; exact fr_row12 (Fr.refl (Only (w.heap.size + 1 + 1)) w1) (.inl rfl) _
  have HbF : Hid (Bk WF (w.heap.size + 1 + 1) 26 (brA (.slice A1 n c1) b')) := Lib.hid (by rw [hWF.out]; exact bk_row12 bR1 _)
  have hSF : WF.cell? ⟨w.heap.size, 0, none⟩ = some (.slice cA n cc) ∧ LdO WF 24 ⟨w.heap.size + 1, 0, none⟩ (.agg (br16 b')) := HFA.out _ ((F1.out.weak (fun _ _ e => e.elim)).trans' hFX (fun i hi e => e))
  have e1 : cls1.length = n := by rw [Hnn.out]; have := congrArg List.length p1; simpa using this
  have HFin : Hid (CopW w ⟨cs, b'⟩ (.returned (.agg (brA (.slice A1 n c1) b'))) WF) := Lib.hid ⟨⟨A1, cls1, c1, b'⟩, by unfold Ctl.agg Ctl.arr; simp only; rw [e1], by unfold Ctl.p; simp only; rw [p1, ← Hxp.out], fun V hV => o1 V ((hFX.weak (fun i _ e => by have e : i = w.heap.size + 1 + 1 := e; have := HR.out.lt; show i < W0.heap.size; omega)).trans' hV (fun i _ e => by have e : i < w.heap.size := e; have := HF.out.size; show i < W0.heap.size; omega)), (HF.out.trans' F1.out (fun _ _ e => e)).trans' hFX (fun i hi e => by have e : i = w.heap.size + 1 + 1 := e; omega)⟩
  clear hFX e1 o1 f1 p1 bR1
  refine any_store12 (i := 5) (by kernel_rfl) rfl rfl (by rfl) (exec_st rfl rfl hst) (hSF) ?_
  refine wpAnyH_done (by kernel_rfl) ?_ _
  clear hHeld
  go_wp2
  exact bodyPost_ret (cell_result Try.results30 (ld_cat rfl HbF.out) rfl) rfl HFin.out

theorem Ctl.Nice.cap {x : Ctl} (h : x.Nice) : x.cls.length ≤ 1099511627776 := by have := h.few.n; omega
set_option maxRecDepth 100000 in
set_option maxHeartbeats 4000000 in
theorem closed_any (x : Ctl) (w : World) (hx : Clss w x.cA x.cls) (hF : x.Nice) : Calls Try.prog 14 #[x.agg] w (CopW w x.p.closed) := by
  have HC := Lib.hid (fun W (hW : Fr No w W) => with_any x (fun _ => 0) W (hx.since hW) hF.cap hF.cls)
  have Hp : Hid (x.p.closed = ⟨x.p.cs, fun _ => 0⟩) := Lib.hid rfl
  rw [Hp.out]
  generalize x.p.cs = cs at *
  unfold Ctl.agg at HC ⊢
  unfold br16 at HC
  obtain ⟨Z, hZ⟩ : ∃ Z, Z = x.arr := ⟨_, rfl⟩
  rw [← hZ] at HC ⊢
  rw [Ctl.arr_eq] at hZ
  obtain ⟨W0, hW0⟩ : ∃ W0, W0 = (w.alloc (.cells Z 26)).alloc (.cells (brA (.slice none 0 0) fun _ => 0) 26) := ⟨_, rfl⟩
  have f0 : Fr No w W0 := by rw [hW0]; exact ((Fr.refl _ _).alloc _).alloc _
  have bZ : Bk W0 w.heap.size 26 Z := by rw [hW0]; exact (Bk.made w _ _).fr ((Fr.refl No _).alloc _) (fun e => e)
  have bR : Bk W0 (w.heap.size + 1) 26 (brA (.slice none 0 0) fun _ => 0) := by
    have h := Bk.made (w.alloc (.cells Z 26)) 26 (brA (.slice none 0 0) fun _ => 0)
    rw [World.size_alloc] at h
    rw [hW0]
    exact h
  have hld := Lib.hid (ld_cat hZ bZ)
  have HR := Lib.hid bR
  have HF0 := Lib.hid f0
  have HC1 := Lib.hid (HC.out _ f0)
  have hwe : (w.alloc (.cells Z 26)).alloc (.cells #[.slice none 0 0, .int .i64 0, .int .i64 0, .int .i64 0, .int .i64 0, .int .i64 0, .int .i64 0, .int .i64 0, .int .i64 0, .int .i64 0, .int .i64 0, .int .i64 0, .int .i64 0, .int .i64 0, .int .i64 0, .int .i64 0, .int .i64 0] 26) = W0 := hW0.symm
  clear hx hF hZ hW0 f0 bZ bR HC
  go_enter Try.func14, Try.ntmps14
  go_wp2_with (first
    | ((with_reducible refine wpl_ld ?_ ?_ hld.out ?_); (· rfl); (· rfl); simp only [Act.put, List.setIfInBounds_toArray, List.set_cons_zero, List.set_cons_succ]))
  refine (HC1.out).mono ?_
  rintro e w1 ⟨y, rfl, hy, hyc, f1⟩
  have bR1 := HR.out.fr f1 (fun e => e)
  obtain ⟨Y, hY⟩ : ∃ Y, Y = y.arr := ⟨_, rfl⟩
  have hY2 := hY.trans (Ctl.arr_eq y)
  have hst := Lib.hid (st_cat (v' := .slice y.cA y.cls.length y.cc) (b' := y.b) rfl hY2 rfl bR1)
  obtain ⟨WF, hWF⟩ : ∃ WF, Hid (WF = w1.setRow (w.heap.size + 1) Y) := ⟨_, Lib.hid rfl⟩
  rw [← hWF.out] at hst
  have hFX : Fr (Only (w.heap.size + 1)) w1 WF := by rw [hWF.out]; exact fr_row12 (Fr.refl (Only (w.heap.size + 1)) w1) (.inl rfl) _
  have HbF : Hid (Bk WF (w.heap.size + 1) 26 Y) := Lib.hid (by rw [hWF.out]; exact bk_row12 bR1 _)
  have HFin : Hid (CopW w ⟨cs, fun _ => 0⟩ (.returned (.agg Y)) WF) := Lib.hid ⟨y, by rw [hY]; rfl, hy, fun V hV => hyc V ((hFX.weak (fun i _ e => by have e : i = w.heap.size + 1 := e; have := HR.out.lt; show i < W0.heap.size; omega)).trans' hV (fun i _ e => by have e : i < w.heap.size := e; have := HF0.out.size; show i < W0.heap.size; omega)), (HF0.out.trans' f1 (fun _ _ e => e)).trans' hFX (fun i hi e => by have e : i = w.heap.size + 1 := e; omega)⟩
  have HL := Lib.hid (ld_cat hY2 HbF.out)
  unfold Ctl.agg
  rw [← hY]
  clear hFX hyc f1 bR1 hwe hld hY hY2
  go_wp2_with (first
    | ((with_reducible refine wpl_st ?_ ?_ ?_ hst.out ?_); (· rfl); (· rfl); (· rfl); simp only [Act.put]))
  exact bodyPost_ret (cell_result Try.results14 HL.out rfl) rfl HFin.out

theorem opened_b (x : Ctl) (_ : x.Few) {j : Nat} (_ : j < 16) : (if j / 4 < x.cls.length ∧ j % 4 < x.cls.length then mskL (x.p.at (j / 4)).steps.length else 0) = x.p.opened.b j := by
  show _ = x.p.most (j / 4) (j % 4) - 1
  by_cases h : j / 4 < x.cls.length ∧ j % 4 < x.cls.length
  · rw [if_pos h, Ctl.most_at x h.1 h.2, pct_at x h.1]
    simp [Cls.p]
  · rw [if_neg h, Ctl.most_not x h]
    decide
set_option maxRecDepth 100000 in
set_option maxHeartbeats 4000000 in
theorem open_any (x : Ctl) (w : World) (hx : Clss w x.cA x.cls) (hF : x.Nice) : Calls Try.prog 13 #[x.agg] w (CopW w x.p.opened) := by
  have HC := Lib.hid (fun W (hW : Fr No w W) => with_any x x.p.opened.b W (hx.since hW) hF.cap hF.cls)
  have Hp : Hid (x.p.opened = ⟨x.p.cs, x.p.opened.b⟩) := Lib.hid rfl
  rw [Hp.out]
  have Hb := Lib.hid (fun j (hj : j < 16) => opened_b x hF.few hj)
  unfold Ctl.agg at HC ⊢
  obtain ⟨Z, hZ⟩ : ∃ Z, Z = x.arr := ⟨_, rfl⟩
  have hZa := hZ
  rw [← hZ] at HC ⊢
  rw [Ctl.arr_eq] at hZ
  obtain ⟨W0, hW0⟩ : ∃ W0, W0 = (w.alloc (.cells Z 26)).alloc (.cells (brA (.slice none 0 0) fun _ => 0) 26) := ⟨_, rfl⟩
  have f0 : Fr No w W0 := by rw [hW0]; exact ((Fr.refl _ _).alloc _).alloc _
  have bZ : Bk W0 w.heap.size 26 Z := by rw [hW0]; exact (Bk.made w _ _).fr ((Fr.refl No _).alloc _) (fun e => e)
  have bR : Bk W0 (w.heap.size + 1) 26 (brA (.slice none 0 0) fun _ => 0) := by
    have h := Bk.made (w.alloc (.cells Z 26)) 26 (brA (.slice none 0 0) fun _ => 0)
    rw [World.size_alloc] at h
    rw [hW0]
    exact h
  have fD : Fr No W0 W0.drew := (Fr.refl No W0).drew
  have CE := each_open Z x.cA x.cls.length x.cc x.b hZ hF.few.n ⟨w.heap.size, 0, none⟩ W0.drew (fun (_ : Unit) W => Fr No W0.drew W) No (fun _ i => mskL (x.p.at ((i / x.cls.length * 4 + i % x.cls.length) / 4)).steps.length) (fun s _ => s) () (fun _ h => h.elim) (Fr.refl _ _)
    (fun _ W W' h h2 => h.trans' h2 (fun i hi e => by have e : W0.drew.heap.size ≤ i := e; omega))
    (fun _ i W hi hf hr => by
      have hn := hF.few.n
      have hn0 : 0 < x.cls.length := by
        rcases Nat.eq_zero_or_pos x.cls.length with e | e
        · rw [e] at hi
          omega
        · exact e
      have i1 : i / x.cls.length < x.cls.length := Nat.div_lt_of_lt_mul hi
      have i2 : i % x.cls.length < x.cls.length := Nat.mod_lt _ hn0
      have e1 : (i / x.cls.length * 4 + i % x.cls.length) / 4 = i / x.cls.length := by omega
      have hr0 := fD.trans' hr (fun _ _ e => e)
      rw [e1, pct_at x i1, show (Cls.p x.cls[i / x.cls.length]).steps.length = x.cls[i / x.cls.length].steps.length by simp [Cls.p]]
      refine (opn1_any x w.heap.size _ _ W ?_ ((hx.since f0).since hr0) hF.few i1).mono (fun e W' h => ⟨h.1, hr.trans' h.2 (fun _ _ e => e), h.2⟩)
      rw [← hZa]
      exact bZ.fr hr0 (fun e => e))
  have hbr : br16 (stE (fun (_ : Unit) i => mskL (x.p.at ((i / x.cls.length * 4 + i % x.cls.length) / 4)).steps.length) (fun s _ => s) x.cls.length () (List.range (x.cls.length * x.cls.length))).2 = br16 x.p.opened.b := by
    refine br16_congr (fun j hj => ?_)
    rw [stE_at (fun p => mskL (x.p.at (p / 4)).steps.length) hF.few.n]
    exact Hb.out j hj
  rw [hbr] at CE
  have HE := Lib.hid CE
  have HR := Lib.hid bR
  have HF0 := Lib.hid f0
  have HLd : Hid (∀ W, Fr (Only (w.heap.size + 1)) W0 W → LdO W 26 ⟨w.heap.size, 0, none⟩ (.agg Z)) := Lib.hid (fun W h => ld_cat hZ (bZ.fr h (fun e => by have e : w.heap.size = w.heap.size + 1 := e; omega)))
  have hwe : (w.alloc (.cells Z 26)).alloc (.cells #[.slice none 0 0, .int .i64 0, .int .i64 0, .int .i64 0, .int .i64 0, .int .i64 0, .int .i64 0, .int .i64 0, .int .i64 0, .int .i64 0, .int .i64 0, .int .i64 0, .int .i64 0, .int .i64 0, .int .i64 0, .int .i64 0, .int .i64 0] 26) = W0 := hW0.symm
  generalize x.p.opened.b = b' at *
  generalize x.p.cs = cs at *
  clear hx hF hZ hZa hW0 f0 bZ bR CE hbr Hb fD
  go_enter Try.func13, Try.ntmps13
  go_wp2_with fail
  refine wp_region_held_drew (S := fun W => LdO W 26 ⟨w.heap.size, 0, none⟩ (.agg Z)) (by kernel_rfl) (HLd.out _ ((Fr.refl _ W0).drew)) (fun hHeld => ?_)
  refine any_take 3 ((.agg Z)) (i := 0) rfl rfl (by kernel_rfl) (by kernel_rfl) (by kernel_rfl) (fun _ _ _ h => h) (by rfl) (by intro w hSw; exact exec_ld rfl hSw) (by assumption) ?_
  simp only [Act.put, List.setIfInBounds_toArray, List.set_cons_zero, List.set_cons_succ]
  refine any_take 4 ((.agg Z)) (i := 1) rfl rfl (by kernel_rfl) (by kernel_rfl) (by kernel_rfl) (fun _ _ _ h => h) (by rfl) (by intro w hSw; exact exec_ld rfl hSw) (by assumption) ?_
  simp only [Act.put, List.setIfInBounds_toArray, List.set_cons_zero, List.set_cons_succ]
  refine any_take 5 (.func (.func 32) #[] #[.pointer (some ⟨w.heap.size, 0, none⟩)]) (i := 2) rfl rfl (by kernel_rfl) (by kernel_rfl) (by kernel_rfl) (fun _ _ _ h => h) (by rfl) (by intro w hSw; (try dsimp only at hSw); go_simp; try with_reducible rfl) (by assumption) ?_
  simp only [Act.put, List.setIfInBounds_toArray, List.set_cons_zero, List.set_cons_succ]
  refine wpAnyH_ready (rs := [3]) (by kernel_rfl) (by simp) ?_
  refine AllReadyH.cons rfl (fun K' hK => ?_) AllReadyH.nil
  go_simp
  go_at_call 31
  refine (HE.out).mono ?_
  rintro e' w1 ⟨rfl, -, f1⟩
  have F1 := Lib.hid ((Fr.refl No W0).drew.trans' f1 (fun _ _ e => e))
  have HC1 := Lib.hid (HC.out _ (HF0.out.trans' F1.out (fun _ _ e => e)))
  have Hs1 := Lib.hid F1.out.size
  dsimp only
  refine hK.out _ _ (HLd.out _ (F1.out.weak (fun _ _ e => e.elim))) (fun hHeld => ?_)
  clear hK
  try simp only [Act.put, List.setIfInBounds_toArray, List.set_cons_zero, List.set_cons_succ]
  refine wpAnyH_ready (rs := [4]) (by kernel_rfl) (by simp) ?_
  refine AllReadyH.cons rfl (fun K' hK => ?_) AllReadyH.nil
  go_simp
  go_at_call 30
  refine (HC1.out).mono ?_
  rintro e' w2 ⟨y, rfl, hy, hyc, f2⟩
  have F2 := Lib.hid (F1.out.trans' f2 (fun _ _ e => e))
  dsimp only
  refine hK.out _ _ (HLd.out _ (F2.out.weak (fun _ _ e => e.elim))) (fun hHeld => ?_)
  clear hK
  try simp only [Act.put, List.setIfInBounds_toArray, List.set_cons_zero, List.set_cons_succ]
  have bR1 := HR.out.fr F2.out (fun e => e)
  obtain ⟨Y, hY⟩ : ∃ Y, Y = y.arr := ⟨_, rfl⟩
  have hY2 := hY.trans (Ctl.arr_eq y)
  have hst := Lib.hid (st_cat (v' := .slice y.cA y.cls.length y.cc) (b' := y.b) rfl hY2 rfl bR1)
  obtain ⟨WF, hWF⟩ : ∃ WF, Hid (WF = w2.setRow (w.heap.size + 1) Y) := ⟨_, Lib.hid rfl⟩
  rw [← hWF.out] at hst
  have hFX : Fr (Only (w.heap.size + 1)) w2 WF := by rw [hWF.out]; exact fr_row12 (Fr.refl (Only (w.heap.size + 1)) w2) (.inl rfl) _
  have HbF : Hid (Bk WF (w.heap.size + 1) 26 Y) := Lib.hid (by rw [hWF.out]; exact bk_row12 bR1 _)
  have HFin : Hid (CopW w ⟨cs, b'⟩ (.returned (.agg Y)) WF) := Lib.hid ⟨y, by rw [hY]; rfl, hy, fun V hV => hyc V ((hFX.weak (fun i _ e => by have e : i = w.heap.size + 1 := e; have := HR.out.lt; have := Hs1.out; show i < w1.heap.size; omega)).trans' hV (fun i _ e => by have e : i < w.heap.size := e; have := HF0.out.size; have := Hs1.out; show i < w1.heap.size; omega)), (HF0.out.trans' F2.out (fun _ _ e => e)).trans' hFX (fun i hi e => by have e : i = w.heap.size + 1 := e; omega)⟩
  have HL := Lib.hid (ld_cat hY2 HbF.out)
  have hSF := HLd.out WF ((F2.out.weak (fun _ _ e => e.elim)).trans' hFX (fun i hi e => e))
  unfold Ctl.agg
  rw [← hY]
  clear hFX hyc f2 f1 bR1 hY hY2
  refine any_store12 (i := 5) (by kernel_rfl) rfl rfl (by rfl) (exec_st rfl rfl hst.out) (hSF) ?_
  refine wpAnyH_done (by kernel_rfl) ?_ _
  clear hHeld
  go_wp2
  exact bodyPost_ret (cell_result Try.results13 HL.out rfl) rfl HFin.out
end Go.Proofs.Ytkihbjgmmaklaaa
