/- Package step: the outcome of a step that didn't fail. -/
import Derived.Test.YthenadijiepmnaaGreatSrt13
namespace Go.Proofs.YthenadijiepmnaaGreat
open Go.RowKit Go.Shelf

theorem info_chg : (Tryz.prog.info? 57).map (fun i => (i.zero, i.size, i.bytes)) = some (some (.agg #[.int .i64 0, .bool false, .int .i64 0]), 3, 24) := by kernel_rfl
/-- What has been gathered. -/
def GaI (w : World) (Bl : Nat) (c : Nat → Chg) (pre : List Nat) (W : World) : Prop :=
  (∃ v, Boxed W Bl 37 v ∧ W.ownsRow w.heap.size 57 3 v pre.length ((pre.map c).flatMap Chg.cells)) ∧ Below w.heap.size w W
theorem GaI.own (w : World) (Bl : Nat) (c : Nat → Chg) (B : Nat) (hB : w.heap.size ≤ B) : OwnFrom B (GaI w Bl c) := by
  intro pre X Y row ⟨⟨v, h1, h2⟩, h4⟩ hg hr
  exact ⟨⟨v, bk_own B Bl _ #[v] () X Y row h1 hg hr, row_own B w.heap.size _ 3 v _ _ () X Y row h2 hg hr⟩, ownFrom_below (β := Unit) (Nat.le_refl _) hB () X Y row h4 hg hr⟩
theorem kw_putObj {w : World} (W : World) (l : Nat) (o o' : Obj) (_hl : w.heap.size ≤ l) (h : W.heap[l]? = some o) (_hc : o.isCells = false) (hw : o.isWalk = false) : KeepsWalks W (W.putObj l o') := KeepsWalks.putObj _ h hw
attribute [local go_sem] Oper.semAt_some
set_option maxRecDepth 100000 in
set_option maxHeartbeats 4000000 in
theorem appendSeq13 (w : World) (bl m : Nat) (f : Nat → Option Value) (c : Nat → Chg) (hc : ∀ i v, i < 1000 → f i = some v → v = (c i).agg) (b1 : Bk w bl 78 #[.map (some m)]) (hm : MI Tryz.prog 3 w m 1000 f) :
    Calls Tryz.prog 120 #[.slice none 0 0, .func (.func 85) #[] #[.pointer (some ⟨bl, 0, none⟩)]] w fun e w' =>
      ∃ (A : Option Addr) (cp : Nat) (xs : List Nat), e = .returned (.slice A xs.length cp) ∧ (xs.Nodup ∧ ∀ i, i ∈ xs ↔ i < 1000 ∧ (f i).isSome = true) ∧ w'.ownsRow w.heap.size 57 3 (.slice A xs.length cp) xs.length ((xs.map c).flatMap Chg.cells) ∧ Fr No w w' := by
  refine (callsIn_wide (n := 3)).1 ?_
  have h1 : 1 ≤ 3 := by omega
  obtain ⟨i0, hi, hz0, hz1, hz2⟩ := info_parts info_chg
  refine callsIn_of_wp_marks Tryz.func120 rfl trivial ?_ rfl
  simp only [Tryz.ntmps120, List.size_toArray, List.length_cons, List.length_nil, Nat.reduceAdd, Nat.reduceSub, Array.replicate_succ, Array.replicate_zero, List.push_toArray, List.append_toArray, List.nil_append, List.cons_append]
  gi_wp2
  obtain ⟨W0, hW0⟩ : ∃ W0, W0 = w.alloc (.cells #[.slice none 0 0] 37) := ⟨_, rfl⟩
  have hsz : W0.heap.size = w.heap.size + 1 := by rw [hW0]; simp
  have hF0 : Fr No w W0 := by rw [hW0]; exact (Fr.refl _ _).alloc _
  have bL : Boxed W0 w.heap.size 37 (.slice none 0 0) := by rw [hW0]; exact Boxed.new w _ _
  have hst := values_stops (w := W0) 2 bl m f c hc (by omega) (b1.fr hF0 (fun e => e)) (hm.fr hF0 (fun e => e))
  have hB0 : w.heap.size ≤ W0.heap.size := by omega
  rw [← hW0]
  clear hW0 hc b1 hm
  refine wpIn_rangeFunc_ownH rfl h1 (gf := 85) (lb := #[.pointer (some ⟨bl, 0, none⟩)]) rfl trivial (enters_of Tryz.func85 (by kernel_rfl) rfl)
    hst KeepsWalks.trans (kw_putObj (w := W0)) (Below.refl _ _) (fun _ => rfl)
    (fun pre W => GaI w w.heap.size c pre W)
    (fun _ _ _ => False)
    (GaI.own _ _ _ _ hB0)
    (fun _ _ _ _ _ hs _ _ => hs)
    ⟨⟨_, bL, World.ownsRow_nil _ _ _ _⟩, hF0.below0⟩
    (fun x a' W => ∃ Bx, w.heap.size < Bx ∧ Bk W Bx 57 #[.int .i64 (c x).key, .bool (c x).gone, .int .i64 (c x).value] ∧ a' = { tmps := #[.slice none 0 0, .func (.func 85) #[] #[.pointer (some ⟨bl, 0, none⟩)], .pointer (some ⟨w.heap.size, 0, none⟩), undef, .slice none 0 0, .pointer (some ⟨Bx, 0, none⟩), .func (.func 85) #[] #[.pointer (some ⟨bl, 0, none⟩)], (c x).agg, undef, undef, undef, undef, undef], defers := [] })
    (fun x a' _ X Y row hs hg hr => by
      obtain ⟨Bx, a1, a2, a3⟩ := hs
      exact ⟨Bx, a1, bk_own _ Bx _ _ () X Y row a2 hg hr, a3⟩)
    ?assign ?body ?done ?stop
  case assign =>
    rintro l pre x W K ⟨⟨v, hv, hrow⟩, hB⟩ hK
    have hx0 : Bk (W.alloc (.cells #[.int .i64 (c x).key, .bool (c x).gone, .int .i64 (c x).value] 57)) W.heap.size 57 #[.int .i64 (c x).key, .bool (c x).gone, .int .i64 (c x).value] := Bk.made W _ _
    have hlt := hv.lt
    unfold encC Chg.agg
    gi_wp2
    exact hK _ _ ((KeepsOthers.alloc _ _).from _) (KeepsWalks.alloc _ _) ⟨⟨v, hv.alloc _, hrow.alloc _⟩, hB.alloc hB.size _⟩ ⟨W.heap.size, by omega, hx0, rfl⟩
  case body =>
    rintro l pre x a' W hl ⟨r, hr⟩ ⟨⟨v, hv, hrow⟩, hB⟩ ⟨Bx, hBx, hbx, rfl⟩ hlt
    have hcc := hv.cell
    have y0 := hbx.cell 0
    have y1 := hbx.cell 1
    have y2 := hbx.cell 2
    simp only [List.getElem?_toArray, List.getElem?_cons_zero, List.getElem?_cons_succ] at y0 y1 y2
    have hpl : pre.length ≤ 1000 := by omega
    have ecs : ((pre ++ [x]).map c).flatMap Chg.cells = (pre.map c).flatMap Chg.cells ++ [.int .i64 (c x).key, .bool (c x).gone, .int .i64 (c x).value] := by simp [Chg.cells]
    have Hecs := Lib.hid ecs
    clear ecs
    generalize (c x).key = ck at *
    generalize (c x).gone = cg at *
    generalize (c x).value = cv at *
    gi_wp2_with (gi_at_builtin; refine wpListIn_append_own _ rfl _ _ 37 rfl w.heap.size 57 i0 (.agg #[.int .i64 0, .bool false, .int .i64 0]) 3 24 Tryz.underlying37 hi hz0 hz1 hz2 rfl (by decide) _ _ _ rfl (hrow.alloc _) ⟨W.heap.size, 0, none⟩ 1 1 [.int .i64 ck, .bool cg, .int .i64 cv] rfl rfl (World.news_of_block (Bk.made W 57 #[.int .i64 ck, .bool cg, .int .i64 cv])) (by intro u hu; simp at hu; rcases hu with rfl | rfl | rfl <;> rfl) (by unfold maxLen; omega) (by omega) (by have := hB.size; simp; omega) ?_; intro v' w2 hown' hgrow _; obtain ⟨g', cap', rfl⟩ := ownsRow_succ hown'; obtain ⟨hv1, hv2, hr2, hk2, hb2⟩ := hv.appended (by decide) hrow hB.size (by omega) hown' hgrow; have hc1 := hv1.cell; have hf1 := hv1.frozen)
    refine ⟨hk2.from _, hk2.walks, ⟨_, hv2, ?_⟩, hB.trans hb2⟩
    have e : (pre ++ [x]).length = pre.length + 1 := by simp
    rw [Hecs.out, e]
    exact hr2
  case done =>
    rintro D zs W hD hS ⟨⟨v, hv, hrow⟩, hB⟩ hK
    have hcc := hv.cell
    obtain ⟨A', c', rfl, -, -, -⟩ := own_shape hrow
    have HF := Lib.hid (fun o' => hB.trans (belowK_b (w := w) (Nat.le_refl _) W D _ o' (by omega) hK rfl rfl))
    have Hsl := Lib.hid (fun o' => ownsRow_putObj hrow o' hK rfl)
    have HS := Lib.hid hS
    clear hB hv hS
    gi_wp2
    refine ⟨by simp, .inl ⟨_, _, rfl, run_takeDeferred hK, ?_⟩⟩
    exact ⟨_, results_tmp rfl _ _ _, A', c', zs, rfl, HS.out, Hsl.out _, Fr.ofBelow (HF.out _) _⟩
  case stop =>
    rintro D cd pre W hD hS hx hK
    exact hx.elim

theorem values13 (mb : Option Nat) (w : World) : Calls Tryz.prog 53 #[.map mb] w fun e w' => e = .returned (.func (.func 85) #[] #[.pointer (some ⟨w.heap.size, 0, none⟩)]) ∧ w' = w.alloc (.cells #[.map mb] 78) := by
  have hmf : ∀ (fn : Fn) (first cap : Array Value) (w : World), (Instr.makeFunc fn first cap).run Tryz.prog w = .ok (.func fn first cap) w := fun _ _ _ _ => rfl
  go_enter Tryz.func53, Tryz.ntmps53
  go_wp2
  go_ret
  exact ⟨rfl, rfl⟩
theorem collect13 (w : World) (bl m : Nat) (f : Nat → Option Value) (c : Nat → Chg) (hc : ∀ i v, i < 1000 → f i = some v → v = (c i).agg) (b1 : Bk w bl 78 #[.map (some m)]) (hm : MI Tryz.prog 3 w m 1000 f) :
    Calls Tryz.prog 83 #[.func (.func 85) #[] #[.pointer (some ⟨bl, 0, none⟩)]] w fun e w' =>
      ∃ (A : Option Addr) (cp : Nat) (xs : List Nat), e = .returned (.slice A xs.length cp) ∧ (xs.Nodup ∧ ∀ i, i ∈ xs ↔ i < 1000 ∧ (f i).isSome = true) ∧ w'.ownsRow w.heap.size 57 3 (.slice A xs.length cp) xs.length ((xs.map c).flatMap Chg.cells) ∧ Fr No w w' := by
  have hA := appendSeq13 w bl m f c hc b1 hm
  clear hc b1 hm
  go_enter Tryz.func83, Tryz.ntmps83
  go_wp2_with fail
  refine hA.mono ?_
  rintro e w1 ⟨A, cp, xs, rfl, h1, h2, h3⟩
  have H1 := Lib.hid h1
  have H2 := Lib.hid h2
  have H3 := Lib.hid h3
  clear h1 h2 h3 hA
  generalize hn : xs.length = n at *
  go_wp2
  go_ret
  exact ⟨A, cp, xs, by rw [hn]; rfl, H1.out, by rw [hn]; exact H2.out, H3.out⟩
theorem sortedFunc13 (w : World) (bl m : Nat) (wt : Nat → Bool) (mm : Mp) (cs : List Chg) (hcs : cs = chgsOf wt mm) (b1 : Bk w bl 78 #[.map (some m)]) (hm : MI Tryz.prog 3 w m 1000 (fun k => if wt k = true then some (chgAt mm k).agg else none)) :
    Calls Tryz.prog 52 #[.func (.func 85) #[] #[.pointer (some ⟨bl, 0, none⟩)], .func (.func 50) #[] #[]] w fun e w' =>
      ∃ (A : Option Addr) (cp : Nat), e = .returned (.slice A cs.length cp) ∧ Sl w' w'.heap.size A (cs.flatMap Chg.cells) ∧ (∀ ad, A = some ad → w.heap.size ≤ ad.block) ∧ Fr No w w' := by
  have hC := collect13 w bl m _ (chgAt mm) (fun i v _ h => by
    split at h
    · injection h with h; exact h.symm
    · cases h) b1 hm
  have hiff : ∀ i, (if wt i = true then some (chgAt mm i).agg else none : Option Value).isSome = true ↔ wt i = true := fun i => by cases wt i <;> simp
  clear b1 hm
  go_enter Tryz.func52, Tryz.ntmps52
  go_wp2_with fail
  refine hC.mono ?_
  rintro e w1 ⟨A, cp, xs, rfl, ⟨hnd, hmem⟩, ho, f1⟩
  have hle : xs.length ≤ 1000 := below_len 1000 xs hnd (fun x hx => ((hmem x).1 hx).1)
  have hS := cSort_any A xs.length cp w.heap.size (xs.map (chgAt mm)) w1 ho (by simp) (by omega)
  have Hg : Hid (∀ d : List Chg, d.Perm (xs.map (chgAt mm)) → (d.Pairwise fun x y => x.key ≤ y.key) → d = cs) := Lib.hid (fun d h1 h2 => hcs ▸ gathered hnd (fun i => (hmem i).trans ⟨fun h => ⟨h.1, (hiff i).1 h.2⟩, fun h => ⟨h.1, (hiff i).2 h.2⟩⟩) h1 h2)
  have HF1 := Lib.hid f1
  have HAp : Hid (∀ ad, A = some ad → w.heap.size ≤ ad.block) := Lib.hid (fun ad e => by subst e; exact (ho.lt ad.block rfl).1)
  clear hcs hC hiff hnd hmem ho f1
  generalize hn : xs.length = n at *
  go_wp2_with fail
  refine hS.mono ?_
  rintro e w2 ⟨rfl, d, hd, hp, hs, hsl, f2⟩
  have e1 := Hg.out d hp hs
  subst e1
  have Hdl := Lib.hid hd
  have Hsl := Lib.hid hsl
  have HF2 := Lib.hid (HF1.out.trans' f2 (fun i hi e => by have e : w.heap.size ≤ i := e; omega))
  clear hd hp hs hsl f2 hS
  go_wp2
  go_ret
  exact ⟨A, cp, by rw [Hdl.out]; rfl, Hsl.out, HAp.out, HF2.out⟩

theorem ld_out {W : World} {H : Nat} {c a r0 r1 r2 r3 : Int} {v1 v2 v3 : Value} (h : Bk W H 39 #[.int .i64 c, .int .i64 a, .int .i64 r0, .int .i64 r1, .int .i64 r2, .int .i64 r3, v1, v2, v3]) : LdO W 39 ⟨H, 0, none⟩ (.agg #[.int .i64 c, .int .i64 a, .int .i64 r0, .int .i64 r1, .int .i64 r2, .int .i64 r3, v1, v2, v3]) := by
  have h0 : W.rangeAt H 0 [.int .i64 c, .int .i64 a, .int .i64 r0, .int .i64 r1, .int .i64 r2, .int .i64 r3, v1, v2, v3] := fun j u hu => by
    rw [Nat.zero_add, h.cell]
    rw [← hu]
    exact List.getElem?_toArray
  have e := run_loadAt_mid (P := Tryz.prog) W H 0 39 [.int .i64 c, .int .i64 a, .int .i64 r0, .int .i64 r1, .int .i64 r2, .int .i64 r3, v1, v2, v3] _ h0 Tryz.underlying39 rfl (by kernel_rfl)
  simp only [Instr.loadAt, Instr.sureAddr, Sem.run_bind, Sem.run_pure, Result.andThen_ok] at e
  exact e
theorem st_out {W : World} {H : Nat} {cs : Array Value} (hcs : cs.size = 9) (h : Bk W H 39 cs) {c a r0 r1 r2 r3 : Int} {v1 v2 v3 : Value} (h1 : v1.oneCell' = true) (h2 : v2.oneCell' = true) (h3 : v3.oneCell' = true) : StO W 39 ⟨H, 0, none⟩ (.agg #[.int .i64 c, .int .i64 a, .int .i64 r0, .int .i64 r1, .int .i64 r2, .int .i64 r3, v1, v2, v3]) (W.setRow H #[.int .i64 c, .int .i64 a, .int .i64 r0, .int .i64 r1, .int .i64 r2, .int .i64 r3, v1, v2, v3]) := by
  have hC : (Tryz.prog.info? 39).map (·.size) = some 9 := by kernel_rfl
  obtain ⟨i, hi, hs⟩ := Option.map_eq_some_iff.1 hC
  have := run_storeCells_from (P := Tryz.prog) H _ [.int .i64 c, .int .i64 a, .int .i64 r0, .int .i64 r1, .int .i64 r2, .int .i64 r3, v1, v2, v3] 0 _ W h (by rw [hcs]; rfl) (fun u hu => by
    simp at hu
    rcases hu with rfl | rfl | rfl | rfl | rfl | rfl | rfl | rfl | rfl <;> first | exact h1 | exact h2 | exact h3 | rfl)
  unfold StO storeVar
  simp [sizeOf, typeInfo, hi, hs, Value.cells]
  simpa using this
section
variable {x : Dx} {w w' : World} {s : Sst}
/-- An outcome that is told. -/
def OutC (p : Po) (w : World) (e : Ending) (w' : World) : Prop := ∃ o : Otc, e = .returned o.agg ∧ o.p = p ∧ Otcs w' w'.heap.size o ∧ (∀ ad : Addr, (o.rA = some ad ∨ o.wA = some ad ∨ o.cA = some ad) → w.heap.size ≤ ad.block) ∧ Fr No w w'
/-- And its rows lie apart from what held outcomes ahead. -/
def OutA (b : Nat) (p : Po) (w : World) (e : Ending) (w' : World) : Prop := ∃ o : Otc, e = .returned o.agg ∧ o.p = p ∧ Otcs w' w'.heap.size o ∧ (∀ g zs, Bk w g 39 zs → ∀ ad, (o.rA = some ad ∨ o.wA = some ad ∨ o.cA = some ad) → ad.block ≠ g) ∧ (∀ ad : Addr, (o.rA = some ad ∨ o.wA = some ad ∨ o.cA = some ad) → b ≤ ad.block) ∧ Fr No w w'
set_option maxRecDepth 100000 in
set_option maxHeartbeats 4000000 in
theorem dOutcome_any (hg : DG x s w) : Calls Tryz.prog 29 #[.pointer (some ⟨x.d, 0, none⟩)] w (OutA x.m ⟨0, 0, s.r, plainOf s.rd, plainOf s.wt, chgsOf s.wt s.m⟩ w) := by
  obtain ⟨rA, rc, wA, wc, hb, hr, hw⟩ := hg.dl.lies
  have HV := Lib.hid (fun W => values13 (some x.m) W)
  obtain ⟨cs, hcs⟩ : ∃ cs, cs = chgsOf s.wt s.m := ⟨_, rfl⟩
  have HSo := Lib.hid (fun W (bl : Nat) (hW : Fr No w W) (hb : Bk W bl 78 #[.map (some x.m)]) => sortedFunc13 W bl x.m s.wt s.m cs hcs hb (hg.dl.mp.fr hW (fun e => e)))
  have Hb := Lib.hid (fun W (hW : Fr No w W) => hb.fr hW (fun e => e))
  have Hr := Lib.hid (fun W (hW : Fr No w W) => (Sl.ofOwn hr).since hW)
  have Hw := Lib.hid (fun W (hW : Fr No w W) => (Sl.ofOwn hw).since hW)
  have hml := hg.dl.mp.lt
  have HBr := Lib.hid (fun (ad : Addr) (e : rA = some ad) => (hr.lt ad.block (by rw [e]; rfl)).1)
  have HBw := Lib.hid (fun (ad : Addr) (e : wA = some ad) => (hw.lt ad.block (by rw [e]; rfl)).1)
  have HAr := Lib.hid (fun (g : Nat) (zs : Array Value) (hb : Bk w g 39 zs) (ad : Addr) (e : rA = some ad) => show ad.block ≠ g from fun e2 => own_apart hr hb (by decide) (by rw [e]; show some ad.block = some g; rw [e2]))
  have HAw := Lib.hid (fun (g : Nat) (zs : Array Value) (hb : Bk w g 39 zs) (ad : Addr) (e : wA = some ad) => show ad.block ≠ g from fun e2 => own_apart hw hb (by decide) (by rw [e]; show some ad.block = some g; rw [e2]))
  obtain ⟨d, hd⟩ : ∃ d, x.d = d := ⟨_, rfl⟩
  obtain ⟨q, hq⟩ : ∃ q, w.heap.size = q := ⟨_, rfl⟩
  have hZ : ∃ Z : Array Value, Z = #[.int .i64 0, .int .i64 0, .int .i64 0, .int .i64 0, .int .i64 0, .int .i64 0, .slice none 0 0, .slice none 0 0, .slice none 0 0] := ⟨_, rfl⟩
  obtain ⟨Z, hZ⟩ := hZ
  have hZ9 : Hid (Z.size = 9) := Lib.hid (by rw [hZ]; rfl)
  have bq := Bk.made w 39 Z
  have f0 : Fr No w (w.alloc (.cells Z 39)) := (Fr.refl _ _).alloc _
  rw [hd] at Hb
  rw [hq] at bq
  unfold Dx.cells at Hb
  generalize hn1 : (plainOf s.rd).length = n1 at *
  generalize hn2 : (plainOf s.wt).length = n2 at *
  have Hn1 := Lib.hid hn1
  have Hn2 := Lib.hid hn2
  have c0 := Hb.out _ f0.drew
  have k5 := c0.cell 5
  have k6 := c0.cell 6
  have k7 := c0.cell 7
  have k8 := c0.cell 8
  have k9 := c0.cell 9
  have k10 := c0.cell 10
  have k11 := c0.cell 11
  simp only [List.getElem?_toArray, List.getElem?_cons_zero, List.getElem?_cons_succ] at k5 k6 k7 k8 k9 k10 k11
  have HF0 := Lib.hid f0
  have Bq := Lib.hid bq
  have Hq := Lib.hid hq
  rw [← hcs]
  have Hcs := Lib.hid hcs
  rw [hd]
  clear hcs hb hr hw hg bq f0 c0 hn1 hn2 hd
  generalize x.code.length = ncd at *
  generalize x.foot.length = nft at *
  generalize x.gs.length = ngs at *
  generalize x.m = m at *
  go_enter Tryz.func29, Tryz.ntmps29
  go_wp2_with fail
  rw [← hZ]
  clear hZ
  refine wp_region_held_drew (S := fun w' => w'.cell? ⟨d, 5, none⟩ = some (.int .i64 (s.r 0)) ∧ w'.cell? ⟨d, 6, none⟩ = some (.int .i64 (s.r 1)) ∧ w'.cell? ⟨d, 7, none⟩ = some (.int .i64 (s.r 2)) ∧ w'.cell? ⟨d, 8, none⟩ = some (.int .i64 (s.r 3)) ∧ w'.cell? ⟨d, 9, none⟩ = some (.slice rA n1 rc) ∧ w'.cell? ⟨d, 10, none⟩ = some (.slice wA n2 wc) ∧ w'.cell? ⟨d, 11, none⟩ = some (.map (some m))) (by kernel_rfl) (⟨k5, k6, k7, k8, k9, k10, k11⟩) (fun hHeld => ?_)
  refine any_take 4 (.pointer (some ⟨d, 0, none⟩)) (i := 0) rfl rfl (by kernel_rfl) (by kernel_rfl) (by kernel_rfl) (fun _ _ _ h => h) (by rfl) (by intro w hSw; (try dsimp only at hSw); go_simp; try with_reducible rfl) (by assumption) ?_
  simp only [Act.put, List.setIfInBounds_toArray, List.set_cons_zero, List.set_cons_succ]
  refine any_take 5 (.pointer (some ⟨d, 0, none⟩)) (i := 1) rfl rfl (by kernel_rfl) (by kernel_rfl) (by kernel_rfl) (fun _ _ _ h => h) (by rfl) (by intro w hSw; (try dsimp only at hSw); go_simp; try with_reducible rfl) (by assumption) ?_
  simp only [Act.put, List.setIfInBounds_toArray, List.set_cons_zero, List.set_cons_succ]
  refine any_take 6 (.pointer (some ⟨d, 5, none⟩)) (i := 2) rfl rfl (by kernel_rfl) (by kernel_rfl) (by kernel_rfl) (fun _ _ _ h => h) (by rfl) (by intro w hSw; (try dsimp only at hSw); go_simp; try with_reducible rfl) (by assumption) ?_
  simp only [Act.put, List.setIfInBounds_toArray, List.set_cons_zero, List.set_cons_succ]
  refine any_take 7 (.agg #[.int .i64 (s.r 0), .int .i64 (s.r 1), .int .i64 (s.r 2), .int .i64 (s.r 3)]) (i := 3) rfl rfl (by kernel_rfl) (by kernel_rfl) (by kernel_rfl) (fun _ _ _ h => h) (by rfl) (by intro w hSw; (try dsimp only at hSw); go_simp; try with_reducible rfl) (by assumption) ?_
  simp only [Act.put, List.setIfInBounds_toArray, List.set_cons_zero, List.set_cons_succ]
  refine any_take 8 (.pointer (some ⟨d, 0, none⟩)) (i := 4) rfl rfl (by kernel_rfl) (by kernel_rfl) (by kernel_rfl) (fun _ _ _ h => h) (by rfl) (by intro w hSw; (try dsimp only at hSw); go_simp; try with_reducible rfl) (by assumption) ?_
  simp only [Act.put, List.setIfInBounds_toArray, List.set_cons_zero, List.set_cons_succ]
  refine any_take 9 (.pointer (some ⟨d, 0, none⟩)) (i := 5) rfl rfl (by kernel_rfl) (by kernel_rfl) (by kernel_rfl) (fun _ _ _ h => h) (by rfl) (by intro w hSw; (try dsimp only at hSw); go_simp; try with_reducible rfl) (by assumption) ?_
  simp only [Act.put, List.setIfInBounds_toArray, List.set_cons_zero, List.set_cons_succ]
  refine any_take 10 (.pointer (some ⟨d, 9, none⟩)) (i := 6) rfl rfl (by kernel_rfl) (by kernel_rfl) (by kernel_rfl) (fun _ _ _ h => h) (by rfl) (by intro w hSw; (try dsimp only at hSw); go_simp; try with_reducible rfl) (by assumption) ?_
  simp only [Act.put, List.setIfInBounds_toArray, List.set_cons_zero, List.set_cons_succ]
  refine any_take 11 (.slice rA n1 rc) (i := 7) rfl rfl (by kernel_rfl) (by kernel_rfl) (by kernel_rfl) (fun _ _ _ h => h) (by rfl) (by intro w hSw; (try dsimp only at hSw); go_simp; try with_reducible rfl) (by assumption) ?_
  simp only [Act.put, List.setIfInBounds_toArray, List.set_cons_zero, List.set_cons_succ]
  refine any_take 12 (.pointer (some ⟨d, 0, none⟩)) (i := 8) rfl rfl (by kernel_rfl) (by kernel_rfl) (by kernel_rfl) (fun _ _ _ h => h) (by rfl) (by intro w hSw; (try dsimp only at hSw); go_simp; try with_reducible rfl) (by assumption) ?_
  simp only [Act.put, List.setIfInBounds_toArray, List.set_cons_zero, List.set_cons_succ]
  refine any_take 13 (.pointer (some ⟨d, 0, none⟩)) (i := 9) rfl rfl (by kernel_rfl) (by kernel_rfl) (by kernel_rfl) (fun _ _ _ h => h) (by rfl) (by intro w hSw; (try dsimp only at hSw); go_simp; try with_reducible rfl) (by assumption) ?_
  simp only [Act.put, List.setIfInBounds_toArray, List.set_cons_zero, List.set_cons_succ]
  refine any_take 14 (.pointer (some ⟨d, 10, none⟩)) (i := 10) rfl rfl (by kernel_rfl) (by kernel_rfl) (by kernel_rfl) (fun _ _ _ h => h) (by rfl) (by intro w hSw; (try dsimp only at hSw); go_simp; try with_reducible rfl) (by assumption) ?_
  simp only [Act.put, List.setIfInBounds_toArray, List.set_cons_zero, List.set_cons_succ]
  refine any_take 15 (.slice wA n2 wc) (i := 11) rfl rfl (by kernel_rfl) (by kernel_rfl) (by kernel_rfl) (fun _ _ _ h => h) (by rfl) (by intro w hSw; (try dsimp only at hSw); go_simp; try with_reducible rfl) (by assumption) ?_
  simp only [Act.put, List.setIfInBounds_toArray, List.set_cons_zero, List.set_cons_succ]
  refine any_take 16 (.pointer (some ⟨d, 0, none⟩)) (i := 12) rfl rfl (by kernel_rfl) (by kernel_rfl) (by kernel_rfl) (fun _ _ _ h => h) (by rfl) (by intro w hSw; (try dsimp only at hSw); go_simp; try with_reducible rfl) (by assumption) ?_
  simp only [Act.put, List.setIfInBounds_toArray, List.set_cons_zero, List.set_cons_succ]
  refine any_take 17 (.pointer (some ⟨d, 0, none⟩)) (i := 13) rfl rfl (by kernel_rfl) (by kernel_rfl) (by kernel_rfl) (fun _ _ _ h => h) (by rfl) (by intro w hSw; (try dsimp only at hSw); go_simp; try with_reducible rfl) (by assumption) ?_
  simp only [Act.put, List.setIfInBounds_toArray, List.set_cons_zero, List.set_cons_succ]
  refine any_take 18 (.pointer (some ⟨d, 11, none⟩)) (i := 14) rfl rfl (by kernel_rfl) (by kernel_rfl) (by kernel_rfl) (fun _ _ _ h => h) (by rfl) (by intro w hSw; (try dsimp only at hSw); go_simp; try with_reducible rfl) (by assumption) ?_
  simp only [Act.put, List.setIfInBounds_toArray, List.set_cons_zero, List.set_cons_succ]
  refine any_take 19 (.map (some m)) (i := 15) rfl rfl (by kernel_rfl) (by kernel_rfl) (by kernel_rfl) (fun _ _ _ h => h) (by rfl) (by intro w hSw; (try dsimp only at hSw); go_simp; try with_reducible rfl) (by assumption) ?_
  simp only [Act.put, List.setIfInBounds_toArray, List.set_cons_zero, List.set_cons_succ]
  refine any_take 21 (.func (.func 50) #[] #[]) (i := 17) rfl rfl (by kernel_rfl) (by kernel_rfl) (by kernel_rfl) (fun _ _ _ h => h) (by rfl) (by intro w hSw; (try dsimp only at hSw); go_simp; try with_reducible rfl) (by assumption) ?_
  simp only [Act.put, List.setIfInBounds_toArray, List.set_cons_zero, List.set_cons_succ]
  refine wpAnyH_ready (rs := [16]) (by kernel_rfl) (by simp) ?_
  refine AllReadyH.cons rfl (fun K' hK => ?_) AllReadyH.nil
  go_simp
  go_at_call 53
  refine (HV.out _).mono ?_
  rintro e' w1 ⟨rfl, hw1⟩
  have fm := (Fr.refl No (w.alloc (.cells Z 39)).drew).alloc (.cells #[.map (some m)] 78)
  have bm := Bk.made (w.alloc (.cells Z 39)).drew 78 #[.map (some m)]
  rw [← hw1] at fm bm
  have F1 := Lib.hid (HF0.out.drew.trans' fm (fun _ _ e => e))
  have Bq1 := Lib.hid ((Bq.out.fr ((Fr.refl No _).drew) (fun e => e)).fr fm (fun e => e))
  have esz : (w.alloc (.cells Z 39)).drew.heap.size = q + 1 := by rw [← Hq.out]; simp
  rw [esz] at bm
  have Bm := Lib.hid bm
  clear fm bm hw1
  have ca := Hb.out _ F1.out
  have k5a := ca.cell 5
  have k6a := ca.cell 6
  have k7a := ca.cell 7
  have k8a := ca.cell 8
  have k9a := ca.cell 9
  have k10a := ca.cell 10
  have k11a := ca.cell 11
  simp only [List.getElem?_toArray, List.getElem?_cons_zero, List.getElem?_cons_succ] at k5a k6a k7a k8a k9a k10a k11a
  try dsimp only
  refine hK.out _ _ ⟨k5a, k6a, k7a, k8a, k9a, k10a, k11a⟩ (fun hHeld => ?_)
  clear hK
  try simp only [Act.put, List.setIfInBounds_toArray, List.set_cons_zero, List.set_cons_succ]
  refine wpAnyH_ready (rs := [18]) (by kernel_rfl) (by simp) ?_
  refine AllReadyH.cons rfl (fun K' hK => ?_) AllReadyH.nil
  go_simp
  go_at_call 52
  refine (HSo.out w1 (q + 1) F1.out Bm.out).mono ?_
  rintro e' w2 ⟨cA, cc, rfl, hsl, hap, f2⟩
  have F2 := F1.out.trans' f2 (fun _ _ e => e)
  have cb := Hb.out _ F2
  have k5b := cb.cell 5
  have k6b := cb.cell 6
  have k7b := cb.cell 7
  have k8b := cb.cell 8
  have k9b := cb.cell 9
  have k10b := cb.cell 10
  have k11b := cb.cell 11
  simp only [List.getElem?_toArray, List.getElem?_cons_zero, List.getElem?_cons_succ] at k5b k6b k7b k8b k9b k10b k11b
  generalize hn3 : (cs).length = n3 at *
  have Hn3 := Lib.hid hn3
  have Hsl := Lib.hid hsl
  have HF2 := Lib.hid F2
  have Bq2 := Bq1.out.fr f2 (fun e => e)
  have hst := st_out hZ9.out Bq2 (c := 0) (a := 0) (r0 := s.r 0) (r1 := s.r 1) (r2 := s.r 2) (r3 := s.r 3) (v1 := .slice rA n1 rc) (v2 := .slice wA n2 wc) (v3 := .slice cA n3 cc) rfl rfl rfl
  have hbF := bk_row12 Bq2 #[.int .i64 0, .int .i64 0, .int .i64 (s.r 0), .int .i64 (s.r 1), .int .i64 (s.r 2), .int .i64 (s.r 3), .slice rA n1 rc, .slice wA n2 wc, .slice cA n3 cc]
  have fF := fr_row12 F2 (g := q) (.inr (by have := Hq.out; omega)) #[.int .i64 0, .int .i64 0, .int .i64 (s.r 0), .int .i64 (s.r 1), .int .i64 (s.r 2), .int .i64 (s.r 3), .slice rA n1 rc, .slice wA n2 wc, .slice cA n3 cc]
  have f3 := fr_row12 (Fr.refl (fun k => k = q) w2) (g := q) (.inl rfl) #[.int .i64 0, .int .i64 0, .int .i64 (s.r 0), .int .i64 (s.r 1), .int .i64 (s.r 2), .int .i64 (s.r 3), .slice rA n1 rc, .slice wA n2 wc, .slice cA n3 cc]
  obtain ⟨W3, hW3⟩ : ∃ W3, W3 = w2.setRow q #[.int .i64 0, .int .i64 0, .int .i64 (s.r 0), .int .i64 (s.r 1), .int .i64 (s.r 2), .int .i64 (s.r 3), .slice rA n1 rc, .slice wA n2 wc, .slice cA n3 cc] := ⟨_, rfl⟩
  rw [← hW3] at hst hbF fF f3
  have cD := Hb.out _ fF
  have k5d := cD.cell 5
  have k6d := cD.cell 6
  have k7d := cD.cell 7
  have k8d := cD.cell 8
  have k9d := cD.cell 9
  have k10d := cD.cell 10
  have k11d := cD.cell 11
  simp only [List.getElem?_toArray, List.getElem?_cons_zero, List.getElem?_cons_succ] at k5d k6d k7d k8d k9d k10d k11d
  have Hst := Lib.hid hst
  have Hld := Lib.hid (ld_out hbF)
  have HfF := Lib.hid fF
  have Hap : Hid (∀ ad : Addr, cA = some ad → (cs).flatMap Chg.cells ≠ [] → ¬ ad.block = q) := Lib.hid (fun ad ha _ e => by
    have h4 := hap ad ha
    have h5 := Bq1.out.lt
    omega)
  have HsW := Lib.hid f3.size
  have Hs3 := Lib.hid (Hsl.out.fr f3 (Nat.le_refl _) Hap.out)
  have HAc := Lib.hid (fun (g : Nat) (zs : Array Value) (hb : Bk w g 39 zs) (ad : Addr) (e : cA = some ad) => show ad.block ≠ g from fun e2 => by have h1 := hap ad e; have h2 := hb.lt; have h3 := F1.out.size; omega)
  have HBc := Lib.hid (fun (ad : Addr) (e : cA = some ad) => show m ≤ ad.block from by have h1 := hap ad e; have h3 := F1.out.size; omega)
  clear hsl hap f2 F2 Bq2 hst hbF fF f3 hn3 hW3
  try dsimp only
  refine hK.out _ _ ⟨k5b, k6b, k7b, k8b, k9b, k10b, k11b⟩ (fun hHeld => ?_)
  clear hK
  try simp only [Act.put, List.setIfInBounds_toArray, List.set_cons_zero, List.set_cons_succ]
  refine any_take 23 (.agg #[.int .i64 0, .int .i64 0, .int .i64 (s.r 0), .int .i64 (s.r 1), .int .i64 (s.r 2), .int .i64 (s.r 3), .slice rA n1 rc, .slice wA n2 wc, .slice cA n3 cc]) (i := 19) rfl rfl (by kernel_rfl) (by kernel_rfl) (by kernel_rfl) (fun _ _ _ h => h) (by rfl) (by intro w hSw; (try dsimp only at hSw); go_simp; try with_reducible rfl) (by assumption) ?_
  simp only [Act.put, List.setIfInBounds_toArray, List.set_cons_zero, List.set_cons_succ]
  refine any_store12 (i := 20) (w' := W3) (by kernel_rfl) rfl rfl (by rfl) (exec_st rfl rfl Hst.out) ⟨k5d, k6d, k7d, k8d, k9d, k10d, k11d⟩ ?_
  refine wpAnyH_done (by kernel_rfl) ?_ _
  clear hHeld
  go_wp2
  exact bodyPost_ret (cell_result Tryz.results29 Hld.out rfl) rfl ⟨⟨⟨0, 0, s.r, plainOf s.rd, plainOf s.wt, cs⟩, rA, rc, wA, wc, cA, cc⟩, by unfold Otc.agg; simp only; rw [Hn1.out, Hn2.out, Hn3.out], rfl, ⟨Hr.out _ HfF.out, Hw.out _ HfF.out, Hs3.out.more (HsW.out)⟩, fun g zs hb ad h => h.elim (HAr.out g zs hb ad) (fun h => h.elim (HAw.out g zs hb ad) (HAc.out g zs hb ad)), fun ad h => h.elim (HBr.out ad) (fun h => h.elim (HBw.out ad) (HBc.out ad)), HfF.out⟩
end
end Go.Proofs.YthenadijiepmnaaGreat
/- Package step: a step is done over a store. -/
namespace Go.Proofs.YthenadijiepmnaaGreat
open Go.RowKit Go.Shelf

/-- May a step be done, for arguments? -/
def rightB (code : List Ins) (foot : List Fsp) (gs : List Int) : Bool := footRight foot gs && (decide (code.length = 0) || progOk code gs.length)
/-- A step and its arguments, as they lie. -/
structure StI (w : World) where
  cA : Option Addr
  code : List Ins
  cc : Nat
  fA : Option Addr
  foot : List Fsp
  fc : Nat
  gA : Option Addr
  gs : List Int
  gc : Nat
  hc : Sl w w.heap.size cA (code.flatMap Ins.cells)
  hf : Sl w w.heap.size fA (foot.flatMap Fsp.cells)
  hg : Sl w w.heap.size gA (ints gs)
def StI.since {w w' : World} (x : StI w) (h : Fr No w w') : StI w' := ⟨x.cA, x.code, x.cc, x.fA, x.foot, x.fc, x.gA, x.gs, x.gc, x.hc.since h, x.hf.since h, x.hg.since h⟩
/-- Few enough. -/
def StI.Few {w : World} (x : StI w) : Prop := x.code.length ≤ 1099511627776 ∧ x.foot.length ≤ 1099511627776 ∧ x.gs.length ≤ 1099511627776
def StI.agg {w : World} (x : StI w) : Value := .agg #[.slice x.cA x.code.length x.cc, .slice x.fA x.foot.length x.fc]
def StI.args {w : World} (x : StI w) : Value := .slice x.gA x.gs.length x.gc
def StI.right {w : World} (x : StI w) : Bool := rightB x.code x.foot x.gs
set_option maxHeartbeats 2000000 in
theorem sMay_any (w : World) (x : StI w) (hx : x.Few) : Calls Tryz.prog 27 #[x.agg, x.args] w (Has w x.right) := by
  have H0 := Lib.hid (fun W (h : Fr No w W) => spans_any x.foot x.gs x.fA x.gA x.foot.length x.fc x.gs.length x.gc W (x.hf.since h) rfl hx.2.1 (x.hg.since h) rfl hx.2.2)
  have H1 := Lib.hid (fun W (h : Fr No w W) => may_any x.code x.gs.length x.cA x.code.length x.cc W (x.hc.since h) rfl hx.1)
  unfold StI.right rightB StI.agg StI.args
  unfold SpansTo at H0
  have f0 : Fr No w (w.alloc (.cells #[.slice x.cA x.code.length x.cc, .slice x.fA x.foot.length x.fc] 25)) := (Fr.refl _ _).alloc _
  have b0 := Bk.made w 25 #[.slice x.cA x.code.length x.cc, .slice x.fA x.foot.length x.fc]
  obtain ⟨n, hn⟩ : ∃ n, x.code.length = n := ⟨_, rfl⟩
  have Hb0 := Lib.hid (fun W (h : Fr No (w.alloc (.cells #[.slice x.cA x.code.length x.cc, .slice x.fA x.foot.length x.fc] 25)) W) => (b0.fr h (fun e => e)).cell 0)
  have HF := Lib.hid f0
  have hle : n ≤ 1099511627776 := by have := hx.1; omega
  rw [hn] at H1 Hb0 HF ⊢
  generalize footRight x.foot x.gs = fr at *
  generalize progOk x.code x.gs.length = po at *
  generalize x.foot.length = m at *
  generalize x.gs.length = g at *
  obtain ⟨q, hq⟩ : ∃ q, w.heap.size = q := ⟨_, rfl⟩
  rw [hq] at Hb0
  clear b0 f0 hn
  cases fr
  · go_enter Tryz.func27, Tryz.ntmps27
    go_wp2_with fail
    refine (H0.out _ HF.out).mono ?_
    rintro e w1 ⟨f1, ⟨-, rfl⟩ | ⟨h, -⟩⟩
    · go_wp2
      go_ret
      exact ⟨rfl, HF.out.trans' f1 (fun _ _ e => e)⟩
    · cases h
  · by_cases h0 : n = 0
    · subst h0
      go_enter Tryz.func27, Tryz.ntmps27
      go_wp2_with fail
      refine (H0.out _ HF.out).mono ?_
      rintro e w1 ⟨f1, ⟨h, -⟩ | ⟨-, A1, c1, A3, c3, rfl, -, -⟩⟩
      · cases h
      · have g0 := Hb0.out _ f1
        simp only [List.getElem?_toArray, List.getElem?_cons_zero] at g0
        have F1 := Lib.hid (HF.out.trans' f1 (fun _ _ e => e))
        clear f1
        go_wp2
        go_ret
        exact ⟨rfl, F1.out⟩
    · have e0 : decide (n = 0) = false := decide_eq_false h0
      have e1 : ((n : Int) == 0) = false := by rw [beq_eq_false_iff_ne]; omega
      rw [e0]
      go_enter Tryz.func27, Tryz.ntmps27
      go_wp2_with fail
      refine (H0.out _ HF.out).mono ?_
      rintro e w1 ⟨f1, ⟨h, -⟩ | ⟨-, A1, c1, A3, c3, rfl, -, -⟩⟩
      · cases h
      · have g0 := Hb0.out _ f1
        simp only [List.getElem?_toArray, List.getElem?_cons_zero] at g0
        have F1 := Lib.hid (HF.out.trans' f1 (fun _ _ e => e))
        clear f1
        go_wp2_with fail
        refine (H1.out _ F1.out).mono ?_
        rintro e w2 ⟨rfl, f2⟩
        have F2 := Lib.hid (F1.out.trans' f2 (fun _ _ e => e))
        clear f2
        go_wp2
        go_ret
        exact ⟨by simp, F2.out⟩
theorem stepI_err {asked : Bool} {mr mw : Nat → Bool} {gs : List Int} {i : Ins} {s : Sst} {e : Nat} (h : stepI asked mr mw gs i s = .error e) : e ≠ 0 := by
  unfold stepI at h
  repeat (first | (split at h) | (cases h; omega) | cases h)
theorem runI_err {asked : Bool} {mr mw : Nat → Bool} {gs : List Int} {l : List Ins} {n : Nat} {s : Sst} {e k : Nat} (h : runI asked mr mw gs l n s = .error (e, k)) : e ≠ 0 := by
  induction l generalizing n s with
  | nil => cases h
  | cons i l ih =>
    rw [runI] at h
    cases hs : stepI asked mr mw gs i s with
    | error e' => rw [hs] at h; cases h; exact stepI_err hs
    | ok s' => rw [hs] at h; exact ih h
theorem plain_false : plainOf (fun _ => false) = [] := by
  have h := plainOf_empty (fun _ => false)
  cases hp : plainOf (fun _ => false) with
  | nil => rfl
  | cons a l =>
    rw [hp] at h
    obtain ⟨k, -, hk⟩ := h.1 (by simp)
    cases hk
theorem OutC.fail (c a : Int) (r : Nat → Int) {w W : World} (h : Fr No w W) : OutC (.fail c a r) w (.returned (.agg #[.int .i64 c, .int .i64 a, .int .i64 (r 0), .int .i64 (r 1), .int .i64 (r 2), .int .i64 (r 3), .slice none 0 0, .slice none 0 0, .slice none 0 0])) W :=
  ⟨⟨.fail c a r, none, 0, none, 0, none, 0⟩, rfl, rfl, ⟨Sl.nil _ _ _, Sl.nil _ _ _, Sl.nil _ _ _⟩, (fun ad h => by rcases h with h | h | h <;> cases h), h⟩
/-- A new one. -/
theorem DG.fresh (x : Dx) (r : Nat → Int) (hr : ∀ i, i < 4 → I64 (r i)) {w W : World} (hm : x.m = w.heap.size) (hd : x.d = w.heap.size + 1) (hW : W = (w.alloc (.map #[] 0)).alloc (.cells (x.cells r none 0 0 none 0 0) 80))
    (hv : ∀ k v, valP x.P.flatten k = some v → I64 v) : DG x ⟨valP x.P.flatten, r, fun _ => false, fun _ => false⟩ W := by
  have hb : Bk W x.d 80 (x.cells r none 0 0 none 0 0) := by
    have h := Bk.made (w.alloc (.map #[] 0)) 80 (x.cells r none 0 0 none 0 0)
    rw [← hW] at h
    rw [hd]
    simpa using h
  refine ⟨⟨⟨none, 0, none, 0, ?_, ?_, ?_⟩, ?_, hr⟩, fun _ _ => rfl, hv⟩
  · show Bk W x.d 80 (x.cells r none (plainOf fun _ => false).length 0 none (plainOf fun _ => false).length 0)
    rw [plain_false]
    exact hb
  · show W.ownsRow x.m 72 2 (.slice none (plainOf fun _ => false).length 0) (plainOf fun _ => false).length (sps (plainOf fun _ => false))
    rw [plain_false]
    exact World.ownsRow_nil _ _ _ _
  · show W.ownsRow x.m 72 2 (.slice none (plainOf fun _ => false).length 0) (plainOf fun _ => false).length (sps (plainOf fun _ => false))
    rw [plain_false]
    exact World.ownsRow_nil _ _ _ _
  · have h := (MI.made w Tryz.prog 3 1000).alloc (.cells (x.cells r none 0 0 none 0 0) 80)
    rw [← hW, ← hm] at h
    exact h.congr (fun i _ => rfl)
set_option maxRecDepth 100000 in
set_option maxHeartbeats 4000000 in
theorem sRun_any (w : World) (x : StI w) (hx : x.Few) {s : Nat} {S : Nat → Prop} {P : List Pg} (hinv : InvP P) (hps : PS w S s P) (hv : ∀ k v, valP P.flatten k = some v → I64 v) (himm : ∀ i ∈ x.code, I64 i.x) {r : Nat → Int} (hr : ∀ i, i < 4 → I64 (r i)) (ask : Bool) :
    Calls Tryz.prog 12 #[x.agg, x.args, .agg #[.int .i64 (r 0), .int .i64 (r 1), .int .i64 (r 2), .int .i64 (r 3)], .pointer (some ⟨s, 0, none⟩), .bool ask] w
      (OutC (runS x.right ask (keysOf (chosen false x.gs x.foot)) (keysOf (chosen true x.gs x.foot)) x.gs x.code r (valP P.flatten)) w) := by
  have HMay := Lib.hid (fun W (h : Fr No w W) => sMay_any W (x.since h) hx)
  change Hid (∀ W (_ : Fr No w W), Calls Tryz.prog 27 #[x.agg, x.args] W (Has W x.right)) at HMay
  obtain ⟨q, hq⟩ : ∃ q, w.heap.size = q := ⟨_, rfl⟩
  obtain ⟨Z, hZ⟩ : ∃ Z : Array Value, Z = #[.int .i64 0, .int .i64 0, .int .i64 0, .int .i64 0, .int .i64 0, .int .i64 0, .slice none 0 0, .slice none 0 0, .slice none 0 0] := ⟨_, rfl⟩
  have hZ9 : Hid (Z.size = 9) := Lib.hid (by rw [hZ]; rfl)
  have f0 : Fr No w (((w.alloc (.cells #[.slice x.cA x.code.length x.cc, .slice x.fA x.foot.length x.fc] 25)).alloc (.cells #[.int .i64 (r 0), .int .i64 (r 1), .int .i64 (r 2), .int .i64 (r 3)] 27)).alloc (.cells Z 39)) := (((Fr.refl No w).alloc _).alloc _).alloc _
  have bA := ((Bk.made w 25 #[.slice x.cA x.code.length x.cc, .slice x.fA x.foot.length x.fc]).alloc (.cells #[.int .i64 (r 0), .int .i64 (r 1), .int .i64 (r 2), .int .i64 (r 3)] 27)).alloc (.cells Z 39)
  have bB := (Bk.made (w.alloc (.cells #[.slice x.cA x.code.length x.cc, .slice x.fA x.foot.length x.fc] 25)) 27 #[.int .i64 (r 0), .int .i64 (r 1), .int .i64 (r 2), .int .i64 (r 3)]).alloc (.cells Z 39)
  have bZ := Bk.made ((w.alloc (.cells #[.slice x.cA x.code.length x.cc, .slice x.fA x.foot.length x.fc] 25)).alloc (.cells #[.int .i64 (r 0), .int .i64 (r 1), .int .i64 (r 2), .int .i64 (r 3)] 27)) 39 Z
  simp only [World.size_alloc, hq] at bA bB bZ
  obtain ⟨W0, hW0⟩ : ∃ W0, ((w.alloc (.cells #[.slice x.cA x.code.length x.cc, .slice x.fA x.foot.length x.fc] 25)).alloc (.cells #[.int .i64 (r 0), .int .i64 (r 1), .int .i64 (r 2), .int .i64 (r 3)] 27)).alloc (.cells Z 39) = W0 := ⟨_, rfl⟩
  rw [hW0] at f0 bA bB bZ
  have HA := Lib.hid (fun W (h : Fr No W0 W) => bA.fr h (fun e => e))
  have HB := Lib.hid (fun W (h : Fr No W0 W) => bB.fr h (fun e => e))
  have HZ := Lib.hid (fun W (h : Fr No W0 W) => bZ.fr h (fun e => e))
  have HF0 := Lib.hid f0
  have Hq := Lib.hid hq
  cases hrt : x.right
  · rw [hrt] at HMay
    unfold runS
    simp only [Bool.false_eq_true, if_false]
    unfold StI.agg StI.args at HMay ⊢
    clear hinv hps hv himm hr hrt bA bB bZ f0
    generalize x.code.length = nc at *
    generalize x.foot.length = nf at *
    generalize x.gs.length = ng at *
    go_enter Tryz.func12, Tryz.ntmps12
    go_wp2_with fail
    rw [← hZ, hW0]
    refine (HMay.out _ HF0.out).mono ?_
    rintro e w1 ⟨rfl, f1⟩
    have F1 := Lib.hid (HF0.out.trans' f1 (fun _ _ e => e))
    have c1 := HB.out _ f1
    have k0 := c1.cell 0
    have k1 := c1.cell 1
    have k2 := c1.cell 2
    have k3 := c1.cell 3
    simp only [List.getElem?_toArray, List.getElem?_cons_zero, List.getElem?_cons_succ] at k0 k1 k2 k3
    have c2 := HZ.out _ f1
    have hst := st_out hZ9.out c2 (c := 1) (a := 0) (r0 := r 0) (r1 := r 1) (r2 := r 2) (r3 := r 3) (v1 := .slice none 0 0) (v2 := .slice none 0 0) (v3 := .slice none 0 0) rfl rfl rfl
    have hbF := bk_row12 c2 #[.int .i64 1, .int .i64 0, .int .i64 (r 0), .int .i64 (r 1), .int .i64 (r 2), .int .i64 (r 3), .slice none 0 0, .slice none 0 0, .slice none 0 0]
    have fF := fr_row12 F1.out (g := q + 1 + 1) (.inr (by have := Hq.out; omega)) #[.int .i64 1, .int .i64 0, .int .i64 (r 0), .int .i64 (r 1), .int .i64 (r 2), .int .i64 (r 3), .slice none 0 0, .slice none 0 0, .slice none 0 0]
    obtain ⟨W3, hW3⟩ : ∃ W3, W3 = w1.setRow (q + 1 + 1) #[.int .i64 1, .int .i64 0, .int .i64 (r 0), .int .i64 (r 1), .int .i64 (r 2), .int .i64 (r 3), .slice none 0 0, .slice none 0 0, .slice none 0 0] := ⟨_, rfl⟩
    rw [← hW3] at hst hbF fF
    have Hst := Lib.hid hst
    have Hld := Lib.hid (ld_out hbF)
    have HfF := Lib.hid fF
    clear f1 c1 c2 hst hbF fF hW3 hW0 hZ F1
    go_wp2_with ((with_reducible refine wpl_st ?_ ?_ ?_ Hst.out ?_); (· rfl); (· rfl); (· rfl); simp only [Act.put])
    exact bodyPost_ret (cell_result Tryz.results12 Hld.out rfl) rfl (OutC.fail 1 0 r HfF.out)
  · rw [hrt] at HMay
    have hrb : footRight x.foot x.gs = true ∧ (x.code = [] ∨ progOk x.code x.gs.length = true) := by
      have h := hrt
      unfold StI.right rightB at h
      simp only [Bool.and_eq_true, Bool.or_eq_true, decide_eq_true_eq] at h
      exact ⟨h.1, h.2.imp List.eq_nil_of_length_eq_zero id⟩
    have HCD := Lib.hid (x.hc)
    have HFD := Lib.hid (x.hf)
    have HGD := Lib.hid (x.hg)
    unfold runS
    simp only [if_true]
    have Herr := Lib.hid (fun e k (h : runI ask (keysOf (chosen false x.gs x.foot)) (keysOf (chosen true x.gs x.foot)) x.gs x.code 0 ⟨valP P.flatten, r, fun _ => false, fun _ => false⟩ = .error (e, k)) => runI_err h)
    obtain ⟨rn, hrn⟩ : ∃ rn, runI ask (keysOf (chosen false x.gs x.foot)) (keysOf (chosen true x.gs x.foot)) x.gs x.code 0 ⟨valP P.flatten, r, fun _ => false, fun _ => false⟩ = rn := ⟨_, rfl⟩
    rw [hrn] at Herr ⊢
    have Hrn := Lib.hid hrn
    clear hrn
    have hmk := @run_makeMap Tryz.prog
    unfold StI.agg StI.args at HMay ⊢
    go_enter Tryz.func12, Tryz.ntmps12
    go_wp2_with fail
    rw [← hZ, hW0]
    refine (HMay.out _ HF0.out).mono ?_
    rintro e w1 ⟨rfl, f1⟩
    have F1 := Lib.hid (HF0.out.trans' f1 (fun _ _ e => e))
    obtain ⟨u, hu⟩ : ∃ u, w1.heap.size = u := ⟨_, rfl⟩
    have Hu := Lib.hid hu
    obtain ⟨y, hy⟩ : ∃ y : Dx, y = ⟨u + 1, u, x.cA, x.code, x.cc, x.fA, x.foot, x.fc, x.gA, x.gs, x.gc, s, S, P, ask⟩ := ⟨_, rfl⟩
    obtain ⟨W2, hW2⟩ : ∃ W2, W2 = (w1.alloc (.map #[] 0)).alloc (.cells (y.cells r none 0 0 none 0 0) 80) := ⟨_, rfl⟩
    have f2 : Fr No w1 W2 := by rw [hW2]; exact ((Fr.refl _ _).alloc _).alloc _
    have F2 := F1.out.trans' f2 (fun _ _ e => e)
    have hsz : W2.heap.size = u + 1 + 1 := by rw [hW2]; simp [hu]
    have hwu : w.heap.size ≤ u := by have := F1.out.size; omega
    have hkp : ∀ p : Addr, p.block < w.heap.size → W2.cell? p = w.cell? p := fun p hp => F2.cell hp (fun e => e)
    have hs : Dst y W2 := by
      rw [hy]
      exact ⟨(HCD.out.keep hkp).more hwu, (HFD.out.keep hkp).more hwu, (HGD.out.keep hkp).more hwu, Nat.lt_succ_self u, hrb.1, hrb.2, hinv, hps.fr F2 (fun _ _ e => e), fun k hk => Nat.lt_of_lt_of_le (hps.lt k hk) hwu, by show u < W2.heap.size; omega, hv, himm⟩
    have hg : DG y ⟨valP P.flatten, r, fun _ => false, fun _ => false⟩ W2 := by
      have h := DG.fresh y r hr (w := w1) (W := W2) (by rw [hy]; exact hu.symm) (by rw [hy, hu]) hW2 (by rw [hy]; exact hv)
      rw [hy] at h ⊢
      exact h
    have HAll := Lib.hid (dAll_any hs hg)
    have eyd : y.d = u + 1 := by rw [hy]
    have eym : y.m = u := by rw [hy]
    have HOut := Lib.hid (fun (W : World) (s' : Sst) (h : DG y s' W) => dOutcome_any h)
    have HFr2 := Lib.hid (fun (W : World) (h : Fr (DM y) W2 W) => (F2.trans' h (fun i hi e => by
      have h3 : i = y.d ∨ i = y.m := e
      rw [hy] at h3
      have h4 : i = u + 1 ∨ i = u := h3
      omega)))
    have HB2 := Lib.hid (fun (W : World) (h : Fr (DM y) W2 W) => (HB.out _ (f1.trans' f2 (fun _ _ e => e))).fr h (fun e => by
      have h3 : q + 1 = y.d ∨ q + 1 = y.m := e
      rw [hy] at h3
      have h4 : q + 1 = u + 1 ∨ q + 1 = u := h3
      have h5 := (HZ.out _ f1).lt
      omega))
    have HZ2 := Lib.hid (fun (W : World) (h : Fr (DM y) W2 W) => (HZ.out _ (f1.trans' f2 (fun _ _ e => e))).fr h (fun e => by
      have h3 : q + 1 + 1 = y.d ∨ q + 1 + 1 = y.m := e
      rw [hy] at h3
      have h4 : q + 1 + 1 = u + 1 ∨ q + 1 + 1 = u := h3
      have h5 := (HZ.out _ f1).lt
      omega))
    have g1 := HA.out _ f1
    have a0 := g1.cell 0
    have a1 := g1.cell 1
    have c1 := HB.out _ f1
    have k0 := c1.cell 0
    have k1 := c1.cell 1
    have k2 := c1.cell 2
    have k3 := c1.cell 3
    simp only [List.getElem?_toArray, List.getElem?_cons_zero, List.getElem?_cons_succ] at a0 a1 k0 k1 k2 k3
    unfold AllC at HAll
    have eas : y.ask = ask := by rw [hy]
    have emr : y.mr = keysOf (chosen false x.gs x.foot) := by rw [hy]; rfl
    have emw : y.mw = keysOf (chosen true x.gs x.foot) := by rw [hy]; rfl
    have egs : y.gs = x.gs := by rw [hy]
    have eco : y.code = x.code := by rw [hy]
    rw [eas, emr, emw, egs, eco, eyd] at HAll
    rw [eyd] at HOut
    rw [Hrn.out] at HAll
    have hW2' : W2 = (w1.alloc (.map #[] 0)).alloc (.cells #[.slice x.cA x.code.length x.cc, .slice x.fA x.foot.length x.fc, .slice x.gA x.gs.length x.gc, .pointer (some ⟨s, 0, none⟩), .bool ask, .int .i64 (r 0), .int .i64 (r 1), .int .i64 (r 2), .int .i64 (r 3), .slice none 0 0, .slice none 0 0, .map (some u)] 80) := by
      rw [hW2, hy]; rfl
    clear hs hg hrb hrt HCD HFD HGD hinv hps hv himm hr f1 f2 F2 hsz hkp hW2 eas emr emw egs eco g1 c1 bA bB bZ f0 HMay HF0 HA HB HZ hy
    generalize x.code.length = nc at *
    generalize x.foot.length = nf at *
    generalize x.gs.length = ng at *
    go_wp2_with fail
    rw [← hW2']
    clear hmk
    refine (HAll.out).mono ?_
    cases rn with
    | error ek =>
      obtain ⟨er, k⟩ := ek
      have her := Herr.out er k rfl
      have he1 : ((er : Int) != 0) = true := by rw [bne_iff_ne]; omega
      simp only
      rintro e w3 ⟨rfl, f3⟩
      have F3 := Lib.hid (HFr2.out _ f3)
      have d1 := HB2.out _ f3
      have m0 := d1.cell 0
      have m1 := d1.cell 1
      have m2 := d1.cell 2
      have m3 := d1.cell 3
      simp only [List.getElem?_toArray, List.getElem?_cons_zero, List.getElem?_cons_succ] at m0 m1 m2 m3
      have c2 := HZ2.out _ f3
      have hst := st_out hZ9.out c2 (c := (er : Int)) (a := (k : Int)) (r0 := r 0) (r1 := r 1) (r2 := r 2) (r3 := r 3) (v1 := .slice none 0 0) (v2 := .slice none 0 0) (v3 := .slice none 0 0) rfl rfl rfl
      have hbF := bk_row12 c2 #[.int .i64 (er : Int), .int .i64 (k : Int), .int .i64 (r 0), .int .i64 (r 1), .int .i64 (r 2), .int .i64 (r 3), .slice none 0 0, .slice none 0 0, .slice none 0 0]
      have fF := fr_row12 F3.out (g := q + 1 + 1) (.inr (by have := Hq.out; omega)) #[.int .i64 (er : Int), .int .i64 (k : Int), .int .i64 (r 0), .int .i64 (r 1), .int .i64 (r 2), .int .i64 (r 3), .slice none 0 0, .slice none 0 0, .slice none 0 0]
      obtain ⟨W3, hW3⟩ : ∃ W3, W3 = w3.setRow (q + 1 + 1) #[.int .i64 (er : Int), .int .i64 (k : Int), .int .i64 (r 0), .int .i64 (r 1), .int .i64 (r 2), .int .i64 (r 3), .slice none 0 0, .slice none 0 0, .slice none 0 0] := ⟨_, rfl⟩
      rw [← hW3] at hst hbF fF
      have Hst := Lib.hid hst
      have Hld := Lib.hid (ld_out hbF)
      have HfF := Lib.hid fF
      clear f3 d1 c2 hst hbF fF hW3 hW0 hZ F1 F3 hW2' HAll HOut HB2 HZ2 HFr2 a0 a1 k0 k1 k2 k3
      go_wp2_with ((with_reducible refine wpl_st ?_ ?_ ?_ Hst.out ?_); (· rfl); (· rfl); (· rfl); simp only [Act.put])
      exact bodyPost_ret (cell_result Tryz.results12 Hld.out rfl) rfl (OutC.fail er k r HfF.out)
    | ok s' =>
      simp only
      rintro e w3 ⟨rfl, g3, f3⟩
      have F3 := Lib.hid (HFr2.out _ f3)
      have HO := Lib.hid (HOut.out _ _ g3)
      have HZ3 := Lib.hid (HZ2.out _ f3)
      clear f3 g3 hW0 hZ F1 hW2' HAll HOut HB2 HZ2 HFr2 a0 a1 k0 k1 k2 k3 Herr
      go_wp2_with fail
      refine (HO.out).mono ?_
      rintro e w4 ⟨o, rfl, hop, hos, hapt, hlow, f4⟩
      have hapq := fun ad h => hapt (q + 1 + 1) Z HZ3.out ad h
      obtain ⟨p, rA, rc, wA, wc, cA, cc⟩ := o
      unfold Otc.agg
      simp only at hop hapq hlow ⊢
      have Hlow : Hid (∀ ad : Addr, (rA = some ad ∨ wA = some ad ∨ cA = some ad) → w.heap.size ≤ ad.block) := Lib.hid (fun ad h => Nat.le_trans hwu (by have h3 := hlow ad h; rw [eym] at h3; exact h3))
      clear hlow
      have c2 := HZ3.out.fr f4 (fun e => e)
      have F4 := F3.out.trans' f4 (fun _ _ e => e)
      have hst := st_out hZ9.out c2 (c := p.code) (a := p.at_) (r0 := p.r 0) (r1 := p.r 1) (r2 := p.r 2) (r3 := p.r 3) (v1 := .slice rA p.rd.length rc) (v2 := .slice wA p.wt.length wc) (v3 := .slice cA p.ch.length cc) rfl rfl rfl
      obtain ⟨V, hV⟩ : ∃ V : Array Value, V = #[.int .i64 p.code, .int .i64 p.at_, .int .i64 (p.r 0), .int .i64 (p.r 1), .int .i64 (p.r 2), .int .i64 (p.r 3), .slice rA p.rd.length rc, .slice wA p.wt.length wc, .slice cA p.ch.length cc] := ⟨_, rfl⟩
      have hbF := ld_out (bk_row12 c2 #[.int .i64 p.code, .int .i64 p.at_, .int .i64 (p.r 0), .int .i64 (p.r 1), .int .i64 (p.r 2), .int .i64 (p.r 3), .slice rA p.rd.length rc, .slice wA p.wt.length wc, .slice cA p.ch.length cc])
      rw [← hV] at hst hbF
      have fF := fr_row12 F4 (g := q + 1 + 1) (.inr (by have := Hq.out; omega)) V
      have f5 := fr_row12 (Fr.refl (fun k => k = q + 1 + 1) w4) (g := q + 1 + 1) (.inl rfl) V
      have ho2 : Otcs (w4.setRow (q + 1 + 1) V) (w4.setRow (q + 1 + 1) V).heap.size ⟨p, rA, rc, wA, wc, cA, cc⟩ :=
        ⟨(hos.rd.fr f5 (Nat.le_refl _) (fun ad h _ => hapq ad (.inl h))).more f5.size, (hos.wt.fr f5 (Nat.le_refl _) (fun ad h _ => hapq ad (.inr (.inl h)))).more f5.size, (hos.ch.fr f5 (Nat.le_refl _) (fun ad h _ => hapq ad (.inr (.inr h)))).more f5.size⟩
      obtain ⟨W5, hW5⟩ : ∃ W5, W5 = w4.setRow (q + 1 + 1) V := ⟨_, rfl⟩
      rw [← hW5] at hst hbF fF ho2
      have Hst := Lib.hid hst
      have Hld := Lib.hid hbF
      have HfF := Lib.hid fF
      have Ho2 := Lib.hid ho2
      have Hop := Lib.hid hop
      have HV := Lib.hid hV
      clear c2 F4 hst hbF fF f5 ho2 hW5 f4 hos hapt hapq HO HZ3 F3 hop
      rw [← hV]
      clear hV
      go_wp2_with ((with_reducible refine wpl_st ?_ ?_ ?_ Hst.out ?_); (· rfl); (· rfl); (· rfl); simp only [Act.put])
      exact bodyPost_ret (cell_result Tryz.results12 Hld.out rfl) rfl ⟨⟨p, rA, rc, wA, wc, cA, cc⟩, by rw [HV.out]; rfl, Hop.out, Ho2.out, Hlow.out, HfF.out⟩
end Go.Proofs.YthenadijiepmnaaGreat
