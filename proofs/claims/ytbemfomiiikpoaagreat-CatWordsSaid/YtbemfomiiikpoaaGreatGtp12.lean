/- Package cat: a catalogue that is read, whether it may be or not. -/
import Derived.Test.YtbemfomiiikpoaaGreatEag12
import Derived.Test.YtbemfomiiikpoaaGreatGet11
import Derived.Test.YtbemfomiiikpoaaGreatPkc12
import Derived.Test.YtbemfomiiikpoaaGreatAlv12
namespace Go.Proofs.YtbemfomiiikpoaaGreat
open Go.RowKit

variable {G : Nat → Prop}
/-- What stands while the classes are read. -/
structure T12 (G : Nat → Prop) (w0 w : World) (q : Nat) (cA : Option Addr) (cc : Nat) (cls : List Cls) (k : Nat) (b : Nat → Int) (st : Option (List Nat)) : Prop where
  rb : Bk w w0.heap.size 34 #[.pointer (some ⟨q, 0, none⟩)]
  res : Bk w (w0.heap.size + 1) 26 (brA (.slice none 0 0) fun _ => 0)
  q12 : Q12 w0.heap.size w (w0.heap.size + 1 + 1) cA cc cls k b
  rr : Rdq G w q st
  fr : Fr (Only q) w0 w
variable {w0 w w' : World} {q k cc : Nat} {cA : Option Addr} {cls : List Cls} {b : Nat → Int} {st st' : Option (List Nat)}
theorem T12.call (h : T12 G w0 w q cA cc cls k b st) (hq : q < w0.heap.size) (hf : Fr (Only q) w w') (hr : Rdq G w' q st') : T12 G w0 w' q cA cc cls k b st' :=
  ⟨h.rb.fr hf (fun e => by have e : w0.heap.size = q := e; omega), h.res.fr hf (fun e => by have e : w0.heap.size + 1 = q := e; omega), h.q12.call hq hf, hr, h.fr.trans' hf (fun _ _ e => e)⟩
theorem T12.quiet (h : T12 G w0 w q cA cc cls k b st) (hf : Fr No w w') : T12 G w0 w' q cA cc cls k b st :=
  ⟨h.rb.fr hf (fun e => e), h.res.fr hf (fun e => e), h.q12.quiet hf, h.rr.frG hf (fun e => e) (fun _ _ e => e), h.fr.trans' hf (fun _ _ e => e.elim)⟩
theorem T12.app {A : Option Addr} {c2 lo : Nat} {c : Cls} (h : T12 G w0 w q cA cc cls k b st) (hq : q < w0.heap.size) (hG : ∀ k, G k → k < w0.heap.size) (hc : ∀ V, Fr (fun i => i < lo) w V → c.Ok V) (hlo : w0.heap.size + 1 + 1 < lo) (hlt : ∀ i, (Value.slice cA k cc).ownBlock = some i → i < lo)
    (ho : w'.ownsRow w0.heap.size 59 5 (.slice A (k + 1) c2) (k + 1) (cls.flatMap Cls.cells ++ c.cells)) (hf : Fr (fun i => (Value.slice cA k cc).ownBlock = some i) w w')
    (hg : (Value.slice A (k + 1) c2).ownBlock = (Value.slice cA k cc).ownBlock ∨ ∃ i, (Value.slice A (k + 1) c2).ownBlock = some i ∧ w.heap.size ≤ i) :
    (w0.heap.size + 1 + 1 < w'.heap.size ∧ w'.frozen? ⟨w0.heap.size + 1 + 1, 0, none⟩ = false ∧ w'.cell? ⟨w0.heap.size + 1 + 1, 0, none⟩ = some (.slice cA k cc)) ∧
    T12 G w0 (w'.setCell ⟨w0.heap.size + 1 + 1, 0, none⟩ (.slice A (k + 1) c2)) q A c2 (cls ++ [c]) (k + 1) b st := by
  obtain ⟨hk, hQ⟩ := h.q12.app hc ⟨by omega, hlo⟩ hlt ho hf hg
  have hX : Fr (Only (w0.heap.size + 1 + 1)) w' (w'.setCell ⟨w0.heap.size + 1 + 1, 0, none⟩ (.slice A (k + 1) c2)) := (Fr.refl (Only (w0.heap.size + 1 + 1)) w').setCell (p := ⟨w0.heap.size + 1 + 1, 0, none⟩) (.inl rfl) _
  have hb := h.rb.fr hf (fun e => own_apart h.q12.own h.rb (by decide) e)
  have hr := h.res.fr hf (fun e => own_apart h.q12.own h.res (by decide) e)
  have hrr := h.rr.frG hf (fun e => by have := (h.q12.own.lt _ e).1; omega) (fun i hi e => by have := (h.q12.own.lt _ e).1; have := hG i hi; omega)
  exact ⟨⟨hk.lt, hk.frozen 0, hk.cell 0⟩, hb.fr hX (fun e => by have e : w0.heap.size = w0.heap.size + 1 + 1 := e; omega), hr.fr hX (fun e => by have e : w0.heap.size + 1 = w0.heap.size + 1 + 1 := e; omega), hQ, hrr.frG hX (fun e => by have e : q = w0.heap.size + 1 + 1 := e; omega) (fun i hi e => by have e : i = w0.heap.size + 1 + 1 := e; have := hG i hi; omega), (h.fr.trans' hf (fun i hi e => by have := (h.q12.own.lt _ e).1; omega)).trans' hX (fun i hi e => by have e : i = w0.heap.size + 1 + 1 := e; omega)⟩
theorem T12.clss (h : T12 G w0 w q cA cc cls k b st) {V : World} (hV : Fr (fun i => i ≤ w0.heap.size + 1 + 1) w V) : Clss V cA cls := by
  refine ⟨Sl.ofOwn (own_fr h.q12.own hV (fun i hi e => ?_)), fun c hc => ?_⟩
  · have e : i ≤ w0.heap.size + 1 + 1 := e
    have h1 := (h.q12.own.lt i hi).1
    have h2 : i = w0.heap.size ∨ i = w0.heap.size + 1 ∨ i = w0.heap.size + 1 + 1 := by omega
    rcases h2 with rfl | rfl | rfl
    · exact own_apart h.q12.own h.rb (by decide) hi
    · exact own_apart h.q12.own h.res (by decide) hi
    · exact own_apart h.q12.own h.q12.cat (by decide) hi
  · obtain ⟨lo, hi, h1, h2, h3, h4⟩ := h.q12.all c hc
    exact h3.2 V (hV.weak (fun i _ e => by have e : i ≤ w0.heap.size + 1 + 1 := e; omega))

set_option maxRecDepth 100000 in
set_option maxHeartbeats 4000000 in
/-- The breakpoints of two classes are read: as many as the first class may have. -/
theorem gc1_any (x : Ctl) (B X c d : Nat) (st : Option (List Nat)) (W : World) (hB : Bk W B 34 #[.pointer (some ⟨q, 0, none⟩)]) (hX : Bk W X 26 x.arr) (hx : Clss W x.cA x.cls) (hr : Rdq G W q st) (_ : ∀ k, G k → k < W.heap.size) (hc : c < x.cls.length) (h4 : x.cls[c].steps.length ≤ 4) :
    Calls Tryz.prog 52 #[.int .i64 (c : Int), .int .i64 (d : Int), .pointer (some ⟨B, 0, none⟩), .pointer (some ⟨X, 0, none⟩)] W fun e W' => e = .returned (.int .i64 (cV (mskL x.cls[c].steps.length) st)) ∧ Rdq G W' q (cS (mskL x.cls[c].steps.length) st) ∧ Fr (Only q) W W' := by
  have HA := Lib.hid (fun V (h : Fr No W V) => all_any x.cls[c] V h4)
  have hm0 := mskL_nn x.cls[c].steps.length
  have hm7 := mskL_le h4
  have HR := Lib.hid (fun V (h : Fr No W V) => count9 q (mskL x.cls[c].steps.length) st V (hr.frG h (fun e => e) (fun _ _ e => e)) (by omega))
  obtain ⟨cA, cls, cc, b⟩ := x
  unfold Ctl.arr at hX
  simp only at *
  obtain ⟨ad, e1, hab, c0, c1, c2, c3, c4⟩ := hx.sl.cls (k := c) hc
  obtain ⟨n, hnn⟩ : ∃ n, n = cls.length := ⟨_, rfl⟩
  rw [← hnn] at hc hX
  have x0 : W.cell? ⟨X, 0, none⟩ = some (.slice cA n cc) := hX.cell 0
  have b0 : W.cell? ⟨B, 0, none⟩ = some (.pointer (some ⟨q, 0, none⟩)) := hB.cell 0
  have lB := hB.lt
  unfold Cls.agg at HA
  generalize mskL cls[c].steps.length = M at *
  generalize cls[c].steps.length = L at *
  generalize cls[c].comps.length = m at *
  generalize cls[c].name = nm at *
  generalize cls[c].args = ar at *
  generalize cls[c].sA = sA at *
  generalize cls[c].sc = sc at *
  generalize cls[c].uA = uA at *
  generalize cls[c].uc = uc at *
  generalize cls[c].res = re at *
  have icn : ((c : Nat) : Int) < (n : Int) := by omega
  clear hx hB hX h4 hnn hr hm0 hm7
  subst e1
  go_enter Tryz.func52, Tryz.ntmps52
  go_wp2_with fail
  first | go_region_with (first
    | (go_at_call 37
       refine (HA.out _ (by first | exact Fr.refl _ _ | exact (Fr.refl _ _).drew)).mono ?_
       rintro e w1 ⟨rfl, f1⟩
       have F1 := ((Fr.refl No W).drew).then0 f1 (fun _ h => h.elim)
       have y1 : w1.cell? ⟨B, 0, none⟩ = some (.pointer (some ⟨q, 0, none⟩)) := (F1.cell (p := ⟨B, 0, none⟩) lB (fun e => e)).trans b0)
    | (go_at_call 28
       refine (HR.out _ F1).mono ?_
       rintro e w2 ⟨rfl, hr2, hf2⟩)) | fail
  all_goals
    go_wp2
    go_ret
    exact ⟨rfl, hr2, (F1.weak (fun _ _ e => e.elim)).trans' hf2 (fun _ _ e => e)⟩

/-- A catalogue that was read, whether it may be or not. -/
def GotX (G : Nat → Prop) (w : World) (q : Nat) (st : Option (List Nat)) (e : Ending) (w' : World) : Prop :=
  ∃ x : Ctl, e = .returned x.agg ∧ x.p = xcP st ∧ (∀ V, Fr (fun i => i < w.heap.size) w' V → Clss V x.cA x.cls) ∧ Rdq G w' q (xcS st) ∧ Fr (Only q) w w'
/-- Reading two by two. -/
theorem stE_read (cs : List PC) {n : Nat} (_ : n ≤ 4) (st : Option (List Nat)) (j : Nat) : (stE (fun s i => cV (allC cs (i / n)) s) (fun s i => cS (allC cs (i / n)) s) n st (List.range j)).1 = stA cs n j st := by
  induction j with
  | zero => rfl
  | succ j ih =>
    rw [List.range_succ, stE_snoc]
    show cS _ _ = stA cs n (j + 1) st
    rw [ih, stA]
theorem stE_readB (cs : List PC) {n : Nat} (hn : n ≤ 4) (st : Option (List Nat)) : (stE (fun s i => cV (allC cs (i / n)) s) (fun s i => cS (allC cs (i / n)) s) n st (List.range (n * n))).2 = brP cs n (n * n) st := by
  rw [stE_br _ _ _ hn _ (Nat.le_refl _)]
  funext p
  unfold brP
  by_cases h : p / 4 < n ∧ p % 4 < n ∧ p / 4 * n + p % 4 < n * n
  · rw [if_pos h, if_pos h, stE_read cs hn, (pair_at h.2.1).1]
  · rw [if_neg h, if_neg h]

theorem add_off (g i : Nat) : (⟨g, 1, none⟩ : Addr).add i = (⟨g, 0, none⟩ : Addr).add (1 + i) := by
  cases i <;> simp [Addr.add, Nat.add_comm]
theorem storeCells_off (g : Nat) : ∀ (vs : List Value) (i : Nat), storeCells ⟨g, 1, none⟩ vs i = storeCells ⟨g, 0, none⟩ vs (1 + i)
  | [], i => by simp only [storeCells]
  | v :: vs, i => by
    simp only [storeCells, add_off]
    rw [storeCells_off g vs (i + 1), Nat.add_assoc]
theorem st_br1 {W : World} {H : Nat} {Z : Array Value} {v : Value} {b b' : Nat → Int} (hZ : Z = brA v b) (h : Bk W H 26 Z) : StO W 24 ⟨H, 1, none⟩ (.agg (br16 b')) (W.setRow H (brA v b')) := by
  subst hZ
  have h1 : ((Value.agg (br16 b')).cells).size = 16 := rfl
  have hC : (Tryz.prog.info? 24).map (·.size) = some 16 := by kernel_rfl
  obtain ⟨i, hi, hs⟩ := Option.map_eq_some_iff.1 hC
  have := run_storeCells_from (P := Tryz.prog) H _ (br16 b').toList 1 _ W h (by simp [br16, brA]) (fun u hu => by
    simp [br16] at hu
    rcases hu with rfl | rfl | rfl | rfl | rfl | rfl | rfl | rfl | rfl | rfl | rfl | rfl | rfl | rfl | rfl | rfl <;> rfl)
  have e : ((brA v b).toList.take 1 ++ (br16 b').toList).toArray = brA v b' := rfl
  rw [e] at this
  have hst : (storeCells ⟨H, 1, none⟩ (br16 b').toList).run Tryz.prog W = .ok () (W.setRow H (brA v b')) := by
    rw [storeCells_off]
    exact this
  unfold StO storeVar
  simp [sizeOf, typeInfo, hi, hs, h1]
  exact hst
theorem allC_map {cls : List Cls} {i : Nat} (hi : i < cls.length) : allC (cls.map Cls.p) i = mskL cls[i].steps.length := by
  unfold allC ctAt
  simp [List.getD, hi, Cls.p]
theorem stC4_lsQ (k : Nat) (st : Option (List Nat)) {cls : List Cls} (h : cls.map Cls.p = lsQ k st) {c : Cls} (hc : c ∈ cls) : c.steps.length ≤ 4 := by
  have h1 := ok_steps4 (lsQ_few k st c.p (by rw [← h]; exact List.mem_map_of_mem hc))
  simpa [Cls.p] using h1
set_option maxRecDepth 100000 in
set_option maxHeartbeats 8000000 in
theorem getCat_any (q : Nat) (st : Option (List Nat)) (w : World) (hr : Rdq G w q st) (hG : ∀ k, G k → k < w.heap.size) : Calls Tryz.prog 27 #[.pointer (some ⟨q, 0, none⟩)] w (GotX G w q st) := by
  have hql := hr.lt
  obtain ⟨W, hW⟩ : ∃ W, Hid (W = ((w.alloc (.cells #[.pointer (some ⟨q, 0, none⟩)] 34)).alloc (.cells (brA (.slice none 0 0) fun _ => 0) 26)).alloc (.cells (brA (.slice none 0 0) fun _ => 0) 26)) := ⟨_, Lib.hid rfl⟩
  have hwe : ((w.alloc (.cells #[.pointer (some ⟨q, 0, none⟩)] 34)).alloc (.cells #[.slice none 0 0, .int .i64 0, .int .i64 0, .int .i64 0, .int .i64 0, .int .i64 0, .int .i64 0, .int .i64 0, .int .i64 0, .int .i64 0, .int .i64 0, .int .i64 0, .int .i64 0, .int .i64 0, .int .i64 0, .int .i64 0, .int .i64 0] 26)).alloc (.cells #[.slice none 0 0, .int .i64 0, .int .i64 0, .int .i64 0, .int .i64 0, .int .i64 0, .int .i64 0, .int .i64 0, .int .i64 0, .int .i64 0, .int .i64 0, .int .i64 0, .int .i64 0, .int .i64 0, .int .i64 0, .int .i64 0, .int .i64 0] 26) = W := hW.out.symm
  have hfa : Fr No w W := by rw [hW.out]; exact (((Fr.refl _ _).alloc _).alloc _).alloc _
  have bB0 : Bk W w.heap.size 34 #[.pointer (some ⟨q, 0, none⟩)] := by rw [hW.out]; exact ((Bk.made w _ _).fr ((Fr.refl No _).alloc _) (fun e => e)).fr ((Fr.refl No _).alloc _) (fun e => e)
  have bR0 : Bk W (w.heap.size + 1) 26 (brA (.slice none 0 0) fun _ => 0) := by
    have h := Bk.made (w.alloc (.cells #[.pointer (some ⟨q, 0, none⟩)] 34)) 26 (brA (.slice none 0 0) fun _ => 0)
    rw [World.size_alloc] at h
    rw [hW.out]
    exact h.fr ((Fr.refl No _).alloc _) (fun e => e)
  have bX0 : Bk W (w.heap.size + 1 + 1) 26 (brA (.slice none 0 0) fun _ => 0) := by
    have h := Bk.made ((w.alloc (.cells #[.pointer (some ⟨q, 0, none⟩)] 34)).alloc (.cells (brA (.slice none 0 0) fun _ => 0) 26)) 26 (brA (.slice none 0 0) fun _ => 0)
    rw [World.size_alloc, World.size_alloc] at h
    rw [hW.out]
    exact h
  have rr0 := hr.frG hfa (fun e => e) (fun _ _ e => e)
  have HT0 : Hid (T12 G w W q none 0 [] 0 (fun _ => 0) st) := Lib.hid ⟨bB0, bR0, ⟨bX0, World.ownsRow_nil _ _ _ _, fun c hc => by simp at hc, by omega⟩, rr0, hfa.weak (S' := Only q) (fun _ _ h => h.elim)⟩
  have C1 := Lib.hid (count9 q 4 st W rr0 (by omega))
  have HG := Lib.hid hG
  have b0 := bB0.cell 0
  simp at b0
  clear hr hG hfa bB0 bR0 bX0 rr0 hW
  go_enter Tryz.func27, Tryz.ntmps27
  go_wp2_with fail
  refine (C1.out).mono ?_
  rintro e w1 ⟨rfl, r1, f1⟩
  obtain ⟨n, hn⟩ : ∃ n, Hid (n = ctN st) := ⟨_, Lib.hid rfl⟩
  obtain ⟨s1, hs1⟩ : ∃ s1, Hid (s1 = cS 4 st) := ⟨_, Lib.hid rfl⟩
  have hcv : cV 4 st = (n : Int) := by rw [hn.out]; rfl
  have hn4 : n ≤ 4 := by rw [hn.out]; exact ctN_le st
  rw [hcv]
  rw [← hs1.out] at r1
  have HT1 := Lib.hid (HT0.out.call hql f1 r1)
  have HP : Hid (xcP st = ⟨lsQ n s1, brP (lsQ n s1) n (n * n) (stQ n s1)⟩ ∧ xcS st = stA (lsQ n s1) n (n * n) (stQ n s1)) := Lib.hid (by
    rw [xcP, xcS, ← hn.out, ← hs1.out]
    exact ⟨rfl, rfl⟩)
  clear r1 f1 C1 hcv HT0 hwe b0 hs1 hn
  go_wp2
  go_loopw [8] (fun i wr => ∃ (k : Nat) (cA : Option Addr) (cc : Nat) (cls : List Cls), k ≤ n ∧ i = .int .i64 k ∧ Hid (cls.map Cls.p = lsQ k s1) ∧ Hid (T12 G w wr q cA cc cls k (fun _ => 0) (stQ k s1))) (fun i _ => n - (intOf i).toNat)
  case atStart => exact ⟨0, none, 0, [], Nat.zero_le _, rfl, Lib.hid rfl, HT1⟩
  case round =>
    obtain ⟨k, cA, cc, cls, hk, rfl, hls, hg⟩ := hrel
    by_cases hlt : k < n
    · have CG := Lib.hid (get11_any q (stQ k s1) wr hg.out.rr (fun i hi => by have := HG.out i hi; have := hg.out.fr.size; omega))
      have hXl := hg.out.q12.cat.lt
      have Hol := Lib.hid (fun i hi => (hg.out.q12.own.lt i hi).2)
      have b0 := hg.out.rb.cell 0
      simp at b0
      go_wp2_with fail
      refine (CG.out).mono ?_
      rintro e w4 ⟨c, rfl, hcp, hcO, -, r4, f4⟩
      obtain ⟨p4, hp4⟩ : ∃ z, Hid (z = (clR (stQ k s1)).map (·.2)) := ⟨_, Lib.hid rfl⟩
      rw [← hp4.out] at r4
      have H4 := Lib.hid (hg.out.call hql f4 r4)
      have Hcp := Lib.hid hcp
      have HcO := Lib.hid hcO
      have hs4 := f4.size
      obtain ⟨W5, hW5⟩ : ∃ W5, Hid (W5 = w4.alloc (.cells #[.string c.name, .int .i64 c.args, .slice c.sA c.steps.length c.sc, .slice c.uA c.comps.length c.uc, .bool c.res] 59)) := ⟨_, Lib.hid rfl⟩
      have hwe5 : w4.alloc (.cells #[.string c.name, .int .i64 c.args, .slice c.sA c.steps.length c.sc, .slice c.uA c.comps.length c.uc, .bool c.res] 59) = W5 := hW5.out.symm
      have f5 : Fr No w4 W5 := by rw [hW5.out]; exact (Fr.refl _ _).alloc _
      have bC : Bk W5 w4.heap.size 59 #[.string c.name, .int .i64 c.args, .slice c.sA c.steps.length c.sc, .slice c.uA c.comps.length c.uc, .bool c.res] := by rw [hW5.out]; exact Bk.made w4 _ _
      have y0 := bC.cell 0
      have y1 := bC.cell 1
      have y2 := bC.cell 2
      have y3 := bC.cell 3
      have y4 := bC.cell 4
      simp at y0 y1 y2 y3 y4
      have lC := bC.lt
      have h5 := H4.out.quiet f5
      have x0 : W5.cell? ⟨w.heap.size + 1 + 1, 0, none⟩ = some (.slice cA k cc) := h5.q12.cat.cell 0
      have lX := h5.q12.cat.lt
      have HcO5 : Hid (∀ V, Fr (fun i => i < wr.heap.size) W5 V → Cls.Ok V c) := Lib.hid (fun V hV => hcO V ((f5.weak (fun _ _ e => e.elim)).trans' hV (fun _ _ e => e)))
      have H5 := Lib.hid h5
      have hu1 := cls_one12 c
      have HB : Hid (w.heap.size ≤ W5.heap.size) := Lib.hid (by omega)
      clear hg hcp hcO r4 f4 CG h5 bC f5 b0
      unfold Cls.agg
      go_wp2_with (first
        | (at_builtin
           refine wpList_append_elem rfl _ _ _ rfl w.heap.size 59 _ 5 80 Tryz.underlying22 info_cls12 rfl (by omega) (.slice cA k cc) k (cls.flatMap Cls.cells) #[.string c.name, .int .i64 c.args, .slice c.sA c.steps.length c.sc, .slice c.uA c.comps.length c.uc, .bool c.res] rfl hu1 rfl W5.heap.size (by simp) rfl H5.out.q12.own (by unfold maxLen; omega) (by omega) HB.out ?_
           intro A6 c6 v6 o6 f6 g6
           have h6 := H5.out.app hql HG.out HcO5.out (by omega) Hol.out o6 f6 g6
           have H6 := Lib.hid h6.2
           obtain ⟨⟨l6, z6, k6⟩, -⟩ := h6
           clear o6 f6 g6))
      go_roundw
      case rel =>
        have e1 : stQ (k + 1) s1 = p4 := by rw [stQ, hp4.out]
        refine ⟨k + 1, A6, c6, cls ++ [c], by omega, by go_num, Lib.hid ?_, Lib.hid ?_⟩
        · rw [List.map_append, hls.out, lsQ, ← Hcp.out]
          rfl
        · rw [e1]
          exact H6.out
      case measure => simp [intOf]; omega
    · obtain rfl : k = n := by omega
      have hlen : cls.length = k := by have := congrArg List.length hls.out; rw [List.length_map, lsQ_len] at this; exact this
      obtain ⟨s2, hs2⟩ : ∃ s2, Hid (s2 = stQ k s1) := ⟨_, Lib.hid rfl⟩
      rw [← hs2.out] at hg HP
      rw [← hls.out] at HP
      have Hst4 := Lib.hid (fun c (hc : c ∈ cls) => stC4_lsQ k s1 hls.out hc)
      obtain ⟨Z, hZ⟩ : ∃ Z, Z = brA (.slice cA k cc) (fun _ => 0) := ⟨_, rfl⟩
      have hgo := hg.out
      have hXl := hgo.q12.cat.lt
      have hqr : q < wr.heap.size := by omega
      have hcl2 : ∀ V, Fr (Only q) wr V → Clss V cA cls := fun V hV => hgo.q12.clss hV (fun i e => by have e : i = q := e; omega)
      have CE := each_get Z cA k cc (fun _ => 0) hZ hn4 ⟨w.heap.size, 0, none⟩ ⟨w.heap.size + 1 + 1, 0, none⟩ wr (fun s W => Rdq G W q s ∧ Fr (Only q) wr W) (Only q) (fun s i => cV (allC (cls.map Cls.p) (i / k)) s) (fun s i => cS (allC (cls.map Cls.p) (i / k)) s) s2
        (fun i e => by have e : i = q := e; omega) ⟨hgo.rr, Fr.refl _ _⟩
        (fun s W W' hs hf => ⟨hs.1.frG hf (fun e => by have e : wr.heap.size ≤ q := e; omega) (fun i hi e => by have e : wr.heap.size ≤ i := e; have := HG.out i hi; have := hgo.fr.size; omega), hs.2.trans' hf (fun i hi e => by have e : wr.heap.size ≤ i := e; omega)⟩)
        (fun s i V hi hf hs => by
          have hk0 : 0 < k := by
            rcases Nat.eq_zero_or_pos k with e | e
            · rw [e] at hi
              omega
            · exact e
          have i1 : i / k < cls.length := by rw [hlen]; exact Nat.div_lt_of_lt_mul hi
          have hc4 := Hst4.out _ (List.getElem_mem i1)
          rw [allC_map i1]
          refine (gc1_any ⟨cA, cls, cc, fun _ => 0⟩ w.heap.size (w.heap.size + 1 + 1) (i / k) (i % k) s V (hgo.rb.fr hf (fun e => by have e : w.heap.size = q := e; omega)) ?_ (hcl2 V hf) hs.1 (fun j hj => by have := HG.out j hj; have := hgo.fr.size; have := hf.size; omega) i1 hc4).mono (fun e V' h => ⟨h.1, ⟨h.2.1, hs.2.trans' h.2.2 (fun _ _ e => e)⟩, h.2.2⟩)
          have hc := hgo.q12.cat.fr hf (fun e => by have e : w.heap.size + 1 + 1 = q := e; omega)
          unfold Ctl.arr
          simp only
          rw [hlen]
          exact hc)
      rw [stE_read _ hn4, stE_readB _ hn4] at CE
      obtain ⟨b9, hb9⟩ : ∃ z, Hid (z = brP (cls.map Cls.p) k (k * k) s2) := ⟨_, Lib.hid rfl⟩
      obtain ⟨s9, hs9⟩ : ∃ z, Hid (z = stA (cls.map Cls.p) k (k * k) s2) := ⟨_, Lib.hid rfl⟩
      rw [← hb9.out, ← hs9.out] at CE
      have HCE := Lib.hid CE
      have hbZ : Bk wr (w.heap.size + 1 + 1) 26 Z := by rw [hZ]; exact hgo.q12.cat
      have hld := Lib.hid (ld_cat hZ hbZ)
      have hxp : Hid (Ctl.p ⟨cA, cls, cc, b9⟩ = xcP st ∧ s9 = xcS st) := Lib.hid ⟨by rw [HP.out.1, ← hb9.out]; rfl, by rw [HP.out.2, ← hs9.out]⟩
      have HTc := Lib.hid (fun V hV => hgo.clss (V := V) hV)
      have HR0 := Lib.hid hgo.res
      have HFw := Lib.hid hgo.fr
      have Hlen := Lib.hid hlen
      have HZ := Lib.hid hZ
      have HbZ := Lib.hid hbZ
      clear hg hgo CE hcl2 hlen hZ hbZ hls hs2 hb9 hs9 HP Hst4 HT1
      go_wp2_with (first
        | ((with_reducible refine wpl_ld ?_ ?_ hld.out ?_); (· rfl); (· rfl); simp only [Act.put, List.setIfInBounds_toArray, List.set_cons_zero, List.set_cons_succ]))
      refine (HCE.out).mono ?_
      rintro e w9 ⟨rfl, ⟨r9, -⟩, f9⟩
      have bZ9 := HbZ.out.fr f9 (fun e => by have e : w.heap.size + 1 + 1 = q := e; omega)
      have bR9 := HR0.out.fr f9 (fun e => by have e : w.heap.size + 1 = q := e; omega)
      have hst := Lib.hid (st_br1 (b' := b9) HZ.out bZ9)
      obtain ⟨W10, hW10⟩ : ∃ V, Hid (V = w9.setRow (w.heap.size + 1 + 1) (brA (.slice cA k cc) b9)) := ⟨_, Lib.hid rfl⟩
      rw [← hW10.out] at hst
      have b10 : Bk W10 (w.heap.size + 1 + 1) 26 (brA (.slice cA k cc) b9) := by rw [hW10.out]; exact bk_row12 bZ9 _
      have f10 : Fr (Only (w.heap.size + 1 + 1)) w9 W10 := by rw [hW10.out]; exact fr_row12 (Fr.refl (Only (w.heap.size + 1 + 1)) w9) (.inl rfl) _
      have bR10 := bR9.fr f10 (fun e => by have e : w.heap.size + 1 = w.heap.size + 1 + 1 := e; omega)
      have hld2 := Lib.hid (ld_cat rfl b10)
      have hst2 := Lib.hid (st_cat (v' := .slice cA k cc) (b' := b9) rfl rfl rfl bR10)
      obtain ⟨W11, hW11⟩ : ∃ V, Hid (V = W10.setRow (w.heap.size + 1) (brA (.slice cA k cc) b9)) := ⟨_, Lib.hid rfl⟩
      rw [← hW11.out] at hst2
      have b11 : Hid (Bk W11 (w.heap.size + 1) 26 (brA (.slice cA k cc) b9)) := Lib.hid (by rw [hW11.out]; exact bk_row12 bR10 _)
      have f11 : Fr (Only (w.heap.size + 1)) W10 W11 := by rw [hW11.out]; exact fr_row12 (Fr.refl (Only (w.heap.size + 1)) W10) (.inl rfl) _
      have fA : Fr (fun i => i = q ∨ i = w.heap.size + 1 ∨ i = w.heap.size + 1 + 1) wr W11 := ((f9.weak (S' := fun i => i = q ∨ i = w.heap.size + 1 ∨ i = w.heap.size + 1 + 1) (fun i _ e => .inl e)).trans' f10 (fun i _ e => .inr (.inr e))).trans' f11 (fun i _ e => .inr (.inl e))
      have r11 := (r9.frG f10 (fun e => by have e : q = w.heap.size + 1 + 1 := e; omega) (fun i hi e => by have e : i = w.heap.size + 1 + 1 := e; have := HG.out i hi; omega)).frG f11 (fun e => by have e : q = w.heap.size + 1 := e; omega) (fun i hi e => by have e : i = w.heap.size + 1 := e; have := HG.out i hi; omega)
      have HFin : Hid (GotX G w q st (.returned (.agg (brA (.slice cA k cc) b9))) W11) := Lib.hid ⟨⟨cA, cls, cc, b9⟩, by unfold Ctl.agg Ctl.arr; simp only; rw [Hlen.out], hxp.out.1, fun V hV => HTc.out V ((fA.weak (S' := fun i => i ≤ w.heap.size + 1 + 1) (fun i _ e => by rcases e with e | e | e <;> omega)).trans' hV (fun i _ e => by have e : i < w.heap.size := e; omega)), by rw [← hxp.out.2]; exact r11, HFw.out.trans' fA (fun i hi e => by
          rcases e with e | e | e
          · exact e
          · omega
          · omega)⟩
      clear r9 f9 bZ9 bR9 b10 f10 bR10 f11 fA r11 HCE
      go_wp2_with (first
        | ((with_reducible refine wpl_st ?_ ?_ ?_ hst.out ?_); (· rfl); (· rfl); (· rfl); simp only [Act.put])
        | ((with_reducible refine wpl_ld ?_ ?_ hld2.out ?_); (· rfl); (· rfl); simp only [Act.put, List.setIfInBounds_toArray, List.set_cons_zero, List.set_cons_succ])
        | ((with_reducible refine wpl_st ?_ ?_ ?_ hst2.out ?_); (· rfl); (· rfl); (· rfl); simp only [Act.put]))
      exact bodyPost_ret (cell_result Tryz.results27 (ld_cat rfl b11.out) rfl) rfl HFin.out
end Go.Proofs.YtbemfomiiikpoaaGreat
