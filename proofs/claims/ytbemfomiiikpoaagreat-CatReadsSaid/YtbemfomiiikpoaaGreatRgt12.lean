/- What the document reads as a catalogue. -/
import Derived.Deep.RegionLaw
import Derived.Deep.CutRange
import Derived.Test.YtbemfomiiikpoaaGreatWls12
import Derived.Test.YtbemfomiiikpoaaGreatShr12
import Derived.Test.YtbemfomiiikpoaaGreatRgt11
import Derived.Test.YtbemfomiiikpoaaGreatRmy12
namespace Go.Proofs.YtbemfomiiikpoaaGreat
open Go.RowKit

theorem shr_stQ (k : Nat) (st : Option (List Nat)) : Shr st (stQ k st) := by
  induction k with
  | zero => exact Shr.refl st
  | succ k ih => exact ih.trans (shr_cl _)
theorem info_cls : (Tryz.prog.info? 59).map (fun i => (i.zero, i.size, i.bytes)) = some (some (.agg #[.string ⟨#[]⟩, .int .i64 0, .slice none 0 0, .slice none 0 0, .bool false]), 5, 80) := by kernel_rfl
theorem cls_one (c : Cls) : ∀ u ∈ c.cells.toArray.toList, u.oneCell' = true := by
  intro u hu
  simp [Cls.cells] at hu
  rcases hu with rfl | rfl | rfl | rfl | rfl <;> rfl
/-- A catalogue that was read. -/
def GotK (w : World) (B q : Nat) (st : Option (List Nat)) (e : Ending) (w' : World) : Prop :=
  ∃ x : Ctl, e = .returned (.tuple #[x.agg, .bool (ctR st).isSome]) ∧ x.p = ((ctR st).map (·.1)).getD PCt.zero ∧ (∀ V, Fr (fun i => i < w.heap.size) w' V → Clss V x.cA x.cls) ∧ RR w' B q ((ctR st).map (·.2)) ∧ Fr (Only q) w w'
/-- What stands while the document reads one. -/
structure S12 (w0 w : World) (B q : Nat) (cA : Option Addr) (cc : Nat) (cls : List Cls) (k : Nat) (b : Nat → Int) (st : Option (List Nat)) : Prop where
  res : Bk w w0.heap.size 26 (brA (.slice none 0 0) fun _ => 0)
  q12 : Q12 w0.heap.size w (w0.heap.size + 1) cA cc cls k b
  rr : RR w B q st
  fr : Fr (Only q) w0 w
variable {w0 w w' : World} {B q k cc : Nat} {cA : Option Addr} {cls : List Cls} {b : Nat → Int} {st st' : Option (List Nat)}
theorem S12.call (h : S12 w0 w B q cA cc cls k b st) (hq : q < w0.heap.size) (hf : Fr (Only q) w w') (hr : RR w' B q st') : S12 w0 w' B q cA cc cls k b st' :=
  ⟨h.res.fr hf (fun e => by have e : w0.heap.size = q := e; omega), h.q12.call hq hf, hr, h.fr.trans' hf (fun _ _ e => e)⟩
theorem S12.quiet (h : S12 w0 w B q cA cc cls k b st) (hf : Fr No w w') : S12 w0 w' B q cA cc cls k b st :=
  ⟨h.res.fr hf (fun e => e), h.q12.quiet hf, h.rr.fr hf (fun e => e) (fun _ e => e.elim), h.fr.trans' hf (fun _ _ e => e.elim)⟩
theorem S12.app {A : Option Addr} {c2 lo : Nat} {c : Cls} (h : S12 w0 w B q cA cc cls k b st) (hq : q < w0.heap.size) (hBq : B ≤ q) (hc : ∀ V, Fr (fun i => i < lo) w V → c.Ok V) (hlo : w0.heap.size + 1 < lo) (hlt : ∀ i, (Value.slice cA k cc).ownBlock = some i → i < lo)
    (ho : w'.ownsRow w0.heap.size 59 5 (.slice A (k + 1) c2) (k + 1) (cls.flatMap Cls.cells ++ c.cells)) (hf : Fr (fun i => (Value.slice cA k cc).ownBlock = some i) w w')
    (hg : (Value.slice A (k + 1) c2).ownBlock = (Value.slice cA k cc).ownBlock ∨ ∃ i, (Value.slice A (k + 1) c2).ownBlock = some i ∧ w.heap.size ≤ i) :
    (w0.heap.size + 1 < w'.heap.size ∧ w'.frozen? ⟨w0.heap.size + 1, 0, none⟩ = false ∧ w'.cell? ⟨w0.heap.size + 1, 0, none⟩ = some (.slice cA k cc)) ∧
    S12 w0 (w'.setCell ⟨w0.heap.size + 1, 0, none⟩ (.slice A (k + 1) c2)) B q A c2 (cls ++ [c]) (k + 1) b st := by
  obtain ⟨hk, hQ⟩ := h.q12.app hc ⟨by omega, hlo⟩ hlt ho hf hg
  have hX : Fr (Only (w0.heap.size + 1)) w' (w'.setCell ⟨w0.heap.size + 1, 0, none⟩ (.slice A (k + 1) c2)) := onlyX 0 _
  have hr := h.res.fr hf (fun e => own_apart h.q12.own h.res (by decide) e)
  have hrr := h.rr.fr hf (fun e => by have := (h.q12.own.lt _ e).1; omega) (fun i e => by have := (h.q12.own.lt _ e).1; omega)
  exact ⟨⟨hk.lt, hk.frozen 0, hk.cell 0⟩, hr.fr hX (fun e => by have e : w0.heap.size = w0.heap.size + 1 := e; omega), hQ, hrr.var (by omega) (by omega) 0 _, (h.fr.trans' hf (fun i hi e => by have := (h.q12.own.lt _ e).1; omega)).trans' hX (fun i hi e => by have e : i = w0.heap.size + 1 := e; omega)⟩
theorem S12.brk (h : S12 w0 w B q cA cc cls k b st) (hq : q < w0.heap.size) (hBq : B ≤ q) {j : Nat} (hj : j < 16) (u : Int) : S12 w0 (w.setCell ⟨w0.heap.size + 1, 1 + j, none⟩ (.int .i64 u)) B q cA cc cls k (updB b j u) st := by
  have hX : Fr (Only (w0.heap.size + 1)) w (w.setCell ⟨w0.heap.size + 1, 1 + j, none⟩ (.int .i64 u)) := onlyX (1 + j) _
  exact ⟨h.res.fr hX (fun e => by have e : w0.heap.size = w0.heap.size + 1 := e; omega), h.q12.brk hj u, h.rr.var (by omega) (by omega) (1 + j) _, h.fr.trans' hX (fun i hi e => by have e : i = w0.heap.size + 1 := e; omega)⟩
theorem S12.clss (h : S12 w0 w B q cA cc cls k b st) {V : World} (hV : Fr (fun i => i ≤ w0.heap.size + 1) w V) : Clss V cA cls := by
  refine ⟨Sl.ofOwn (own_fr h.q12.own hV (fun i hi e => ?_)), fun c hc => ?_⟩
  · have e : i ≤ w0.heap.size + 1 := e
    have h1 := (h.q12.own.lt i hi).1
    have h2 : i = w0.heap.size ∨ i = w0.heap.size + 1 := by omega
    rcases h2 with rfl | rfl
    · exact own_apart h.q12.own h.res (by decide) hi
    · exact own_apart h.q12.own h.q12.cat (by decide) hi
  · obtain ⟨lo, hi, h1, h2, h3, h4⟩ := h.q12.all c hc
    exact h3.2 V (hV.weak (fun i _ e => by have e : i ≤ w0.heap.size + 1 := e; omega))

set_option maxRecDepth 100000 in
set_option maxHeartbeats 8000000 in
theorem refGet12_own (q B : Nat) (st : Option (List Nat)) (w : World) (hr : RR w B q st) (hl : ∀ xs, st = some xs → xs.length ≤ 1000000) : Calls Tryz.prog 16 #[.pointer (some ⟨q, 0, none⟩)] w (GotK w B q st) := by
  have hql := hr.lt
  have hBq : B ≤ q := by obtain ⟨_, _, _, _, k2, _⟩ := hr; exact k2
  have fl1 := field1
  obtain ⟨W, hW⟩ : ∃ W, Hid (W = (w.alloc (.cells (brA (.slice none 0 0) fun _ => 0) 26)).alloc (.cells (brA (.slice none 0 0) fun _ => 0) 26)) := ⟨_, Lib.hid rfl⟩
  have hwe : (w.alloc (.cells #[.slice none 0 0, .int .i64 0, .int .i64 0, .int .i64 0, .int .i64 0, .int .i64 0, .int .i64 0, .int .i64 0, .int .i64 0, .int .i64 0, .int .i64 0, .int .i64 0, .int .i64 0, .int .i64 0, .int .i64 0, .int .i64 0, .int .i64 0] 26)).alloc (.cells #[.slice none 0 0, .int .i64 0, .int .i64 0, .int .i64 0, .int .i64 0, .int .i64 0, .int .i64 0, .int .i64 0, .int .i64 0, .int .i64 0, .int .i64 0, .int .i64 0, .int .i64 0, .int .i64 0, .int .i64 0, .int .i64 0, .int .i64 0] 26) = W := hW.out.symm
  have hfa : Fr No w W := by rw [hW.out]; exact ((Fr.refl _ _).alloc _).alloc _
  have bR0 : Bk W w.heap.size 26 (brA (.slice none 0 0) fun _ => 0) := by rw [hW.out]; exact (Bk.made w _ _).fr ((Fr.refl No _).alloc _) (fun e => e)
  have bX0 : Bk W (w.heap.size + 1) 26 (brA (.slice none 0 0) fun _ => 0) := by
    rw [hW.out]
    have h := Bk.made (w.alloc (.cells (brA (.slice none 0 0) fun _ => 0) 26)) 26 (brA (.slice none 0 0) fun _ => 0)
    simpa using h
  have C1 := Lib.hid (itemN_any 4 q B st _ (hr.fr hfa (fun e => e) (fun _ e => e.elim)) (by omega))
  have HF0 := Lib.hid (hfa.weak (S' := Only q) (fun _ _ h => h.elim))
  have HR0 := Lib.hid bR0
  have HX0 := Lib.hid bX0
  have HL := Lib.hid hl
  clear hr hl bR0 bX0 hfa hW
  go_enter Tryz.func16, Tryz.ntmps16
  go_wp2_with fail
  refine (C1.out).mono ?_
  rintro e w1 ⟨j1, j2, j3, rfl, r1, f1⟩
  obtain ⟨n, hn⟩ : ∃ n, Hid (n = ctN st) := ⟨_, Lib.hid rfl⟩
  obtain ⟨s1, hs1⟩ : ∃ s1, Hid (s1 = cS 4 st) := ⟨_, Lib.hid rfl⟩
  have hcv : cV 4 st = (n : Int) := by rw [hn.out]; rfl
  have hn4 : n ≤ 4 := by rw [hn.out]; exact ctN_le st
  have HL1 : Hid (∀ xs, s1 = some xs → xs.length ≤ 1000000) := Lib.hid (by rw [hs1.out]; exact (shr_cnt 4 st).few HL.out)
  rw [hcv]
  rw [← hs1.out] at r1
  simp only [itV]
  have HG : Hid (S12 w w1 B q none 0 [] 0 (fun _ => 0) s1) := Lib.hid ⟨HR0.out.fr f1 (fun e => by have e : w.heap.size = q := e; omega), ⟨HX0.out.fr f1 (fun e => by have e : w.heap.size + 1 = q := e; omega), World.ownsRow_nil _ _ _ _, fun c hc => by simp at hc, Nat.le_succ _⟩, r1, HF0.out.trans' f1 (fun _ _ h => h)⟩
  have HP : Hid (ctP st = ⟨lsQ n s1, brR n (n * n) (stQ n s1)⟩ ∧ ctS st = stB (n * n) (stQ n s1)) := Lib.hid (by
    rw [ctP, ctS, ← hn.out, ← hs1.out]
    exact ⟨rfl, rfl⟩)
  clear r1 f1 C1 hcv HR0 HX0 HF0 hwe
  go_wp2
  go_loopw [6] (fun i wr => ∃ (k : Nat) (cA : Option Addr) (cc : Nat) (cls : List Cls), k ≤ n ∧ i = .int .i64 k ∧ Hid (cls.map Cls.p = lsQ k s1) ∧ Hid (S12 w wr B q cA cc cls k (fun _ => 0) (stQ k s1))) (fun i _ => n - (intOf i).toNat)
  case atStart => exact ⟨0, none, 0, [], Nat.zero_le _, rfl, Lib.hid rfl, HG.out⟩
  case round =>
    obtain ⟨k, cA, cc, cls, hk, rfl, hls, hg⟩ := hrel
    by_cases hlt : k < n
    · have CG := Lib.hid (refGet11_own q B (stQ k s1) wr hg.out.rr ((shr_stQ k s1).few HL1.out))
      have hXl := hg.out.q12.cat.lt
      have Hol := Lib.hid (fun i hi => (hg.out.q12.own.lt i hi).2)
      go_wp2_with fail
      refine (CG.out).mono ?_
      rintro e w4 ⟨c, rfl, hcp, hcO, r4, f4⟩
      obtain ⟨p4, hp4⟩ : ∃ z, Hid (z = (clR (stQ k s1)).map (·.2)) := ⟨_, Lib.hid rfl⟩
      rw [← hp4.out] at r4
      have H4 := Lib.hid (hg.out.call hql f4 r4)
      have Hcp := Lib.hid hcp
      have HcO := Lib.hid hcO
      have hs4 := f4.size
      obtain ⟨W5, hW5⟩ : ∃ W5, Hid (W5 = w4.alloc (.cells #[.string c.name, .int .i64 c.args, .slice c.sA c.steps.length c.sc, .slice c.uA c.comps.length c.uc, .bool c.res] 59)) := ⟨_, Lib.hid rfl⟩
      have hwe5 : w4.alloc (.cells #[.string c.name, .int .i64 c.args, .slice c.sA c.steps.length c.sc, .slice c.uA c.comps.length c.uc, .bool c.res] 59) = W5 := hW5.out.symm
      have f5 : Fr No w4 W5 := by rw [hW5.out]; exact (Fr.refl _ _).alloc _
      have bC : Bk W5 w4.heap.size 59 #[.string c.name, .int .i64 c.args, .slice c.sA c.steps.length c.sc, .slice c.uA c.comps.length c.uc, .bool c.res] := by rw [hW5.out]; exact Bk.made w4 _ _
      have y0 := bC.cell 0
      have y1 := bC.cell 1
      have y2 := bC.cell 2
      have y3 := bC.cell 3
      have y4 := bC.cell 4
      simp at y0 y1 y2 y3 y4
      have lC := bC.lt
      have h5 := H4.out.quiet f5
      have x0 : W5.cell? ⟨w.heap.size + 1, 0, none⟩ = some (.slice cA k cc) := h5.q12.cat.cell 0
      have lX := h5.q12.cat.lt
      have HcO5 : Hid (∀ V, Fr (fun i => i < wr.heap.size) W5 V → Cls.Ok V c) := Lib.hid (fun V hV => hcO V ((f5.weak (fun _ _ e => e.elim)).trans' hV (fun _ _ e => e)))
      have H5 := Lib.hid h5
      have hu1 := cls_one c
      have HB : Hid (w.heap.size ≤ W5.heap.size) := Lib.hid (by omega)
      clear hg hcp hcO r4 f4 CG h5 bC f5
      unfold Cls.agg
      go_wp2_with (first
        | (at_builtin
           refine wpList_append_elem rfl _ _ _ rfl w.heap.size 59 _ 5 80 Tryz.underlying22 info_cls rfl (by omega) (.slice cA k cc) k (cls.flatMap Cls.cells) #[.string c.name, .int .i64 c.args, .slice c.sA c.steps.length c.sc, .slice c.uA c.comps.length c.uc, .bool c.res] rfl hu1 rfl W5.heap.size (by simp) rfl H5.out.q12.own (by unfold maxLen; omega) (by omega) HB.out ?_
           intro A6 c6 v6 o6 f6 g6
           have h6 := H5.out.app hql hBq HcO5.out (by omega) Hol.out o6 f6 g6
           have H6 := Lib.hid h6.2
           obtain ⟨⟨l6, z6, k6⟩, -⟩ := h6
           clear o6 f6 g6))
      go_roundw
      case rel =>
        have e1 : stQ (k + 1) s1 = p4 := by rw [stQ, hp4.out]
        refine ⟨k + 1, A6, c6, cls ++ [c], by omega, by go_num, Lib.hid ?_, Lib.hid ?_⟩
        · rw [List.map_append, hls.out, lsQ, ← Hcp.out]
          rfl
        · rw [e1]
          exact H6.out
      case measure => simp [intOf]; omega
    · obtain rfl : k = n := by omega
      obtain ⟨s2, hs2⟩ : ∃ s2, Hid (s2 = stQ k s1) := ⟨_, Lib.hid rfl⟩
      rw [← hs2.out] at hg HP
      have HG2 : Hid (S12 w wr B q cA cc cls k (brR k (0 * k) s2) (stB (0 * k) s2)) := Lib.hid (by rw [Nat.zero_mul, brR_zero]; exact hg.out)
      clear hg HG
      go_wp2
      go_loopw [9] (fun i wr => ∃ c : Nat, c ≤ k ∧ i = .int .i64 c ∧ Hid (S12 w wr B q cA cc cls k (brR k (c * k) s2) (stB (c * k) s2))) (fun i _ => k - (intOf i).toNat)
      case atStart => exact ⟨0, Nat.zero_le _, rfl, HG2⟩
      case round =>
        obtain ⟨c, hc, rfl, hg⟩ := hrel
        by_cases hlc : c < k
        · have HG3 : Hid (S12 w wr B q cA cc cls k (brR k (c * k + 0) s2) (stB (c * k + 0) s2)) := hg
          clear hg
          go_wp2
          go_loopw [10] (fun i wx => ∃ d : Nat, d ≤ k ∧ i = .int .i64 d ∧ Hid (S12 w wx B q cA cc cls k (brR k (c * k + d) s2) (stB (c * k + d) s2))) (fun i _ => k - (intOf i).toNat)
          case atStart => exact ⟨0, Nat.zero_le _, rfl, HG3⟩
          case round =>
            obtain ⟨d, hd, rfl, hg⟩ := hrel
            by_cases hld : d < k
            · have hgr := hg.out.fr.size
              have hD := hg.out.quiet ((Fr.refl No wr).drew)
              have HD := Lib.hid hD
              have CI := Lib.hid (itemN_any 255 q B (stB (c * k + d) s2) _ hD.rr (by omega))
              have hXl := hg.out.q12.cat.lt
              have hc4 : c < 4 := by omega
              have hd4 : d < 4 := by omega
              have ic4 : ((c : Nat) : Int) < 4 := by omega
              have id4 : ((d : Nat) : Int) < 4 := by omega
              clear hD hg
              go_wp2_with fail
              go_region_law (first
                | (go_simp
                   go_at_call 32
                   refine (CI.out).mono ?_
                   rintro e w4 ⟨a1, a2, a3, rfl, r4, f4⟩
                   have h4 := HD.out.call hql f4 r4
                   have H4 := Lib.hid h4
                   have y1 := bk_br2 h4.q12.cat (c := c) (d := d) hc4 hd4
                   have y2 := h4.q12.cat.frozen (1 + c * 4 + d)
                   have y3 := h4.q12.cat.lt
                   clear h4 r4 f4
                   simp only [itV]))
              all_goals
                have H7 := H4.out.brk hql hBq (j := c * 4 + d) (by omega) (cV 255 (stB (c * k + d) s2))
                rw [brR_next hn4 hlc hld] at H7
                have H8 : Hid (S12 w (w4.setCell ⟨w.heap.size + 1, 1 + c * 4 + d, none⟩ (.int .i64 (cV 255 (stB (c * k + d) s2)))) B q cA cc cls k (brR k (c * k + (d + 1)) s2) (stB (c * k + (d + 1)) s2)) := Lib.hid (by rw [show 1 + c * 4 + d = 1 + (c * 4 + d) by omega]; exact H7)
                clear H7
                go_wp2
                exact ⟨⟨d + 1, by omega, by go_num, H8⟩, by simp [intOf]; omega⟩
            · obtain rfl : d = k := by omega
              have HG4 : Hid (S12 w wr B q cA cc cls d (brR d ((c + 1) * d) s2) (stB ((c + 1) * d) s2)) := Lib.hid (by rw [Nat.succ_mul]; exact hg.out)
              go_wp2
              go_roundw
              case rel => exact ⟨c + 1, by omega, by go_num, HG4⟩
              case measure => simp [intOf]; omega
        · obtain rfl : k = c := by omega
          obtain ⟨b, hb⟩ : ∃ b, Hid (b = brR k (k * k) s2) := ⟨_, Lib.hid rfl⟩
          obtain ⟨p7, hp7⟩ : ∃ z, Hid (z = stB (k * k) s2) := ⟨_, Lib.hid rfl⟩
          rw [← hb.out, ← hp7.out] at hg
          have hlen : Hid (cls.length = k) := Lib.hid (by have := congrArg List.length hls.out; rw [List.length_map, lsQ_len] at this; exact this)
          have hxp : Hid (Ctl.p ⟨cA, cls, cc, b⟩ = ctP st) := Lib.hid (by rw [HP.out.1, ← hb.out, ← hls.out]; rfl)
          have hcl : Hid (ctR st = if (ctP st).ok = true then p7.map fun r => (ctP st, r) else none) := Lib.hid (by rw [ctR, HP.out.2, hp7.out])
          have hca : Hid (Ctl.agg ⟨cA, cls, cc, b⟩ = .agg #[.slice cA k cc, .int .i64 (b 0), .int .i64 (b 1), .int .i64 (b 2), .int .i64 (b 3), .int .i64 (b 4), .int .i64 (b 5), .int .i64 (b 6), .int .i64 (b 7), .int .i64 (b 8), .int .i64 (b 9), .int .i64 (b 10), .int .i64 (b 11), .int .i64 (b 12), .int .i64 (b 13), .int .i64 (b 14), .int .i64 (b 15)]) := Lib.hid (by unfold Ctl.agg Ctl.arr brA; rw [hlen.out])
          have hcls : Hid (∀ V, Fr (fun i => i ≤ w.heap.size + 1) wr V → Clss V cA cls) := Lib.hid (fun V hV => hg.out.clss hV)
          obtain ⟨A9, n9, c9, b9, -, h9⟩ := hg.out.rr.reads
          have d1 := b9.cell 1
          have zq := b9.frozen 1
          have lq := b9.lt
          simp at d1
          have lX := hg.out.q12.cat.lt
          have lR := hg.out.res.lt
          have hne : ¬ w.heap.size = q := by omega
          have hne' : ¬ q = w.heap.size := by omega
          have hne2 : ¬ w.heap.size + 1 = q := by omega
          have hzero : Hid (Ctl.p ⟨none, [], 0, fun _ => 0⟩ = PCt.zero) := Lib.hid rfl
          have HR := Lib.hid hg.out.res
          have Hb9 := Lib.hid b9
          have H9 := Lib.hid h9
          cases hp : p7 with
          | none =>
            have hno : Hid (ctR st = none) := Lib.hid (by rw [hcl.out, hp]; simp)
            rw [hp] at d1
            simp only [Option.isNone_none] at d1
            have bR := HR.out
            have bq : Bk (wr.setCell ⟨q, 1, none⟩ (.bool true)) q 46 #[.slice A9 n9 c9, .bool true] := b9.put 1 _
            have bRq := bR.fr (onlyX (X := q) 1 (.bool true)) hne
            have FQ := hg.out.fr.setCell (p := ⟨q, 1, none⟩) (.inl rfl) (.bool true)
            clear hg b9 h9 HG2
            obtain ⟨Z, hZ⟩ : ∃ Z, Hid (Z = brA (.slice none 0 0) (fun _ => 0)) := ⟨_, Lib.hid rfl⟩
            have hze : #[.slice none 0 0, .int .i64 0, .int .i64 0, .int .i64 0, .int .i64 0, .int .i64 0, .int .i64 0, .int .i64 0, .int .i64 0, .int .i64 0, .int .i64 0, .int .i64 0, .int .i64 0, .int .i64 0, .int .i64 0, .int .i64 0, .int .i64 0] = Z := hZ.out.symm
            have hz17 : Z.size = 17 := by rw [hZ.out]; rfl
            have hst : (storeCells ⟨w.heap.size, 0, none⟩ Z.toList).run Tryz.prog (wr.setCell ⟨q, 1, none⟩ (.bool true)) = .ok () ((wr.setCell ⟨q, 1, none⟩ (.bool true)).setRow w.heap.size Z) := by rw [hZ.out]; exact store_cat bRq rfl
            obtain ⟨WF, hWF⟩ : ∃ WF, Hid (WF = (wr.setCell ⟨q, 1, none⟩ (.bool true)).setRow w.heap.size Z) := ⟨_, Lib.hid rfl⟩
            have HbF : Hid (Bk WF w.heap.size 26 (brA (.slice none 0 0) (fun _ => 0))) := Lib.hid (by rw [hWF.out, ← hZ.out]; exact bk_row12 bRq Z)
            have hFR : Fr (Only w.heap.size) (wr.setCell ⟨q, 1, none⟩ (.bool true)) WF := by rw [hWF.out]; exact fr_row12 (Fr.refl (Only w.heap.size) (wr.setCell ⟨q, 1, none⟩ (.bool true))) (.inl rfl) Z
            have bqF := bq.fr hFR (fun e => by have e : q = w.heap.size := e; omega)
            have HE : Hid (GotK w B q st (.returned (.tuple #[.agg #[.slice none 0 0, .int .i64 0, .int .i64 0, .int .i64 0, .int .i64 0, .int .i64 0, .int .i64 0, .int .i64 0, .int .i64 0, .int .i64 0, .int .i64 0, .int .i64 0, .int .i64 0, .int .i64 0, .int .i64 0, .int .i64 0, .int .i64 0], .bool false])) WF) := Lib.hid ⟨⟨none, [], 0, fun _ => 0⟩, by rw [hno.out]; rfl, by rw [hno.out, hzero.out]; rfl, fun V _ => ⟨Sl.nil _ _ _, fun s h => by simp at h⟩, by rw [hno.out]; exact ⟨A9, n9, c9, bqF, hBq, fun xs e => by cases e⟩, FQ.trans' hFR (fun i hi e => by have e : i = w.heap.size := e; omega)⟩
            clear bqF
            clear hFR
            go_wp2
            rw [← hWF.out]
            exact bodyPost_ret (cat_results Tryz.results16 (v := (.slice none 0 0)) (b := fun _ => 0) (f := .bool false) HbF.out rfl rfl) rfl HE.out
          | some r =>
            rw [hp] at d1
            simp only [Option.isNone_some] at d1
            have CM := Lib.hid (refMay12_any ⟨cA, cls, cc, b⟩ wr (hcls.out wr (Fr.refl _ _)))
            rw [hca.out, hxp.out] at CM
            have HX := Lib.hid hg.out.q12.cat
            have HF8 := Lib.hid hg.out.fr
            have Hr8 := Lib.hid hg.out.rr
            have q0 : wr.cell? ⟨w.heap.size + 1, 0, none⟩ = some (.slice cA k cc) := HX.out.cell 0
            have q1 : wr.cell? ⟨w.heap.size + 1, 1, none⟩ = some (.int .i64 (b 0)) := HX.out.cell 1
            have q2 : wr.cell? ⟨w.heap.size + 1, 2, none⟩ = some (.int .i64 (b 1)) := HX.out.cell 2
            have q3 : wr.cell? ⟨w.heap.size + 1, 3, none⟩ = some (.int .i64 (b 2)) := HX.out.cell 3
            have q4 : wr.cell? ⟨w.heap.size + 1, 4, none⟩ = some (.int .i64 (b 3)) := HX.out.cell 4
            have q5 : wr.cell? ⟨w.heap.size + 1, 5, none⟩ = some (.int .i64 (b 4)) := HX.out.cell 5
            have q6 : wr.cell? ⟨w.heap.size + 1, 6, none⟩ = some (.int .i64 (b 5)) := HX.out.cell 6
            have q7 : wr.cell? ⟨w.heap.size + 1, 7, none⟩ = some (.int .i64 (b 6)) := HX.out.cell 7
            have q8 : wr.cell? ⟨w.heap.size + 1, 8, none⟩ = some (.int .i64 (b 7)) := HX.out.cell 8
            have q9 : wr.cell? ⟨w.heap.size + 1, 9, none⟩ = some (.int .i64 (b 8)) := HX.out.cell 9
            have q10 : wr.cell? ⟨w.heap.size + 1, 10, none⟩ = some (.int .i64 (b 9)) := HX.out.cell 10
            have q11 : wr.cell? ⟨w.heap.size + 1, 11, none⟩ = some (.int .i64 (b 10)) := HX.out.cell 11
            have q12 : wr.cell? ⟨w.heap.size + 1, 12, none⟩ = some (.int .i64 (b 11)) := HX.out.cell 12
            have q13 : wr.cell? ⟨w.heap.size + 1, 13, none⟩ = some (.int .i64 (b 12)) := HX.out.cell 13
            have q14 : wr.cell? ⟨w.heap.size + 1, 14, none⟩ = some (.int .i64 (b 13)) := HX.out.cell 14
            have q15 : wr.cell? ⟨w.heap.size + 1, 15, none⟩ = some (.int .i64 (b 14)) := HX.out.cell 15
            have q16 : wr.cell? ⟨w.heap.size + 1, 16, none⟩ = some (.int .i64 (b 15)) := HX.out.cell 16
            obtain ⟨ok, hok⟩ : ∃ z, Hid (z = (ctP st).ok) := ⟨_, Lib.hid rfl⟩
            rw [← hok.out] at CM
            clear hg b9 h9 HG2
            go_wp2_with fail
            refine (CM.out).mono ?_
            rintro e w9 ⟨rfl, f9⟩
            clear q0 q1 q2 q3 q4 q5 q6 q7 q8 q9 q10 q11 q12 q13 q14 q15 q16
            have bR9 := HR.out.fr f9 (fun e => e)
            have lR9 := bR9.lt
            have hF9 := Lib.hid f9
            cases ok
            case false =>
              have hno : Hid (ctR st = none) := Lib.hid (by rw [hcl.out, if_neg (by rw [← hok.out]; simp)])
              have b9' := Hb9.out.fr f9 (fun e => e)
              have lq9 := b9'.lt
              have zq9 := b9'.frozen 1
              have kq9 := b9'.cell 1
              simp at kq9
              have bq : Bk (w9.setCell ⟨q, 1, none⟩ (.bool true)) q 46 #[.slice A9 n9 c9, .bool true] := b9'.put 1 _
              have bRq := bR9.fr (onlyX (X := q) 1 (.bool true)) hne
              have FQ := (HF8.out.trans' f9 (fun _ _ e => e.elim)).setCell (p := ⟨q, 1, none⟩) (.inl rfl) (.bool true)
              clear f9
              obtain ⟨Z, hZ⟩ : ∃ Z, Hid (Z = brA (.slice none 0 0) (fun _ => 0)) := ⟨_, Lib.hid rfl⟩
              have hze : #[.slice none 0 0, .int .i64 0, .int .i64 0, .int .i64 0, .int .i64 0, .int .i64 0, .int .i64 0, .int .i64 0, .int .i64 0, .int .i64 0, .int .i64 0, .int .i64 0, .int .i64 0, .int .i64 0, .int .i64 0, .int .i64 0, .int .i64 0] = Z := hZ.out.symm
              have hz17 : Z.size = 17 := by rw [hZ.out]; rfl
              have hst : (storeCells ⟨w.heap.size, 0, none⟩ Z.toList).run Tryz.prog (w9.setCell ⟨q, 1, none⟩ (.bool true)) = .ok () ((w9.setCell ⟨q, 1, none⟩ (.bool true)).setRow w.heap.size Z) := by rw [hZ.out]; exact store_cat bRq rfl
              obtain ⟨WF, hWF⟩ : ∃ WF, Hid (WF = (w9.setCell ⟨q, 1, none⟩ (.bool true)).setRow w.heap.size Z) := ⟨_, Lib.hid rfl⟩
              have HbF : Hid (Bk WF w.heap.size 26 (brA (.slice none 0 0) (fun _ => 0))) := Lib.hid (by rw [hWF.out, ← hZ.out]; exact bk_row12 bRq Z)
              have hFR : Fr (Only w.heap.size) (w9.setCell ⟨q, 1, none⟩ (.bool true)) WF := by rw [hWF.out]; exact fr_row12 (Fr.refl (Only w.heap.size) (w9.setCell ⟨q, 1, none⟩ (.bool true))) (.inl rfl) Z
              have bqF := bq.fr hFR (fun e => by have e : q = w.heap.size := e; omega)
              have HE : Hid (GotK w B q st (.returned (.tuple #[.agg #[.slice none 0 0, .int .i64 0, .int .i64 0, .int .i64 0, .int .i64 0, .int .i64 0, .int .i64 0, .int .i64 0, .int .i64 0, .int .i64 0, .int .i64 0, .int .i64 0, .int .i64 0, .int .i64 0, .int .i64 0, .int .i64 0, .int .i64 0], .bool false])) WF) := Lib.hid ⟨⟨none, [], 0, fun _ => 0⟩, by rw [hno.out]; rfl, by rw [hno.out, hzero.out]; rfl, fun V _ => ⟨Sl.nil _ _ _, fun s h => by simp at h⟩, by rw [hno.out]; exact ⟨A9, n9, c9, bqF, hBq, fun xs e => by cases e⟩, FQ.trans' hFR (fun i hi e => by have e : i = w.heap.size := e; omega)⟩
              clear bqF
              clear hFR
              go_wp2
              rw [← hWF.out]
              exact bodyPost_ret (cat_results Tryz.results16 (v := (.slice none 0 0)) (b := fun _ => 0) (f := .bool false) HbF.out rfl rfl) rfl HE.out
            case true =>
              have hyes : Hid (ctR st = some (ctP st, r)) := Lib.hid (by rw [hcl.out, if_pos (by rw [← hok.out]), hp]; rfl)
              have bX9 := HX.out.fr f9 (fun e => e)
              have lX9 := bX9.lt
              have x0 : w9.cell? ⟨w.heap.size + 1, 0, none⟩ = some (.slice cA k cc) := bX9.cell 0
              have x1 : w9.cell? ⟨w.heap.size + 1, 1, none⟩ = some (.int .i64 (b 0)) := bX9.cell 1
              have x2 : w9.cell? ⟨w.heap.size + 1, 2, none⟩ = some (.int .i64 (b 1)) := bX9.cell 2
              have x3 : w9.cell? ⟨w.heap.size + 1, 3, none⟩ = some (.int .i64 (b 2)) := bX9.cell 3
              have x4 : w9.cell? ⟨w.heap.size + 1, 4, none⟩ = some (.int .i64 (b 3)) := bX9.cell 4
              have x5 : w9.cell? ⟨w.heap.size + 1, 5, none⟩ = some (.int .i64 (b 4)) := bX9.cell 5
              have x6 : w9.cell? ⟨w.heap.size + 1, 6, none⟩ = some (.int .i64 (b 5)) := bX9.cell 6
              have x7 : w9.cell? ⟨w.heap.size + 1, 7, none⟩ = some (.int .i64 (b 6)) := bX9.cell 7
              have x8 : w9.cell? ⟨w.heap.size + 1, 8, none⟩ = some (.int .i64 (b 7)) := bX9.cell 8
              have x9 : w9.cell? ⟨w.heap.size + 1, 9, none⟩ = some (.int .i64 (b 8)) := bX9.cell 9
              have x10 : w9.cell? ⟨w.heap.size + 1, 10, none⟩ = some (.int .i64 (b 9)) := bX9.cell 10
              have x11 : w9.cell? ⟨w.heap.size + 1, 11, none⟩ = some (.int .i64 (b 10)) := bX9.cell 11
              have x12 : w9.cell? ⟨w.heap.size + 1, 12, none⟩ = some (.int .i64 (b 11)) := bX9.cell 12
              have x13 : w9.cell? ⟨w.heap.size + 1, 13, none⟩ = some (.int .i64 (b 12)) := bX9.cell 13
              have x14 : w9.cell? ⟨w.heap.size + 1, 14, none⟩ = some (.int .i64 (b 13)) := bX9.cell 14
              have x15 : w9.cell? ⟨w.heap.size + 1, 15, none⟩ = some (.int .i64 (b 14)) := bX9.cell 15
              have x16 : w9.cell? ⟨w.heap.size + 1, 16, none⟩ = some (.int .i64 (b 15)) := bX9.cell 16
              clear f9
              obtain ⟨Z, hZ⟩ : ∃ Z, Hid (Z = brA (.slice cA k cc) (b)) := ⟨_, Lib.hid rfl⟩
              have hze : #[.slice cA k cc, .int .i64 (b 0), .int .i64 (b 1), .int .i64 (b 2), .int .i64 (b 3), .int .i64 (b 4), .int .i64 (b 5), .int .i64 (b 6), .int .i64 (b 7), .int .i64 (b 8), .int .i64 (b 9), .int .i64 (b 10), .int .i64 (b 11), .int .i64 (b 12), .int .i64 (b 13), .int .i64 (b 14), .int .i64 (b 15)] = Z := hZ.out.symm
              have hz17 : Z.size = 17 := by rw [hZ.out]; rfl
              have hst : (storeCells ⟨w.heap.size, 0, none⟩ Z.toList).run Tryz.prog w9 = .ok () (w9.setRow w.heap.size Z) := by rw [hZ.out]; exact store_cat bR9 rfl
              obtain ⟨WF, hWF⟩ : ∃ WF, Hid (WF = w9.setRow w.heap.size Z) := ⟨_, Lib.hid rfl⟩
              have HbF : Hid (Bk WF w.heap.size 26 (brA (.slice cA k cc) (b))) := Lib.hid (by rw [hWF.out, ← hZ.out]; exact bk_row12 bR9 Z)
              have hFR : Fr (Only w.heap.size) w9 WF := by rw [hWF.out]; exact fr_row12 (Fr.refl (Only w.heap.size) w9) (.inl rfl) Z
              have hrr := (Hr8.out.fr hF9.out (fun e => e) (fun _ e => e.elim)).fr hFR (fun e => by have e : q = w.heap.size := e; omega) (fun i e => by have e : i = w.heap.size := e; omega)
              have hFA : Fr (fun i => i ≤ w.heap.size + 1) wr WF := (hF9.out.weak (fun _ _ e => e.elim)).trans' hFR (fun i _ e => by have e : i = w.heap.size := e; omega)
              have HE : Hid (GotK w B q st (.returned (.tuple #[.agg #[.slice cA k cc, .int .i64 (b 0), .int .i64 (b 1), .int .i64 (b 2), .int .i64 (b 3), .int .i64 (b 4), .int .i64 (b 5), .int .i64 (b 6), .int .i64 (b 7), .int .i64 (b 8), .int .i64 (b 9), .int .i64 (b 10), .int .i64 (b 11), .int .i64 (b 12), .int .i64 (b 13), .int .i64 (b 14), .int .i64 (b 15)], .bool true])) WF) := Lib.hid ⟨⟨cA, cls, cc, b⟩, by rw [hyes.out, hca.out]; rfl, by rw [hyes.out, hxp.out]; rfl, fun V hV => hcls.out V (hFA.trans' hV (fun i _ e => by have e : i < w.heap.size := e; omega)), by rw [hyes.out]; rw [hp] at hrr; exact hrr, (HF8.out.trans' hF9.out (fun _ _ e => e.elim)).trans' hFR (fun i hi e => by have e : i = w.heap.size := e; omega)⟩
              clear hrr hFA
              clear hFR
              go_wp2
              rw [← hWF.out]
              exact bodyPost_ret (cat_results Tryz.results16 (v := (.slice cA k cc)) (b := b) (f := .bool true) HbF.out rfl rfl) rfl HE.out
end Go.Proofs.YtbemfomiiikpoaaGreat
