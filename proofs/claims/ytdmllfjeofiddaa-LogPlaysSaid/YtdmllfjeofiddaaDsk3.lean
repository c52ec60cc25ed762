/- A device of package disk: synced; crashed. -/
import Derived.Test.YtdmllfjeofiddaaDsk3b
import Derived.Test.YtdmllfjeofiddaaDsk3c
import Derived.Test.YtdmllfjeofiddaaDsk3d
import Derived.Test.YtdmllfjeofiddaaKeep3
namespace Go.Proofs.Ytdmllfjeofiddaa
open Go.RowKit

section
variable {S : Nat → Prop} {d L m a b : Nat} {D : Dv}
theorem wr_val {i : Nat} {v : Value} (h : D.Ok) (hi : i < D.n) (e : D.wr i = some v) : v = secV (D.rd i) ∧ Sec (D.rd i) := by
  unfold Dv.wr at e
  split at e
  · injection e with e
    exact ⟨e.symm, h.rd i hi⟩
  · cases e
theorem wr_sync (D : Dv) (i : Nat) : (none : Option Value) = D.sync.wr i := rfl
set_option maxHeartbeats 1000000 in
theorem dSync_any (w : World) (h : DD w S d D a b) : Calls Try.prog 41 #[.pointer (some ⟨d, 0, none⟩)] w fun e w' => e = .returned (.tuple #[]) ∧ ∃ S', DD w' S' d D.sync a (b + 1) ∧ Step S S' w w' := by
  obtain ⟨_, _, _, L, m, c, hS, hk⟩ := h
  obtain ⟨n1, n2, n3⟩ := hk.ne
  have hf1 : Fr (fun k => k = d) w (w.setCell ⟨d, 3, none⟩ (.int .i64 (wrap64 ((b + 1 : Nat) : Int)))) := (Fr.refl (fun k => k = d) w).setCell (p := ⟨d, 3, none⟩) (.inl rfl) _
  have hself : Bk (w.setCell ⟨d, 3, none⟩ (.int .i64 (wrap64 ((b + 1 : Nat) : Int)))) d 73 #[.slice (some ⟨L, 0, none⟩) D.n c, .map (some m), .int .i64 (wrap64 a), .int .i64 (wrap64 ((b + 1 : Nat) : Int))] := hk.self.put 3 _
  have cS := dSettle (s := D.rd) (f := D.la) _ hself (hk.la.fr hf1 (fun e => n1 e.symm)) (hk.mp.fr hf1 n2) (hk.mp.fr hf1 n2) (fun i v hi hv => wr_val hk.ok hi hv) hk.ok.la hk.n
  obtain ⟨-, c1, -, c3⟩ := hk.cells
  have z3 := hk.self.frozen 3
  have hw := wrap64_succ b
  have Hk := Lib.hid hk
  have Hself := Lib.hid hself
  have Hf1 := Lib.hid hf1
  clear hk hself hf1
  go_enter Try.func41, Try.ntmps41
  go_wp2_with fail
  refine cS.mono ?_
  rintro e w' ⟨rfl, hL, hm, hf⟩
  have hD : DK w' d L m c D.sync a (b + 1) := ⟨Hk.out.ok.sync, Hk.out.n, Hself.out.fr hf (fun e => by rcases e with e | e; exact n1 e; exact n2 e.symm), hL.congr (fun i hi => by
      unfold settled
      rw [wr_some]
      cases hd : D.di i with
      | true => rw [if_pos ⟨rfl, rfl⟩]; rfl
      | false => rw [if_neg (by simp)]; exact (Hk.out.ok.same i hi hd).symm), hm, Hk.out.pos⟩
  have Hf := Lib.hid hf
  clear hL hm hf cS
  go_wp2
  go_end0
  exact ⟨rfl, _, hD.dd, ⟨(Hf1.out.weak (S' := S) (fun k _ e => (hS k).2 (.inl e))).trans' Hf.out (fun k _ e => (hS k).2 (.inr e)), fun k hk => .inl ((hS k).2 hk)⟩⟩
theorem dSync_nil (w : World) : Calls Try.prog 41 #[.pointer none] w fun e w' => e = .returned (.tuple #[]) ∧ Fr No w w' := by
  go_enter Try.func41, Try.ntmps41
  go_wp2
  exact bodyPost_ret (v := .tuple #[]) (results_none rfl _ _ _) rfl ⟨rfl, Fr.refl _ _⟩
theorem dCrash_nil (v : Value) (w : World) : Calls Try.prog 16 #[.pointer none, v] w fun e w' => e = .returned (.tuple #[]) ∧ Fr No w w' := by
  go_enter Try.func16, Try.ntmps16
  go_wp2
  exact bodyPost_ret (v := .tuple #[]) (results_none rfl _ _ _) rfl ⟨rfl, Fr.refl _ _⟩

theorem run_neq_func {P : Program} (w : World) {t : TypeId} {ps rs : Array TypeId} {v : Bool} (f : Fn) (x y : Array Value) (h : P.underlying t = some (.func ps rs v)) : (binOp .neq t (.func f x y) .nilFunc).run P w = .ok (.bool true) w := by
  have h1 : ∀ d : Nat, (Op.equalIn (d + 1) t (.func f x y) .nilFunc).run P w = .ok false w := fun d => by
    simp [Op.equalIn, run_underlying h]
  simp only [binOp]
  simp [Op.equal, Op.maxDepth, h1 9999]
/-- What has been kept when q sectors have been asked for. -/
def kf (D : Dv) (keep : List Bool) (q i : Nat) : Option Value := if D.di i = true ∧ cnt D.di i < q ∧ keep.getD (cnt D.di i) false = true then some (secV (D.rd i)) else none
theorem kf_zero (D : Dv) (keep : List Bool) (i : Nat) : (none : Option Value) = kf D keep 0 i := by
  unfold kf
  rw [if_neg]
  rintro ⟨_, h, _⟩
  omega
theorem kf_no {keep : List Bool} {q : Nat} (hq : keep.getD q false = false) (i : Nat) : kf D keep q i = kf D keep (q + 1) i := by
  unfold kf
  by_cases h : D.di i = true ∧ cnt D.di i < q ∧ keep.getD (cnt D.di i) false = true
  · rw [if_pos h, if_pos ⟨h.1, by omega, h.2.2⟩]
  · rw [if_neg h, if_neg]
    rintro ⟨h1, h2, h3⟩
    refine h ⟨h1, ?_, h3⟩
    have : cnt D.di i ≠ q := fun e' => by rw [e', hq] at h3; cases h3
    omega
theorem kf_yes {keep : List Bool} {q x : Nat} (hx : x < D.n) (dx : D.di x = true) (e : cnt D.di x = q) (hq : keep.getD q false = true) (i : Nat) (hi : i < D.n) : upd (kf D keep q) x (some (secV (D.rd x))) i = kf D keep (q + 1) i := by
  by_cases h : i = x
  · subst h
    rw [upd_same]
    unfold kf
    rw [if_pos ⟨dx, by omega, by rw [e]; exact hq⟩]
  · rw [upd_other _ _ _ _ h]
    unfold kf
    by_cases h1 : D.di i = true ∧ cnt D.di i < q ∧ keep.getD (cnt D.di i) false = true
    · rw [if_pos h1, if_pos ⟨h1.1, by omega, h1.2.2⟩]
    · rw [if_neg h1, if_neg]
      rintro ⟨h2, h3, h4⟩
      refine h1 ⟨h2, ?_, h4⟩
      have : cnt D.di i ≠ q := fun e' => h (cnt_one hi hx h2 dx (by rw [e, e']))
      omega
theorem kf_end {keep : List Bool} {i : Nat} (hi : i < D.n) : (kf D keep D.dirty.length i).isSome = kept D.di keep i := by
  unfold kf kept
  cases hd : D.di i with
  | false => simp
  | true =>
    have := cnt_lt hi hd
    cases hq : keep.getD (cnt D.di i) false with
    | true => rw [if_pos ⟨rfl, this, rfl⟩]; rfl
    | false => simp
theorem kf_val {keep : List Bool} {q i : Nat} {v : Value} (h : D.Ok) (hi : i < D.n) (e : kf D keep q i = some v) : v = secV (D.rd i) ∧ Sec (D.rd i) := by
  unfold kf at e
  split at e
  · injection e with e
    exact ⟨e.symm, h.rd i hi⟩
  · cases e
set_option maxRecDepth 100000 in
set_option maxHeartbeats 4000000 in
theorem dCrash_any (kn kl : Nat) (A : Option Addr) (n c : Nat) (keep : List Bool) (w : World) (h : DD w S d D a b) (hk : Kp w kn kl 0 A n c keep) (h1 : ¬ S kn) (_h2 : ¬ S kl) (h3 : ∀ ad, A = some ad → keep ≠ [] → ¬ S ad.block) (_hn : D.n ≤ 4096) :
    Calls Try.prog 16 #[.pointer (some ⟨d, 0, none⟩), kpV kn kl] w fun e w' => e = .returned (.tuple #[]) ∧ ∃ S', DD w' S' d (D.crash keep) a b ∧ Fr (fun k => S k ∨ k = kn) w w' ∧ (∀ k, S' k → S k ∨ w.heap.size ≤ k) := by
  obtain ⟨_, _, _, L, m, cL, hS, hD⟩ := h
  obtain ⟨n1, n2, n3⟩ := hD.ne
  have hn4 := hD.n
  have hmm := @run_makeMap Try.prog
  have g1 : kn ≠ d := fun e => h1 ((hS kn).2 (.inl e))
  have g2 : kn ≠ L := fun e => h1 ((hS kn).2 (.inr (.inl e)))
  have g3 : kn ≠ m := fun e => h1 ((hS kn).2 (.inr (.inr e)))
  have hknlt := hk.bn.lt
  have hkllt := hk.bl.lt
  have hdlt := hD.self.lt
  have hLlt := hD.la.lt
  have hmlt := hD.mp.lt
  have hkneq : kn ≠ kl := hk.bn.apart hk.bl (by decide)
  have hf0 : Fr No w (w.alloc (.map #[] 0)) := (Fr.refl No w).alloc _
  have cD := dkDirty _ (hD.fr hf0 (fun e => e) (fun e => e) (fun e => e))
  have hapB : ∀ ad, A = some ad → keep ≠ [] → ad.block < w.heap.size ∧ ad.block ≠ kn := fun ad e hne => by
    obtain ⟨ad', e', hb, _⟩ := hk.sl (by simpa using hne)
    rw [e] at e'
    injection e' with e'
    subst e'
    exact ⟨hb, hk.ap ad e hne⟩
  have HapB := Lib.hid hapB
  have Hm0 := Lib.hid (MI.made w Try.prog 3 D.n)
  have HD := Lib.hid hD
  have HK := Lib.hid hk
  have HS := Lib.hid hS
  have H3 := Lib.hid h3
  clear hD hk hS h3 hapB h1
  go_enter Try.func16, Try.ntmps16
  unfold kpV
  go_wp2_with fail
  refine cD.mono ?_
  rintro e w2 ⟨A1, c1, rfl, hsl, hf2, hnew⟩
  have hsz2 := hf2.size
  simp only [World.size_alloc] at hsz2 hnew
  have Hsl := Lib.hid hsl
  have Hnew := Lib.hid hnew
  have Hf2 : Hid (Fr No w w2) := Lib.hid (hf0.trans' hf2 (fun _ _ e => e))
  have Hm2 : Hid (MI Try.prog 3 w2 w.heap.size D.n (kf D keep 0)) := Lib.hid ((Hm0.out.fr hf2 (fun e => e)).congr (fun i _ => kf_zero D keep i))
  have hdl : D.dirty.length ≤ 4096 := by
    rw [dirty_len]
    exact Nat.le_trans (cnt_most _ _) hn4
  clear hsl hnew hf2 hf0 cD
  go_wp2
  go_loopw [13] (fun j wr => ∃ q : Nat, j = .int .i64 q ∧ q ≤ D.dirty.length ∧ Kp wr kn kl q A n c keep ∧ MI Try.prog 3 wr w.heap.size D.n (kf D keep q) ∧ Fr (fun k => k = kn ∨ k = w.heap.size) w2 wr) (fun j _ => D.dirty.length - (intOf j).toNat)
  case atStart => exact ⟨0, rfl, Nat.zero_le _, HK.out.fr (S := No) Hf2.out (fun e => e) (fun e => e) (fun _ _ _ e => e), Hm2.out, Fr.refl _ _⟩
  case round =>
    obtain ⟨q, rfl, hq, hkp, hmi, hfr⟩ := hrel
    have hDr : DK wr d L m cL D a b := (HD.out.fr Hf2.out (fun e => e) (fun e => e) (fun e => e)).fr hfr (fun e => by omega) (fun e => by omega) (fun e => by omega)
    by_cases hlt : q < D.dirty.length
    · obtain ⟨x, hxn, hdx, hcx⟩ := cnt_find D.di D.n q (by rw [← dirty_len]; exact hlt)
      have hdq : D.dirty[q]? = some x := by rw [← hcx]; exact dirty_at D x hxn hdx
      have hslr : Sl wr w2.heap.size A1 (i64s D.dirty) := Hsl.out.fr hfr (Nat.le_refl _) (fun ad e hne e' => by
        have := Hnew.out ad e (by rintro h0; rw [h0] at hlt; simp at hlt)
        omega)
      obtain ⟨ad, rfl, hadB, hc⟩ := hslr (by intro e; simp only [i64s, List.map_eq_nil_iff] at e; rw [e] at hlt; simp at hlt)
      have cx : wr.cell? (ad.add q) = some (.int .i64 x) := hc q _ (by simp [i64s, hdq])
      have ck := keep1_any kn kl q x A n c keep wr hkp (by omega)
      have Hfr := Lib.hid hfr
      have HDr := Lib.hid hDr
      have Hmi := Lib.hid hmi
      clear hfr hDr hmi hslr hc hdq hkp
      have hne := fun w f x y => run_neq_func (P := Try.prog) (t := 33) w f x y Try.underlying33
      go_wp2_with fail
      refine ck.mono ?_
      rintro e w4 ⟨rfl, hkp4, hf4⟩
      have hfr4 : Fr (fun k => k = kn ∨ k = w.heap.size) w2 w4 := Hfr.out.trans' hf4 (fun _ _ e => .inl e)
      cases hkq : keep.getD q false with
      | false =>
        have HK4 := Lib.hid hkp4
        have Hfr4 := Lib.hid hfr4
        have Hmi4 : Hid (MI Try.prog 3 w4 w.heap.size D.n (kf D keep (q + 1))) := Lib.hid ((Hmi.out.fr hf4 (by omega)).congr (fun i _ => kf_no hkq i))
        clear hkp4 hfr4 hf4 ck
        go_wp2
        go_roundw
        case rel => exact ⟨q + 1, by go_num, by omega, HK4.out, Hmi4.out, Hfr4.out⟩
        case measure => simp [intOf]; omega
      | true =>
        obtain ⟨x0, x1, x2, x3, x4, x5, x6, x7, hx⟩ := sec_lit (HD.out.ok.rd x hxn)
        have hD4 := HDr.out.fr hf4 (by omega) (by omega) (by omega)
        have cR := dRead_yes x hxn x0 x1 x2 x3 x4 x5 x6 x7 hx w4 hD4.dd
        have HK4 := Lib.hid hkp4
        have Hfr4 := Lib.hid hfr4
        have Hmi4 : Hid (MI Try.prog 3 w4 w.heap.size D.n (kf D keep q)) := Lib.hid (Hmi.out.fr hf4 (by omega))
        have Hx := Lib.hid hx
        clear hkp4 hfr4 hf4 ck hD4 hx
        go_wp2_with fail
        refine cR.mono ?_
        rintro e w5 ⟨rfl, hf5⟩
        obtain ⟨w6, hup, hmi6, hf6, -⟩ := (Hmi4.out.fr hf5 (fun e => e)).store int_k map_t hxn (by omega) (secV [x0, x1, x2, x3, x4, x5, x6, x7])
        simp only [secV, secA, u64s, List.map_cons, List.map_nil] at hup
        have HK6 : Hid (Kp w6 kn kl (q + 1) A n c keep) := Lib.hid (HK4.out.fr (S := fun k => k = w.heap.size) ((hf5.weak (fun _ _ e => e.elim)).trans' hf6 (fun _ _ e => e)) (by omega) (by omega) (fun adk e hne => by have := (HapB.out adk e hne).1; omega))
        have Hfr6 : Hid (Fr (fun k => k = kn ∨ k = w.heap.size) w2 w6) := Lib.hid (Hfr4.out.trans' ((hf5.weak (S' := fun k => k = w.heap.size) (fun _ _ e => e.elim)).trans' hf6 (fun _ _ e => e)) (fun _ _ e => .inr e))
        have Hmi6 : Hid (MI Try.prog 3 w6 w.heap.size D.n (kf D keep (q + 1))) := Lib.hid (hmi6.congr (fun i hi => by
          have := kf_yes hxn hdx hcx hkq i hi
          rw [Hx.out] at this
          exact this))
        clear hmi6 hf5 hf6 cR
        go_wp2
        go_roundw
        case rel => exact ⟨q + 1, by go_num, by omega, HK6.out, Hmi6.out, Hfr6.out⟩
        case measure => simp [intOf]; omega
    · obtain rfl : q = D.dirty.length := by omega
      have cS := dSettle (s := D.rd) (f := D.la) _ hDr.self hDr.la hDr.mp hmi (fun i v hi hv => kf_val hDr.ok hi hv) hDr.ok.la hn4
      have HDr := Lib.hid hDr
      have Hfr := Lib.hid hfr
      clear hDr hmi hfr hkp
      go_wp2_with fail
      refine cS.mono ?_
      rintro e w7 ⟨rfl, hL, hm7, hf7⟩
      have hD7 : DK w7 d L m cL (D.crash keep) a b := ⟨HDr.out.ok.crash keep, hn4, HDr.out.self.fr hf7 (fun e => by rcases e with e | e; exact n1 e; exact n2 e.symm), hL.congr (fun i hi => by
          unfold settled
          rw [kf_end hi]
          show _ = D.after keep i
          unfold Dv.after
          cases kept D.di keep i <;> simp), hm7, HDr.out.pos⟩
      have HD7 := Lib.hid hD7
      have Hf7 : Hid (Fr (fun k => S k ∨ k = kn) w w7) := Lib.hid (((Hf2.out.weak (S' := fun k => S k ∨ k = kn) (fun _ _ e => e.elim)).trans' Hfr.out (fun k hk e => by rcases e with e | e; exact .inr e; exact absurd hk (by omega))).trans' hf7 (fun k _ e => .inl ((HS.out k).2 (.inr e))))
      clear hL hm7 hf7 hD7 cS
      go_wp2
      go_end0
      exact ⟨rfl, _, HD7.out.dd, Hf7.out, fun k hk => .inl ((HS.out k).2 hk)⟩
end
end Go.Proofs.Ytdmllfjeofiddaa
/- What the device's calls do: all of it. -/
/- A device, and variables beside it, while calls go on. -/
namespace Go.Proofs.Ytdmllfjeofiddaa
open Go.RowKit

/-- Since w0 a device of the call's own lies at d, and nothing that was there has turned. -/
structure Env (w0 w : World) (S : Nat → Prop) (d : Nat) (D : Dv) (a b : Nat) : Prop where
  dd : DD w S d D a b
  new : ∀ k, S k → w0.heap.size ≤ k
  fr : Fr No w0 w
/-- A variable's block, apart from the device. -/
structure Lv (w : World) (S : Nat → Prop) (v : Nat) (t : TypeId) (cs : Array Value) : Prop where
  bk : Bk w v t cs
  out : ¬ S v
section
variable {w0 w w' : World} {S S' : Nat → Prop} {d a b a' b' : Nat} {D D' : Dv} {v : Nat} {t : TypeId} {cs : Array Value}
theorem Env.begin {S : Nat → Prop} (hf : Fr No w0 w) (h : DD w' S d D a b) (hs : Step No S w w') : Env w0 w' S d D a b :=
  ⟨h, fun k hk => by rcases hs.grow k hk with h1 | h1; (exact h1.elim); (exact Nat.le_trans hf.size h1), hf.trans' hs.fr (fun _ _ e => e)⟩
theorem Env.step (h : Env w0 w S d D a b) (hd : DD w' S' d D' a' b') (hs : Step S S' w w') : Env w0 w' S' d D' a' b' :=
  ⟨hd, fun k hk => by rcases hs.grow k hk with h1 | h1; (exact h.new k h1); (exact Nat.le_trans h.fr.size h1), h.fr.trans' hs.fr (fun k hk e => by have := h.new k e; omega)⟩
theorem Env.quiet (h : Env w0 w S d D a b) (hf : Fr No w w') : Env w0 w' S d D a b := ⟨h.dd.fr hf (fun _ _ e => e), h.new, h.fr.trans' hf (fun _ _ e => e)⟩
theorem Env.alloc (h : Env w0 w S d D a b) (o : Obj) : Env w0 (w.alloc o) S d D a b := h.quiet ((Fr.refl _ w).alloc o)
theorem Env.drew (h : Env w0 w S d D a b) : Env w0 w.drew S d D a b := h.quiet (Fr.refl _ w).drew
theorem Lv.made (h : Env w0 w S d D a b) (t : TypeId) (cs : Array Value) : Lv (w.alloc (.cells cs t)) S w.heap.size t cs := ⟨Bk.made w t cs, fun e => by have := h.dd.lt _ e; omega⟩
theorem Lv.step (h : Lv w S v t cs) (hs : Step S S' w w') : Lv w' S' v t cs := ⟨h.bk.fr hs.fr h.out, hs.out h.bk.lt h.out⟩
theorem Lv.quiet (h : Lv w S v t cs) (hf : Fr No w w') : Lv w' S v t cs := ⟨h.bk.fr hf (fun e => e), h.out⟩
theorem Lv.alloc (h : Lv w S v t cs) (o : Obj) : Lv (w.alloc o) S v t cs := h.quiet ((Fr.refl _ w).alloc o)
theorem Lv.drew (h : Lv w S v t cs) : Lv w.drew S v t cs := h.quiet (Fr.refl _ w).drew
theorem keepCrash {w1 w2 : World} {kn : Nat} (h1 : Fr No w w1) (hkn : w.heap.size ≤ kn) (h2 : Fr (fun k => S k ∨ k = kn) w1 w2) (h3 : ∀ k, S' k → S k ∨ w1.heap.size ≤ k) : Step S S' w w2 :=
  ⟨(h1.weak (S' := S) (fun _ _ e => e.elim)).trans' h2 (fun k hk e => by rcases e with e | e; (exact e); (omega)), fun k hk => by rcases h3 k hk with e | e; (exact .inl e); (exact .inr (Nat.le_trans h1.size e))⟩
end
theorem lv8 {w : World} {S : Nat → Prop} {v : Nat} {t : TypeId} {c0 c1 c2 c3 c4 c5 c6 c7 : Value} (h : Lv w S v t #[c0, c1, c2, c3, c4, c5, c6, c7]) :
    w.cell? ⟨v, 0, none⟩ = some c0 ∧ w.cell? ⟨v, 1, none⟩ = some c1 ∧ w.cell? ⟨v, 2, none⟩ = some c2 ∧ w.cell? ⟨v, 3, none⟩ = some c3 ∧ w.cell? ⟨v, 4, none⟩ = some c4 ∧ w.cell? ⟨v, 5, none⟩ = some c5 ∧ w.cell? ⟨v, 6, none⟩ = some c6 ∧ w.cell? ⟨v, 7, none⟩ = some c7 :=
  ⟨h.bk.cell 0, h.bk.cell 1, h.bk.cell 2, h.bk.cell 3, h.bk.cell 4, h.bk.cell 5, h.bk.cell 6, h.bk.cell 7⟩
end Go.Proofs.Ytdmllfjeofiddaa
