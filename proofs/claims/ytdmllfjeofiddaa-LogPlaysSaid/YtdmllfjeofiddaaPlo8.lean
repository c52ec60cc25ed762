/- Package log: a log is opened. -/
import Derived.Test.YtdmllfjeofiddaaPlw8
import Derived.Test.YtdmllfjeofiddaaNew
namespace Go.Proofs.Ytdmllfjeofiddaa
open Go.RowKit Go.Shelf

/-- What Open answers: what stands there, opened. -/
def LOpen (S : Nat → Prop) (d : Nat) (D : Dv) (q n : Nat) (ep : Int) (w : World) (e : Ending) (w' : World) : Prop :=
  ∃ (S' T : Nat → Prop) (l k a b : Nat) (fs : List Frm), e = .returned (.tuple #[.pointer (some ⟨l, 0, none⟩), .int .i64 0]) ∧ Told ep (partW D.rd q n) fs k ∧ DD w' S' d (openD D q n k) a b ∧ LO w' T l d ⟨q, n, ep, fs⟩ ∧ Step S S' w w' ∧ (∀ j, T j → w.heap.size ≤ j) ∧ (∀ j, T j → ¬ S' j)
section
variable {S T : Nat → Prop} {l d a b : Nat} {D : Dv} {M : Lg}
set_option maxHeartbeats 1000000 in
theorem lOpen_range (q n ep : Int) (hq : -9223372036854775808 ≤ q ∧ q < 9223372036854775808) (hn : -9223372036854775808 ≤ n ∧ n < 9223372036854775808) (ht : therB D.n q n = false) (w : World) (h : DD w S d D a b) : Calls Try.prog 10 #[.pointer (some ⟨d, 0, none⟩), .int .i64 q, .int .i64 n, .int .i64 ep] w fun e w' => e = .returned (.tuple #[.pointer none, .int .i64 3]) ∧ Fr No w w' := by
  have HH := Lib.hid (lHas_any q n hq hn w h)
  rw [ht] at HH
  clear h hq hn ht
  go_enter Try.func10, Try.ntmps10
  go_wp2_with fail
  refine HH.out.mono ?_
  rintro e w1 ⟨rfl, f1⟩
  go_wp2
  go_ret2
  exact ⟨rfl, f1⟩
set_option maxHeartbeats 1000000 in
theorem lOpen_arg (q n ep : Int) (hq : -9223372036854775808 ≤ q ∧ q < 9223372036854775808) (hn : -9223372036854775808 ≤ n ∧ n < 9223372036854775808) (hep : -9223372036854775808 ≤ ep ∧ ep < 9223372036854775808) (ht : therB D.n q n = true) (he : numOk ep = false) (w : World) (h : DD w S d D a b) : Calls Try.prog 10 #[.pointer (some ⟨d, 0, none⟩), .int .i64 q, .int .i64 n, .int .i64 ep] w fun e w' => e = .returned (.tuple #[.pointer none, .int .i64 1]) ∧ Fr No w w' := by
  have HH := Lib.hid (lHas_any q n hq hn w h)
  have HE := Lib.hid (fun W => lIsEpoch_any ep hep.1 hep.2 W)
  rw [ht] at HH
  rw [he] at HE
  clear h hq hn ht hep he
  go_enter Try.func10, Try.ntmps10
  go_wp2_with fail
  refine HH.out.mono ?_
  rintro e w1 ⟨rfl, f1⟩
  go_wp2_with fail
  refine (HE.out _).mono ?_
  rintro e w2 ⟨rfl, rfl⟩
  go_wp2
  go_ret2
  exact ⟨rfl, f1⟩
set_option maxRecDepth 100000 in
set_option maxHeartbeats 4000000 in
theorem lOpen_yes (q n : Nat) (hq : q + n ≤ D.n) (hn : 1 ≤ n) (ep : Int) (he : numOk ep = true) (w : World) (h : DD w S d D a b) : Calls Try.prog 10 #[.pointer (some ⟨d, 0, none⟩), .int .i64 q, .int .i64 n, .int .i64 ep] w (LOpen S d D q n ep w) := by
  have hD : D.n ≤ 4096 := by obtain ⟨_, _, _, L, m, c, -, hk⟩ := h; exact hk.n
  have hnum := (numOk_iff _).1 he
  have ht : therB D.n (q : Int) (n : Int) = true := by simp [therB]; omega
  have HH := Lib.hid (lHas_any (q : Int) (n : Int) (by omega) (by omega) w h)
  have HE := Lib.hid (fun W => lIsEpoch_any ep (by omega) (by omega) W)
  rw [ht] at HH
  rw [he] at HE
  have HD := Lib.hid (fun W (hW : Fr No w W) => h.fr hW (fun _ _ e => e))
  have hp64 : ∀ u ∈ partW D.rd q n, u < 18446744073709551616 := partW_lt (f := D.rd) (fun i hi => h.ok.rd _ (by omega))
  have hplen := partW_len D.rd q n
  have Hok := Lib.hid h.ok
  have Hlt := Lib.hid h.lt
  have Hself := Lib.hid h.self
  obtain ⟨P, HP⟩ : ∃ P, Hid (partW D.rd q n = P) := ⟨_, Lib.hid rfl⟩
  rw [HP.out] at hp64 hplen
  have HA : Hid (∀ W A c, W.ownsRow w.heap.size 40 1 (.slice A (8 * n) c) (8 * n) (u64s P) → Calls Try.prog 37 #[.int .i64 ep, .slice A (8 * n) c] W (AllN ep P W)) := Lib.hid (fun W A c ho => by
    obtain ⟨A', c', e1, e2, e3, -⟩ := own_shape ho
    injection e1 with _ _ e1
    exact allN_any ep (by omega) P hp64 (8 * n) A c W (Sl.ofOwn ho) hplen (by omega) (by omega) (by omega))
  have HC : Hid (∀ W ad c k, k ≤ 8 * n → W.ownsRow w.heap.size 40 1 (.slice (some ad) (8 * n) c) (8 * n) (u64s P) → Calls Try.prog 38 #[.slice (some ad) k c] W (NewL W (P.take k))) := Lib.hid (fun W ad c k hk ho =>
    wClone (P.take k) ad k c W (by
      have := (Sl.ofOwn ho).take k
      have e4 : (u64s P).take k = u64s (P.take k) := by simp [u64s]
      rwa [e4] at this) (by rw [List.length_take, hplen]; omega) (by omega))
  have HR : Hid (∀ W G, Fr No w W → LB W G d q n ep none 0 0 [] 0 → Calls Try.prog 36 #[.pointer (some ⟨G, 0, none⟩)] W fun e w' => ∃ g c, 8 * n ≤ c ∧ c ≤ maxLen ∧ e = .returned (.slice (some ⟨g, 0, none⟩) (8 * n) c) ∧ w'.ownsRow W.heap.size 40 1 (.slice (some ⟨g, 0, none⟩) (8 * n) c) (8 * n) (u64s P) ∧ Fr No W w') := Lib.hid (fun W G hW hL =>
    (lRead_any hq W (HD.out W hW) hL).mono (by
      rintro e w' ⟨A, c, e1, h2, h3⟩
      rw [HP.out, hplen] at e1 h2
      obtain ⟨g, cap, e3, h4, h5⟩ := h2.form (by omega)
      injection e3 with e3 _ e4
      subst e3
      obtain ⟨A', c', e5, h6, h7, -⟩ := own_shape h2
      injection e5 with _ _ e5
      subst e5
      exact ⟨g, c, h6, h7, e1, h2, h3⟩))
  have H64 := Lib.hid hp64
  have Hplen := Lib.hid hplen
  have Hnum := Lib.hid he
  clear h hp64 hplen ht he hnum
  go_enter Try.func10, Try.ntmps10
  go_wp2_with fail
  refine HH.out.mono ?_
  rintro e w1 ⟨rfl, f1⟩
  go_wp2_with fail
  refine (HE.out _).mono ?_
  rintro e w2 ⟨rfl, rfl⟩
  go_wp2_with fail
  obtain ⟨wA, HwA⟩ : ∃ wA, Hid (w1.alloc (.cells #[.pointer (some ⟨d, 0, none⟩), .int .i64 (q : Int), .int .i64 (n : Int), .int .i64 ep, .slice none 0 0, .int .i64 0] 76) = wA) := ⟨_, Lib.hid rfl⟩
  obtain ⟨G, HG⟩ : ∃ G, Hid (w1.heap.size = G) := ⟨_, Lib.hid rfl⟩
  have bO : Bk wA G 76 #[.pointer (some ⟨d, 0, none⟩), .int .i64 (q : Int), .int .i64 (n : Int), .int .i64 ep, .slice none 0 0, .int .i64 0] := by
    rw [← HwA.out, ← HG.out]
    exact Bk.made w1 _ _
  have FA : Fr No w wA := by
    rw [← HwA.out]
    exact f1.alloc _
  have hG : w.heap.size ≤ G := by
    rw [← HG.out]
    exact f1.size
  rw [HwA.out, HG.out]
  clear HwA HG f1 HH HE
  refine (HR.out wA G FA ⟨bO, World.ownsRow_nil _ _ _ _⟩).mono ?_
  rintro e w3 ⟨g1, c1, hc1, hc1m, rfl, own1, f3⟩
  have F3 := FA.trans' f3 (fun _ _ e => e)
  have b3 := bO.fr f3 (fun e => e)
  have own1' := own_base own1 FA.size
  clear bO f3 HR
  go_wp2_with fail
  refine (HA.out _ _ _ own1').mono ?_
  rintro e w4 ⟨xs, A2, c2, k, rfl, ht, hF, hN⟩
  have hk : k ≤ 8 * n := by
    have := (stepsF_len ht.1).2
    rw [Hplen.out] at this
    exact this
  have hkc : k ≤ c1 := by omega
  have hm63 : maxLen = 9223372036854775807 := rfl
  have own4 := own_fr own1' hF.fr (fun _ _ e => e)
  have F4 := F3.trans' hF.fr (fun _ _ e => e)
  have b4 := b3.fr hF.fr (fun e => e)
  have hxl : xs.length ≤ 1099511627776 := by
    have h1 := (stepsF_stream H64.out ht.1).1
    have h2 := streamF_len ep 0 (xs.map FrV.f)
    rw [← h1, List.length_take, List.length_map] at h2
    omega
  have Ht := Lib.hid ht
  obtain ⟨z, Hz⟩ : ∃ z, Hid (xs.length = z) := ⟨_, Lib.hid rfl⟩
  have HCk := Lib.hid (HC.out w4 ⟨g1, 0, none⟩ c1 k hk own4)
  rw [Hz.out] at hxl ⊢
  clear own1 own1' own4 b3 HA HC hF hN ht F3
  go_wp2_with fail
  refine HCk.out.mono ?_
  rintro e w5 ⟨A3, c3, rfl, own5, f5⟩
  have hl5 : (P.take k).length = k := by rw [List.length_take, Hplen.out]; omega
  rw [hl5] at own5 ⊢
  have F5 := F4.trans' f5 (fun _ _ e => e)
  have b5 := b4.fr f5 (fun e => e)
  have y4 := b5.frozen 4
  have y5 := b5.frozen 5
  have x4 := b5.cell 4
  have x5 := b5.cell 5
  simp at x4 x5
  have B5 := Lib.hid b5
  clear b4 b5 HCk hl5
  go_wp2_with fail
  obtain ⟨wS, HwS⟩ : ∃ wS, Hid ((w5.setCell ⟨G, 4, none⟩ (.slice A3 k c3)).setCell ⟨G, 5, none⟩ (.int .i64 (z : Int)) = wS) := ⟨_, Lib.hid rfl⟩
  have fS : Fr (fun j => j = G) w5 wS := by
    rw [← HwS.out]
    exact ((Fr.refl (fun j => j = G) w5).setCell (p := ⟨G, 4, none⟩) (.inl rfl) _).setCell (p := ⟨G, 5, none⟩) (.inl rfl) _
  have FS : Fr No w wS := F5.trans' fS (fun j hj e => by omega)
  have bS : Bk wS G 76 #[.pointer (some ⟨d, 0, none⟩), .int .i64 (q : Int), .int .i64 (n : Int), .int .i64 ep, .slice A3 k c3, .int .i64 (z : Int)] := by
    rw [← HwS.out]
    exact (B5.out.put 4 _).put 5 _
  have hGlt := B5.out.lt
  have oS : wS.ownsRow 0 40 1 (.slice A3 k c3) k (u64s (P.take k)) :=
    own_base (own_fr own5 fS (fun j e e2 => by
      subst e2
      exact own_apart own5 B5.out (by decide) e)) (Nat.zero_le _)
  have hLB : LB wS G d q n ep A3 k c3 ((partW D.rd q n).take k) z := by
    rw [HP.out]
    exact ⟨bS, oS⟩
  have hT1 : ∀ j, LT G A3 k c3 j → w.heap.size ≤ j := by
    rintro j (rfl | e)
    · exact hG
    · exact Nat.le_trans F4.size (own5.lt j e).1
  have hap : ∀ j, LT G A3 k c3 j → ¬ S j := fun j hj e => by
    have h1 := hT1 j hj
    have h2 := Hlt.out j e
    omega
  rw [HwS.out]
  refine (lClear_any hq hk wS (HD.out wS FS) hLB hap).mono ?_
  rintro e w6 ⟨rfl, S6, a6, b6, hD6, hS6⟩
  have hap6 : ∀ j, LT G A3 k c3 j → ¬ S6 j := fun j hj e => by
    rcases hS6.grow j e with h | h
    · exact hap j hj h
    · have := hLB.lt j hj
      omega
  have hLB6 := hLB.fr hS6.fr hap
  obtain ⟨hinv, hkl, -⟩ := open_inv Hok.out hq hn (by omega) Hnum.out (by rw [HP.out]; exact Ht.out)
  have hst := (stepsF_stream H64.out Ht.out.1).1
  have Hfin : Hid (LOpen S d D q n ep w (.returned (.tuple #[.pointer (some ⟨G, 0, none⟩), .int .i64 0])) w6) := Lib.hid (by
    refine ⟨S6, LT G A3 k c3, G, k, a6, b6, xs.map FrV.f, rfl, by rw [HP.out]; exact Ht.out, hD6, ⟨⟨A3, c3, ?_, ?_⟩, Hnum.out, hinv.ok, ?_, ?_⟩, Step.afterN FS hS6, hT1, hap6⟩
    · have e1 : Lg.used ⟨q, n, ep, xs.map FrV.f⟩ = k := hkl.symm
      rw [e1]
      rw [HP.out, hst] at hLB6
      show LB w6 G d q n ep A3 k c3 (streamF ep 0 (xs.map FrV.f)) (xs.map FrV.f).length
      rw [List.length_map, Hz.out]
      exact hLB6
    · intro j
      have e1 : Lg.used ⟨q, n, ep, xs.map FrV.f⟩ = k := hkl.symm
      rw [e1]
    · have e1 : Lg.used ⟨q, n, ep, xs.map FrV.f⟩ = k := hkl.symm
      rw [e1]
      omega
    · show ∀ u ∈ streamF ep 0 (xs.map FrV.f), u < 18446744073709551616
      rw [← hst]
      exact fun u hu => H64.out u (List.mem_of_mem_take hu))
  clear hS6 hap hap6 hLB hLB6 hinv hkl hst hT1 oS bS FS fS B5 own5 x4 x5 y4 y5 F5 F4 HwS hD6
  go_wp2
  go_ret2
  exact Hfin.out
end
end Go.Proofs.Ytdmllfjeofiddaa
/- Package log: a frame is appended. -/
namespace Go.Proofs.Ytdmllfjeofiddaa
open Go.RowKit Go.Shelf

/-- What Append answers. -/
def LApp (S T : Nat → Prop) (l d : Nat) (D : Dv) (M : Lg) (f : Frm) (w : World) (e : Ending) (w' : World) : Prop :=
  e = .returned (.int .i64 (appE M f : Nat)) ∧ ∃ (S' T' : Nat → Prop) (a b : Nat), DD w' S' d (appDv D M f) a b ∧ LO w' T' l d (appM M f) ∧ Fr (fun k => S k ∨ T k) w w' ∧ (∀ k, S' k → S k ∨ w.heap.size ≤ k) ∧ (∀ k, T' k → T k ∨ w.heap.size ≤ k) ∧ (∀ k, T' k → ¬ S' k)
/-- A log whose words have grown, its count not yet. -/
def Grown (w4 wx : World) (l d q n u t cnt : Nat) (ep : Int) (A : Option Addr) (c : Nat) (ws : List Nat) : Prop :=
  ∃ A' c', LB wx l d q n ep A' t c' ws cnt ∧ Fr (LT l A u c) w4 wx ∧ ((Value.slice A' t c').ownBlock = (Value.slice A u c).ownBlock ∨ ∃ k, (Value.slice A' t c').ownBlock = some k ∧ w4.heap.size ≤ k)
section
variable {S T : Nat → Prop} {l d a b : Nat} {D : Dv} {M : Lg}
theorem LApp.stay {f : Frm} {w w' : World} (h : DD w S d D a b) (hl : LO w T l d M) (hd : ∀ k, T k → ¬ S k) (hc : ¬ (frmOk f = true ∧ M.roomFor f = true)) (hf : Fr No w w') : LApp S T l d D M f w (.returned (.int .i64 (appE M f : Nat))) w' := by
  refine ⟨rfl, S, T, a, b, ?_, ?_, hf.weak (fun _ _ e => e.elim), fun _ h => .inl h, fun _ h => .inl h, hd⟩
  · unfold appDv
    rw [if_neg hc]
    exact h.fr hf (fun _ _ e => e)
  · unfold appM
    rw [if_neg hc]
    exact hl.fr hf (fun _ _ e => e)
theorem own_set_far' {w : World} {base size n c : Nat} {e : TypeId} {A : Option Addr} {xs : List Value} (h : w.ownsRow base e size (.slice A n c) n xs) (p : Addr) (hp : (Value.slice A n c).ownBlock ≠ some p.block) (v : Value) : (w.setCell p v).ownsRow base e size (.slice A n c) n xs :=
  own_fr h ((Fr.refl (fun k => k = p.block) w).setCell (.inl rfl) v) (fun k e e2 => hp (e2 ▸ e))
set_option maxRecDepth 100000 in
set_option maxHeartbeats 4000000 in
theorem lAppend_any (x : FrV) (w : World) (h : DD w S d D a b) (hl : LO w T l d M) (hd : ∀ k, T k → ¬ S k) (hI : LInv D M) (hx : x.Fit w w.heap.size) : Calls Try.prog 24 #[.pointer (some ⟨l, 0, none⟩), x.agg] w (LApp S T l d D M x.f w) := by
  have HM : Hid (∀ W, Calls Try.prog 46 #[.agg #[.int .i64 x.kind, .slice x.A x.ws.length x.c]] W fun e w' => e = .returned (.bool (frmOk x.f)) ∧ Fr No W w') := Lib.hid (fun W => may_any x W)
  have HCo : Hid (∀ W, Calls Try.prog 23 #[.agg #[.int .i64 x.kind, .slice x.A x.ws.length x.c]] W fun e w' => e = .returned (.int .i64 (if frmOk x.f = true then x.ws.length + 1 else 0 : Nat)) ∧ Fr No W w') := Lib.hid (fun W => lCost_any x W)
  have bF := Bk.made w 38 #[.int .i64 x.kind, .slice x.A x.ws.length x.c]
  have f0 : Fr No w (w.alloc (.cells #[.int .i64 x.kind, .slice x.A x.ws.length x.c] 38)) := (Fr.refl _ _).alloc _
  show Calls _ _ #[_, Value.agg #[.int .i64 x.kind, .slice x.A x.ws.length x.c]] _ _
  cases hok : frmOk x.f with
  | false =>
    have Hst := Lib.hid (fun w' (hf : Fr No w w') => LApp.stay (f := x.f) h hl hd (fun c => by rw [hok] at c; cases c.1) hf)
    have hE : appE M x.f = 1 := by unfold appE; rw [hok]; rfl
    rw [hE] at Hst
    rw [hok] at HM
    clear h hl hd hI hx HCo hE
    go_enter Try.func24, Try.ntmps24
    go_wp2_with fail
    refine (HM.out _).mono ?_
    rintro e w1 ⟨rfl, f1⟩
    have F1 := Lib.hid (f0.trans' f1 (fun _ _ e => e))
    go_wp2
    go_ret
    exact Hst.out _ F1.out
  | true =>
    have hwl : x.ws.length ≤ 2000 := by have := (frmOk_iff _).1 hok; have e : x.f.words = x.ws := rfl; rw [e] at this; omega
    have hu := hI.used_le
    have hn4 := hI.small
    have HRo := Lib.hid (fun W (hW : Fr No w W) => lRoom_any W (hl.fr hW (fun _ _ e => e)) hu hn4)
    rw [hok] at HM HCo
    rw [if_pos rfl] at HCo
    obtain ⟨K, HK⟩ : ∃ K, Hid (x.ws.length + 1 = K) := ⟨_, Lib.hid rfl⟩
    obtain ⟨R, HR⟩ : ∃ R, Hid (8 * M.n - M.used = R) := ⟨_, Lib.hid rfl⟩
    rw [HK.out] at HCo
    rw [HR.out] at HRo
    by_cases hroom : M.roomFor x.f = true
    · have hr : M.used + K ≤ 8 * M.n := by
        have : M.used + (x.f.words.length + 1) ≤ 8 * M.n := by simpa [Lg.roomFor] using hroom
        rw [← HK.out]
        exact this
      have hgt : decide (R < K) = false := by
        rw [decide_eq_false_iff_not, ← HR.out]
        omega
      have hcnt := hI.len
      have hnum := (numOk_iff _).1 hI.num
      have hput : putP M.ep M.L.length x.f = putW M.ep M.L.length x.f := by
        unfold putP
        rw [if_pos ⟨hok, hI.num, by rw [numOk_iff]; omega⟩]
      have hE : appE M x.f = 0 := by unfold appE; rw [hok, hroom]; rfl
      obtain ⟨A, c, hb, hT⟩ := hl.lies
      obtain ⟨zz, hz⟩ := hI.lies
      have hsn := streamF_snoc M.ep M.L x.f
      obtain ⟨new, Hnew⟩ : ∃ new, Hid (putW M.ep M.L.length x.f = new) := ⟨_, Lib.hid rfl⟩
      have h64n : ∀ u ∈ new, u < 18446744073709551616 := by rw [← Hnew.out]; exact putW_lt _ _ _ hx.lt
      have hnl : new.length = K := by rw [← Hnew.out, putW_len, ← HK.out]; rfl
      rw [Hnew.out] at hput hsn
      have HP : Hid (∀ W, Fr No w W → Calls Try.prog 47 #[.int .i64 M.ep, .int .i64 (M.L.length : Int), .agg #[.int .i64 x.kind, .slice x.A x.ws.length x.c]] W (NewL W new)) := Lib.hid (fun W hW => by
        have := put_any M.ep (M.L.length : Int) (by omega) (by omega) x W (hx.since hW)
        rw [hput] at this
        exact this)
      have hAppM : appM M x.f = { M with L := M.L ++ [x.f] } := by unfold appM; rw [if_pos ⟨hok, hroom⟩]
      have hAppD : appDv D M x.f = appD D M.q M.used new := by unfold appDv; rw [if_pos ⟨hok, hroom⟩, Hnew.out]
      have hinv := append_inv hI x.f
      rw [hAppM] at hinv
      obtain ⟨ws, Hws⟩ : ∃ ws, Hid (streamF M.ep 0 M.L = ws) := ⟨_, Lib.hid rfl⟩
      obtain ⟨u, Hu⟩ : ∃ u, Hid (M.used = u) := ⟨_, Lib.hid rfl⟩
      obtain ⟨cnt, Hcnt⟩ : ∃ cnt, Hid (M.L.length = cnt) := ⟨_, Lib.hid rfl⟩
      have hwsu : ws.length = u := by rw [← Hu.out, ← Hws.out]; rfl
      have h64w : ∀ u ∈ ws, u < 18446744073709551616 := by rw [← Hws.out]; exact hl.lt64
      rw [Hws.out, Hu.out, Hcnt.out] at hb
      rw [Hws.out] at hz hsn
      rw [Hcnt.out] at HP hcnt
      rw [Hu.out] at hr hu hT
      have hdiv : (u : Int).tdiv 8 = ((u / 8 : Nat) : Int) := by rw [Int.tdiv_eq_ediv_of_nonneg (by omega)]; omega
      obtain ⟨t, Ht⟩ : ∃ t, Hid (u + K = t) := ⟨_, Lib.hid rfl⟩
      have hcells := Lib.hid (fun W (hW : Fr No w W) => (hb.fr hW (fun _ _ e => e)).cells)
      have HWr : Hid (∀ W A' c' k, LB W l d M.q M.n M.ep A' t c' (ws ++ new) k → (∀ j, LT l A' t c' j → ¬ S j) → DD W S d D a b → Calls Try.prog 48 #[.pointer (some ⟨l, 0, none⟩), .int .i64 (u / 8 : Nat)] W fun e w' => e = .returned (.tuple #[]) ∧ ∃ (S' : Nat → Prop) (a b : Nat), DD w' S' d (appD D M.q u new) a b ∧ Step S S' W w') := Lib.hid (fun W A' c' k hB hap hD => by
        have := lWrite_any (ws := ws) (new := new) hI.fits (by rw [← Ht.out]; omega) hz (fun v hv => by rcases List.mem_append.1 hv with h1 | h1; (exact h64w v h1); (exact h64n v h1)) h64n W hD hB hap
        rw [hwsu] at this
        exact this)
      have HFin : Hid (∀ w' A' c' S' a' b' W, LB W l d M.q M.n M.ep A' t c' (ws ++ new) (cnt + 1) → DD w' S' d (appD D M.q u new) a' b' → Step S S' W w' → Fr T w W → (∀ j, LT l A' t c' j → T j ∨ w.heap.size ≤ j) → (∀ j, LT l A' t c' j → ¬ S j) → LApp S T l d D M x.f w (.returned (.int .i64 0)) w') := Lib.hid (by
        intro w' A' c' S' a' b' W hB hD hS hF hT' hap
        have hu2 : Lg.used { M with L := M.L ++ [x.f] } = t := by
          show (streamF M.ep 0 (M.L ++ [x.f])).length = t
          rw [hsn, List.length_append, hwsu, hnl, Ht.out]
        refine ⟨by rw [hE]; rfl, S', LT l A' t c', a', b', by rw [hAppD, Hu.out]; exact hD, ?_, ?_, ?_, hT', ?_⟩
        · rw [hAppM]
          refine ⟨⟨A', c', ?_, ?_⟩, hI.num, hinv.ok, by rw [hu2, ← Ht.out]; omega, ?_⟩
          · rw [hu2]
            show LB w' l d M.q M.n M.ep A' t c' (streamF M.ep 0 (M.L ++ [x.f])) (M.L ++ [x.f]).length
            rw [hsn, List.length_append, Hcnt.out]
            exact hB.fr hS.fr hap
          · intro k
            rw [hu2]
          · show ∀ u ∈ streamF M.ep 0 (M.L ++ [x.f]), _
            rw [hsn]
            intro v hv
            rcases List.mem_append.1 hv with h1 | h1
            · exact h64w v h1
            · exact h64n v h1
        · exact (hF.weak (S' := fun k => S k ∨ T k) (fun _ _ e => .inr e)).trans' hS.fr (fun _ _ e => .inl e)
        · intro k hk
          rcases hS.grow k hk with h1 | h1
          · exact .inl h1
          · exact .inr (Nat.le_trans hF.size h1)
        · intro k hk e
          rcases hS.grow k e with h1 | h1
          · exact hap k hk h1
          · have := hB.lt k hk
            omega)
      have HD := Lib.hid (fun W (hW : Fr T w W) => h.fr hW (fun k hk e => hd k e hk))
      have HLt := Lib.hid h.lt
      have HTS := Lib.hid hd
      have HTl := Lib.hid hT
      have Hb := Lib.hid (fun W (hW : Fr No w W) => hb.fr hW (fun _ _ e => e))
      have hcm : c ≤ maxLen := hb.cap.2
      have hcap : u ≤ c := hb.cap.1
      have Hnl := Lib.hid hnl
      have HKl : K ≤ 2001 := by rw [← HK.out]; omega
      clear h hl hd hI hx hE hok hroom hput hnum hT hb hz hsn h64n h64w hinv hAppM hAppD hwsu hwl hnl HK HR
      go_enter Try.func24, Try.ntmps24
      go_wp2_with fail
      refine (HM.out _).mono ?_
      rintro e w1 ⟨rfl, f1⟩
      have F1 := f0.trans' f1 (fun _ _ e => e)
      have b1 := bF.fr f1 (fun e => e)
      have k0 := b1.cell 0
      have k1 := b1.cell 1
      simp at k0 k1
      go_wp2_with fail
      refine (HCo.out _).mono ?_
      rintro e w2 ⟨rfl, f2⟩
      have F2 := F1.trans' f2 (fun _ _ e => e)
      have b2 := b1.fr f2 (fun e => e)
      go_wp2_with fail
      refine (HRo.out _ F2).mono ?_
      rintro e w3 ⟨rfl, f3⟩
      have F3 := F2.trans' f3 (fun _ _ e => e)
      have b3 := b2.fr f3 (fun e => e)
      obtain ⟨-, -, -, c3, c4, c5⟩ := hcells.out w3 F3
      clear b1 b2 k0 k1 f1 f2 f3 F1 F2 f0 bF HM HCo HRo
      go_wp2_with fail
      have BF := Lib.hid (fun W (hW : Fr (LT l A u c) w3 W) => b3.fr hW (fun e => by
        rcases e with e | e
        · exact Bk.apart b3 (Hb.out w3 F3).obj (by decide) e
        · exact own_apart (Hb.out w3 F3).own b3 (by decide) e))
      have hLB3 := Hb.out w3 F3
      have HLB := Lib.hid (fun W (hW : Fr No w3 W) => hLB3.fr hW (fun _ _ e => e))
      have F3' := Lib.hid F3
      obtain ⟨x0, x1, hx0, hx1, Hx0⟩ : ∃ x0 x1 : Value, x0 = .int .i64 x.kind ∧ x1 = .slice x.A x.ws.length x.c ∧ True := ⟨_, _, rfl, rfl, trivial⟩
      rw [← hx0, ← hx1] at BF HP ⊢
      have HPx := Lib.hid (fun W (hW : Fr No w3 W) => HP.out W (F3'.out.trans' hW (fun _ _ e => e)))
      have Hx := Lib.hid (And.intro hx0 hx1)
      have HlF : Hid (l ≠ w.heap.size) := Lib.hid (fun e => Bk.apart b3 hLB3.obj (by decide) e.symm)
      have hHcx := Lib.hid (fun W (hW : Fr (fun k => (Value.slice A u c).ownBlock = some k) w3 W) => show ((W.cell? ⟨l, 3, none⟩ = some (.int .i64 M.ep) ∧ W.cell? ⟨l, 5, none⟩ = some (.int .i64 (cnt : Int))) ∧ W.cell? ⟨w.heap.size, 0, none⟩ = some x0 ∧ W.cell? ⟨w.heap.size, 1, none⟩ = some x1) from by
        have q := hLB3.obj.fr hW (fun e => own_apart hLB3.own hLB3.obj (by decide) e)
        have q2 := BF.out W (hW.weak (fun _ _ e => .inr e))
        exact ⟨⟨q.cell 3, q.cell 5⟩, q2.cell 0, q2.cell 1⟩)
      clear b3 HP hx0 hx1 Hx0 F3 hLB3 c3 c4 c5
      go_cut [39] from 24 to 51 (fun _ wx => Grown w3 wx l d M.q M.n u t cnt M.ep A c (ws ++ new))
      case first =>
        refine wp_region_held_drew (S := fun w' => (w'.cell? ⟨l, 3, none⟩ = some (.int .i64 M.ep) ∧ w'.cell? ⟨l, 5, none⟩ = some (.int .i64 (cnt : Int))) ∧ w'.cell? ⟨w.heap.size, 0, none⟩ = some x0 ∧ w'.cell? ⟨w.heap.size, 1, none⟩ = some x1) (by kernel_rfl) (hHcx.out w3 (Fr.refl _ _)) (fun hHeld => ?_)
        refine any_take 24 (.pointer (some ⟨l, 0, none⟩)) (i := 0) rfl rfl (by kernel_rfl) (by kernel_rfl) (by kernel_rfl) (fun _ _ _ h => h) (by rfl) (by intro w hSw; (try dsimp only at hSw); go_simp; try with_reducible rfl) (by assumption) ?_
        simp only [Act.put, List.setIfInBounds_toArray, List.set_cons_zero, List.set_cons_succ]
        refine any_take 25 (.pointer (some ⟨l, 0, none⟩)) (i := 1) rfl rfl (by kernel_rfl) (by kernel_rfl) (by kernel_rfl) (fun _ _ _ h => h) (by rfl) (by intro w hSw; (try dsimp only at hSw); go_simp; try with_reducible rfl) (by assumption) ?_
        simp only [Act.put, List.setIfInBounds_toArray, List.set_cons_zero, List.set_cons_succ]
        refine any_take 26 (.pointer (some ⟨l, 0, none⟩)) (i := 2) rfl rfl (by kernel_rfl) (by kernel_rfl) (by kernel_rfl) (fun _ _ _ h => h) (by rfl) (by intro w hSw; (try dsimp only at hSw); go_simp; try with_reducible rfl) (by assumption) ?_
        simp only [Act.put, List.setIfInBounds_toArray, List.set_cons_zero, List.set_cons_succ]
        refine any_take 27 (.pointer (some ⟨l, 4, none⟩)) (i := 3) rfl rfl (by kernel_rfl) (by kernel_rfl) (by kernel_rfl) (fun _ _ _ h => h) (by rfl) (by intro w hSw; (try dsimp only at hSw); go_simp; try with_reducible rfl) (by assumption) ?_
        simp only [Act.put, List.setIfInBounds_toArray, List.set_cons_zero, List.set_cons_succ]
        refine any_take 29 (.pointer (some ⟨l, 0, none⟩)) (i := 5) rfl rfl (by kernel_rfl) (by kernel_rfl) (by kernel_rfl) (fun _ _ _ h => h) (by rfl) (by intro w hSw; (try dsimp only at hSw); go_simp; try with_reducible rfl) (by assumption) ?_
        simp only [Act.put, List.setIfInBounds_toArray, List.set_cons_zero, List.set_cons_succ]
        refine any_take 30 (.pointer (some ⟨l, 0, none⟩)) (i := 6) rfl rfl (by kernel_rfl) (by kernel_rfl) (by kernel_rfl) (fun _ _ _ h => h) (by rfl) (by intro w hSw; (try dsimp only at hSw); go_simp; try with_reducible rfl) (by assumption) ?_
        simp only [Act.put, List.setIfInBounds_toArray, List.set_cons_zero, List.set_cons_succ]
        refine any_take 31 (.pointer (some ⟨l, 3, none⟩)) (i := 7) rfl rfl (by kernel_rfl) (by kernel_rfl) (by kernel_rfl) (fun _ _ _ h => h) (by rfl) (by intro w hSw; (try dsimp only at hSw); go_simp; try with_reducible rfl) (by assumption) ?_
        simp only [Act.put, List.setIfInBounds_toArray, List.set_cons_zero, List.set_cons_succ]
        refine any_take 32 (.int .i64 M.ep) (i := 8) rfl rfl (by kernel_rfl) (by kernel_rfl) (by kernel_rfl) (fun _ _ _ h => h) (by rfl) (by intro w hSw; (try dsimp only at hSw); go_simp; try with_reducible rfl) (by assumption) ?_
        simp only [Act.put, List.setIfInBounds_toArray, List.set_cons_zero, List.set_cons_succ]
        refine any_take 33 (.pointer (some ⟨l, 0, none⟩)) (i := 9) rfl rfl (by kernel_rfl) (by kernel_rfl) (by kernel_rfl) (fun _ _ _ h => h) (by rfl) (by intro w hSw; (try dsimp only at hSw); go_simp; try with_reducible rfl) (by assumption) ?_
        simp only [Act.put, List.setIfInBounds_toArray, List.set_cons_zero, List.set_cons_succ]
        refine any_take 34 (.pointer (some ⟨l, 0, none⟩)) (i := 10) rfl rfl (by kernel_rfl) (by kernel_rfl) (by kernel_rfl) (fun _ _ _ h => h) (by rfl) (by intro w hSw; (try dsimp only at hSw); go_simp; try with_reducible rfl) (by assumption) ?_
        simp only [Act.put, List.setIfInBounds_toArray, List.set_cons_zero, List.set_cons_succ]
        refine any_take 35 (.pointer (some ⟨l, 5, none⟩)) (i := 11) rfl rfl (by kernel_rfl) (by kernel_rfl) (by kernel_rfl) (fun _ _ _ h => h) (by rfl) (by intro w hSw; (try dsimp only at hSw); go_simp; try with_reducible rfl) (by assumption) ?_
        simp only [Act.put, List.setIfInBounds_toArray, List.set_cons_zero, List.set_cons_succ]
        refine any_take 36 (.int .i64 (cnt : Int)) (i := 12) rfl rfl (by kernel_rfl) (by kernel_rfl) (by kernel_rfl) (fun _ _ _ h => h) (by rfl) (by intro w hSw; (try dsimp only at hSw); go_simp; try with_reducible rfl) (by assumption) ?_
        simp only [Act.put, List.setIfInBounds_toArray, List.set_cons_zero, List.set_cons_succ]
        refine any_take 37 (.agg #[x0, x1]) (i := 13) rfl rfl (by kernel_rfl) (by kernel_rfl) (by kernel_rfl) (fun _ _ _ h => h) (by rfl) (by intro w hSw; (try dsimp only at hSw); go_simp; try with_reducible rfl) (by assumption) ?_
        simp only [Act.put, List.setIfInBounds_toArray, List.set_cons_zero, List.set_cons_succ]
        refine wpAnyH_ready (rs := [4, 14]) (by kernel_rfl) (by simp) ?_
        refine AllReadyH.cons rfl (fun K' hK => ?_) (AllReadyH.cons rfl (fun K' hK => ?_) AllReadyH.nil)
        · have l4 := (HLB.out w3.drew ((Fr.refl _ w3).drew)).cells.2.2.2.2.1
          go_simp
          refine hK.out _ _ (hHcx.out _ (Fr.weak (S := No) ((Fr.refl _ w3).drew) (fun _ _ e => e.elim))) (fun hHeld => ?_)
          clear hK l4
          try simp only [Act.put, List.setIfInBounds_toArray, List.set_cons_zero, List.set_cons_succ]
          refine wpAnyH_ready (rs := [14]) (by kernel_rfl) (by simp) ?_
          refine AllReadyH.cons rfl (fun K' hK => ?_) AllReadyH.nil
          go_simp
          go_at_call 47
          refine (HPx.out _ ((Fr.refl _ w3).drew)).mono ?_
          rintro e5 w5 ⟨B, cB, rfl, own5, f5⟩
          have F5 : Fr No w3 w5 := Fr.trans' ((Fr.refl _ w3).drew) f5 (fun _ _ e => e)
          dsimp only
          rw [Hnl.out] at own5 ⊢
          refine hK.out _ _ (hHcx.out w5 (F5.weak (fun _ _ e => e.elim))) (fun hHeld => ?_)
          clear hK
          try simp only [Act.put, List.setIfInBounds_toArray, List.set_cons_zero, List.set_cons_succ]
          refine wpAnyH_ready (rs := [15]) (by kernel_rfl) (by simp) ?_
          refine AllReadyH.cons rfl (fun K' hK => ?_) AllReadyH.nil
          refine step_words rfl _ _ rfl 0 A u c ws rfl w5.heap.size B K cB new rfl Hnl.out (Sl.ofOwn own5) (HLB.out w5 F5).own (by omega) (Nat.zero_le _) ?_
          intro A6 c6 w6 own6 f6 g6
          have F6 : Fr (fun k => (Value.slice A u c).ownBlock = some k) w3 w6 := (F5.weak (fun _ _ e => e.elim)).trans' f6 (fun _ _ e => e)
          rw [Ht.out] at own6 g6 ⊢
          refine hK.out _ _ (hHcx.out w6 F6) (fun hHeld => ?_)
          clear hK
          try simp only [Act.put, List.setIfInBounds_toArray, List.set_cons_zero, List.set_cons_succ]
          refine any_take 40 (.pointer (some ⟨l, 0, none⟩)) (i := 16) rfl rfl (by kernel_rfl) (by kernel_rfl) (by kernel_rfl) (fun _ _ _ h => h) (by rfl) (by intro w hSw; (try dsimp only at hSw); go_simp; try with_reducible rfl) (by assumption) ?_
          simp only [Act.put, List.setIfInBounds_toArray, List.set_cons_zero, List.set_cons_succ]
          refine any_take 41 (.pointer (some ⟨l, 4, none⟩)) (i := 17) rfl rfl (by kernel_rfl) (by kernel_rfl) (by kernel_rfl) (fun _ _ _ h => h) (by rfl) (by intro w hSw; (try dsimp only at hSw); go_simp; try with_reducible rfl) (by assumption) ?_
          simp only [Act.put, List.setIfInBounds_toArray, List.set_cons_zero, List.set_cons_succ]
          refine wpAnyH_ready (rs := [18]) (by kernel_rfl) (by simp) ?_
          refine AllReadyH.cons rfl (fun K' hK => ?_) AllReadyH.nil
          have b6 := (HLB.out w3 (Fr.refl _ _)).obj.fr F6 (fun e => own_apart (HLB.out w3 (Fr.refl _ _)).own (HLB.out w3 (Fr.refl _ _)).obj (by decide) e)
          have k4 := b6.cell 4
          have hy4 := b6.frozen 4
          simp at k4
          go_simp
          have b7 := b6.put 4 (.slice A6 t c6)
          have own7 := own_set_far' own6 ⟨l, 4, none⟩ (own_apart own6 b6 (by decide)) (.slice A6 t c6)
          have F7 : Fr (LT l A u c) w3 (w6.setCell ⟨l, 4, none⟩ (.slice A6 t c6)) := (F6.weak (fun _ _ e => .inr e)).setCell (p := ⟨l, 4, none⟩) (.inl (.inl rfl)) _
          have b8 := BF.out _ F7
          refine hK.out _ _ ⟨⟨b7.cell 3, b7.cell 5⟩, b8.cell 0, b8.cell 1⟩ (fun hHeld => ?_)
          clear hK k4 hy4
          try simp only [Act.put, List.setIfInBounds_toArray, List.set_cons_zero, List.set_cons_succ]
          refine wpAnyH_done (by kernel_rfl) ?_ _
          clear hHeld
          go_wp2
          go_meet
          exact ⟨A6, c6, ⟨b7, own7⟩, F7, g6.imp id (fun ⟨k, e, hk⟩ => ⟨k, e, Nat.le_trans F5.size hk⟩)⟩
        · go_simp
          go_at_call 47
          refine (HPx.out _ ((Fr.refl _ w3).drew)).mono ?_
          rintro e5 w5 ⟨B, cB, rfl, own5, f5⟩
          have F5 : Fr No w3 w5 := Fr.trans' ((Fr.refl _ w3).drew) f5 (fun _ _ e => e)
          dsimp only
          rw [Hnl.out] at own5 ⊢
          refine hK.out _ _ (hHcx.out w5 (F5.weak (fun _ _ e => e.elim))) (fun hHeld => ?_)
          clear hK
          try simp only [Act.put, List.setIfInBounds_toArray, List.set_cons_zero, List.set_cons_succ]
          refine wpAnyH_ready (rs := [4]) (by kernel_rfl) (by simp) ?_
          refine AllReadyH.cons rfl (fun K' hK => ?_) AllReadyH.nil
          have l4 := (HLB.out w5 F5).cells.2.2.2.2.1
          go_simp
          refine hK.out _ _ (hHcx.out _ (Fr.weak (S := No) F5 (fun _ _ e => e.elim))) (fun hHeld => ?_)
          clear hK l4
          try simp only [Act.put, List.setIfInBounds_toArray, List.set_cons_zero, List.set_cons_succ]
          refine wpAnyH_ready (rs := [15]) (by kernel_rfl) (by simp) ?_
          refine AllReadyH.cons rfl (fun K' hK => ?_) AllReadyH.nil
          refine step_words rfl _ _ rfl 0 A u c ws rfl w5.heap.size B K cB new rfl Hnl.out (Sl.ofOwn own5) (HLB.out w5 F5).own (by omega) (Nat.zero_le _) ?_
          intro A6 c6 w6 own6 f6 g6
          have F6 : Fr (fun k => (Value.slice A u c).ownBlock = some k) w3 w6 := (F5.weak (fun _ _ e => e.elim)).trans' f6 (fun _ _ e => e)
          rw [Ht.out] at own6 g6 ⊢
          refine hK.out _ _ (hHcx.out w6 F6) (fun hHeld => ?_)
          clear hK
          try simp only [Act.put, List.setIfInBounds_toArray, List.set_cons_zero, List.set_cons_succ]
          refine any_take 40 (.pointer (some ⟨l, 0, none⟩)) (i := 16) rfl rfl (by kernel_rfl) (by kernel_rfl) (by kernel_rfl) (fun _ _ _ h => h) (by rfl) (by intro w hSw; (try dsimp only at hSw); go_simp; try with_reducible rfl) (by assumption) ?_
          simp only [Act.put, List.setIfInBounds_toArray, List.set_cons_zero, List.set_cons_succ]
          refine any_take 41 (.pointer (some ⟨l, 4, none⟩)) (i := 17) rfl rfl (by kernel_rfl) (by kernel_rfl) (by kernel_rfl) (fun _ _ _ h => h) (by rfl) (by intro w hSw; (try dsimp only at hSw); go_simp; try with_reducible rfl) (by assumption) ?_
          simp only [Act.put, List.setIfInBounds_toArray, List.set_cons_zero, List.set_cons_succ]
          refine wpAnyH_ready (rs := [18]) (by kernel_rfl) (by simp) ?_
          refine AllReadyH.cons rfl (fun K' hK => ?_) AllReadyH.nil
          have b6 := (HLB.out w3 (Fr.refl _ _)).obj.fr F6 (fun e => own_apart (HLB.out w3 (Fr.refl _ _)).own (HLB.out w3 (Fr.refl _ _)).obj (by decide) e)
          have k4 := b6.cell 4
          have hy4 := b6.frozen 4
          simp at k4
          go_simp
          have b7 := b6.put 4 (.slice A6 t c6)
          have own7 := own_set_far' own6 ⟨l, 4, none⟩ (own_apart own6 b6 (by decide)) (.slice A6 t c6)
          have F7 : Fr (LT l A u c) w3 (w6.setCell ⟨l, 4, none⟩ (.slice A6 t c6)) := (F6.weak (fun _ _ e => .inr e)).setCell (p := ⟨l, 4, none⟩) (.inl (.inl rfl)) _
          have b8 := BF.out _ F7
          refine hK.out _ _ ⟨⟨b7.cell 3, b7.cell 5⟩, b8.cell 0, b8.cell 1⟩ (fun hHeld => ?_)
          clear hK k4 hy4
          try simp only [Act.put, List.setIfInBounds_toArray, List.set_cons_zero, List.set_cons_succ]
          refine wpAnyH_done (by kernel_rfl) ?_ _
          clear hHeld
          go_wp2
          go_meet
          exact ⟨A6, c6, ⟨b7, own7⟩, F7, g6.imp id (fun ⟨k, e, hk⟩ => ⟨k, e, Nat.le_trans F5.size hk⟩)⟩
      case rest =>
        obtain ⟨A', c', hB, hF, hG⟩ := hcut
        have k5 := hB.obj.cell 5
        have y5 := hB.obj.frozen 5
        simp at k5
        have hc63 : cnt ≤ 32768 := hcnt
        have HB := Lib.hid hB
        clear hB
        go_wp2_with fail
        obtain ⟨wS, HwS⟩ : ∃ wS, Hid (wc.setCell ⟨l, 5, none⟩ (.int .i64 ((cnt : Int) + 1)) = wS) := ⟨_, Lib.hid rfl⟩
        have hBS : LB wS l d M.q M.n M.ep A' t c' (ws ++ new) (cnt + 1) := by
          rw [← HwS.out]
          refine ⟨?_, own_set_far' HB.out.own ⟨l, 5, none⟩ (own_apart HB.out.own HB.out.obj (by decide)) _⟩
          have := HB.out.obj.put 5 (.int .i64 ((cnt : Int) + 1))
          simpa using this
        have hFS : Fr T w wS := by
          rw [← HwS.out]
          have h1 : Fr T w wc := (F3'.out.weak (S' := T) (fun _ _ e => e.elim)).trans' hF (fun k _ e => (HTl.out k).2 e)
          exact h1.setCell (p := ⟨l, 5, none⟩) (.inl ((HTl.out l).2 (.inl rfl))) _
        have hTn : ∀ j, LT l A' t c' j → T j ∨ w.heap.size ≤ j := by
          rintro j (rfl | e)
          · exact .inl ((HTl.out _).2 (.inl rfl))
          · rcases hG with g | ⟨k, g, hk⟩
            · rw [g] at e
              exact .inl ((HTl.out _).2 (.inr e))
            · rw [g] at e
              injection e with e
              subst e
              exact .inr (Nat.le_trans F3'.out.size hk)
        have hap : ∀ j, LT l A' t c' j → ¬ S j := by
          intro j hj e
          rcases hTn j hj with h1 | h1
          · exact HTS.out j h1 e
          · have := HLt.out j e
            omega
        rw [HwS.out]
        refine (HWr.out wS A' c' (cnt + 1) hBS hap (HD.out wS hFS)).mono ?_
        rintro e w6 ⟨rfl, S6, a6, b6, hD6, hS6⟩
        have HF := Lib.hid (HFin.out w6 A' c' S6 a6 b6 wS hBS hD6 hS6 hFS hTn hap)
        clear hBS hFS hTn hap hD6 hS6 HFin HWr HD HLt HTS HTl HwS HB k5 y5 hF hG
        go_wp2
        go_ret
        exact HF.out
    · have hgt : decide (R < K) = true := by
        rw [decide_eq_true_iff, ← HR.out, ← HK.out]
        have h1 : ¬ (M.used + (x.f.words.length + 1) ≤ 8 * M.n) := fun h1 => hroom (by simpa [Lg.roomFor] using h1)
        have h2 : x.f.words.length = x.ws.length := rfl
        omega
      have Hst := Lib.hid (fun w' (hf : Fr No w w') => LApp.stay (f := x.f) h hl hd (fun c => hroom c.2) hf)
      have hE : appE M x.f = 4 := by unfold appE; rw [hok, if_pos rfl, if_neg hroom]
      rw [hE] at Hst
      have HKl : K ≤ 2001 := by rw [← HK.out]; omega
      have HRl : R ≤ 32768 := by rw [← HR.out]; omega
      clear h hl hd hI hx hE hu hn4 hroom HR HK hok hwl
      go_enter Try.func24, Try.ntmps24
      go_wp2_with fail
      refine (HM.out _).mono ?_
      rintro e w1 ⟨rfl, f1⟩
      have F1 := f0.trans' f1 (fun _ _ e => e)
      have b1 := bF.fr f1 (fun e => e)
      have k0 := b1.cell 0
      have k1 := b1.cell 1
      simp at k0 k1
      go_wp2_with fail
      refine (HCo.out _).mono ?_
      rintro e w2 ⟨rfl, f2⟩
      have F2 := F1.trans' f2 (fun _ _ e => e)
      go_wp2_with fail
      refine (HRo.out _ F2).mono ?_
      rintro e w3 ⟨rfl, f3⟩
      have F3 := Lib.hid (F2.trans' f3 (fun _ _ e => e))
      clear b1 k0 k1 f1 f2 f3 F1 F2 f0 bF HM HCo HRo
      go_wp2
      go_ret
      exact Hst.out _ F3.out
end
end Go.Proofs.Ytdmllfjeofiddaa
/- What a log's calls do: all of it (package log: Plg8 to Plq8). -/
