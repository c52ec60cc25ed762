/- Package anchor: the anchor of a device. -/
import Derived.Test.YtcjbdoppphjpjaaMax7
import Derived.Test.YtcjbdoppphjpjaaWrt7
namespace Go.Proofs.Ytcjbdoppphjpjaa
open Go.RowKit

theorem info_anc : (Try.prog.info? 23).map (fun i => (i.zero, i.size, i.bytes)) = some (some (.agg #[.int .i64 0, .int .i64 0, .int .i64 0, .int .i64 0]), 4, 32) := by kernel_rfl
theorem anc_cells (x : Anc) : x.cells.length = 4 := rfl
theorem cellsA_snoc (xs : List Anc) (x : Anc) : cellsA (xs ++ [x]) = cellsA xs ++ x.cells := by simp [cellsA]
/-- The anchors that the first j sectors tell. -/
def lsA (D : Dv) : Nat → List Anc
  | 0 => []
  | j + 1 => lsA D j ++ (ownP (j : Int) (readA (D.rd j))).toList
theorem lsA_len (D : Dv) (j : Nat) : (lsA D j).length ≤ j := by
  induction j with
  | zero => simp [lsA]
  | succ j ih =>
    simp only [lsA, List.length_append]
    have : (ownP (j : Int) (readA (D.rd j))).toList.length ≤ 1 := by cases ownP (j : Int) (readA (D.rd j)) <;> simp
    omega
/-- What has been told, as a row of the call's own. -/
structure AncO (w0 w : World) (A : Option Addr) (n c : Nat) (xs : List Anc) : Prop where
  own : w.ownsRow w0.heap.size 23 4 (.slice A n c) n (cellsA xs)
  fr : Fr No w0 w
  len : xs.length = n
theorem AncO.nil {w0 w : World} (h : Fr No w0 w) : AncO w0 w none 0 0 [] := ⟨World.ownsRow_nil _ _ _ _, h, rfl⟩
theorem AncO.since {w0 w W : World} {A : Option Addr} {n c : Nat} {xs : List Anc} (h : AncO w0 w A n c xs) (hf : Fr No w W) : AncO w0 W A n c xs := ⟨own_fr h.own hf (fun _ _ e => e), h.fr.trans' hf (fun _ _ e => e), h.len⟩
theorem AncO.at {w0 w : World} {A : Option Addr} {n c : Nat} {xs : List Anc} (h : AncO w0 w A n c xs) (hn : 0 < n) : ∃ g, A = some ⟨g, 0, none⟩ ∧ AtG w g xs := by
  obtain ⟨g, cap, hv, _, hlt⟩ := h.own.form hn
  injection hv with h1 h2 h3
  refine ⟨g, h1, hlt, fun j u hu => ?_⟩
  subst h1
  have := h.own.cells (g := g) rfl j u hu
  have e : (⟨g, 0, none⟩ : Addr).add j = ⟨g, j, none⟩ := by cases j <;> simp [Addr.add]
  rwa [e] at this
/-- An anchor more behind them, as one step of the walk. -/
theorem app_anc {w0 w : World} {ops : Array Oper} {rest : List Oper} {o : Oper} {a : Act} {Q : Exit → Act → World → Prop} (hgd : o.guard = none) (s x : Operand)
    (ho : o.op = .call { callee := .builtin .append, args := #[s, x], argTypes := #[58, 58] })
    (A : Option Addr) (n c : Nat) (xs : List Anc) (y1 y2 y3 y4 : Int) (hs : a.eval s = .slice A n c) (H : Nat) (hH : w.heap.size = H) (hx : a.eval x = .slice (some ⟨H, 0, none⟩) 1 1) (h : AncO w0 w A n c xs) (hlen : n ≤ 1099511627776)
    (hK : ∀ A' c' w', AncO w0 w' A' (n + 1) c' (xs ++ [⟨y1, y2, y3, y4⟩]) → Fr (fun k => (Value.slice A n c).ownBlock = some k) w w' → wpList Try.prog ops Q rest (a.put o.dst (.slice A' (n + 1 : Nat) c')) w') :
    wpList Try.prog ops Q (o :: rest) a (w.alloc (.cells #[.int .i64 y1, .int .i64 y2, .int .i64 y3, .int .i64 y4] 23)) := by
  refine wpList_append_elem hgd s x _ ho w0.heap.size 23 _ 4 32 Try.underlying58 info_anc rfl (by omega) (.slice A n c) n (cellsA xs) #[.int .i64 y1, .int .i64 y2, .int .i64 y3, .int .i64 y4] rfl
    (by intro u hu; simp at hu; rcases hu with rfl | rfl | rfl | rfl <;> rfl) hs H hH hx h.own (by unfold maxLen; omega) (by omega) h.fr.size ?_
  intro A' c' w' q1 q2 q3
  refine hK A' c' w' ⟨?_, h.fr.trans' q2 (fun k hk e => by have := (h.own.lt k e).1; omega), by simp [h.len]⟩ q2
  rw [cellsA_snoc]
  exact q1
def errN (o : Option Anc) : Int := if o.isSome then 0 else 5
/-- What Find tells of a device. -/
def findV (D : Dv) : Value := if 2 ≤ D.n then .tuple #[(getA (findA (D.rd 0) (D.rd 1))).val, .int .i64 (errN (findA (D.rd 0) (D.rd 1)))] else .tuple #[anc0.val, .int .i64 3]
set_option maxRecDepth 100000 in
set_option maxHeartbeats 4000000 in
theorem anFind_nil (w : World) : Calls Try.prog 15 #[.pointer none] w fun e w' => e = .returned (.tuple #[.agg #[.int .i64 0, .int .i64 0, .int .i64 0, .int .i64 0], .int .i64 3]) ∧ Fr No w w' := by
  have HR := Lib.hid (fun i W => dRead_nil i W)
  have b0 := Bk.made w 23 #[.int .i64 0, .int .i64 0, .int .i64 0, .int .i64 0]
  have f0 : Fr No w (w.alloc (.cells #[.int .i64 0, .int .i64 0, .int .i64 0, .int .i64 0] 23)) := (Fr.refl _ _).alloc _
  go_enter Try.func15, Try.ntmps15
  go_wp2
  obtain ⟨wa, Hwa⟩ : ∃ wa, Hid (wa = w.alloc (.cells #[.int .i64 0, .int .i64 0, .int .i64 0, .int .i64 0] 23)) := ⟨_, Lib.hid rfl⟩
  rw [← Hwa.out] at b0 f0 ⊢
  have B0 := Lib.hid b0
  have F0 := Lib.hid f0
  clear Hwa b0 f0
  go_loop [10] (fun i => i = .int .i64 0) (fun _ => 0)
  case atStart => rfl
  case round =>
    subst hrel
    go_wp2_with fail
    refine (HR.out _ _).mono ?_
    rintro e w1 ⟨rfl, f1⟩
    have b1 := (B0.out.fr f1 (fun e => e)).fr ((Fr.refl No _).alloc (.cells #[.int .u64 0, .int .u64 0, .int .u64 0, .int .u64 0, .int .u64 0, .int .u64 0, .int .u64 0, .int .u64 0] 25)) (fun e => e)
    obtain ⟨z0, z1, z2, z3⟩ := bk4 b1
    obtain ⟨y0, y1, y2, y3⟩ := fz4 b1
    have F6 : Hid (Fr No w (w1.alloc (.cells #[.int .u64 0, .int .u64 0, .int .u64 0, .int .u64 0, .int .u64 0, .int .u64 0, .int .u64 0, .int .u64 0] 25))) := Lib.hid ((F0.out.trans' f1 (fun _ _ e => e)).alloc _)
    clear b1 f1 HR B0 F0
    go_wp2
    refine bodyPost_ret (v := .tuple #[.agg #[.int .i64 0, .int .i64 0, .int .i64 0, .int .i64 0], .int .i64 3]) (by simp [results, Try.results15, go_sem, z0, z1, z2, z3]) rfl ?_
    refine ⟨rfl, ?_⟩
    repeat (first | with_reducible exact F6.out | refine Fr.setCell ?_ (.inr (Nat.le_refl _)) _)
set_option maxRecDepth 100000 in
set_option maxHeartbeats 4000000 in
theorem anFind_any {S : Nat → Prop} {d a b : Nat} {D : Dv} (w : World) (hd : DD w S d D a b) : Calls Try.prog 15 #[.pointer (some ⟨d, 0, none⟩)] w fun e w' =>
    e = .returned (findV D) ∧ Fr No w w' := by
  obtain ⟨R, HR⟩ : ∃ R, Hid (findA (D.rd 0) (D.rd 1) = R) := ⟨_, Lib.hid rfl⟩
  obtain ⟨V, HV⟩ : ∃ V, Hid (findV D = V) := ⟨_, Lib.hid rfl⟩
  have HV2 : Hid (2 ≤ D.n → V = .tuple #[(getA R).val, .int .i64 (errN R)]) := Lib.hid (fun h => by rw [← HV.out, ← HR.out, findV, if_pos h])
  have HV3 : Hid (¬ 2 ≤ D.n → V = .tuple #[.agg #[.int .i64 0, .int .i64 0, .int .i64 0, .int .i64 0], .int .i64 3]) := Lib.hid (fun h => by rw [← HV.out, findV, if_neg h]; rfl)
  rw [HV.out]
  clear HV
  have b0 := Bk.made w 23 #[.int .i64 0, .int .i64 0, .int .i64 0, .int .i64 0]
  have f0 : Fr No w (w.alloc (.cells #[.int .i64 0, .int .i64 0, .int .i64 0, .int .i64 0] 23)) := (Fr.refl _ _).alloc _
  obtain ⟨ls, Hls⟩ : ∃ ls : Nat → List Anc, Hid (ls = lsA D) := ⟨_, Lib.hid rfl⟩
  have Hl0 : Hid (ls 0 = []) := Lib.hid (by rw [Hls.out]; rfl)
  have Hl1 : Hid (∀ j, ls (j + 1) = ls j ++ (ownP (j : Int) (readA (D.rd j))).toList) := Lib.hid (by rw [Hls.out]; exact fun j => rfl)
  have Hll : Hid (∀ j, (ls j).length ≤ j) := Lib.hid (by rw [Hls.out]; exact lsA_len D)
  have Hok := Lib.hid hd.ok
  have Hd := Lib.hid hd
  clear hd
  go_enter Try.func15, Try.ntmps15
  go_wp2
  obtain ⟨wa, Hwa⟩ : ∃ wa, Hid (wa = w.alloc (.cells #[.int .i64 0, .int .i64 0, .int .i64 0, .int .i64 0] 23)) := ⟨_, Lib.hid rfl⟩
  rw [← Hwa.out] at b0 f0 ⊢
  have B0 := Lib.hid b0
  have F0 := Lib.hid f0
  clear Hwa b0 f0
  go_loopw [4, 10] (fun v i wr => ∃ (j n : Nat) (A : Option Addr) (c : Nat), j ≤ 2 ∧ j ≤ D.n ∧ i = .int .i64 j ∧ v = .slice A n c ∧ Hid (AncO wa wr A n c (ls j))) (fun _ i _ => 2 - (intOf i).toNat)
  case atStart => exact ⟨0, 0, none, 0, by omega, by omega, rfl, rfl, Lib.hid (by rw [Hl0.out]; exact AncO.nil (Fr.refl _ _))⟩
  case round =>
    obtain ⟨j, n, A, c, hj, hjD, rfl, rfl, HO⟩ := hrel
    by_cases hlt : j < 2
    · by_cases hjn : j < D.n
      rotate_left
      · have cR := dRead_no (j : Int) (.inr (by omega)) wr (Hd.out.quiet (F0.out.trans' HO.out.fr (fun _ _ e => e)))
        have HV4 := Lib.hid (HV3.out (by omega))
        clear HV2 HV3 Hl0 Hl1 Hll Hok Hd hjD hjn
        go_wp2_with fail
        refine cR.mono ?_
        rintro e w1 ⟨rfl, f1⟩
        have b1 := ((B0.out.fr HO.out.fr (fun e => e)).fr f1 (fun e => e)).fr ((Fr.refl No _).alloc (.cells #[.int .u64 0, .int .u64 0, .int .u64 0, .int .u64 0, .int .u64 0, .int .u64 0, .int .u64 0, .int .u64 0] 25)) (fun e => e)
        obtain ⟨z0, z1, z2, z3⟩ := bk4 b1
        obtain ⟨y0, y1, y2, y3⟩ := fz4 b1
        have F6 : Hid (Fr No w (w1.alloc (.cells #[.int .u64 0, .int .u64 0, .int .u64 0, .int .u64 0, .int .u64 0, .int .u64 0, .int .u64 0, .int .u64 0] 25))) := Lib.hid (((F0.out.trans' HO.out.fr (fun _ _ e => e)).trans' f1 (fun _ _ e => e)).alloc _)
        clear b1 f1 cR B0 F0 HO
        go_wp2
        refine bodyPost_ret (v := .tuple #[.agg #[.int .i64 0, .int .i64 0, .int .i64 0, .int .i64 0], .int .i64 3]) (by simp [results, Try.results15, go_sem, z0, z1, z2, z3]) rfl ?_
        refine ⟨by rw [HV4.out], ?_⟩
        repeat (first | with_reducible exact F6.out | refine Fr.setCell ?_ (.inr (Nat.le_refl _)) _)
      have Hjn : Hid (j + 1 ≤ D.n) := Lib.hid hjn
      have hsec := Hok.out.rd j hjn
      obtain ⟨s0, s1, s2, s3, s4, s5, s6, s7, hs⟩ := sec_lit hsec
      have cR := dRead_yes j hjn s0 s1 s2 s3 s4 s5 s6 s7 hs wr (Hd.out.quiet (F0.out.trans' HO.out.fr (fun _ _ e => e)))
      rw [hs] at hsec
      have CA := Lib.hid (fun W => anRead_lit s0 s1 s2 s3 s4 s5 s6 s7 hsec W)
      obtain ⟨r, Hr⟩ : ∃ r, Hid (readA (D.rd j) = r) := ⟨_, Lib.hid rfl⟩
      rw [← hs, Hr.out] at CA
      have Hls1 : Hid (ls (j + 1) = ls j ++ (ownP (j : Int) r).toList) := Lib.hid (by rw [Hl1.out, Hr.out])
      have Hrs : Hid (∀ x, r = some x → ancOk x = true) := Lib.hid (fun x hx => (readA_some (Hr.out.trans hx)).1)
      clear hs hsec Hr hjn hjD
      go_wp2_with fail
      refine cR.mono ?_
      rintro e w1 ⟨rfl, f1⟩
      have x8 := Bk.made w1 25 #[.int .u64 s0, .int .u64 s1, .int .u64 s2, .int .u64 s3, .int .u64 s4, .int .u64 s5, .int .u64 s6, .int .u64 s7]
      have F2 := Lib.hid (f1.alloc (.cells #[.int .u64 s0, .int .u64 s1, .int .u64 s2, .int .u64 s3, .int .u64 s4, .int .u64 s5, .int .u64 s6, .int .u64 s7] 25))
      clear cR f1
      go_wp2_with fail
      refine (CA.out _).mono ?_
      rintro e w2 ⟨rfl, f2⟩
      have F3 := Lib.hid (F2.out.trans' f2 (fun _ _ e => e))
      clear F2 f2 CA x8
      cases r with
      | none =>
        have Hn : Hid (ls (j + 1) = ls j) := Lib.hid (by rw [Hls1.out]; simp [ownP])
        have F4 := Lib.hid (F3.out.alloc (.cells #[.int .i64 0, .int .i64 0, .int .i64 0, .int .i64 0] 23))
        simp only [getA, Option.getD_none, Option.isSome_none, anc0, Anc.val]
        go_wp2
        go_roundw
        case rel => exact ⟨j + 1, n, A, c, by omega, Hjn.out, by go_num, rfl, Lib.hid (by rw [Hn.out]; exact HO.out.since F4.out)⟩
        case measure => simp [intOf]; omega
      | some x =>
        have hxo := Hrs.out x rfl
        have CP := Lib.hid (fun W => anPlace_any x W)
        obtain ⟨x1, x2, x3, x4⟩ := x
        have hx1 := ((ancOk_iff _).1 hxo).1
        simp only at hx1
        have Ht : Hid (Int.tmod x1 2 = x1 % 2) := Lib.hid (by rw [Int.tmod_eq_emod_of_nonneg (by omega)])
        simp only [Ht.out] at CP
        obtain ⟨m, Hm⟩ : ∃ m, Hid (x1 % 2 = m) := ⟨_, Lib.hid rfl⟩
        rw [Hm.out] at CP
        unfold Anc.val at CP
        dsimp only at CP
        have F4 := Lib.hid (F3.out.alloc (.cells #[.int .i64 x1, .int .i64 x2, .int .i64 x3, .int .i64 x4] 23))
        have b4 := Bk.made w2 23 #[.int .i64 x1, .int .i64 x2, .int .i64 x3, .int .i64 x4]
        simp only [getA, Option.getD_some, Option.isSome_some, Anc.val]
        clear hxo hx1 Ht F3
        go_wp2_with fail
        refine (CP.out _).mono ?_
        rintro e w3 ⟨rfl, f3⟩
        obtain ⟨v0, v1, v2, v3⟩ := bk4 (b4.fr f3 (fun e => e))
        have F5 := Lib.hid (F4.out.trans' f3 (fun _ _ e => e))
        clear b4 f3 F4 CP
        by_cases hm : m = (j : Int)
        · have Hn : Hid (ls (j + 1) = ls j ++ [⟨x1, x2, x3, x4⟩]) := Lib.hid (by rw [Hls1.out]; simp [ownP, Hm.out, hm])
          have hO := HO.out.since F5.out
          have hn40 : n ≤ 1099511627776 := by have := HO.out.len; have := Hll.out j; omega
          go_wp2_with (
            at_builtin
            refine app_anc rfl _ _ rfl A n c (ls j) x1 x2 x3 x4 rfl w3.heap.size rfl rfl hO hn40 ?_
            intro A' c' w4 hO4 f4)
          go_roundw
          case rel => exact ⟨j + 1, n + 1, A', c', by omega, Hjn.out, by go_num, by first | rfl | go_num, Lib.hid (by rw [Hn.out]; exact hO4)⟩
          case measure => simp [intOf]; omega
        · have Hn : Hid (ls (j + 1) = ls j) := Lib.hid (by rw [Hls1.out]; simp [ownP, Hm.out, hm])
          go_wp2
          go_roundw
          case rel => exact ⟨j + 1, n, A, c, by omega, Hjn.out, by go_num, rfl, Lib.hid (by rw [Hn.out]; exact HO.out.since F5.out)⟩
          case measure => simp [intOf]; omega
    · obtain rfl : j = 2 := by omega
      have HV4 := Lib.hid (HV2.out hjD)
      obtain ⟨p0, Hp0⟩ : ∃ p0, Hid (ownP 0 (readA (D.rd 0)) = p0) := ⟨_, Lib.hid rfl⟩
      obtain ⟨p1, Hp1⟩ : ∃ p1, Hid (ownP 1 (readA (D.rd 1)) = p1) := ⟨_, Lib.hid rfl⟩
      have Hl2 : Hid (ls 2 = p0.toList ++ p1.toList) := Lib.hid (by
        have e1 := Hl1.out 1
        have e0 := Hl1.out 0
        simp only [Nat.zero_add, Hl0.out, List.nil_append, Int.cast_ofNat_Int, Nat.reduceAdd] at e0 e1
        rw [e1, e0]
        have h0 : ownP ((0 : Nat) : Int) (readA (D.rd 0)) = p0 := Hp0.out
        have h1 : ownP ((1 : Nat) : Int) (readA (D.rd 1)) = p1 := Hp1.out
        first
        | rw [h0, h1]
        | (simp only [Hp0.out, Hp1.out]))
      have HRR : Hid (R = pickP p0 p1) := Lib.hid (by rw [← HR.out, findA_pick, Hp0.out, Hp1.out])
      have HO2 := HO.out
      rw [Hl2.out] at HO2
      have F := Lib.hid (F0.out.trans' HO2.fr (fun _ _ e => e))
      have b5 := B0.out.fr HO2.fr (fun e => e)
      have B5 := Lib.hid b5
      have hne : ∀ x y, p0 = some x → p1 = some y → x.n ≠ y.n := by
        intro x y hx hy
        have h0 := Hp0.out.trans hx
        have h1 := Hp1.out.trans hy
        simp only [ownP, Option.filter_eq_some_iff, decide_eq_true_eq] at h0 h1
        omega
      clear hj hlt hjD HV2 HV3 HO Hls Hl0 Hl1 Hll Hok Hd Hl2 B0 F0 Hp0 Hp1 HR b5
      cases p0 with
      | none =>
        cases p1 with
        | none =>
          have hn0 : n = 0 := by have := HO2.len; simpa using this.symm
          subst hn0
          obtain ⟨z0, z1, z2, z3⟩ := bk4 B5.out
          obtain ⟨y0, y1, y2, y3⟩ := fz4 B5.out
          clear HO2 hne
          go_wp2
          refine bodyPost_ret (v := .tuple #[.agg #[.int .i64 0, .int .i64 0, .int .i64 0, .int .i64 0], .int .i64 5]) (by simp [results, Try.results15, go_sem, z0, z1, z2, z3]) rfl ?_
          refine ⟨by rw [HV4.out, HRR.out]; rfl, ?_⟩
          repeat (first | with_reducible exact F.out | refine Fr.setCell ?_ (.inr (Nat.le_refl _)) _)
        | some y =>
          obtain rfl : n = 1 := by have := HO2.len; simpa using this.symm
          obtain ⟨g, rfl, hat⟩ := HO2.at (by omega)
          have CM := Lib.hid (fun v => maxOne_any y g c wr hat v)
          obtain ⟨x1, x2, x3, x4⟩ := y
          unfold Anc.val at CM
          dsimp only at CM
          have HR2 : Hid (R = some ⟨x1, x2, x3, x4⟩) := Lib.hid (by rw [HRR.out]; rfl)
          clear HO2 hat hne HRR
          go_wp2_with fail
          refine (CM.out _).mono ?_
          rintro e w6 ⟨rfl, f6⟩
          have F6 := Lib.hid (F.out.trans' f6 (fun _ _ e => e))
          have b6 := B5.out.fr f6 (fun e => e)
          obtain ⟨z0, z1, z2, z3⟩ := bk4 b6
          obtain ⟨y0, y1, y2, y3⟩ := fz4 b6
          clear b6 f6 CM F B5
          go_wp2
          refine bodyPost_ret (v := .tuple #[.agg #[.int .i64 x1, .int .i64 x2, .int .i64 x3, .int .i64 x4], .int .i64 0]) (by simp [results, Try.results15, go_sem, z0, z1, z2, z3]) rfl ?_
          refine ⟨by rw [HV4.out, HR2.out]; rfl, ?_⟩
          repeat (first | with_reducible exact F6.out | refine Fr.setCell ?_ (.inr (Nat.le_refl _)) _)
      | some x =>
        cases p1 with
        | none =>
          obtain rfl : n = 1 := by have := HO2.len; simpa using this.symm
          obtain ⟨g, rfl, hat⟩ := HO2.at (by omega)
          have CM := Lib.hid (fun v => maxOne_any x g c wr hat v)
          obtain ⟨x1, x2, x3, x4⟩ := x
          unfold Anc.val at CM
          dsimp only at CM
          have HR2 : Hid (R = some ⟨x1, x2, x3, x4⟩) := Lib.hid (by rw [HRR.out]; rfl)
          clear HO2 hat hne HRR
          go_wp2_with fail
          refine (CM.out _).mono ?_
          rintro e w6 ⟨rfl, f6⟩
          have F6 := Lib.hid (F.out.trans' f6 (fun _ _ e => e))
          have b6 := B5.out.fr f6 (fun e => e)
          obtain ⟨z0, z1, z2, z3⟩ := bk4 b6
          obtain ⟨y0, y1, y2, y3⟩ := fz4 b6
          clear b6 f6 CM F B5
          go_wp2
          refine bodyPost_ret (v := .tuple #[.agg #[.int .i64 x1, .int .i64 x2, .int .i64 x3, .int .i64 x4], .int .i64 0]) (by simp [results, Try.results15, go_sem, z0, z1, z2, z3]) rfl ?_
          refine ⟨by rw [HV4.out, HR2.out]; rfl, ?_⟩
          repeat (first | with_reducible exact F6.out | refine Fr.setCell ?_ (.inr (Nat.le_refl _)) _)
        | some y =>
          obtain rfl : n = 2 := by have := HO2.len; simpa using this.symm
          obtain ⟨g, rfl, hat⟩ := HO2.at (by omega)
          have CM := Lib.hid (maxTwo_any x y g c wr hat)
          have hxy := hne x y rfl rfl
          have HRR2 : Hid (R = some (if x.n < y.n then y else x)) := Lib.hid (by
            rw [HRR.out]
            unfold pickP
            dsimp only
            by_cases hc : y.n < x.n
            · rw [if_pos hc, if_neg (by omega)]
            · rw [if_neg hc, if_pos (by omega)])
          generalize (if x.n < y.n then y else x) = z at *
          obtain ⟨x1, x2, x3, x4⟩ := z
          simp only [Anc.val] at CM
          clear HO2 hat hne HRR hxy
          go_wp2_with fail
          refine CM.out.mono ?_
          rintro e w6 ⟨rfl, f6⟩
          have F6 := Lib.hid (F.out.trans' f6 (fun _ _ e => e))
          have b6 := B5.out.fr f6 (fun e => e)
          obtain ⟨z0, z1, z2, z3⟩ := bk4 b6
          obtain ⟨y0, y1, y2, y3⟩ := fz4 b6
          clear b6 f6 CM F B5
          go_wp2
          refine bodyPost_ret (v := .tuple #[.agg #[.int .i64 x1, .int .i64 x2, .int .i64 x3, .int .i64 x4], .int .i64 0]) (by simp [results, Try.results15, go_sem, z0, z1, z2, z3]) rfl ?_
          refine ⟨by rw [HV4.out, HRR2.out]; rfl, ?_⟩
          repeat (first | with_reducible exact F6.out | refine Fr.setCell ?_ (.inr (Nat.le_refl _)) _)
end Go.Proofs.Ytcjbdoppphjpjaa
