/- The law 'DiskPlays'. -/
import Derived.Test.YthipcfdmkkfofaaSame3
namespace Go.Proofs.Ythipcfdmkkfofaa
open Go.RowKit

/-- A device of the call's own, and the document's, that tell the same. -/
structure Tw (w0 w : World) (S : Nat → Prop) (d : Nat) (D : Dv) (a b r gl gr gd : Nat) : Prop where
  env : Env w0 w S d D a b
  ref : RD w r gl gr gd D
  ap : ∀ k, Rb r gl gr gd k → ¬ S k
  new : ∀ k, Rb r gl gr gd k → w0.heap.size ≤ k
section
variable {w0 w w' : World} {S S' : Nat → Prop} {d a b a' b' r gl gr gd : Nat} {D D' : Dv}
theorem Tw.quiet (h : Tw w0 w S d D a b r gl gr gd) (hf : Fr No w w') : Tw w0 w' S d D a b r gl gr gd := ⟨h.env.quiet hf, h.ref.fr hf (fun _ _ e => e), h.ap, h.new⟩
/-- Both have moved. -/
theorem Tw.both {w1 w2 : World} (h : Tw w0 w S d D a b r gl gr gd) (hd : DD w1 S' d D' a' b') (hs : Step S S' w w1) (hr : RD w2 r gl gr gd D') (hf : Fr (Rb r gl gr gd) w1 w2) : Tw w0 w2 S' d D' a' b' r gl gr gd := by
  have ap' : ∀ k, Rb r gl gr gd k → ¬ S' k := fun k hk => hs.out (h.ref.lt k hk) (h.ap k hk)
  have e1 := h.env.step hd hs
  refine ⟨⟨e1.dd.fr hf (fun k hk e => ap' k e hk), e1.new, e1.fr.trans' hf (fun k hk e => by have := h.new k e; omega)⟩, hr, ap', h.new⟩
theorem Tw.refAt {w1 : World} (h : Tw w0 w S d D a b r gl gr gd) (hs : Step S S' w w1) : RD w1 r gl gr gd D := h.ref.fr hs.fr h.ap
end

/-- What is done to a device. -/
structure Op3 where
  kind : Nat
  i : Int
  s0 : Nat
  s1 : Nat
  s2 : Nat
  s3 : Nat
  s4 : Nat
  s5 : Nat
  s6 : Nat
  s7 : Nat
  keep : List Bool
  A : Option Addr
  c : Nat
def Op3.cells (o : Op3) : List Value := [.int .u8 o.kind, .int .i64 o.i, .int .u64 o.s0, .int .u64 o.s1, .int .u64 o.s2, .int .u64 o.s3, .int .u64 o.s4, .int .u64 o.s5, .int .u64 o.s6, .int .u64 o.s7, .slice o.A o.keep.length o.c]
theorem Op3.cells_len (o : Op3) : o.cells.length = 11 := rfl
structure Op3.Fit (w : World) (B : Nat) (o : Op3) : Prop where
  kind : o.kind < 256
  i : -9223372036854775808 ≤ o.i ∧ o.i < 9223372036854775808
  sec : Sec [o.s0, o.s1, o.s2, o.s3, o.s4, o.s5, o.s6, o.s7]
  sl : Sl w B o.A (bools o.keep)
  cap : o.keep.length ≤ o.c ∧ o.c ≤ maxLen
def Op3.arr (o : Op3) : Array Value := #[.int .u8 o.kind, .int .i64 o.i, .int .u64 o.s0, .int .u64 o.s1, .int .u64 o.s2, .int .u64 o.s3, .int .u64 o.s4, .int .u64 o.s5, .int .u64 o.s6, .int .u64 o.s7, .slice o.A o.keep.length o.c]
/-- The cells of one of several ops that came in. -/
theorem Sl.op3 {w : World} {B : Nat} {A : Option Addr} {ops : List Op3} (h : Sl w B A (ops.flatMap Op3.cells)) {k : Nat} (hk : k < ops.length) :
    ∃ ad, A = some ad ∧ ad.block < B ∧ ∀ j u, (ops[k].cells)[j]? = some u → w.cell? ((ad.add (k * 11)).add j) = some u := h.row 11 Op3.cells_len hk (by omega)

set_option maxRecDepth 100000 in
set_option maxHeartbeats 4000000 in
theorem plays_nil (n : Int) (hn : n < 1 ∨ 4096 < n) (ops : Value) (w : World) :
    Calls Try.prog 6 #[.int .i64 n, ops] w fun e w' => e = .returned (.bool true) ∧ Fr No w w' := by
  have q8 := eq8
  have Hn := Lib.hid hn
  rcases hn with hn | hn
  all_goals
    go_enter Try.func6, Try.ntmps6
    go_wp2_with fail
    refine (alive3_any w).mono ?_
    rintro e w1 ⟨rfl, hf⟩
    have g := hf
    clear hf
    go_wp2_with fail
    refine (dNew_no n Hn.out _).mono ?_
    rintro e w2 ⟨rfl, hf⟩
    replace g := g.trans' hf (fun _ _ e => e)
    clear hf
    go_wp2_with fail
    refine (dSync_nil _).mono ?_
    rintro e w3 ⟨rfl, hf⟩
    replace g := g.trans' hf (fun _ _ e => e)
    clear hf
    go_wp2_with fail
    refine (keeps_any [] none 0 0 _ (Sl.nil _ _ _) rfl).mono ?_
    rintro e w4 ⟨kn, kl, rfl, -, -, -, hf⟩
    replace g := g.trans' hf (fun _ _ e => e)
    clear hf
    go_wp2_with fail
    refine (dCrash_nil _ _).mono ?_
    rintro e w5 ⟨rfl, hf⟩
    replace g := g.trans' hf (fun _ _ e => e)
    clear hf
    go_wp2_with fail
    refine (dRead_nil _ _).mono ?_
    rintro e w6 ⟨rfl, hf⟩
    replace g := g.trans' hf (fun _ _ e => e)
    clear hf
    go_wp2_with fail
    refine (dLen_nil _).mono ?_
    rintro e w7 ⟨rfl, hf⟩
    replace g := (g.alloc _).trans' hf (fun _ _ e => e)
    clear hf
    go_wp2_with fail
    refine (dWrite_nil _ _ _).mono ?_
    rintro e w8 ⟨rfl, hf⟩
    replace g := g.trans' hf (fun _ _ e => e)
    clear hf
    go_wp2_with fail
    refine (dDirty_nil _).mono ?_
    rintro e w9 ⟨A, c, rfl, hf⟩
    replace g := g.trans' hf (fun _ _ e => e)
    clear hf
    go_wp2_with fail
    refine (dWrites_nil _).mono ?_
    rintro e w10 ⟨rfl, hf⟩
    replace g := g.trans' hf (fun _ _ e => e)
    clear hf
    go_wp2_with fail
    refine (dSyncs_nil _).mono ?_
    rintro e w11 ⟨rfl, hf⟩
    replace g := g.trans' hf (fun _ _ e => e)
    clear hf
    go_wp2_with fail
    refine (dCopy_nil _).mono ?_
    rintro e w12 ⟨rfl, hf⟩
    replace g := g.trans' hf (fun _ _ e => e)
    clear hf
    go_wp2
    go_ret
    exact ⟨rfl, g⟩

set_option maxRecDepth 100000 in
set_option maxHeartbeats 400000 in
theorem plays_many (n : Int) (h1 : 200 < n) (h2 : n ≤ 4096) (ops : Value) (w : World) :
    Calls Try.prog 6 #[.int .i64 n, ops] w fun e w' => e = .returned (.bool true) ∧ Fr No w w' := by
  go_enter Try.func6, Try.ntmps6
  go_wp2_with fail
  refine (alive3_any w).mono ?_
  rintro e w1 ⟨rfl, hf⟩
  go_wp2
  go_ret
  exact ⟨rfl, hf⟩
theorem op_cells {w : World} {ad : Addr} {k : Nat} {o : Op3} (h : ∀ j u, (o.cells)[j]? = some u → w.cell? ((ad.add (k * 11)).add j) = some u) :
    w.cell? (ad.add (k * 11)) = some (.int .u8 o.kind) ∧ w.cell? ⟨(ad.add (k * 11)).block, (ad.add (k * 11)).off + 1, none⟩ = some (.int .i64 o.i) ∧
    w.cell? ⟨(ad.add (k * 11)).block, (ad.add (k * 11)).off + 2, none⟩ = some (.int .u64 o.s0) ∧ w.cell? ⟨(ad.add (k * 11)).block, (ad.add (k * 11)).off + 3, none⟩ = some (.int .u64 o.s1) ∧
    w.cell? ⟨(ad.add (k * 11)).block, (ad.add (k * 11)).off + 4, none⟩ = some (.int .u64 o.s2) ∧ w.cell? ⟨(ad.add (k * 11)).block, (ad.add (k * 11)).off + 5, none⟩ = some (.int .u64 o.s3) ∧
    w.cell? ⟨(ad.add (k * 11)).block, (ad.add (k * 11)).off + 6, none⟩ = some (.int .u64 o.s4) ∧ w.cell? ⟨(ad.add (k * 11)).block, (ad.add (k * 11)).off + 7, none⟩ = some (.int .u64 o.s5) ∧
    w.cell? ⟨(ad.add (k * 11)).block, (ad.add (k * 11)).off + 8, none⟩ = some (.int .u64 o.s6) ∧ w.cell? ⟨(ad.add (k * 11)).block, (ad.add (k * 11)).off + 9, none⟩ = some (.int .u64 o.s7) ∧
    w.cell? ⟨(ad.add (k * 11)).block, (ad.add (k * 11)).off + 10, none⟩ = some (.slice o.A o.keep.length o.c) :=
  ⟨h 0 _ rfl, h 1 _ rfl, h 2 _ rfl, h 3 _ rfl, h 4 _ rfl, h 5 _ rfl, h 6 _ rfl, h 7 _ rfl, h 8 _ rfl, h 9 _ rfl, h 10 _ rfl⟩

set_option maxRecDepth 100000 in
set_option maxHeartbeats 8000000 in
theorem plays_dev (N : Nat) (hN1 : 1 ≤ N) (hN2 : N ≤ 200) (ops : List Op3) (m : Nat) (A : Option Addr) (c : Nat) (w : World) (hm : ops.length = m) (hml : m ≤ 9223372036854775807) (hsl : Sl w w.heap.size A (ops.flatMap Op3.cells)) (hfit : ∀ o ∈ ops, o.Fit w w.heap.size) :
    Calls Try.prog 6 #[.int .i64 N, .slice A m c] w fun e w' => e = .returned (.bool true) ∧ Fr No w w' := by
  have q8 := eq8
  have Hm := Lib.hid hm
  have Hfit := Lib.hid hfit
  clear hm hfit
  go_enter Try.func6, Try.ntmps6
  go_wp2_with fail
  refine (alive3_any w).mono ?_
  rintro e w1 ⟨rfl, hf⟩
  go_wp2_with fail
  refine (dNew_yes N hN1 (by omega) w1).mono ?_
  rintro e w2 ⟨S0, d0, rfl, hD0, hS0⟩
  have E0 := Env.begin hf hD0 hS0
  clear hf hD0 hS0
  go_wp2_with fail
  refine (refNew3_any N (by omega) w2).mono ?_
  rintro e w3 ⟨r, gl, gr, gd, rfl, hR0, hnew, hf⟩
  have T0 : Tw w w3 S0 d0 (Dv.new N) 0 0 r gl gr gd := ⟨E0.quiet hf, hR0, fun k hk e => by have := hnew k hk; have := E0.dd.lt k e; omega, fun k hk => Nat.le_trans E0.fr.size (hnew k hk)⟩
  clear E0 hR0 hnew hf
  go_wp2
  go_loopw [5, 9, 10, 11] (fun dv wv sv iv wr => ∃ (j d : Nat) (S : Nat → Prop) (D : Dv) (a b : Nat), j ≤ m ∧ j ≤ 60 ∧ iv = .int .i64 j ∧ dv = .pointer (some ⟨d, 0, none⟩) ∧ wv = .int .i64 a ∧ sv = .int .i64 b ∧ a ≤ j ∧ b ≤ j ∧ Hid (D.n = N) ∧ Hid (Tw w wr S d D a b r gl gr gd)) (fun _ _ _ i _ => 60 - (intOf i).toNat)
  case atStart => exact ⟨0, d0, S0, Dv.new N, 0, 0, by omega, by omega, rfl, rfl, rfl, rfl, by omega, by omega, Lib.hid rfl, Lib.hid T0⟩
  case round =>
    obtain ⟨j, d, S, D, a, b, hj, hj6, rfl, rfl, rfl, rfl, haj, hbj, hDn, hT⟩ := hrel
    by_cases hjm : j < m
    · by_cases hj60 : j < 60
      · have hjl : j < ops.length := by rw [Hm.out]; exact hjm
        obtain ⟨ad, rfl, hadB, hcell⟩ := hsl.op3 hjl
        have hft := Hfit.out _ (List.getElem_mem hjl)
        generalize ops[j] = o at *
        have hcw : ∀ k u, (o.cells)[k]? = some u → wr.cell? ((ad.add (j * 11)).add k) = some u := fun k u hu => by
          rw [hT.out.env.fr.cell (by rw [block_add, block_add]; exact hadB) (fun e => e)]
          exact hcell k u hu
        obtain ⟨c0, c1, c2, c3, c4, c5, c6, c7, c8, c9, c10⟩ := op_cells hcw
        clear hcell hcw
        have hn4 : D.n ≤ 200 := by rw [hDn.out]; exact hN2
        have T1 := hT.out.quiet ((Fr.refl _ wr).alloc (.cells o.arr 62))
        have L1 := Lv.made hT.out.env 62 o.arr
        have hkind := hft.kind
        obtain ⟨hi1, hi2⟩ := hft.i
        have hsec := hft.sec
        have hksl := hft.sl
        have ea : ((a : Int) != (a : Int)) = false := by simp
        have eb : ((b : Int) != (b : Int)) = false := by simp
        have ea1 : ((a : Int) + 1 != (a : Int) + 1) = false := by simp
        have eb1 : ((b : Int) + 1 != (b : Int) + 1) = false := by simp
        clear hft
        by_cases k3 : o.kind % 6 = 3
        · have e3 : (((o.kind : Int) % 6) == 3) = true := by rw [beq_iff_eq]; omega
          clear k3
          go_wp2_with fail
          refine (dSync_any _ T1.env.dd).mono ?_
          rintro e w4 ⟨rfl, S4, hD4, hS4⟩
          go_wp2_with fail
          refine (refSync_any r gl gr gd D _ (T1.refAt hS4) (by omega)).mono ?_
          rintro e w5 ⟨rfl, hR5, hf5⟩
          have T5 := T1.both hD4 hS4 hR5 hf5
          clear T1 L1 hT hD4 hS4 hR5 hf5 c0 c1 c2 c3 c4 c5 c6 c7 c8 c9 c10

          go_wp2_with fail
          refine (same_any r gl gr gd _ T5.env.dd T5.ref (by show D.n ≤ 4096; omega)).mono ?_
          rintro e wA ⟨rfl, hfA⟩
          have TA := T5.quiet hfA
          clear hfA
          go_wp2_with fail
          refine (dWrites_any (by omega) _ TA.env.dd).mono ?_
          rintro e wB ⟨rfl, hfB⟩
          have TB := TA.quiet hfB
          clear hfB TA
          go_wp2_with fail
          refine (dSyncs_any (by omega) _ TB.env.dd).mono ?_
          rintro e wC ⟨rfl, hfC⟩
          have TC := TB.quiet hfC
          clear hfC TB
          go_wp2
          go_roundw
          case rel => exact ⟨j + 1, d, S4, D.sync, a, b + 1, by omega, by omega, by go_num, rfl, by simp, by simp, by omega, by omega, Lib.hid hDn.out, Lib.hid TC⟩
          case measure => simp [intOf]; omega

        · have e3 : (((o.kind : Int) % 6) == 3) = false := by rw [beq_eq_false_iff_ne]; omega
          by_cases k4 : o.kind % 6 = 4
          · have e4 : (((o.kind : Int) % 6) == 4) = true := by rw [beq_iff_eq]; omega
            clear k3 k4
            by_cases hk3 : 300 < o.keep.length
            · have el : decide ((300 : Int) < (o.keep.length : Int)) = true := by simp; omega
              have TE := T1.env.fr
              clear T1 L1 hT hksl hsec
              go_wp2
              go_ret
              exact ⟨rfl, TE⟩
            · have el : decide ((300 : Int) < (o.keep.length : Int)) = false := by simp; omega
              have hapk : ∀ adk, o.A = some adk → o.keep ≠ [] → adk.block < w.heap.size := by
                intro adk e hne
                obtain ⟨ad', e', hb', _⟩ := hksl (by simpa [bools] using hne)
                rw [e] at e'
                injection e' with e'
                subst e'
                exact hb'
              have Hapk := Lib.hid hapk
              clear hapk
              go_wp2_with fail
              refine (keeps_any o.keep o.A o.keep.length o.c _ (hksl.since T1.env.fr) rfl).mono ?_
              rintro e w4 ⟨kn, kl, rfl, hk, hkn, hkl, hf⟩
              have T4 := T1.quiet hf
              go_wp2_with fail
              refine (dCrash_any kn kl o.A _ o.c o.keep w4 T4.env.dd hk (fun e => by have := T1.env.dd.lt _ e; omega) (fun e => by have := T1.env.dd.lt _ e; omega) (fun adk e hne h => by have := Hapk.out adk e hne; have := T1.env.new _ h; omega) (by omega)).mono ?_
              rintro e w5 ⟨rfl, S5, hD5, hfr5, hg5⟩
              have hS5 := keepCrash hf hkn hfr5 hg5
              have L5 := (L1.step hS5).bk.cell 10
              have hk5 := hksl.since (T1.env.step hD5 hS5).fr
              simp only [Op3.arr] at L5
              simp at L5
              clear T4 hk hf hkn hkl hfr5 hg5
              go_wp2_with fail
              refine (refCrash_any r gl gr gd D o.keep o.A _ o.c w5 (T1.refAt hS5) (by omega) hk5 rfl (by omega) (fun adk e hne h => by have := Hapk.out adk e hne; have := T1.new _ h; omega)).mono ?_
              rintro e w6 ⟨rfl, hR6, hf6⟩
              have T6 := T1.both hD5 hS5 hR6 hf6
              clear T1 L1 L5 hk5 hT hD5 hS5 hR6 hf6 hksl c0 c1 c2 c3 c4 c5 c6 c7 c8 c9 c10
              go_wp2_with fail
              refine (same_any r gl gr gd _ T6.env.dd T6.ref (by show D.n ≤ 4096; omega)).mono ?_
              rintro e wA ⟨rfl, hfA⟩
              have TA := T6.quiet hfA
              clear hfA
              go_wp2_with fail
              refine (dWrites_any (by omega) _ TA.env.dd).mono ?_
              rintro e wB ⟨rfl, hfB⟩
              have TB := TA.quiet hfB
              clear hfB TA
              go_wp2_with fail
              refine (dSyncs_any (by omega) _ TB.env.dd).mono ?_
              rintro e wC ⟨rfl, hfC⟩
              have TC := TB.quiet hfC
              clear hfC TB
              go_wp2
              go_roundw
              case rel => exact ⟨j + 1, d, S5, D.crash o.keep, a, b, by omega, by omega, by go_num, rfl, by simp, by simp, by omega, by omega, Lib.hid hDn.out, Lib.hid TC⟩
              case measure => simp [intOf]; omega

          · have e4 : (((o.kind : Int) % 6) == 4) = false := by rw [beq_eq_false_iff_ne]; omega
            by_cases k5 : o.kind % 6 = 5
            · have e5 : (((o.kind : Int) % 6) == 5) = true := by rw [beq_iff_eq]; omega
              clear k3 k4 k5
              go_wp2_with fail
              refine (dCopy_any _ T1.env.dd).mono ?_
              rintro e w4 ⟨S4, d4, rfl, hD4, hS4⟩
              have hDo := T1.env.dd.fr hS4.fr (fun _ _ e => e)
              have h41 : ∀ k, S4 k → ¬ S k := fun k hk e => by
                rcases hS4.grow k hk with h1 | h1
                · exact h1
                · have := T1.env.dd.lt k e
                  omega
              go_wp2_with fail
              refine (dWrite_yes 0 (by rw [hDn.out]; omega) 99 98 0 0 0 0 0 0 ⟨rfl, fun u hu => by simp at hu; omega⟩ w4 hDo).mono ?_
              rintro e w5 ⟨rfl, S5, hD5, hS5⟩
              have hD45 := hD4.fr hS5.fr h41
              have h51 : ∀ k, S4 k → ¬ S5 k := fun k hk => hS5.out (hD4.lt k hk) (h41 k hk)
              go_wp2_with fail
              refine (dSync_any w5 hD5).mono ?_
              rintro e w6 ⟨rfl, S6, hD6, hS6⟩
              have hD46 := hD45.fr hS6.fr h51
              have T6 : Tw w w6 S4 d4 D a b r gl gr gd := by
                have s0 := T1.env.fr.size
                have s1 := hS4.fr.size
                have g1 : Fr No w w4 := T1.env.fr.trans' hS4.fr (fun _ _ e => e)
                have g2 : Fr No w w5 := g1.trans' hS5.fr (fun k hk e => by have := T1.env.new k e; omega)
                have n5 : ∀ k, S5 k → w.heap.size ≤ k := fun k hk => by
                  rcases hS5.grow k hk with e | e
                  · exact T1.env.new k e
                  · omega
                have g3 : Fr No w w6 := g2.trans' hS6.fr (fun k hk e => by have := n5 k e; omega)
                have r4 := T1.ref.fr hS4.fr (fun _ _ e => e)
                have r5 := r4.fr hS5.fr T1.ap
                have r6 := r5.fr hS6.fr (fun k hk => hS5.out (r4.lt k hk) (T1.ap k hk))
                refine ⟨⟨hD46, fun k hk => ?_, g3⟩, r6, fun k hk e => ?_, T1.new⟩
                · rcases hS4.grow k hk with e | e
                  · exact e.elim
                  · exact Nat.le_trans s0 e
                · rcases hS4.grow k e with e | e
                  · exact e
                  · have := T1.ref.lt k hk
                    omega
              clear T1 L1 hT hD4 hS4 hDo h41 hD5 hS5 hD45 h51 hD6 hS6 hD46 c0 c1 c2 c3 c4 c5 c6 c7 c8 c9 c10

              go_wp2_with fail
              refine (same_any r gl gr gd _ T6.env.dd T6.ref (by show D.n ≤ 4096; omega)).mono ?_
              rintro e wA ⟨rfl, hfA⟩
              have TA := T6.quiet hfA
              clear hfA
              go_wp2_with fail
              refine (dWrites_any (by omega) _ TA.env.dd).mono ?_
              rintro e wB ⟨rfl, hfB⟩
              have TB := TA.quiet hfB
              clear hfB TA
              go_wp2_with fail
              refine (dSyncs_any (by omega) _ TB.env.dd).mono ?_
              rintro e wC ⟨rfl, hfC⟩
              have TC := TB.quiet hfC
              clear hfC TB
              go_wp2
              go_roundw
              case rel => exact ⟨j + 1, d4, S4, D, a, b, by omega, by omega, by go_num, rfl, by simp, by simp, by omega, by omega, Lib.hid hDn.out, Lib.hid TC⟩
              case measure => simp [intOf]; omega

            · have e5 : (((o.kind : Int) % 6) == 5) = false := by rw [beq_eq_false_iff_ne]; omega
              clear k3 k4 k5
              by_cases hth : 0 ≤ o.i ∧ o.i < (N : Int)
              · obtain ⟨I, hI⟩ := Int.eq_ofNat_of_zero_le hth.1
                have hIn : I < D.n := by rw [hDn.out]; omega
                have eth : there D.n (I : Int) = true := by simp only [there, decide_eq_true_eq]; omega
                rw [hI] at c1 hth hi1 hi2
                have L1c : ∀ k u, o.arr[k]? = some u → (wr.alloc (.cells o.arr 62)).cell? ⟨wr.heap.size, k, none⟩ = some u := fun k u hu => by rw [L1.bk.cell k]; exact hu
                have Ha : o.arr = #[.int .u8 o.kind, .int .i64 I, .int .u64 o.s0, .int .u64 o.s1, .int .u64 o.s2, .int .u64 o.s3, .int .u64 o.s4, .int .u64 o.s5, .int .u64 o.s6, .int .u64 o.s7, .slice o.A o.keep.length o.c] := by unfold Op3.arr; rw [hI]
                rw [Ha] at T1 L1
                have Hi := Lib.hid (And.intro hi1 hi2)
                clear L1c Ha hI hksl hi1 hi2 hth
                go_wp2_with fail
                refine (dWrite_yes I hIn o.s0 o.s1 o.s2 o.s3 o.s4 o.s5 o.s6 o.s7 hsec _ T1.env.dd).mono ?_
                rintro e w4 ⟨rfl, S4, hD4, hS4⟩
                have L4 := L1.step hS4
                have l1 := L4.bk.cell 1
                simp at l1
                have hR4 := T1.refAt hS4
                go_wp2_with fail
                refine (refThere_any r gl gr gd D I Hi.out.1 Hi.out.2 w4 hR4).mono ?_
                rw [eth]
                rintro e w4' ⟨rfl, rfl⟩
                have l2 := L4.bk.cell 2
                have l3 := L4.bk.cell 3
                have l4 := L4.bk.cell 4
                have l5 := L4.bk.cell 5
                have l6 := L4.bk.cell 6
                have l7 := L4.bk.cell 7
                have l8 := L4.bk.cell 8
                have l9 := L4.bk.cell 9
                simp at l2 l3 l4 l5 l6 l7 l8 l9
                clear eth
                go_wp2_with fail
                refine (refWrite_any r gl gr gd D I _ w4 hR4 hIn (by omega) hsec).mono ?_
                rintro e w5 ⟨rfl, hR5, hf5⟩
                have T5 := T1.both hD4 hS4 hR5 hf5
                clear T1 L1 L4 hT hD4 hS4 hR4 hR5 hf5 hsec l1 l2 l3 l4 l5 l6 l7 l8 l9 c0 c1 c2 c3 c4 c5 c6 c7 c8 c9 c10 hIn
                go_wp2_with fail
                refine (same_any r gl gr gd _ T5.env.dd T5.ref (by show D.n ≤ 4096; omega)).mono ?_
                rintro e wA ⟨rfl, hfA⟩
                have TA := T5.quiet hfA
                clear hfA
                go_wp2_with fail
                refine (dWrites_any (by omega) _ TA.env.dd).mono ?_
                rintro e wB ⟨rfl, hfB⟩
                have TB := TA.quiet hfB
                clear hfB TA
                go_wp2_with fail
                refine (dSyncs_any (by omega) _ TB.env.dd).mono ?_
                rintro e wC ⟨rfl, hfC⟩
                have TC := TB.quiet hfC
                clear hfC TB
                go_wp2
                go_roundw
                case rel => exact ⟨j + 1, d, S4, D.write I [o.s0, o.s1, o.s2, o.s3, o.s4, o.s5, o.s6, o.s7], a + 1, b, by omega, by omega, by go_num, rfl, by simp, by simp, by omega, by omega, Lib.hid hDn.out, Lib.hid TC⟩
                case measure => simp [intOf]; omega
              · have hno : o.i < 0 ∨ (D.n : Int) ≤ o.i := by rw [hDn.out]; omega
                have eth : there D.n o.i = false := by simp only [there, decide_eq_false_iff_not]; omega
                have Hi := Lib.hid (And.intro hi1 hi2)
                clear hi1 hi2 hth
                go_wp2_with fail
                refine (dWrite_no o.i hno _ _ T1.env.dd).mono ?_
                rintro e w4 ⟨rfl, hf⟩
                have T4 := T1.quiet hf
                have l1 := (L1.quiet hf).bk.cell 1
                have L4 := L1.quiet hf
                simp [Op3.arr] at l1
                clear hf
                go_wp2_with fail
                refine (refThere_any r gl gr gd D o.i Hi.out.1 Hi.out.2 w4 T4.ref).mono ?_
                rw [eth]
                rintro e w4' ⟨rfl, rfl⟩
                clear eth
                go_wp2_with fail
                refine (dRead_no o.i hno _ T4.env.dd).mono ?_
                rintro e w5 ⟨rfl, hf⟩
                have T5 := (T4.quiet hf).quiet ((Fr.refl _ w5).alloc (.cells #[.int .u64 0, .int .u64 0, .int .u64 0, .int .u64 0, .int .u64 0, .int .u64 0, .int .u64 0, .int .u64 0] 48))
                have l5 := ((L4.quiet hf).alloc (.cells #[.int .u64 0, .int .u64 0, .int .u64 0, .int .u64 0, .int .u64 0, .int .u64 0, .int .u64 0, .int .u64 0] 48)).bk.cell 1
                simp [Op3.arr] at l5
                clear hf l1 L4 T4
                go_wp2_with fail
                refine (dLasting_no o.i hno _ T5.env.dd).mono ?_
                rintro e w6 ⟨rfl, hf⟩
                have T6 := T5.quiet hf
                clear T1 L1 hT hf T5 l5 hksl hsec c0 c1 c2 c3 c4 c5 c6 c7 c8 c9 c10
                go_wp2
                go_roundw
                case rel => exact ⟨j + 1, d, S, D, a, b, by omega, by omega, by go_num, rfl, rfl, rfl, by omega, by omega, Lib.hid hDn.out, Lib.hid T6⟩
                case measure => simp [intOf]; omega
      · have TE := hT.out.env.fr
        clear hT
        go_wp2
        go_ret
        exact ⟨rfl, TE⟩
    · have TE := hT.out.env.fr
      clear hT
      go_wp2
      go_ret
      exact ⟨rfl, TE⟩

theorem plays_any (n : Int) (hn1 : -9223372036854775808 ≤ n) (hn2 : n < 9223372036854775808) (ops : List Op3) (m : Nat) (A : Option Addr) (c : Nat) (w : World) (hm : ops.length = m) (hml : m ≤ 9223372036854775807) (hsl : Sl w w.heap.size A (ops.flatMap Op3.cells)) (hfit : ∀ o ∈ ops, o.Fit w w.heap.size) :
    Calls Try.prog 6 #[.int .i64 n, .slice A m c] w fun e w' => e = .returned (.bool true) ∧ Fr No w w' := by
  rcases (show (n < 1 ∨ 4096 < n) ∨ (200 < n ∧ n ≤ 4096) ∨ (1 ≤ n ∧ n ≤ 200) by omega) with h | ⟨h1, h2⟩ | ⟨h1, h2⟩
  · exact plays_nil n h _ w
  · exact plays_many n h1 h2 _ w
  · obtain ⟨N, rfl⟩ := Int.eq_ofNat_of_zero_le (show 0 ≤ n by omega)
    exact plays_dev N (by omega) (by omega) ops m A c w hm hml hsl hfit
end Go.Proofs.Ythipcfdmkkfofaa
