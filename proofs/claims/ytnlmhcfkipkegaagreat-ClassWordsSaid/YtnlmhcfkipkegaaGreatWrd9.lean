/- A program's words, purely; what package prog writes. -/
import Derived.Test.YtnlmhcfkipkegaaGreatCodesW
import Derived.Test.YtnlmhcfkipkegaaGreatPrg9
import Derived.Test.YtnlmhcfkipkegaaGreatIdx9
namespace Go.Proofs.YtnlmhcfkipkegaaGreat
open Go.RowKit

/-- An instruction's words, and a program's. -/
def wordsI (i : Ins) : List Nat := [i.op.toNat, i.a.toNat, i.b.toNat, i.c.toNat, sgn i.ka, i.kb.toNat, sgn i.la, i.lb.toNat, sgn i.x]
theorem wordsI_len (i : Ins) : (wordsI i).length = 9 := rfl
def wordsP (l : List Ins) : List Nat := l.length :: l.flatMap wordsI
theorem wordsI_flat (l : List Ins) : (l.flatMap wordsI).length = l.length * 9 := by
  induction l with
  | nil => simp
  | cons x r ih => rw [List.flatMap_cons, List.length_append, wordsI_len, ih, List.length_cons]; omega

/-- A writer behind some calls. -/
def Wrt (w0 : World) (p : Nat) (g : Option Nat) (zs : List Nat) (w' : World) : Prop := ∃ g', Wr w' p g' zs ∧ Fr (Of p g) w0 w' ∧ (g' = g ∨ ∃ k, g' = some k ∧ w0.heap.size ≤ k)
theorem Wrt.start {w : World} {p : Nat} {g : Option Nat} {xs : List Nat} (h : Wr w p g xs) : Wrt w p g xs w := ⟨g, h, Fr.refl _ _, .inl rfl⟩
/-- The next call. -/
theorem Wrt.step {w0 w1 : World} {p : Nat} {g : Option Nat} {xs zs : List Nat} {f : Nat} {vs : Array Value} (h : Wrt w0 p g xs w1) (C : ∀ g1, Wr w1 p g1 xs → Calls Tryz.prog f vs w1 (Wrote w1 p g1 zs)) :
    Calls Tryz.prog f vs w1 fun e w2 => e = .returned (.tuple #[]) ∧ Wrt w0 p g zs w2 := by
  obtain ⟨g1, h1, h2, h3⟩ := h
  refine (C g1 h1).mono fun e w2 h4 => ?_
  obtain ⟨he, g', a1, a2, a3⟩ := h4.then h2 h3
  exact ⟨he, g', a1, a2, a3⟩
/-- What else the call does leaves the writer. -/
theorem Wrt.quiet {w0 w1 w2 : World} {p : Nat} {g : Option Nat} {xs : List Nat} (h : Wrt w0 p g xs w1) (hf : Fr No w1 w2) : Wrt w0 p g xs w2 := by
  obtain ⟨g1, h1, h2, h3⟩ := h
  exact ⟨g1, h1.fr hf (fun _ _ e => e), h2.trans' hf (fun _ _ e => e.elim), h3⟩
theorem Wrt.fr {w0 w1 : World} {p : Nat} {g : Option Nat} {xs : List Nat} (h : Wrt w0 p g xs w1) : Fr (Of p g) w0 w1 := by
  obtain ⟨_, _, h, _⟩ := h
  exact h
theorem Wrt.wrote {w0 w1 : World} {p : Nat} {g : Option Nat} {xs : List Nat} (h : Wrt w0 p g xs w1) : Wrote w0 p g xs (.returned (.tuple #[])) w1 := ⟨rfl, h⟩
/-- From further back. -/
theorem Wrt.since {a w0 w1 : World} {p : Nat} {g : Option Nat} {xs : List Nat} (ha : Fr No a w0) (h : Wrt w0 p g xs w1) : Wrt a p g xs w1 := by
  obtain ⟨g1, h1, h2, h3⟩ := h
  refine ⟨g1, h1, (ha.weak (fun _ _ h => h.elim)).trans' h2 (fun _ _ h => h), ?_⟩
  rcases h3 with h3 | ⟨k, h3, h4⟩
  · exact .inl h3
  · exact .inr ⟨k, h3, Nat.le_trans ha.size h4⟩
/-- A writer of before is apart of what is new. -/
theorem Wr.not_of {w : World} {p : Nat} {g : Option Nat} {xs : List Nat} (h : Wr w p g xs) {k : Nat} (hk : w.heap.size ≤ k) : ¬ Of p g k := by
  obtain ⟨h1, h2⟩ := h.lt
  rintro (e | e)
  · omega
  · have := h2 _ e
    omega
/-- A count, behind some calls. -/
theorem Wrt.count {w0 w1 : World} {p : Nat} {g : Option Nat} {xs : List Nat} (h : Wrt w0 p g xs w1) (n : Int) (hn : I64 n) (hl : xs.length + 1 ≤ 1099511627776) :
    Calls Tryz.prog 20 #[.pointer (some ⟨p, 0, none⟩), .int .i64 n] w1 fun e w2 => e = .returned (.tuple #[]) ∧ Wrt w0 p g (xs ++ [n.toNat]) w2 := h.step fun g1 h1 => count_any p g1 xs n w1 h1 hn.1 hn.2 hl
theorem Wrt.sgn {w0 w1 : World} {p : Nat} {g : Option Nat} {xs : List Nat} (h : Wrt w0 p g xs w1) (n : Int) (hn : I64 n) (hl : xs.length + 1 ≤ 1099511627776) :
    Calls Tryz.prog 79 #[.pointer (some ⟨p, 0, none⟩), .int .i64 n] w1 fun e w2 => e = .returned (.tuple #[]) ∧ Wrt w0 p g (xs ++ [sgn n]) w2 := h.step fun g1 h1 => signed_any p g1 xs n w1 h1 hn.1 hn.2 hl

set_option maxHeartbeats 4000000 in
theorem putInstr_any (p : Nat) (g : Option Nat) (xs : List Nat) (i : Ins) (w : World) (hwr : Wr w p g xs) (hi : i.I) (hlen : xs.length + 100 ≤ 1099511627776) :
    Calls Tryz.prog 62 #[.pointer (some ⟨p, 0, none⟩), i.agg] w (Wrote w p g (xs ++ wordsI i)) := by
  obtain ⟨i0, i1, i2, i3, i4, i5, i6, i7, i8⟩ := hi
  have Hw : Hid (wordsI i = [i.op.toNat, i.a.toNat, i.b.toNat, i.c.toNat] ++ [_root_.Go.Proofs.YtnlmhcfkipkegaaGreat.sgn i.ka, i.kb.toNat] ++ [_root_.Go.Proofs.YtnlmhcfkipkegaaGreat.sgn i.la, i.lb.toNat] ++ [_root_.Go.Proofs.YtnlmhcfkipkegaaGreat.sgn i.x]) := Lib.hid rfl
  obtain ⟨o, a, b, c, ka, kb, la, lb, x⟩ := i
  simp only [Ins.agg]
  dsimp only at *
  have hf0 : Fr No w (w.alloc (.cells #[.int .i64 o, .int .i64 a, .int .i64 b, .int .i64 c, .int .i64 ka, .int .i64 kb, .int .i64 la, .int .i64 lb, .int .i64 x] 45)) := (Fr.refl _ _).alloc _
  have hb0 := Bk.made w 45 #[.int .i64 o, .int .i64 a, .int .i64 b, .int .i64 c, .int .i64 ka, .int .i64 kb, .int .i64 la, .int .i64 lb, .int .i64 x]
  have hno := Lib.hid (hwr.not_of (Nat.le_refl w.heap.size))
  have hs0 := Lib.hid (Wrt.start (hwr.fr hf0 (fun _ _ e => e)))
  obtain ⟨w0, hw0⟩ : ∃ w0, Hid (w0 = w.alloc (.cells #[.int .i64 o, .int .i64 a, .int .i64 b, .int .i64 c, .int .i64 ka, .int .i64 kb, .int .i64 la, .int .i64 lb, .int .i64 x] 45)) := ⟨_, Lib.hid rfl⟩
  rw [← hw0.out] at hf0 hb0 hs0
  have Hf0 := Lib.hid hf0
  have I0 := Lib.hid i0
  have I1 := Lib.hid i1
  have I2 := Lib.hid i2
  have I3 := Lib.hid i3
  have I4 := Lib.hid i4
  have I5 := Lib.hid i5
  have I6 := Lib.hid i6
  have I7 := Lib.hid i7
  have I8 := Lib.hid i8
  clear i0 i1 i2 i3 i4 i5 i6 i7 i8 hwr hf0
  have x0 : ∀ W : World, (Instr.index 114 (.agg #[.int .i64 o, .int .i64 a, .int .i64 b, .int .i64 c]) (.int .i64 0)).run Tryz.prog W = .ok (.int .i64 o) W := fun _ => by kernel_rfl
  have x1 : ∀ W : World, (Instr.index 114 (.agg #[.int .i64 o, .int .i64 a, .int .i64 b, .int .i64 c]) (.int .i64 1)).run Tryz.prog W = .ok (.int .i64 a) W := fun _ => by kernel_rfl
  have x2 : ∀ W : World, (Instr.index 114 (.agg #[.int .i64 o, .int .i64 a, .int .i64 b, .int .i64 c]) (.int .i64 2)).run Tryz.prog W = .ok (.int .i64 b) W := fun _ => by kernel_rfl
  have x3 : ∀ W : World, (Instr.index 114 (.agg #[.int .i64 o, .int .i64 a, .int .i64 b, .int .i64 c]) (.int .i64 3)).run Tryz.prog W = .ok (.int .i64 c) W := fun _ => by kernel_rfl
  have y0 : ∀ W : World, (Instr.index 115 (.agg #[.int .i64 ka, .int .i64 kb, .int .i64 la, .int .i64 lb]) (.int .i64 0)).run Tryz.prog W = .ok (.agg #[.int .i64 ka, .int .i64 kb]) W := fun _ => by kernel_rfl
  have y1 : ∀ W : World, (Instr.index 115 (.agg #[.int .i64 ka, .int .i64 kb, .int .i64 la, .int .i64 lb]) (.int .i64 1)).run Tryz.prog W = .ok (.agg #[.int .i64 la, .int .i64 lb]) W := fun _ => by kernel_rfl
  go_enter Tryz.func62, Tryz.ntmps62
  go_wp2
  go_loopw [17] (fun iv wr => ∃ k : Nat, ((k = 0 ∧ iv = .int .i64 0) ∨ (k = 1 ∧ iv = .int .i64 1) ∨ (k = 2 ∧ iv = .int .i64 2) ∨ (k = 3 ∧ iv = .int .i64 3) ∨ (k = 4 ∧ iv = .int .i64 4)) ∧ Hid (Wrt w0 p g (xs ++ [o.toNat, a.toNat, b.toNat, c.toNat].take k) wr)) (fun iv _ => 4 - (intOf iv).toNat)
  case atStart => exact ⟨0, .inl ⟨rfl, rfl⟩, Lib.hid (by have h := hs0.out; rw [hw0.out] at h ⊢; simpa using h)⟩
  case round =>
    obtain ⟨k, hk, hst⟩ := hrel
    rcases hk with ⟨rfl, rfl⟩ | ⟨rfl, rfl⟩ | ⟨rfl, rfl⟩ | ⟨rfl, rfl⟩ | ⟨rfl, rfl⟩
    · go_wp2_with fail
      refine (hst.out.count o I0.out (by simp; omega)).mono ?_
      rintro e w1 ⟨rfl, h1⟩
      go_wp2
      go_roundw
      case rel => exact ⟨1, .inr (.inl ⟨rfl, rfl⟩), Lib.hid (by simpa using h1)⟩
      case measure => simp [intOf]
    · go_wp2_with fail
      refine (hst.out.count a I1.out (by simp; omega)).mono ?_
      rintro e w1 ⟨rfl, h1⟩
      go_wp2
      go_roundw
      case rel => exact ⟨2, .inr (.inr (.inl ⟨rfl, rfl⟩)), Lib.hid (by simpa using h1)⟩
      case measure => simp [intOf]
    · go_wp2_with fail
      refine (hst.out.count b I2.out (by simp; omega)).mono ?_
      rintro e w1 ⟨rfl, h1⟩
      go_wp2
      go_roundw
      case rel => exact ⟨3, .inr (.inr (.inr (.inl ⟨rfl, rfl⟩))), Lib.hid (by simpa using h1)⟩
      case measure => simp [intOf]
    · go_wp2_with fail
      refine (hst.out.count c I3.out (by simp; omega)).mono ?_
      rintro e w1 ⟨rfl, h1⟩
      go_wp2
      go_roundw
      case rel => exact ⟨4, .inr (.inr (.inr (.inr ⟨rfl, rfl⟩))), Lib.hid (by simpa using h1)⟩
      case measure => simp [intOf]
    · have hb := hb0.fr hst.out.fr hno.out
      have g4 := hb.cell 4
      have g5 := hb.cell 5
      have g6 := hb.cell 6
      have g7 := hb.cell 7
      simp at g4 g5 g6 g7
      have hst2 : Hid (Wrt w0 p g (xs ++ [o.toNat, a.toNat, b.toNat, c.toNat]) wr) := Lib.hid (by simpa using hst.out)
      clear hst
      go_wp2
      go_loopw [29] (fun iv wr => ∃ k : Nat, ((k = 0 ∧ iv = .int .i64 0) ∨ (k = 1 ∧ iv = .int .i64 1) ∨ (k = 2 ∧ iv = .int .i64 2)) ∧ Hid (Wrt w0 p g (xs ++ [o.toNat, a.toNat, b.toNat, c.toNat] ++ [_root_.Go.Proofs.YtnlmhcfkipkegaaGreat.sgn ka, kb.toNat, _root_.Go.Proofs.YtnlmhcfkipkegaaGreat.sgn la, lb.toNat].take (2 * k)) wr)) (fun iv _ => 2 - (intOf iv).toNat)
      case atStart => exact ⟨0, .inl ⟨rfl, rfl⟩, Lib.hid (by simpa using hst2.out)⟩
      case round =>
        clear hst2 hb g4 g5 g6 g7
        obtain ⟨k, hk, hst⟩ := hrel
        rcases hk with ⟨rfl, rfl⟩ | ⟨rfl, rfl⟩ | ⟨rfl, rfl⟩
        · obtain ⟨g1, q1, q2, q3⟩ := hst.out
          have q1' : Hid (Wr wr p g1 (xs ++ [o.toNat, a.toNat, b.toNat, c.toNat])) := Lib.hid (by simpa using q1)
          have hnk := Lib.hid (q1.not_of (Nat.le_refl wr.heap.size))
          have hsk := Lib.hid (Wrt.start (q1'.out.fr ((Fr.refl No wr).alloc (.cells #[.int .i64 ka, .int .i64 kb] 43)) (fun _ _ e => e)))
          have hbk := Bk.made wr 43 #[.int .i64 ka, .int .i64 kb]
          clear q1
          go_wp2_with fail
          refine (hsk.out.sgn ka I4.out (by simp; omega)).mono ?_
          rintro e w1 ⟨rfl, h1⟩
          have hbk1 := hbk.fr h1.fr hnk.out
          have f1 := hbk1.cell 1
          simp at f1
          go_wp2_with fail
          refine (h1.count kb I5.out (by simp; omega)).mono ?_
          rintro e w2 ⟨rfl, h2⟩
          go_wp2
          go_roundw
          case rel =>
            refine ⟨1, .inr (.inl ⟨rfl, rfl⟩), Lib.hid ?_⟩
            have h3 := h2.since ((Fr.refl No wr).alloc (.cells #[.int .i64 ka, .int .i64 kb] 43))
            obtain ⟨g2, a1, a2, a3⟩ := h3
            obtain ⟨he, g', b1, b2, b3⟩ := Wrote.then q2 q3 (show Wrote wr p g1 _ (.returned (.tuple #[])) w2 from ⟨rfl, g2, a1, a2, a3⟩)
            exact ⟨g', by simpa using b1, b2, b3⟩
          case measure => simp [intOf]
        · obtain ⟨g1, q1, q2, q3⟩ := hst.out
          have q1' : Hid (Wr wr p g1 (xs ++ [o.toNat, a.toNat, b.toNat, c.toNat] ++ [_root_.Go.Proofs.YtnlmhcfkipkegaaGreat.sgn ka, kb.toNat])) := Lib.hid (by simpa using q1)
          have hnk := Lib.hid (q1.not_of (Nat.le_refl wr.heap.size))
          have hsk := Lib.hid (Wrt.start (q1'.out.fr ((Fr.refl No wr).alloc (.cells #[.int .i64 la, .int .i64 lb] 43)) (fun _ _ e => e)))
          have hbk := Bk.made wr 43 #[.int .i64 la, .int .i64 lb]
          clear q1
          go_wp2_with fail
          refine (hsk.out.sgn la I6.out (by simp; omega)).mono ?_
          rintro e w1 ⟨rfl, h1⟩
          have hbk1 := hbk.fr h1.fr hnk.out
          have f1 := hbk1.cell 1
          simp at f1
          go_wp2_with fail
          refine (h1.count lb I7.out (by simp; omega)).mono ?_
          rintro e w2 ⟨rfl, h2⟩
          go_wp2
          go_roundw
          case rel =>
            refine ⟨2, .inr (.inr ⟨rfl, rfl⟩), Lib.hid ?_⟩
            have h3 := h2.since ((Fr.refl No wr).alloc (.cells #[.int .i64 la, .int .i64 lb] 43))
            obtain ⟨g2, a1, a2, a3⟩ := h3
            obtain ⟨he, g', b1, b2, b3⟩ := Wrote.then q2 q3 (show Wrote wr p g1 _ (.returned (.tuple #[])) w2 from ⟨rfl, g2, a1, a2, a3⟩)
            exact ⟨g', by simpa using b1, b2, b3⟩
          case measure => simp [intOf]
        · have hb := hb0.fr hst.out.fr hno.out
          have g8 := hb.cell 8
          simp at g8
          have hst3 := Lib.hid hst.out
          go_wp2_with fail
          refine (hst3.out.sgn x I8.out (by simp; omega)).mono ?_
          rintro e w1 ⟨rfl, h1⟩
          go_wp2
          go_end0
          have h2 := Wrt.since Hf0.out h1
          rw [Hw.out]
          exact ⟨rfl, by simpa [Wrt] using h2⟩

set_option maxHeartbeats 2000000 in
theorem putP_any (p : Nat) (g : Option Nat) (xs : List Nat) (l : List Ins) (A : Option Addr) (n c : Nat) (w : World) (hwr : Wr w p g xs) (hsl : Sl w w.heap.size A (l.flatMap Ins.cells)) (hap : ∀ ad, A = some ad → l ≠ [] → ¬ Of p g ad.block) (hn : l.length = n) (hnm : n ≤ 1000) (hi : ∀ i ∈ l, i.I) (hlen : xs.length + 20000 ≤ 1099511627776) :
    Calls Tryz.prog 43 #[.pointer (some ⟨p, 0, none⟩), .slice A n c] w (Wrote w p g (xs ++ wordsP l)) := by
  have Hn := Lib.hid hn
  have Hsl := Lib.hid hsl
  have Hap := Lib.hid hap
  have Hi := Lib.hid hi
  have hs0 := Lib.hid (Wrt.start hwr)
  clear hsl hap hn hi hwr
  go_enter Tryz.func43, Tryz.ntmps43
  go_wp2_with fail
  refine (hs0.out.count (n : Int) ⟨by omega, by omega⟩ (by omega)).mono ?_
  rintro e w1 ⟨rfl, h1⟩
  have H1 := Lib.hid h1
  clear h1
  go_wp2
  go_loopw [14] (fun iv wr => ∃ k : Nat, k ≤ n ∧ iv = .int .i64 k ∧ Hid (Wrt w p g (xs ++ n :: (l.take k).flatMap wordsI) wr)) (fun iv _ => n - (intOf iv).toNat)
  case atStart => exact ⟨0, Nat.zero_le _, rfl, Lib.hid (by simpa using H1.out)⟩
  case round =>
    obtain ⟨k, hk, rfl, hst⟩ := hrel
    by_cases hlt : k < n
    · have hkl : k < l.length := by rw [Hn.out]; exact hlt
      have hne : l ≠ [] := by rintro rfl; simp at hkl
      have hs1 : Sl wr w.heap.size A (l.flatMap Ins.cells) := Hsl.out.fr hst.out.fr (Nat.le_refl _) (fun ad e _ hof => Hap.out ad e hne hof)
      obtain ⟨ad, rfl, hab, c0, c1, c2, c3, c4, c5, c6, c7, c8⟩ := hs1.ins9 (k := k) hkl
      have Hs : Hid (l.take (k + 1) = l.take k ++ [l[k]]) := Lib.hid (List.take_succ_eq_append_getElem hkl)
      have hik := Lib.hid (Hi.out _ (List.getElem_mem hkl))
      have Hlen : Hid ((xs ++ n :: (l.take k).flatMap wordsI).length = xs.length + (1 + k * 9)) := Lib.hid (by rw [List.length_append, List.length_cons, wordsI_flat, List.length_take, Nat.min_eq_left (by omega)]; omega)
      generalize l[k] = i at *
      obtain ⟨g1, q1, q2, q3⟩ := hst.out
      have C := Lib.hid (putInstr_any p g1 (xs ++ n :: (l.take k).flatMap wordsI) i (wr.alloc (.cells i.cells.toArray 45)) (q1.fr ((Fr.refl No wr).alloc _) (fun _ _ e => e)) hik.out (by rw [Hlen.out]; omega))
      have Q1 := Lib.hid q1
      clear q1 hs1
      obtain ⟨o, a, b, cc, ka, kb, la, lb, x⟩ := i
      dsimp only at c0 c1 c2 c3 c4 c5 c6 c7 c8
      simp only [Ins.agg, Ins.cells, List.toArray] at C
      go_wp2_with fail
      refine (C.out).mono ?_
      rintro e w2 ⟨rfl, g2, a1, a2, a3⟩
      go_wp2
      go_roundw
      case rel =>
        refine ⟨k + 1, by omega, by go_num, Lib.hid ?_⟩
        have h3 : Wrt wr p g1 _ w2 := Wrt.since ((Fr.refl No wr).alloc _) ⟨g2, a1, a2, a3⟩
        obtain ⟨he, g', b1, b2, b3⟩ := Wrote.then q2 q3 h3.wrote
        refine ⟨g', ?_, b2, b3⟩
        rw [Hs.out, List.flatMap_append]
        simpa [List.append_assoc] using b1
      case measure => simp [intOf]; omega
    · obtain rfl : k = n := by omega
      have Hf : Hid (Wrt w p g (xs ++ wordsP l) wr) := Lib.hid (by
        have h1 := hst.out
        rw [List.take_of_length_le (by rw [Hn.out]; exact Nat.le_refl _)] at h1
        rw [wordsP, Hn.out]
        exact h1)
      go_wp2
      go_end0
      exact Hf.out.wrote
theorem put_any (p : Nat) (l : List Ins) (A : Option Addr) (n c : Nat) (w : World) (hwr : Wr w p none []) (hsl : Sl w w.heap.size A (l.flatMap Ins.cells)) (hap : ∀ ad, A = some ad → l ≠ [] → ad.block ≠ p) (hn : l.length = n) (hnm : n ≤ 1000) (hi : ∀ i ∈ l, i.I) :
    Calls Tryz.prog 43 #[.pointer (some ⟨p, 0, none⟩), .slice A n c] w (Wrote w p none (wordsP l)) := by
  have h := putP_any p none [] l A n c w hwr hsl (fun ad e hne ho => by
    rcases ho with ho | ho
    · exact hap ad e hne ho
    · cases ho) hn hnm hi (by simp)
  rwa [List.nil_append] at h
end Go.Proofs.YtnlmhcfkipkegaaGreat
