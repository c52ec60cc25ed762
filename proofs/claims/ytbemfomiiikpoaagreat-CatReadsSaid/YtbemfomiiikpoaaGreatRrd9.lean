/- A program's words, purely; what package prog writes. -/
import Derived.Test.YtbemfomiiikpoaaGreatCodesW
import Derived.Test.YtbemfomiiikpoaaGreatIdx9
import Derived.Test.YtbemfomiiikpoaaGreatCodesR
namespace Go.Proofs.YtbemfomiiikpoaaGreat
open Go.RowKit

/-- An instruction's words, and a program's. -/
def wordsI (i : Ins) : List Nat := [i.op.toNat, i.a.toNat, i.b.toNat, i.c.toNat, sgn i.ka, i.kb.toNat, sgn i.la, i.lb.toNat, sgn i.x]
theorem wordsI_len (i : Ins) : (wordsI i).length = 9 := rfl
def wordsP (l : List Ins) : List Nat := l.length :: l.flatMap wordsI
theorem wordsI_flat (l : List Ins) : (l.flatMap wordsI).length = l.length * 9 := by
  induction l with
  | nil => simp
  | cons x r ih => rw [List.flatMap_cons, List.length_append, wordsI_len, ih, List.length_cons]; omega

/-- A writer behind some calls. -/
def Wrt (w0 : World) (p : Nat) (g : Option Nat) (zs : List Nat) (w' : World) : Prop := ∃ g', Wr w' p g' zs ∧ Fr (Of p g) w0 w' ∧ (g' = g ∨ ∃ k, g' = some k ∧ w0.heap.size ≤ k)
theorem Wrt.start {w : World} {p : Nat} {g : Option Nat} {xs : List Nat} (h : Wr w p g xs) : Wrt w p g xs w := ⟨g, h, Fr.refl _ _, .inl rfl⟩
/-- The next call. -/
theorem Wrt.step {w0 w1 : World} {p : Nat} {g : Option Nat} {xs zs : List Nat} {f : Nat} {vs : Array Value} (h : Wrt w0 p g xs w1) (C : ∀ g1, Wr w1 p g1 xs → Calls Tryz.prog f vs w1 (Wrote w1 p g1 zs)) :
    Calls Tryz.prog f vs w1 fun e w2 => e = .returned (.tuple #[]) ∧ Wrt w0 p g zs w2 := by
  obtain ⟨g1, h1, h2, h3⟩ := h
  refine (C g1 h1).mono fun e w2 h4 => ?_
  obtain ⟨he, g', a1, a2, a3⟩ := h4.then h2 h3
  exact ⟨he, g', a1, a2, a3⟩
/-- What else the call does leaves the writer. -/
theorem Wrt.quiet {w0 w1 w2 : World} {p : Nat} {g : Option Nat} {xs : List Nat} (h : Wrt w0 p g xs w1) (hf : Fr No w1 w2) : Wrt w0 p g xs w2 := by
  obtain ⟨g1, h1, h2, h3⟩ := h
  exact ⟨g1, h1.fr hf (fun _ _ e => e), h2.trans' hf (fun _ _ e => e.elim), h3⟩
theorem Wrt.fr {w0 w1 : World} {p : Nat} {g : Option Nat} {xs : List Nat} (h : Wrt w0 p g xs w1) : Fr (Of p g) w0 w1 := by
  obtain ⟨_, _, h, _⟩ := h
  exact h
theorem Wrt.wrote {w0 w1 : World} {p : Nat} {g : Option Nat} {xs : List Nat} (h : Wrt w0 p g xs w1) : Wrote w0 p g xs (.returned (.tuple #[])) w1 := ⟨rfl, h⟩
/-- From further back. -/
theorem Wrt.since {a w0 w1 : World} {p : Nat} {g : Option Nat} {xs : List Nat} (ha : Fr No a w0) (h : Wrt w0 p g xs w1) : Wrt a p g xs w1 := by
  obtain ⟨g1, h1, h2, h3⟩ := h
  refine ⟨g1, h1, (ha.weak (fun _ _ h => h.elim)).trans' h2 (fun _ _ h => h), ?_⟩
  rcases h3 with h3 | ⟨k, h3, h4⟩
  · exact .inl h3
  · exact .inr ⟨k, h3, Nat.le_trans ha.size h4⟩
/-- A writer of before is apart of what is new. -/
theorem Wr.not_of {w : World} {p : Nat} {g : Option Nat} {xs : List Nat} (h : Wr w p g xs) {k : Nat} (hk : w.heap.size ≤ k) : ¬ Of p g k := by
  obtain ⟨h1, h2⟩ := h.lt
  rintro (e | e)
  · omega
  · have := h2 _ e
    omega
/-- A count, behind some calls. -/
theorem Wrt.count {w0 w1 : World} {p : Nat} {g : Option Nat} {xs : List Nat} (h : Wrt w0 p g xs w1) (n : Int) (hn : I64 n) (hl : xs.length + 1 ≤ 1099511627776) :
    Calls Tryz.prog 23 #[.pointer (some ⟨p, 0, none⟩), .int .i64 n] w1 fun e w2 => e = .returned (.tuple #[]) ∧ Wrt w0 p g (xs ++ [n.toNat]) w2 := h.step fun g1 h1 => count_any p g1 xs n w1 h1 hn.1 hn.2 hl
theorem Wrt.sgn {w0 w1 : World} {p : Nat} {g : Option Nat} {xs : List Nat} (h : Wrt w0 p g xs w1) (n : Int) (hn : I64 n) (hl : xs.length + 1 ≤ 1099511627776) :
    Calls Tryz.prog 108 #[.pointer (some ⟨p, 0, none⟩), .int .i64 n] w1 fun e w2 => e = .returned (.tuple #[]) ∧ Wrt w0 p g (xs ++ [sgn n]) w2 := h.step fun g1 h1 => signed_any p g1 xs n w1 h1 hn.1 hn.2 hl

set_option maxHeartbeats 4000000 in
theorem putInstr_any (p : Nat) (g : Option Nat) (xs : List Nat) (i : Ins) (w : World) (hwr : Wr w p g xs) (hi : i.I) (hlen : xs.length + 100 ≤ 1099511627776) :
    Calls Tryz.prog 94 #[.pointer (some ⟨p, 0, none⟩), i.agg] w (Wrote w p g (xs ++ wordsI i)) := by
  obtain ⟨i0, i1, i2, i3, i4, i5, i6, i7, i8⟩ := hi
  have Hw : Hid (wordsI i = [i.op.toNat, i.a.toNat, i.b.toNat, i.c.toNat] ++ [_root_.Go.Proofs.YtbemfomiiikpoaaGreat.sgn i.ka, i.kb.toNat] ++ [_root_.Go.Proofs.YtbemfomiiikpoaaGreat.sgn i.la, i.lb.toNat] ++ [_root_.Go.Proofs.YtbemfomiiikpoaaGreat.sgn i.x]) := Lib.hid rfl
  obtain ⟨o, a, b, c, ka, kb, la, lb, x⟩ := i
  simp only [Ins.agg]
  dsimp only at *
  have hf0 : Fr No w (w.alloc (.cells #[.int .i64 o, .int .i64 a, .int .i64 b, .int .i64 c, .int .i64 ka, .int .i64 kb, .int .i64 la, .int .i64 lb, .int .i64 x] 52)) := (Fr.refl _ _).alloc _
  have hb0 := Bk.made w 52 #[.int .i64 o, .int .i64 a, .int .i64 b, .int .i64 c, .int .i64 ka, .int .i64 kb, .int .i64 la, .int .i64 lb, .int .i64 x]
  have hno := Lib.hid (hwr.not_of (Nat.le_refl w.heap.size))
  have hs0 := Lib.hid (Wrt.start (hwr.fr hf0 (fun _ _ e => e)))
  obtain ⟨w0, hw0⟩ : ∃ w0, Hid (w0 = w.alloc (.cells #[.int .i64 o, .int .i64 a, .int .i64 b, .int .i64 c, .int .i64 ka, .int .i64 kb, .int .i64 la, .int .i64 lb, .int .i64 x] 52)) := ⟨_, Lib.hid rfl⟩
  rw [← hw0.out] at hf0 hb0 hs0
  have Hf0 := Lib.hid hf0
  have I0 := Lib.hid i0
  have I1 := Lib.hid i1
  have I2 := Lib.hid i2
  have I3 := Lib.hid i3
  have I4 := Lib.hid i4
  have I5 := Lib.hid i5
  have I6 := Lib.hid i6
  have I7 := Lib.hid i7
  have I8 := Lib.hid i8
  clear i0 i1 i2 i3 i4 i5 i6 i7 i8 hwr hf0
  have x0 : ∀ W : World, (Instr.index 23 (.agg #[.int .i64 o, .int .i64 a, .int .i64 b, .int .i64 c]) (.int .i64 0)).run Tryz.prog W = .ok (.int .i64 o) W := fun _ => by kernel_rfl
  have x1 : ∀ W : World, (Instr.index 23 (.agg #[.int .i64 o, .int .i64 a, .int .i64 b, .int .i64 c]) (.int .i64 1)).run Tryz.prog W = .ok (.int .i64 a) W := fun _ => by kernel_rfl
  have x2 : ∀ W : World, (Instr.index 23 (.agg #[.int .i64 o, .int .i64 a, .int .i64 b, .int .i64 c]) (.int .i64 2)).run Tryz.prog W = .ok (.int .i64 b) W := fun _ => by kernel_rfl
  have x3 : ∀ W : World, (Instr.index 23 (.agg #[.int .i64 o, .int .i64 a, .int .i64 b, .int .i64 c]) (.int .i64 3)).run Tryz.prog W = .ok (.int .i64 c) W := fun _ => by kernel_rfl
  have y0 : ∀ W : World, (Instr.index 156 (.agg #[.int .i64 ka, .int .i64 kb, .int .i64 la, .int .i64 lb]) (.int .i64 0)).run Tryz.prog W = .ok (.agg #[.int .i64 ka, .int .i64 kb]) W := fun _ => by kernel_rfl
  have y1 : ∀ W : World, (Instr.index 156 (.agg #[.int .i64 ka, .int .i64 kb, .int .i64 la, .int .i64 lb]) (.int .i64 1)).run Tryz.prog W = .ok (.agg #[.int .i64 la, .int .i64 lb]) W := fun _ => by kernel_rfl
  go_enter Tryz.func94, Tryz.ntmps94
  go_wp2
  go_loopw [17] (fun iv wr => ∃ k : Nat, ((k = 0 ∧ iv = .int .i64 0) ∨ (k = 1 ∧ iv = .int .i64 1) ∨ (k = 2 ∧ iv = .int .i64 2) ∨ (k = 3 ∧ iv = .int .i64 3) ∨ (k = 4 ∧ iv = .int .i64 4)) ∧ Hid (Wrt w0 p g (xs ++ [o.toNat, a.toNat, b.toNat, c.toNat].take k) wr)) (fun iv _ => 4 - (intOf iv).toNat)
  case atStart => exact ⟨0, .inl ⟨rfl, rfl⟩, Lib.hid (by have h := hs0.out; rw [hw0.out] at h ⊢; simpa using h)⟩
  case round =>
    obtain ⟨k, hk, hst⟩ := hrel
    rcases hk with ⟨rfl, rfl⟩ | ⟨rfl, rfl⟩ | ⟨rfl, rfl⟩ | ⟨rfl, rfl⟩ | ⟨rfl, rfl⟩
    · go_wp2_with fail
      refine (hst.out.count o I0.out (by simp; omega)).mono ?_
      rintro e w1 ⟨rfl, h1⟩
      go_wp2
      go_roundw
      case rel => exact ⟨1, .inr (.inl ⟨rfl, rfl⟩), Lib.hid (by simpa using h1)⟩
      case measure => simp [intOf]
    · go_wp2_with fail
      refine (hst.out.count a I1.out (by simp; omega)).mono ?_
      rintro e w1 ⟨rfl, h1⟩
      go_wp2
      go_roundw
      case rel => exact ⟨2, .inr (.inr (.inl ⟨rfl, rfl⟩)), Lib.hid (by simpa using h1)⟩
      case measure => simp [intOf]
    · go_wp2_with fail
      refine (hst.out.count b I2.out (by simp; omega)).mono ?_
      rintro e w1 ⟨rfl, h1⟩
      go_wp2
      go_roundw
      case rel => exact ⟨3, .inr (.inr (.inr (.inl ⟨rfl, rfl⟩))), Lib.hid (by simpa using h1)⟩
      case measure => simp [intOf]
    · go_wp2_with fail
      refine (hst.out.count c I3.out (by simp; omega)).mono ?_
      rintro e w1 ⟨rfl, h1⟩
      go_wp2
      go_roundw
      case rel => exact ⟨4, .inr (.inr (.inr (.inr ⟨rfl, rfl⟩))), Lib.hid (by simpa using h1)⟩
      case measure => simp [intOf]
    · have hb := hb0.fr hst.out.fr hno.out
      have g4 := hb.cell 4
      have g5 := hb.cell 5
      have g6 := hb.cell 6
      have g7 := hb.cell 7
      simp at g4 g5 g6 g7
      have hst2 : Hid (Wrt w0 p g (xs ++ [o.toNat, a.toNat, b.toNat, c.toNat]) wr) := Lib.hid (by simpa using hst.out)
      clear hst
      go_wp2
      go_loopw [29] (fun iv wr => ∃ k : Nat, ((k = 0 ∧ iv = .int .i64 0) ∨ (k = 1 ∧ iv = .int .i64 1) ∨ (k = 2 ∧ iv = .int .i64 2)) ∧ Hid (Wrt w0 p g (xs ++ [o.toNat, a.toNat, b.toNat, c.toNat] ++ [_root_.Go.Proofs.YtbemfomiiikpoaaGreat.sgn ka, kb.toNat, _root_.Go.Proofs.YtbemfomiiikpoaaGreat.sgn la, lb.toNat].take (2 * k)) wr)) (fun iv _ => 2 - (intOf iv).toNat)
      case atStart => exact ⟨0, .inl ⟨rfl, rfl⟩, Lib.hid (by simpa using hst2.out)⟩
      case round =>
        clear hst2 hb g4 g5 g6 g7
        obtain ⟨k, hk, hst⟩ := hrel
        rcases hk with ⟨rfl, rfl⟩ | ⟨rfl, rfl⟩ | ⟨rfl, rfl⟩
        · obtain ⟨g1, q1, q2, q3⟩ := hst.out
          have q1' : Hid (Wr wr p g1 (xs ++ [o.toNat, a.toNat, b.toNat, c.toNat])) := Lib.hid (by simpa using q1)
          have hnk := Lib.hid (q1.not_of (Nat.le_refl wr.heap.size))
          have hsk := Lib.hid (Wrt.start (q1'.out.fr ((Fr.refl No wr).alloc (.cells #[.int .i64 ka, .int .i64 kb] 50)) (fun _ _ e => e)))
          have hbk := Bk.made wr 50 #[.int .i64 ka, .int .i64 kb]
          clear q1
          go_wp2_with fail
          refine (hsk.out.sgn ka I4.out (by simp; omega)).mono ?_
          rintro e w1 ⟨rfl, h1⟩
          have hbk1 := hbk.fr h1.fr hnk.out
          have f1 := hbk1.cell 1
          simp at f1
          go_wp2_with fail
          refine (h1.count kb I5.out (by simp; omega)).mono ?_
          rintro e w2 ⟨rfl, h2⟩
          go_wp2
          go_roundw
          case rel =>
            refine ⟨1, .inr (.inl ⟨rfl, rfl⟩), Lib.hid ?_⟩
            have h3 := h2.since ((Fr.refl No wr).alloc (.cells #[.int .i64 ka, .int .i64 kb] 50))
            obtain ⟨g2, a1, a2, a3⟩ := h3
            obtain ⟨he, g', b1, b2, b3⟩ := Wrote.then q2 q3 (show Wrote wr p g1 _ (.returned (.tuple #[])) w2 from ⟨rfl, g2, a1, a2, a3⟩)
            exact ⟨g', by simpa using b1, b2, b3⟩
          case measure => simp [intOf]
        · obtain ⟨g1, q1, q2, q3⟩ := hst.out
          have q1' : Hid (Wr wr p g1 (xs ++ [o.toNat, a.toNat, b.toNat, c.toNat] ++ [_root_.Go.Proofs.YtbemfomiiikpoaaGreat.sgn ka, kb.toNat])) := Lib.hid (by simpa using q1)
          have hnk := Lib.hid (q1.not_of (Nat.le_refl wr.heap.size))
          have hsk := Lib.hid (Wrt.start (q1'.out.fr ((Fr.refl No wr).alloc (.cells #[.int .i64 la, .int .i64 lb] 50)) (fun _ _ e => e)))
          have hbk := Bk.made wr 50 #[.int .i64 la, .int .i64 lb]
          clear q1
          go_wp2_with fail
          refine (hsk.out.sgn la I6.out (by simp; omega)).mono ?_
          rintro e w1 ⟨rfl, h1⟩
          have hbk1 := hbk.fr h1.fr hnk.out
          have f1 := hbk1.cell 1
          simp at f1
          go_wp2_with fail
          refine (h1.count lb I7.out (by simp; omega)).mono ?_
          rintro e w2 ⟨rfl, h2⟩
          go_wp2
          go_roundw
          case rel =>
            refine ⟨2, .inr (.inr ⟨rfl, rfl⟩), Lib.hid ?_⟩
            have h3 := h2.since ((Fr.refl No wr).alloc (.cells #[.int .i64 la, .int .i64 lb] 50))
            obtain ⟨g2, a1, a2, a3⟩ := h3
            obtain ⟨he, g', b1, b2, b3⟩ := Wrote.then q2 q3 (show Wrote wr p g1 _ (.returned (.tuple #[])) w2 from ⟨rfl, g2, a1, a2, a3⟩)
            exact ⟨g', by simpa using b1, b2, b3⟩
          case measure => simp [intOf]
        · have hb := hb0.fr hst.out.fr hno.out
          have g8 := hb.cell 8
          simp at g8
          have hst3 := Lib.hid hst.out
          go_wp2_with fail
          refine (hst3.out.sgn x I8.out (by simp; omega)).mono ?_
          rintro e w1 ⟨rfl, h1⟩
          go_wp2
          go_end0
          have h2 := Wrt.since Hf0.out h1
          rw [Hw.out]
          exact ⟨rfl, by simpa [Wrt] using h2⟩

set_option maxHeartbeats 2000000 in
theorem putP_any (p : Nat) (g : Option Nat) (xs : List Nat) (l : List Ins) (A : Option Addr) (n c : Nat) (w : World) (hwr : Wr w p g xs) (hsl : Sl w w.heap.size A (l.flatMap Ins.cells)) (hap : ∀ ad, A = some ad → l ≠ [] → ¬ Of p g ad.block) (hn : l.length = n) (hnm : n ≤ 1000) (hi : ∀ i ∈ l, i.I) (hlen : xs.length + 20000 ≤ 1099511627776) :
    Calls Tryz.prog 77 #[.pointer (some ⟨p, 0, none⟩), .slice A n c] w (Wrote w p g (xs ++ wordsP l)) := by
  have Hn := Lib.hid hn
  have Hsl := Lib.hid hsl
  have Hap := Lib.hid hap
  have Hi := Lib.hid hi
  have hs0 := Lib.hid (Wrt.start hwr)
  clear hsl hap hn hi hwr
  go_enter Tryz.func77, Tryz.ntmps77
  go_wp2_with fail
  refine (hs0.out.count (n : Int) ⟨by omega, by omega⟩ (by omega)).mono ?_
  rintro e w1 ⟨rfl, h1⟩
  have H1 := Lib.hid h1
  clear h1
  go_wp2
  go_loopw [14] (fun iv wr => ∃ k : Nat, k ≤ n ∧ iv = .int .i64 k ∧ Hid (Wrt w p g (xs ++ n :: (l.take k).flatMap wordsI) wr)) (fun iv _ => n - (intOf iv).toNat)
  case atStart => exact ⟨0, Nat.zero_le _, rfl, Lib.hid (by simpa using H1.out)⟩
  case round =>
    obtain ⟨k, hk, rfl, hst⟩ := hrel
    by_cases hlt : k < n
    · have hkl : k < l.length := by rw [Hn.out]; exact hlt
      have hne : l ≠ [] := by rintro rfl; simp at hkl
      have hs1 : Sl wr w.heap.size A (l.flatMap Ins.cells) := Hsl.out.fr hst.out.fr (Nat.le_refl _) (fun ad e _ hof => Hap.out ad e hne hof)
      obtain ⟨ad, rfl, hab, c0, c1, c2, c3, c4, c5, c6, c7, c8⟩ := hs1.ins9 (k := k) hkl
      have Hs : Hid (l.take (k + 1) = l.take k ++ [l[k]]) := Lib.hid (List.take_succ_eq_append_getElem hkl)
      have hik := Lib.hid (Hi.out _ (List.getElem_mem hkl))
      have Hlen : Hid ((xs ++ n :: (l.take k).flatMap wordsI).length = xs.length + (1 + k * 9)) := Lib.hid (by rw [List.length_append, List.length_cons, wordsI_flat, List.length_take, Nat.min_eq_left (by omega)]; omega)
      generalize l[k] = i at *
      obtain ⟨g1, q1, q2, q3⟩ := hst.out
      have C := Lib.hid (putInstr_any p g1 (xs ++ n :: (l.take k).flatMap wordsI) i (wr.alloc (.cells i.cells.toArray 52)) (q1.fr ((Fr.refl No wr).alloc _) (fun _ _ e => e)) hik.out (by rw [Hlen.out]; omega))
      have Q1 := Lib.hid q1
      clear q1 hs1
      obtain ⟨o, a, b, cc, ka, kb, la, lb, x⟩ := i
      dsimp only at c0 c1 c2 c3 c4 c5 c6 c7 c8
      simp only [Ins.agg, Ins.cells, List.toArray] at C
      go_wp2_with fail
      refine (C.out).mono ?_
      rintro e w2 ⟨rfl, g2, a1, a2, a3⟩
      go_wp2
      go_roundw
      case rel =>
        refine ⟨k + 1, by omega, by go_num, Lib.hid ?_⟩
        have h3 : Wrt wr p g1 _ w2 := Wrt.since ((Fr.refl No wr).alloc _) ⟨g2, a1, a2, a3⟩
        obtain ⟨he, g', b1, b2, b3⟩ := Wrote.then q2 q3 h3.wrote
        refine ⟨g', ?_, b2, b3⟩
        rw [Hs.out, List.flatMap_append]
        simpa [List.append_assoc] using b1
      case measure => simp [intOf]; omega
    · obtain rfl : k = n := by omega
      have Hf : Hid (Wrt w p g (xs ++ wordsP l) wr) := Lib.hid (by
        have h1 := hst.out
        rw [List.take_of_length_le (by rw [Hn.out]; exact Nat.le_refl _)] at h1
        rw [wordsP, Hn.out]
        exact h1)
      go_wp2
      go_end0
      exact Hf.out.wrote
theorem put_any (p : Nat) (l : List Ins) (A : Option Addr) (n c : Nat) (w : World) (hwr : Wr w p none []) (hsl : Sl w w.heap.size A (l.flatMap Ins.cells)) (hap : ∀ ad, A = some ad → l ≠ [] → ad.block ≠ p) (hn : l.length = n) (hnm : n ≤ 1000) (hi : ∀ i ∈ l, i.I) :
    Calls Tryz.prog 77 #[.pointer (some ⟨p, 0, none⟩), .slice A n c] w (Wrote w p none (wordsP l)) := by
  have h := putP_any p none [] l A n c w hwr hsl (fun ad e hne ho => by
    rcases ho with ho | ho
    · exact hap ad e hne ho
    · cases ho) hn hnm hi (by simp)
  rwa [List.nil_append] at h
end Go.Proofs.YtbemfomiiikpoaaGreat
/- What is read as a template, an instruction and a program, purely. -/
namespace Go.Proofs.YtbemfomiiikpoaaGreat
open Go.RowKit

/-- The state behind a count of at most 255, and what was read. -/
def cS (m : Int) (st : Option (List Nat)) : Option (List Nat) := (cntR m st).map (·.2)
def cV (m : Int) (st : Option (List Nat)) : Int := ((((cntR m st).map (·.1)).getD 0 : Nat) : Int)
def gS (st : Option (List Nat)) : Option (List Nat) := (sgnR st).map (·.2)
def gV (st : Option (List Nat)) : Int := ((sgnR st).map (·.1)).getD 0
/-- Doesn't an Arg fit? -/
def far9 (a : Int) : Prop := a < -1 ∨ 255 < a
instance (a : Int) : Decidable (far9 a) := by unfold far9; infer_instance
/-- A template that is read. -/
def keyR (st : Option (List Nat)) : Option ((Int × Int) × List Nat) := if far9 (gV st) then none else (cntR 999 (gS st)).map fun q => ((gV st, (q.1 : Int)), q.2)
def kS (st : Option (List Nat)) : Option (List Nat) := (keyR st).map (·.2)
def kV (st : Option (List Nat)) : Int × Int := ((keyR st).map (·.1)).getD (0, 0)
/-- An instruction that is read. -/
def insR (st : Option (List Nat)) : Option (Ins × List Nat) :=
  (sgnR (kS (kS (cS 255 (cS 255 (cS 255 (cS 255 st))))))).map fun q =>
    (⟨cV 255 st, cV 255 (cS 255 st), cV 255 (cS 255 (cS 255 st)), cV 255 (cS 255 (cS 255 (cS 255 st))), (kV (cS 255 (cS 255 (cS 255 (cS 255 st))))).1, (kV (cS 255 (cS 255 (cS 255 (cS 255 st))))).2,
      (kV (kS (cS 255 (cS 255 (cS 255 (cS 255 st)))))).1, (kV (kS (cS 255 (cS 255 (cS 255 (cS 255 st)))))).2, q.1⟩, q.2)
theorem insR_none : insR none = none := rfl
/-- So many instructions that are read. -/
def stN : Nat → Option (List Nat) → Option (List Nat)
  | 0, st => st
  | k + 1, st => (insR (stN k st)).map (·.2)
def lsN : Nat → Option (List Nat) → List Ins
  | 0, _ => []
  | k + 1, st => lsN k st ++ [((insR (stN k st)).map (·.1)).getD ⟨0, 0, 0, 0, 0, 0, 0, 0, 0⟩]
theorem lsN_len (k : Nat) (st : Option (List Nat)) : (lsN k st).length = k := by
  induction k with
  | zero => rfl
  | succ k ih => simp [lsN, ih]
/-- What is read as a program: what is left, and the program. -/
def gotN (st : Option (List Nat)) : Nat := ((cntR 8 st).map (·.1)).getD 0
def gotS (st : Option (List Nat)) : Option (List Nat) := stN (gotN st) (cS 8 st)
def gotL (st : Option (List Nat)) : List Ins := if (gotS st).isSome = true then lsN (gotN st) (cS 8 st) else []
theorem gotN_le (st : Option (List Nat)) : gotN st ≤ 8 := by
  unfold gotN
  match st with
  | none => simp [cntR]
  | some [] => simp [cntR]
  | some (u :: r) =>
    simp only [cntR]
    split
    · simp
      omega
    · simp
theorem cntR_neg (st : Option (List Nat)) : cntR (-1) st = none := by
  match st with
  | none => rfl
  | some [] => rfl
  | some (u :: r) => simp [cntR]
/-- A list that grows by what is read is the program's, as long as all is right. -/
theorem lsN_next {k : Nat} {st : Option (List Nat)} {L : List Ins} {x : Ins} (h : (stN k st).isSome = true → L = lsN k st) (hx : ∀ q, insR (stN k st) = some q → q.1 = x) : (stN (k + 1) st).isSome = true → L ++ [x] = lsN (k + 1) st := by
  intro h1
  cases h2 : insR (stN k st) with
  | none => simp [stN, h2] at h1
  | some q =>
    have h3 : (stN k st).isSome = true := by
      cases h4 : stN k st with
      | none => rw [h4, insR_none] at h2; cases h2
      | some _ => rfl
    rw [lsN, h2, h h3, ← hx q h2]
    rfl

/-- What was written is read again: a count, a number with a sign. -/
theorem cntR_back {m n : Int} (hn : 0 ≤ n ∧ n ≤ m) (r : List Nat) : cntR m (some (n.toNat :: r)) = some (n.toNat, r) := by
  simp only [cntR]
  rw [if_pos (by omega)]
theorem uns_sgn9 (x : Int) : uns (sgn x) = x := by
  unfold uns sgn
  split
  · split
    · omega
    · omega
  · split
    · omega
    · omega
theorem sgnR_back (x : Int) (r : List Nat) : sgnR (some (sgn x :: r)) = some (x, r) := by
  simp only [sgnR, uns_sgn9]
/-- An instruction that fits what is read. -/
structure Ins.Small (i : Ins) : Prop where
  op : 0 ≤ i.op ∧ i.op ≤ 255
  a : 0 ≤ i.a ∧ i.a ≤ 255
  b : 0 ≤ i.b ∧ i.b ≤ 255
  c : 0 ≤ i.c ∧ i.c ≤ 255
  ka : -1 ≤ i.ka ∧ i.ka ≤ 255
  kb : 0 ≤ i.kb ∧ i.kb ≤ 999
  la : -1 ≤ i.la ∧ i.la ≤ 255
  lb : 0 ≤ i.lb ∧ i.lb ≤ 999
theorem small_of_ok {i : Ins} {n : Int} (hn : n ≤ 3) (h : insOk i n = true) : i.Small := by
  rw [insOk_iff] at h
  obtain ⟨h1, h2, h3, h4, h5, h6, h7, h8, h9, h10⟩ := h
  by_cases o4 : i.op ≤ 4
  · have k := h9 o4
    have q : i.op ≠ 6 ∧ i.op ≠ 7 := by omega
    have bc := h5 q.1 q.2
    by_cases e4 : i.op = 4
    · have l := h10 e4
      exact ⟨by omega, by omega, by omega, by omega, by omega, by omega, by omega, by omega⟩
    · have l := h7 e4
      exact ⟨by omega, by omega, by omega, by omega, by omega, by omega, by omega, by omega⟩
  · have k := h6 (by omega)
    have l := h7 (by omega)
    by_cases e6 : i.op = 6 ∨ i.op = 7
    · have bc := h8 e6
      exact ⟨by omega, by omega, by omega, by omega, by omega, by omega, by omega, by omega⟩
    · have bc := h5 (by omega) (by omega)
      exact ⟨by omega, by omega, by omega, by omega, by omega, by omega, by omega, by omega⟩
theorem cS_back {m n : Int} (hn : 0 ≤ n ∧ n ≤ m) (r : List Nat) : cS m (some (n.toNat :: r)) = some r := by rw [cS, cntR_back hn]; rfl
theorem cV_back {m n : Int} (hn : 0 ≤ n ∧ n ≤ m) (r : List Nat) : cV m (some (n.toNat :: r)) = n := by rw [cV, cntR_back hn]; simp; omega
theorem keyR_back {x y : Int} (hx : -1 ≤ x ∧ x ≤ 255) (hy : 0 ≤ y ∧ y ≤ 999) (r : List Nat) : keyR (some (sgn x :: y.toNat :: r)) = some ((x, y), r) := by
  have e1 : gV (some (sgn x :: y.toNat :: r)) = x := by rw [gV, sgnR_back]; rfl
  have e2 : gS (some (sgn x :: y.toNat :: r)) = some (y.toNat :: r) := by rw [gS, sgnR_back]; rfl
  rw [keyR, e1, e2, if_neg (by unfold far9; omega), cntR_back hy]
  simp
  omega
theorem insR_back {i : Ins} (h : i.Small) (r : List Nat) : insR (some (wordsI i ++ r)) = some (i, r) := by
  obtain ⟨o, a, b, c, ka, kb, la, lb, x⟩ := i
  obtain ⟨h1, h2, h3, h4, h5, h6, h7, h8⟩ := h
  dsimp only at *
  simp only [wordsI, List.cons_append, List.nil_append]
  have k1 := keyR_back h5 h6 (sgn la :: lb.toNat :: sgn x :: r)
  have k2 := keyR_back h7 h8 (sgn x :: r)
  have s1 : kS (some (sgn ka :: kb.toNat :: sgn la :: lb.toNat :: sgn x :: r)) = some (sgn la :: lb.toNat :: sgn x :: r) := by rw [kS, k1]; rfl
  have s2 : kS (some (sgn la :: lb.toNat :: sgn x :: r)) = some (sgn x :: r) := by rw [kS, k2]; rfl
  have v1 : kV (some (sgn ka :: kb.toNat :: sgn la :: lb.toNat :: sgn x :: r)) = (ka, kb) := by rw [kV, k1]; rfl
  have v2 : kV (some (sgn la :: lb.toNat :: sgn x :: r)) = (la, lb) := by rw [kV, k2]; rfl
  simp only [insR, cS_back h1, cS_back h2, cS_back h3, cS_back h4, cV_back h1, cV_back h2, cV_back h3, cV_back h4, s1, s2, v1, v2, sgnR_back, Option.map_some]
theorem stN_back {l : List Ins} (h : ∀ i ∈ l, i.Small) (k : Nat) (hk : k ≤ l.length) : stN k (some (l.flatMap wordsI)) = some ((l.drop k).flatMap wordsI) ∧ lsN k (some (l.flatMap wordsI)) = l.take k := by
  induction k with
  | zero => simp [stN, lsN]
  | succ k ih =>
    obtain ⟨e1, e2⟩ := ih (by omega)
    have hkl : k < l.length := by omega
    have e3 : insR (stN k (some (l.flatMap wordsI))) = some (l[k], (l.drop (k + 1)).flatMap wordsI) := by
      rw [e1, List.drop_eq_getElem_cons hkl, List.flatMap_cons]
      exact insR_back (h _ (List.getElem_mem hkl)) _
    rw [stN, lsN, e3, e2]
    exact ⟨rfl, (List.take_succ_eq_append_getElem hkl).symm⟩
theorem got_back {l : List Ins} (h : ∀ i ∈ l, i.Small) (hl : l.length ≤ 8) : gotS (some (wordsP l)) = some [] ∧ gotL (some (wordsP l)) = l := by
  have e0 : cntR 8 (some (wordsP l)) = some (l.length, l.flatMap wordsI) := by
    have := cntR_back (m := 8) (n := (l.length : Int)) (by omega) (l.flatMap wordsI)
    simpa [wordsP] using this
  have e1 : gotN (some (wordsP l)) = l.length := by rw [gotN, e0]; rfl
  have e2 : cS 8 (some (wordsP l)) = some (l.flatMap wordsI) := by rw [cS, e0]; rfl
  obtain ⟨q1, q2⟩ := stN_back h l.length (Nat.le_refl _)
  have e3 : gotS (some (wordsP l)) = some [] := by
    rw [gotS, e1, e2, q1]
    simp
  refine ⟨e3, ?_⟩
  rw [gotL, e3, e1, e2, q2]
  simp
end Go.Proofs.YtbemfomiiikpoaaGreat
/- What the document's own reader reads: an item, a template. -/
namespace Go.Proofs.YtbemfomiiikpoaaGreat
open Go.RowKit

set_option maxHeartbeats 400000 in
theorem refBack9 (u : Nat) (hu : u < 18446744073709551616) (w : World) :
    Calls Tryz.prog 85 #[.int .u64 u] w fun e w' => e = .returned (.int .i64 (uns u)) ∧ w = w' := by
  by_cases h : u % 2 = 0
  · have hb : (((u : Int) % 2) == 0) = true := by rw [beq_iff_eq]; omega
    have Hu : Hid (uns u = (u : Int) / 2) := Lib.hid (by unfold uns; rw [if_pos h]; omega)
    go_enter Tryz.func85, Tryz.ntmps85
    go_wp2
    go_ret
    exact ⟨by rw [Hu.out]; simp, rfl⟩
  · have hb : (((u : Int) % 2) == 0) = false := by rw [beq_eq_false_iff_ne]; omega
    have Hu : Hid (uns u = -((u : Int) / 2) - 1) := Lib.hid (by unfold uns; rw [if_neg h]; omega)
    go_enter Tryz.func85, Tryz.ntmps85
    go_wp2
    go_ret
    exact ⟨by rw [Hu.out]; simp, rfl⟩
theorem sl_tail9 {w w' : World} {B : Nat} {A : Option Addr} {u : Nat} {xs : List Nat} {c : Nat} (h : Sl w B A (u64s (u :: xs))) (hc : xs.length + 1 ≤ c) (hk : ∀ p : Addr, p.block < B → w'.cell? p = w.cell? p) :
    Sl w' B (if c = 1 then A else A.map (·.add 1)) (u64s xs) := by
  have h1 := h.drop (k := 1) (n := xs.length + 1) (cap := c) (sz := 1) (by simp [u64s]) (by omega) hc
  exact h1.keep hk
theorem run_slice_from9 {P : Program} (t e : TypeId) (i : TypeInfo) (ht : P.underlying t = some (.slice e)) (hi : P.info? e = some i) (h1 : i.size = 1) (A : Option Addr) (n c k : Nat) (K : Int) (hK : K = k) (hk : k ≤ n) (W : World) :
    (Instr.slice t (.slice A n c) (some (.int .i64 K)) none none).run P W = .ok (.slice (if c = k then A else A.map (·.add k)) (n - k) (c - k)) W := by
  subst hK
  have hb : (Instr.sliceBound (.int .i64 (k : Int)) n .sliceB).run P W = .ok k W := by
    have := run_sliceBound (P := P) (w := W) .i64 (k : Int) n .sliceB (by omega) (by omega)
    simpa using this
  simp [Instr.slice, Instr.sliceBounds, run_underlying ht, hb, sizeOf, typeInfo, hi, h1]

/-- An item's value, of its kind, count, most and number. -/
def itV (k n m x : Int) : Value := .agg #[.int .i64 k, .int .i64 n, .int .i64 m, .int .i64 x, .string ⟨#[]⟩, .slice none 0 0]
/-- What the document's 'Read' answers: an item, what is left, and whether that is right. -/
def Rd9 (w : World) (B : Nat) (xs : List Nat) (o : Option ((Int × Int) × List Nat)) (e : Ending) (w' : World) : Prop :=
  Fr No w w' ∧ ((∃ (k n m x : Int) (r : List Nat) (A : Option Addr) (c : Nat), o = some ((n, x), r) ∧ e = .returned (.tuple #[itV k n m x, .slice A r.length c, .bool true]) ∧ Sl w B A (u64s r) ∧ r.length ≤ c ∧ c ≤ maxLen ∧ r.length ≤ xs.length) ∨
    (∃ (k n m x : Int) (v : Value), o = none ∧ e = .returned (.tuple #[itV k n m x, v, .bool false])))
theorem field1 (k n m x : Int) (W : World) : (Instr.field 77 (.agg #[.int .i64 k, .int .i64 n, .int .i64 m, .int .i64 x, .string ⟨#[]⟩, .slice none 0 0]) 1).run Tryz.prog W = .ok (.int .i64 n) W := by kernel_rfl
theorem field3 (k n m x : Int) (W : World) : (Instr.field 77 (.agg #[.int .i64 k, .int .i64 n, .int .i64 m, .int .i64 x, .string ⟨#[]⟩, .slice none 0 0]) 3).run Tryz.prog W = .ok (.int .i64 x) W := by kernel_rfl
def cI (m : Int) (xs : List Nat) : Option ((Int × Int) × List Nat) := (cntR m (some xs)).map fun q => (((q.1 : Int), 0), q.2)
def gI (xs : List Nat) : Option ((Int × Int) × List Nat) := (sgnR (some xs)).map fun q => ((0, q.1), q.2)

set_option maxHeartbeats 2000000 in
theorem rd9_nil (k m : Int) (A : Option Addr) (c B : Nat) (w : World) : Calls Tryz.prog 60 #[.slice A 0 c, .int .i64 k, .int .i64 m] w (Rd9 w B [] none) := by
  go_enter Tryz.func60, Tryz.ntmps60
  go_wp2
  refine bodyPost_ret (v := .tuple #[.agg #[.int .i64 k, .int .i64 0, .int .i64 m, .int .i64 0, .string ⟨#[]⟩, .slice none 0 0], .slice A 0 c, .bool false]) (by simp [results, Tryz.results60, go_sem]) rfl ⟨((Fr.refl _ _).alloc _).alloc _, .inr ⟨k, 0, m, 0, _, rfl, rfl⟩⟩

set_option maxHeartbeats 2000000 in
theorem rd9_1 (u : Nat) (xs : List Nat) (most : Int) (A : Option Addr) (n c B : Nat) (w : World) (hBw : B ≤ w.heap.size) (hsl : Sl w B A (u64s (u :: xs))) (hn : xs.length + 1 = n) (hnc : n ≤ c) (hcm : c ≤ maxLen) (hu : u < 18446744073709551616) :
    Calls Tryz.prog 60 #[.slice A n c, .int .i64 1, .int .i64 most] w (Rd9 w B (u :: xs) (gI (u :: xs))) := by
  obtain ⟨ad, rfl, hadw0, hc0⟩ := hsl.wordB (k := 0) (by simp)
  have hadw : ad.block < w.heap.size := Nat.lt_of_lt_of_le hadw0 hBw
  have hc0 : w.cell? ad = some (.int .u64 u) := hc0
  have hs1 := sl_tail9 (c := c) hsl (by omega) (fun _ _ => rfl)
  obtain ⟨i0, hi0, hz0, hz1, hz2⟩ := info_parts info43
  have hrs := fun W => run_slice_from9 (P := Tryz.prog) 29 70 i0 Tryz.underlying29 hi0 hz1 (some ad) n c 1 1 rfl (by omega) W
  generalize (if c = 1 then some ad else (some ad).map (·.add 1)) = A1 at *
  have Hs1 := Lib.hid hs1
  have Hn := Lib.hid hn
  have Hcm := Lib.hid hcm
  have hn0 : 1 ≤ n := by omega
  have hnz : ((n : Int) == 0) = false := by rw [beq_eq_false_iff_ne]; omega
  clear hsl hn hs1 hi0 hz0 hz1 hz2 hcm hadw0
  go_enter Tryz.func60, Tryz.ntmps60
  go_wp2_with (go_at_call 85; refine (refBack9 u hu _).mono ?_; rintro e w' ⟨rfl, rfl⟩)
  have hxl : xs.length = n - 1 := by have := Hn.out; omega
  refine bodyPost_ret (v := .tuple #[.agg #[.int .i64 1, .int .i64 0, .int .i64 most, .int .i64 (uns u), .string ⟨#[]⟩, .slice none 0 0], .slice A1 (n - 1) (c - 1), .bool true]) (by simp [results, Tryz.results60, go_sem]) rfl ⟨by repeat (first | exact Fr.refl _ _ | refine Fr.alloc ?_ _ | refine Fr.setCell ?_ (.inr (by simp)) _), .inl ⟨1, 0, most, uns u, xs, A1, c - 1, by simp [gI, sgnR], by rw [hxl]; rfl, Hs1.out, by omega, by have := Hcm.out; omega, by simp⟩⟩

set_option maxHeartbeats 2000000 in
theorem rd9_0 (u : Nat) (xs : List Nat) (most : Int) (A : Option Addr) (n c B : Nat) (w : World) (hBw : B ≤ w.heap.size) (hsl : Sl w B A (u64s (u :: xs))) (hn : xs.length + 1 = n) (hnc : n ≤ c) (hcm : c ≤ maxLen) (hm1 : 0 ≤ most) (hm2 : most < 9223372036854775808) :
    Calls Tryz.prog 60 #[.slice A n c, .int .i64 0, .int .i64 most] w (Rd9 w B (u :: xs) (cI most (u :: xs))) := by
  obtain ⟨ad, rfl, hadw0, hc0⟩ := hsl.wordB (k := 0) (by simp)
  have hadw : ad.block < w.heap.size := Nat.lt_of_lt_of_le hadw0 hBw
  have hc0 : w.cell? ad = some (.int .u64 u) := hc0
  have hs1 := sl_tail9 (c := c) hsl (by omega) (fun _ _ => rfl)
  obtain ⟨i0, hi0, hz0, hz1, hz2⟩ := info_parts info43
  have hrs := fun W => run_slice_from9 (P := Tryz.prog) 29 70 i0 Tryz.underlying29 hi0 hz1 (some ad) n c 1 1 rfl (by omega) W
  generalize (if c = 1 then some ad else (some ad).map (·.add 1)) = A1 at *
  have Hs1 := Lib.hid hs1
  have Hn := Lib.hid hn
  have Hcm := Lib.hid hcm
  have hn0 : 1 ≤ n := by omega
  have hnz : ((n : Int) == 0) = false := by rw [beq_eq_false_iff_ne]; omega
  clear hsl hn hs1 hi0 hz0 hz1 hz2 hcm hadw0
  have hd : decide (most < 0) = false := by simpa using hm1
  have hw : IntKind.u64.wrap most = most := IntWalk.u64_in _ (by omega)
  by_cases hum : (u : Int) ≤ most
  · have hd2 : decide (most < (u : Int)) = false := by simp; omega
    have hcn : Hid (cI most (u :: xs) = some (((u : Int), 0), xs)) := Lib.hid (by simp only [cI, cntR]; rw [if_pos (by omega)]; rfl)
    go_enter Tryz.func60, Tryz.ntmps60
    go_wp2
    have hxl : xs.length = n - 1 := by have := Hn.out; omega
    refine bodyPost_ret (v := .tuple #[.agg #[.int .i64 0, .int .i64 u, .int .i64 most, .int .i64 0, .string ⟨#[]⟩, .slice none 0 0], .slice A1 (n - 1) (c - 1), .bool true]) (by simp [results, Tryz.results60, go_sem]) rfl ⟨by repeat (first | exact Fr.refl _ _ | refine Fr.alloc ?_ _ | refine Fr.setCell ?_ (.inr (by simp)) _), .inl ⟨0, u, most, 0, xs, A1, c - 1, hcn.out, by rw [hxl]; rfl, Hs1.out, by omega, by have := Hcm.out; omega, by simp⟩⟩
  · have hd2 : decide (most < (u : Int)) = true := by simp; omega
    have hcn : Hid (cI most (u :: xs) = none) := Lib.hid (by simp only [cI, cntR]; rw [if_neg (by omega)]; rfl)
    go_enter Tryz.func60, Tryz.ntmps60
    go_wp2
    refine bodyPost_ret (v := .tuple #[.agg #[.int .i64 0, .int .i64 0, .int .i64 most, .int .i64 0, .string ⟨#[]⟩, .slice none 0 0], .slice (some ad) n c, .bool false]) (by simp [results, Tryz.results60, go_sem]) rfl ⟨by repeat (first | exact Fr.refl _ _ | refine Fr.alloc ?_ _ | refine Fr.setCell ?_ (.inr (by simp)) _), .inr ⟨0, 0, most, 0, _, hcn.out, rfl⟩⟩

theorem rd9_any (k m : Int) (xs : List Nat) (A : Option Addr) (n c B : Nat) (w : World) (hBw : B ≤ w.heap.size) (hsl : Sl w B A (u64s xs)) (hn : xs.length = n) (hnc : n ≤ c) (hcm : c ≤ maxLen) (hu : ∀ u ∈ xs, u < 18446744073709551616) (hk : k = 1 ∨ (k = 0 ∧ 0 ≤ m ∧ m < 9223372036854775808)) :
    Calls Tryz.prog 60 #[.slice A n c, .int .i64 k, .int .i64 m] w (Rd9 w B xs (if k = 1 then gI xs else cI m xs)) := by
  match xs, hn, hsl, hu with
  | [], hn, _, _ =>
    obtain rfl : n = 0 := by simpa using hn.symm
    have e : (if k = 1 then gI [] else cI m []) = none := by
      rcases hk with rfl | ⟨rfl, _⟩ <;> rfl
    rw [e]
    exact rd9_nil k m A c B w
  | u :: r, hn, hsl, hu =>
    rcases hk with rfl | ⟨rfl, h1, h2⟩
    · exact rd9_1 u r m A n c B w hBw hsl (by simpa using hn) hnc hcm (hu u (by simp))
    · exact rd9_0 u r m A n c B w hBw hsl (by simpa using hn) hnc hcm h1 h2

/-- The document's reader: what is left, or that something wasn't right. -/
structure RR (w : World) (B q : Nat) (st : Option (List Nat)) : Prop where
  reads : ∃ A n c, Bk w q 46 #[.slice A n c, .bool st.isNone] ∧ B ≤ q ∧ ∀ xs, st = some xs → xs.length = n ∧ n ≤ c ∧ c ≤ maxLen ∧ Sl w B A (u64s xs) ∧ ∀ u ∈ xs, u < 18446744073709551616
theorem RR.fr {S : Nat → Prop} {w w' : World} {B q : Nat} {st : Option (List Nat)} (h : RR w B q st) (hf : Fr S w w') (hq : ¬ S q) (hS : ∀ k, S k → B ≤ k) : RR w' B q st := by
  obtain ⟨A, n, c, h1, h2, h3⟩ := h
  refine ⟨A, n, c, h1.fr hf hq, h2, fun xs hx => ?_⟩
  obtain ⟨a1, a2, a3, a4, a5⟩ := h3 xs hx
  exact ⟨a1, a2, a3, a4.fr hf (by have := h1.lt; omega) (fun ad e hne hs => by
    obtain ⟨ad', e', hb, _⟩ := a4 hne
    rw [e] at e'
    injection e' with e'
    subst e'
    have := hS _ hs
    omega), a5⟩
theorem RR.lt {w : World} {B q : Nat} {st : Option (List Nat)} (h : RR w B q st) : q < w.heap.size := by
  obtain ⟨_, _, _, h1, _⟩ := h
  exact h1.lt
/-- What a call that reads one thing leaves and tells. -/
def Itm (w : World) (B q : Nat) (o : Option ((Int × Int) × List Nat)) (e : Ending) (w' : World) : Prop :=
  ∃ k m : Int, e = .returned (itV k (((o.map (·.1)).getD (0, 0)).1) m (((o.map (·.1)).getD (0, 0)).2)) ∧ RR w' B q (o.map (·.2)) ∧ Fr (Only q) w w'
def cO (m : Int) (st : Option (List Nat)) : Option ((Int × Int) × List Nat) := st.bind fun xs => cI m xs
def gO (st : Option (List Nat)) : Option ((Int × Int) × List Nat) := st.bind fun xs => gI xs

set_option maxHeartbeats 2000000 in
theorem item_none (k m : Int) (q B : Nat) (w : World) (hr : RR w B q none) :
    Calls Tryz.prog 32 #[.pointer (some ⟨q, 0, none⟩), .int .i64 k, .int .i64 m] w (Itm w B q none) := by
  have hR := Lib.hid (hr.fr ((Fr.refl No w).alloc (.cells #[.int .i64 0, .int .i64 0, .int .i64 0, .int .i64 0, .string ⟨#[]⟩, .slice none 0 0] 77)) (fun e => e) (fun _ e => e.elim))
  obtain ⟨A, n, c, hb, hB, hx⟩ := hr
  have hql := hb.lt
  have k1 := hb.cell 1
  simp at k1
  clear hb hx
  go_enter Tryz.func32, Tryz.ntmps32
  go_wp2
  exact bodyPost_ret (v := .agg #[.int .i64 0, .int .i64 0, .int .i64 0, .int .i64 0, .string ⟨#[]⟩, .slice none 0 0]) (by simp [results, Tryz.results32, go_sem]) rfl ⟨0, 0, rfl, hR.out, (Fr.refl _ _).alloc _⟩

set_option maxHeartbeats 4000000 in
theorem item_some (k m : Int) (q B : Nat) (xs : List Nat) (o : Option ((Int × Int) × List Nat)) (w : World) (hr : RR w B q (some xs))
    (hC : ∀ (A : Option Addr) (n c : Nat) (W : World), Fr No w W → Sl W B A (u64s xs) → xs.length = n → n ≤ c → c ≤ maxLen → Calls Tryz.prog 60 #[.slice A n c, .int .i64 k, .int .i64 m] W (Rd9 W B xs o)) (ho64 : ∀ y, o = some y → ∀ u ∈ y.2, u < 18446744073709551616) :
    Calls Tryz.prog 32 #[.pointer (some ⟨q, 0, none⟩), .int .i64 k, .int .i64 m] w (Itm w B q o) := by
  obtain ⟨A, n, c, hb, hB, hx⟩ := hr
  obtain ⟨a1, a2, a3, a4, a5⟩ := hx xs rfl
  have hql := hb.lt
  have hf0 : Fr No w (w.alloc (.cells #[.int .i64 0, .int .i64 0, .int .i64 0, .int .i64 0, .string ⟨#[]⟩, .slice none 0 0] 77)) := (Fr.refl _ _).alloc _
  have hb0 := hb.fr hf0 (fun e => e)
  have hX0 := Bk.made w 77 #[.int .i64 0, .int .i64 0, .int .i64 0, .int .i64 0, .string ⟨#[]⟩, .slice none 0 0]
  have k0 := hb.cell 0
  have k1 := hb.cell 1
  simp at k0 k1
  have HC := Lib.hid (hC A n c _ hf0 (a4.fr hf0 (by omega) (fun _ _ _ e => e)) a1 a2 a3)
  have H64 := Lib.hid ho64
  have Hb0 := Lib.hid hb0
  have HX0 := Lib.hid hX0
  have hFO : Hid (Fr (Only q) w (w.alloc (.cells #[.int .i64 0, .int .i64 0, .int .i64 0, .int .i64 0, .string ⟨#[]⟩, .slice none 0 0] 77))) := Lib.hid (hf0.weak (fun _ _ h => h.elim))
  clear hC ho64 hx a1 a2 a3 a4 a5 hb hb0 hX0 hf0
  go_enter Tryz.func32, Tryz.ntmps32
  go_wp2_with fail
  refine (HC.out).mono ?_
  rintro e w1 ⟨hf1, ⟨k2, n2, m2, x2, r, A2, c2, ho, rfl, hs2, hc2, hcm2, hl2⟩ | ⟨k2, n2, m2, x2, v, ho, rfl⟩⟩
  · have hb1 := Hb0.out.fr hf1 (fun e => e)
    have hX1 := HX0.out.fr hf1 (fun e => e)
    have hql1 := hb1.lt
    have hXl1 := hX1.lt
    have hne : ¬ w.heap.size = q := by omega
    have hne' : ¬ q = w.heap.size := by omega
    have z0 := hb1.frozen 0
    have j0 := hb1.cell 0
    simp at j0
    have y0 := hX1.frozen 0
    have y1 := hX1.frozen 1
    have y2 := hX1.frozen 2
    have y3 := hX1.frozen 3
    have y4 := hX1.frozen 4
    have y5 := hX1.frozen 5
    have u0 := hX1.cell 0
    have u1 := hX1.cell 1
    have u2 := hX1.cell 2
    have u3 := hX1.cell 3
    have u4 := hX1.cell 4
    have u5 := hX1.cell 5
    simp at u0 u1 u2 u3 u4 u5
    have Ho := Lib.hid ho
    have Hs2 := Lib.hid hs2
    clear ho hs2
    simp only [itV]
    have hfin : Itm w B q o (.returned (itV k2 n2 m2 x2)) ((((((((w1.setCell ⟨q, 0, none⟩ (.slice A2 r.length c2)).setCell ⟨w.heap.size, 0, none⟩ (.int .i64 k2)).setCell ⟨w.heap.size, 1, none⟩ (.int .i64 n2)).setCell ⟨w.heap.size, 2, none⟩ (.int .i64 m2)).setCell ⟨w.heap.size, 3, none⟩ (.int .i64 x2)).setCell ⟨w.heap.size, 4, none⟩ (.string ⟨#[]⟩)).setCell ⟨w.heap.size, 5, none⟩ (.slice none 0 0)).alloc (.cells #[.int .i64 k2, .int .i64 n2, .int .i64 m2, .int .i64 x2, .string ⟨#[]⟩, .slice none 0 0] 77)) := by
      refine ⟨k2, m2, by rw [Ho.out]; rfl, ?_, (((((((((hFO.out.trans' hf1 (fun _ _ e => e.elim)).setCell (p := ⟨q, 0, none⟩) (.inl rfl) (.slice A2 r.length c2)).setCell (p := ⟨w.heap.size, 0, none⟩) (.inr (Nat.le_refl _)) (.int .i64 k2)).setCell (p := ⟨w.heap.size, 1, none⟩) (.inr (Nat.le_refl _)) (.int .i64 n2)).setCell (p := ⟨w.heap.size, 2, none⟩) (.inr (Nat.le_refl _)) (.int .i64 m2)).setCell (p := ⟨w.heap.size, 3, none⟩) (.inr (Nat.le_refl _)) (.int .i64 x2)).setCell (p := ⟨w.heap.size, 4, none⟩) (.inr (Nat.le_refl _)) (.string ⟨#[]⟩)).setCell (p := ⟨w.heap.size, 5, none⟩) (.inr (Nat.le_refl _)) (.slice none 0 0)).alloc _)⟩
      rw [Ho.out]
      have bq := (hb1.put 0 (.slice A2 r.length c2)).fr ((((((((Fr.refl (Only w.heap.size) (w1.setCell ⟨q, 0, none⟩ (.slice A2 r.length c2))).setCell (p := ⟨w.heap.size, 0, none⟩) (.inl rfl) (.int .i64 k2)).setCell (p := ⟨w.heap.size, 1, none⟩) (.inl rfl) (.int .i64 n2)).setCell (p := ⟨w.heap.size, 2, none⟩) (.inl rfl) (.int .i64 m2)).setCell (p := ⟨w.heap.size, 3, none⟩) (.inl rfl) (.int .i64 x2)).setCell (p := ⟨w.heap.size, 4, none⟩) (.inl rfl) (.string ⟨#[]⟩)).setCell (p := ⟨w.heap.size, 5, none⟩) (.inl rfl) (.slice none 0 0)).alloc (.cells #[.int .i64 k2, .int .i64 n2, .int .i64 m2, .int .i64 x2, .string ⟨#[]⟩, .slice none 0 0] 77)) (fun e => hne' e)
      refine ⟨A2, r.length, c2, by simpa using bq, hB, fun ys e => ?_⟩
      simp only [Option.map_some, Option.some.injEq] at e
      subst e
      have h1 : Sl w1 B A2 (u64s r) := Hs2.out.fr hf1 (by simp; omega) (fun _ _ _ e => e)
      refine ⟨rfl, hc2, hcm2, h1.fr (((((((((Fr.refl (fun k => k = q ∨ k = w.heap.size) w1).setCell (p := ⟨q, 0, none⟩) (.inl (.inl rfl)) (.slice A2 r.length c2)).setCell (p := ⟨w.heap.size, 0, none⟩) (.inl (.inr rfl)) (.int .i64 k2)).setCell (p := ⟨w.heap.size, 1, none⟩) (.inl (.inr rfl)) (.int .i64 n2)).setCell (p := ⟨w.heap.size, 2, none⟩) (.inl (.inr rfl)) (.int .i64 m2)).setCell (p := ⟨w.heap.size, 3, none⟩) (.inl (.inr rfl)) (.int .i64 x2)).setCell (p := ⟨w.heap.size, 4, none⟩) (.inl (.inr rfl)) (.string ⟨#[]⟩)).setCell (p := ⟨w.heap.size, 5, none⟩) (.inl (.inr rfl)) (.slice none 0 0)).alloc (.cells #[.int .i64 k2, .int .i64 n2, .int .i64 m2, .int .i64 x2, .string ⟨#[]⟩, .slice none 0 0] 77)) (by omega) (fun ad e hn hs => ?_), H64.out _ Ho.out⟩
      obtain ⟨ad', e', hlt, _⟩ := h1 hn
      rw [e] at e'
      injection e' with e'
      subst e'
      rcases hs with hs | hs <;> omega
    have HF := Lib.hid hfin
    have bX := (((((((hX1.fr ((Fr.refl (Only q) w1).setCell (p := ⟨q, 0, none⟩) (.inl rfl) (.slice A2 r.length c2)) hne).put 0 (.int .i64 k2)).put 1 (.int .i64 n2)).put 2 (.int .i64 m2)).put 3 (.int .i64 x2)).put 4 (.string ⟨#[]⟩)).put 5 (.slice none 0 0)).fr ((Fr.refl No _).alloc (.cells #[.int .i64 k2, .int .i64 n2, .int .i64 m2, .int .i64 x2, .string ⟨#[]⟩, .slice none 0 0] 77)) (fun e => e)
    have m0 := bX.cell 0
    have m1 := bX.cell 1
    have m2' := bX.cell 2
    have m3 := bX.cell 3
    have m4 := bX.cell 4
    have m5 := bX.cell 5
    simp at m0 m1 m2' m3 m4 m5
    have M : Hid (_ ∧ _ ∧ _ ∧ _ ∧ _ ∧ _) := Lib.hid ⟨m0, m1, m2', m3, m4, m5⟩
    clear hfin bX m0 m1 m2' m3 m4 m5
    go_wp2
    obtain ⟨m0, m1, m2', m3, m4, m5⟩ := M.out
    exact bodyPost_ret (v := .agg #[.int .i64 k2, .int .i64 n2, .int .i64 m2, .int .i64 x2, .string ⟨#[]⟩, .slice none 0 0]) (by simp [results, Tryz.results32, go_sem, m0, m1, m2', m3, m4, m5]) rfl HF.out
  · have hb1 := Hb0.out.fr hf1 (fun e => e)
    have hX1 := HX0.out.fr hf1 (fun e => e)
    have hql1 := hb1.lt
    have hXl1 := hX1.lt
    have hne : ¬ w.heap.size = q := by omega
    have z1 := hb1.frozen 1
    have j1 := hb1.cell 1
    simp at j1
    have y0 := hX1.frozen 0
    have y1 := hX1.frozen 1
    have y2 := hX1.frozen 2
    have y3 := hX1.frozen 3
    have y4 := hX1.frozen 4
    have y5 := hX1.frozen 5
    have u0 := hX1.cell 0
    have u1 := hX1.cell 1
    have u2 := hX1.cell 2
    have u3 := hX1.cell 3
    have u4 := hX1.cell 4
    have u5 := hX1.cell 5
    simp at u0 u1 u2 u3 u4 u5
    have Ho := Lib.hid ho
    clear ho
    simp only [itV]
    have hfin : Itm w B q o (.returned (itV 0 0 0 0)) ((((((((w1.setCell ⟨q, 1, none⟩ (.bool true)).setCell ⟨w.heap.size, 0, none⟩ (.int .i64 0)).setCell ⟨w.heap.size, 1, none⟩ (.int .i64 0)).setCell ⟨w.heap.size, 2, none⟩ (.int .i64 0)).setCell ⟨w.heap.size, 3, none⟩ (.int .i64 0)).setCell ⟨w.heap.size, 4, none⟩ (.string ⟨#[]⟩)).setCell ⟨w.heap.size, 5, none⟩ (.slice none 0 0)).alloc (.cells #[.int .i64 k2, .int .i64 n2, .int .i64 m2, .int .i64 x2, .string ⟨#[]⟩, .slice none 0 0] 77)) := by
      refine ⟨0, 0, by rw [Ho.out]; rfl, ?_, (((((((((hFO.out.trans' hf1 (fun _ _ e => e.elim)).setCell (p := ⟨q, 1, none⟩) (.inl rfl) (.bool true)).setCell (p := ⟨w.heap.size, 0, none⟩) (.inr (Nat.le_refl _)) (.int .i64 0)).setCell (p := ⟨w.heap.size, 1, none⟩) (.inr (Nat.le_refl _)) (.int .i64 0)).setCell (p := ⟨w.heap.size, 2, none⟩) (.inr (Nat.le_refl _)) (.int .i64 0)).setCell (p := ⟨w.heap.size, 3, none⟩) (.inr (Nat.le_refl _)) (.int .i64 0)).setCell (p := ⟨w.heap.size, 4, none⟩) (.inr (Nat.le_refl _)) (.string ⟨#[]⟩)).setCell (p := ⟨w.heap.size, 5, none⟩) (.inr (Nat.le_refl _)) (.slice none 0 0)).alloc _)⟩
      rw [Ho.out]
      have bq := (hb1.put 1 (.bool true)).fr ((((((((Fr.refl (Only w.heap.size) (w1.setCell ⟨q, 1, none⟩ (.bool true))).setCell (p := ⟨w.heap.size, 0, none⟩) (.inl rfl) (.int .i64 0)).setCell (p := ⟨w.heap.size, 1, none⟩) (.inl rfl) (.int .i64 0)).setCell (p := ⟨w.heap.size, 2, none⟩) (.inl rfl) (.int .i64 0)).setCell (p := ⟨w.heap.size, 3, none⟩) (.inl rfl) (.int .i64 0)).setCell (p := ⟨w.heap.size, 4, none⟩) (.inl rfl) (.string ⟨#[]⟩)).setCell (p := ⟨w.heap.size, 5, none⟩) (.inl rfl) (.slice none 0 0)).alloc (.cells #[.int .i64 k2, .int .i64 n2, .int .i64 m2, .int .i64 x2, .string ⟨#[]⟩, .slice none 0 0] 77)) (fun e => hne e.symm)
      exact ⟨A, n, c, by simpa using bq, hB, fun ys e => by cases e⟩
    have HF := Lib.hid hfin
    have bX := (((((((hX1.fr ((Fr.refl (Only q) w1).setCell (p := ⟨q, 1, none⟩) (.inl rfl) (.bool true)) hne).put 0 (.int .i64 0)).put 1 (.int .i64 0)).put 2 (.int .i64 0)).put 3 (.int .i64 0)).put 4 (.string ⟨#[]⟩)).put 5 (.slice none 0 0)).fr ((Fr.refl No _).alloc (.cells #[.int .i64 k2, .int .i64 n2, .int .i64 m2, .int .i64 x2, .string ⟨#[]⟩, .slice none 0 0] 77)) (fun e => e)
    have m0 := bX.cell 0
    have m1 := bX.cell 1
    have m2' := bX.cell 2
    have m3 := bX.cell 3
    have m4 := bX.cell 4
    have m5 := bX.cell 5
    simp at m0 m1 m2' m3 m4 m5
    have M : Hid (_ ∧ _ ∧ _ ∧ _ ∧ _ ∧ _) := Lib.hid ⟨m0, m1, m2', m3, m4, m5⟩
    clear hfin bX m0 m1 m2' m3 m4 m5
    go_wp2
    obtain ⟨m0, m1, m2', m3, m4, m5⟩ := M.out
    exact bodyPost_ret (v := .agg #[.int .i64 0, .int .i64 0, .int .i64 0, .int .i64 0, .string ⟨#[]⟩, .slice none 0 0]) (by simp [results, Tryz.results32, go_sem, m0, m1, m2', m3, m4, m5]) rfl HF.out

/-- What is left behind an item fits words too. -/
theorem cI_64 {m : Int} {xs : List Nat} (h : ∀ u ∈ xs, u < 18446744073709551616) : ∀ y, cI m xs = some y → ∀ u ∈ y.2, u < 18446744073709551616 := by
  intro y hy u hu
  match xs, h, hy with
  | [], _, hy => simp [cI, cntR] at hy
  | v :: r, h, hy =>
    simp only [cI, cntR] at hy
    split at hy
    · simp at hy
      subst hy
      exact h u (by simp at hu; simp [hu])
    · simp at hy
theorem gI_64 {xs : List Nat} (h : ∀ u ∈ xs, u < 18446744073709551616) : ∀ y, gI xs = some y → ∀ u ∈ y.2, u < 18446744073709551616 := by
  intro y hy u hu
  match xs, h, hy with
  | [], _, hy => simp [gI, sgnR] at hy
  | v :: r, h, hy =>
    simp [gI, sgnR] at hy
    subst hy
    exact h u (by simp at hu; simp [hu])
theorem RR.words {w : World} {B q : Nat} {xs : List Nat} (h : RR w B q (some xs)) : ∀ u ∈ xs, u < 18446744073709551616 := by
  obtain ⟨_, _, _, _, _, h3⟩ := h
  exact (h3 xs rfl).2.2.2.2
/-- A count, as the document's reader reads it. -/
theorem itemN_any (m : Int) (q B : Nat) (st : Option (List Nat)) (w : World) (hr : RR w B q st) (hm : 0 ≤ m ∧ m < 9223372036854775808) :
    Calls Tryz.prog 32 #[.pointer (some ⟨q, 0, none⟩), .int .i64 0, .int .i64 m] w fun e w' => ∃ k m' x : Int, e = .returned (itV k (cV m st) m' x) ∧ RR w' B q (cS m st) ∧ Fr (Only q) w w' := by
  have h : Calls Tryz.prog 32 #[.pointer (some ⟨q, 0, none⟩), .int .i64 0, .int .i64 m] w (Itm w B q (cO m st)) := by
    cases st with
    | none => exact item_none 0 m q B w hr
    | some xs => exact item_some 0 m q B xs (cI m xs) w hr (fun A n c W hW hs h1 h2 h3 => rd9_any 0 m xs A n c B W (by obtain ⟨_, _, _, k1, k2, _⟩ := hr; have := k1.lt; have := hW.size; omega) hs h1 h2 h3 hr.words (.inr ⟨rfl, hm.1, hm.2⟩)) (cI_64 hr.words)
  refine h.mono fun e w' h => ?_
  obtain ⟨k, m', h1, h2, h3⟩ := h
  have e1 : (((cO m st).map (·.1)).getD (0, 0)).1 = cV m st := by
    cases st with
    | none => rfl
    | some xs =>
      simp only [cO, Option.bind_some, cI, cV]
      cases cntR m (some xs) <;> rfl
  have e2 : (cO m st).map (·.2) = cS m st := by
    cases st with
    | none => rfl
    | some xs =>
      simp only [cO, Option.bind_some, cI, cS]
      cases cntR m (some xs) <;> rfl
  rw [e1] at h1
  rw [e2] at h2
  exact ⟨k, m', _, h1, h2, h3⟩
/-- A number with a sign. -/
theorem itemS_any (q B : Nat) (st : Option (List Nat)) (w : World) (hr : RR w B q st) :
    Calls Tryz.prog 32 #[.pointer (some ⟨q, 0, none⟩), .int .i64 1, .int .i64 0] w fun e w' => ∃ k n m : Int, e = .returned (itV k n m (gV st)) ∧ RR w' B q (gS st) ∧ Fr (Only q) w w' := by
  have h : Calls Tryz.prog 32 #[.pointer (some ⟨q, 0, none⟩), .int .i64 1, .int .i64 0] w (Itm w B q (gO st)) := by
    cases st with
    | none => exact item_none 1 0 q B w hr
    | some xs => exact item_some 1 0 q B xs (gI xs) w hr (fun A n c W hW hs h1 h2 h3 => rd9_any 1 0 xs A n c B W (by obtain ⟨_, _, _, k1, k2, _⟩ := hr; have := k1.lt; have := hW.size; omega) hs h1 h2 h3 hr.words (.inl rfl)) (gI_64 hr.words)
  refine h.mono fun e w' h => ?_
  obtain ⟨k, m', h1, h2, h3⟩ := h
  have e1 : (((gO st).map (·.1)).getD (0, 0)).2 = gV st := by
    cases st with
    | none => rfl
    | some xs =>
      simp only [gO, Option.bind_some, gI, gV]
      cases sgnR (some xs) <;> rfl
  have e2 : (gO st).map (·.2) = gS st := by
    cases st with
    | none => rfl
    | some xs =>
      simp only [gO, Option.bind_some, gI, gS]
      cases sgnR (some xs) <;> rfl
  rw [e1] at h1
  rw [e2] at h2
  exact ⟨k, _, m', h1, h2, h3⟩
end Go.Proofs.YtbemfomiiikpoaaGreat
/- What the document reads as a text. -/
namespace Go.Proofs.YtbemfomiiikpoaaGreat
open Go.RowKit

theorem info5_11 : (Tryz.prog.info? 5).map (fun i => (i.zero, i.size, i.bytes)) = some (some (.int .u8 0), 1, 1) := by kernel_rfl
/-- What the document's 'Read' answers of a text. -/
def RdT (w : World) (B : Nat) (xs : List Nat) (o : Option (ByteArray × List Nat)) (e : Ending) (w' : World) : Prop :=
  Fr No w w' ∧ ((∃ (m : Int) (s : ByteArray) (D : Option Addr) (d dc : Nat) (r : List Nat) (A : Option Addr) (c : Nat), o = some (s, r) ∧ e = .returned (.tuple #[.agg #[.int .i64 3, .int .i64 0, .int .i64 m, .int .i64 0, .string s, .slice D d dc], .slice A r.length c, .bool true]) ∧ Sl w B A (u64s r) ∧ r.length ≤ c ∧ c ≤ maxLen ∧ r.length ≤ xs.length) ∨
    (∃ (m : Int) (P : Option Addr) (a b : Nat) (v : Value), o = none ∧ e = .returned (.tuple #[.agg #[.int .i64 3, .int .i64 0, .int .i64 m, .int .i64 0, .string ⟨#[]⟩, .slice P a b], v, .bool false])))
theorem own_types {w : World} {b1 b2 : Nat} {e1 e2 : TypeId} {s1 s2 n1 n2 : Nat} {v1 v2 : Value} {xs1 xs2 : List Value} (h1 : w.ownsRow b1 e1 s1 v1 n1 xs1) (h2 : w.ownsRow b2 e2 s2 v2 n2 xs2) (hne : e1 ≠ e2) {k : Nat} (hk : v1.ownBlock = some k) : v2.ownBlock ≠ some k := by
  rcases h1.2 with ⟨rfl, _⟩ | ⟨g, cap, cur, rfl, _, hg, _⟩
  · simp [Value.ownBlock] at hk
  · simp [Value.ownBlock] at hk
    subst hk
    exact own_apart h2 (t := e1) hg (fun e => hne e.symm)

/-- In the midst of reading a text: the item, the place of the result, the item's words, the bytes so far. -/
structure Mid (w : World) (xs ws : List Nat) (most : Int) (A3 : Option Addr) (nw c3 : Nat) (A4 : Option Addr) (j c4 n : Nat) (wr : World) : Prop where
  item : Bk wr (w.heap.size + 1) 77 #[.int .i64 3, .int .i64 0, .int .i64 most, .int .i64 0, .string ⟨#[]⟩, .slice A3 nw c3]
  res : Bk wr w.heap.size 77 #[.int .i64 0, .int .i64 0, .int .i64 0, .int .i64 0, .string ⟨#[]⟩, .slice none 0 0]
  words : wr.ownsRow w.heap.size 70 1 (.slice A3 nw c3) nw (u64s ws)
  bytes : wr.ownsRow w.heap.size 5 1 (.slice A4 j c4) j (u8s (unp ws n))
  fr : Fr No w wr

set_option maxRecDepth 100000 in
set_option maxHeartbeats 4000000 in
theorem rdT_cons (u : Nat) (xs : List Nat) (most : Int) (A : Option Addr) (n c : Nat) (w : World) (B : Nat) (hBw : B ≤ w.heap.size) (hsl0 : Sl w B A (u64s (u :: xs))) (hn : xs.length + 1 = n) (hnc : n ≤ c) (hcm : c ≤ maxLen) (hu : u < 18446744073709551616) (hn300 : n ≤ 1000000) (h64 : ∀ x ∈ xs, x < 18446744073709551616) :
    Calls Tryz.prog 60 #[.slice A n c, .int .i64 3, .int .i64 most] w (RdT w B (u :: xs) (textR (some (u :: xs)))) := by
  have hsl := hsl0.more hBw
  obtain ⟨m, rfl⟩ : ∃ m, n = m + 1 := ⟨n - 1, by omega⟩
  obtain ⟨c1, rfl⟩ : ∃ c1, c = c1 + 1 := ⟨c - 1, by omega⟩
  obtain ⟨ad, rfl, hadw, hc0⟩ := hsl.wordB (k := 0) (by simp)
  have hc0 : w.cell? ad = some (.int .u64 u) := hc0
  have hs0 := sl_tail9 (c := c1 + 1) hsl0 (by omega) (fun _ _ => rfl)
  have hs1 := sl_tail9 (c := c1 + 1) hsl (by omega) (fun _ _ => rfl)
  obtain ⟨i0, hi0, hz0, hz1, hz2⟩ := info_parts info43
  have hrs : ∀ W, (Instr.slice 29 (.slice (some ad) (m + 1) (c1 + 1)) (some (.int .i64 1)) none none).run Tryz.prog W = .ok (.slice (if c1 + 1 = 1 then some ad else (some ad).map (·.add 1)) m c1) W := fun W => by
    have := run_slice_from9 (P := Tryz.prog) 29 70 i0 Tryz.underlying29 hi0 hz1 (some ad) (m + 1) (c1 + 1) 1 1 rfl (by omega) W
    simpa only [Nat.add_sub_cancel] using this
  generalize (if c1 + 1 = 1 then some ad else (some ad).map (·.add 1)) = A1 at *
  have hi0' := hi0
  have Hs1 := Lib.hid hs1
  have Hs0 := Lib.hid hs0
  have Hn := Lib.hid hn
  have Hcm := Lib.hid hcm
  have hmc : m ≤ c1 := by omega
  have hnz : ((m : Int) + 1 == 0) = false := by rw [beq_eq_false_iff_ne]; omega
  clear hsl hsl0 hs0 hn hs1 hi0 hcm
  by_cases hum : 64 < (u : Int)
  · have hd : decide (64 < (u : Int)) = true := by simpa using hum
    have Hno : Hid (textR (some (u :: xs)) = none) := Lib.hid (by
      have hcn : cntR 64 (some (u :: xs)) = none := by simp only [cntR]; rw [if_neg (by omega)]
      simp [textR, hcn])
    go_enter Tryz.func60, Tryz.ntmps60
    go_wp2
    refine bodyPost_ret (v := .tuple #[.agg #[.int .i64 3, .int .i64 0, .int .i64 most, .int .i64 0, .string ⟨#[]⟩, .slice none 0 0], .slice (some ad) (m + 1) (c1 + 1), .bool false]) (by simp [results, Tryz.results60, go_sem]) rfl ⟨(by repeat (first | exact Fr.refl _ _ | refine Fr.alloc ?_ _ | refine Fr.setCell ?_ (.inr (by simp)) _)), .inr ⟨_, _, _, _, _, Hno.out, rfl⟩⟩
  · have hd : decide (64 < (u : Int)) = false := by simpa using hum
    have hcn : cntR 64 (some (u :: xs)) = some (u, xs) := by simp only [cntR]; rw [if_pos (by omega)]
    obtain ⟨nw, hnw⟩ : ∃ nw, nw = (u + 7) / 8 := ⟨_, rfl⟩
    have hnw8 : nw ≤ 8 := by omega
    have hunw : u ≤ 8 * nw := by omega
    have hnwi : ((u : Int) + 7) / 8 = (nw : Int) := by omega
    by_cases hul : nw ≤ m
    · have hxl : xs.length = m := by have := Hn.out; omega
      have Hxl := Lib.hid hxl
      clear hxl
      have hrs2 := fun W => run_slice_from9 (P := Tryz.prog) 29 70 i0 Tryz.underlying29 hi0' hz1 A1 m c1 nw nw rfl hul W
      have hs2 : Sl w B (if c1 = nw then A1 else A1.map (·.add nw)) (u64s (xs.drop nw)) := by
        have := Hs0.out.drop (k := nw) (n := m) (cap := c1) (sz := 1) (by rw [u64s_len, Hxl.out]; omega) hul (by omega)
        simpa [u64s, List.map_drop] using this
      generalize (if c1 = nw then A1 else A1.map (·.add nw)) = A2 at *
      have Hs2 := Lib.hid hs2
      clear hs2
      obtain ⟨W0, hW0⟩ : ∃ W0, W0 = ((w.alloc (.cells #[.int .i64 0, .int .i64 0, .int .i64 0, .int .i64 0, .string ⟨#[]⟩, .slice none 0 0] 77)).alloc (.cells #[.int .i64 3, .int .i64 0, .int .i64 most, .int .i64 0, .string ⟨#[]⟩, .slice none 0 0] 77)) := ⟨_, rfl⟩
      have hown : (W0.alloc (.cells #[] 70)).ownsRow w.heap.size 70 1 (.slice (some ⟨W0.heap.size, 0, none⟩) 0 0) 0 (u64s []) := World.ownsRow_lit W0 #[] 0 (by rw [hW0]; simp; omega) (Nat.zero_le _) rfl
      have hf0 : Fr No w W0 := by rw [hW0]; exact ((Fr.refl _ _).alloc _).alloc _
      have hst : Sl (W0.alloc (.cells #[] 70)) w.heap.size A1 (u64s (xs.take nw)) := by
        have h1 := (Hs1.out.take nw).fr (hf0.alloc (.cells #[] 70)) (Nat.le_refl _) (fun _ _ _ => id)
        simpa [u64s, List.map_take] using h1
      have htl : (xs.take nw).length = nw := by rw [List.length_take, Hxl.out]; omega
      subst hW0
      have Hst := Lib.hid hst
      have Htl := Lib.hid htl
      have Hf0 := Lib.hid hf0
      have Hcn := Lib.hid hcn
      have Hnw := Lib.hid hnw
      have huc : nw ≤ c1 := by omega
      clear hst htl hf0 hcn hnw
      simp at hown
      have h64w : ∀ x ∈ xs.take nw, x < 18446744073709551616 := fun x hx => h64 x (List.mem_of_mem_take hx)
      generalize hws : xs.take nw = ws at *
      have H64 := Lib.hid h64w
      clear h64w h64
      have Hws := Lib.hid hws
      clear hws
      go_enter Tryz.func60, Tryz.ntmps60
      go_wp2_with (at_builtin; refine append_words rfl _ _ rfl w.heap.size (some ⟨w.heap.size + 1 + 1, 0, none⟩) 0 0 [] ?h1 w.heap.size A1 nw c1 ws ?h2 Htl.out Hst.out hown (by omega) ?h3 ?h4)
      case h3 => omega
      case h4 =>
        intro A3 c3 w3 hown3 hf3 hg3
        have hB3 : Bk w3 (w.heap.size + 1) 77 #[.int .i64 3, .int .i64 0, .int .i64 most, .int .i64 0, .string ⟨#[]⟩, .slice none 0 0] := by
          have hm := Bk.made (w.alloc (.cells #[.int .i64 0, .int .i64 0, .int .i64 0, .int .i64 0, .string ⟨#[]⟩, .slice none 0 0] 77)) 77 #[.int .i64 3, .int .i64 0, .int .i64 most, .int .i64 0, .string ⟨#[]⟩, .slice none 0 0]
          have h2 := hm.fr (((Fr.refl No _)).alloc (.cells #[] 70)) id
          simp at h2
          exact h2.fr hf3 (by simp [Value.ownBlock])
        have hB4 : Bk w3 w.heap.size 77 #[.int .i64 0, .int .i64 0, .int .i64 0, .int .i64 0, .string ⟨#[]⟩, .slice none 0 0] := by
          have hm := Bk.made w 77 #[.int .i64 0, .int .i64 0, .int .i64 0, .int .i64 0, .string ⟨#[]⟩, .slice none 0 0]
          have h2 := hm.fr (((Fr.refl No _).alloc (.cells #[.int .i64 3, .int .i64 0, .int .i64 most, .int .i64 0, .string ⟨#[]⟩, .slice none 0 0] 77)).alloc (.cells #[] 70)) id
          exact h2.fr hf3 (by simp [Value.ownBlock]; omega)
        have hfr3 : Fr No w w3 := ((Hf0.out.alloc (.cells #[] 70)).trans' hf3 (fun i hi h => by simp [Value.ownBlock] at h; omega))
        have b5 := hB3.cell 5
        have g5 := hB3.frozen 5
        have b0 := hB3.cell 0
        simp at b5 b0
        try simp only [Nat.zero_add, List.nil_append] at hown3
        try simp only [Nat.zero_add] at hg3
        try simp only [Nat.zero_add]
        have hne3 : ∀ k, (Value.slice A3 nw c3).ownBlock = some k → k ≠ w.heap.size + 1 ∧ k ≠ w.heap.size := by
          intro k hk
          rcases hg3 with h7 | ⟨k', h7, h6⟩
          · rw [h7] at hk; simp [Value.ownBlock] at hk; omega
          · rw [h7] at hk; injection hk with hk; omega
        have hI : Mid w xs ws most A3 nw c3 none 0 0 0 (w3.setCell ⟨w.heap.size + 1, 5, none⟩ (.slice A3 nw c3)) := by
          have hfs : Fr (fun k => k = w.heap.size + 1) w3 (w3.setCell ⟨w.heap.size + 1, 5, none⟩ (.slice A3 nw c3)) := (Fr.refl (fun k => k = w.heap.size + 1) w3).setCell (p := ⟨w.heap.size + 1, 5, none⟩) (.inl rfl) _
          exact ⟨by simpa using hB3.put 5 (.slice A3 nw c3), hB4.fr hfs (by omega), own_fr hown3 hfs (fun k hk => (hne3 k hk).1), World.ownsRow_nil _ _ _ _, hfr3.setCell (p := ⟨w.heap.size + 1, 5, none⟩) (.inr (by simp)) _⟩
        have HI := Lib.hid hI
        clear hI hown3 hf3 hg3 hne3 hB3 hB4
        go_wp2
        go_loopw [14, 15] (fun b i wr => ∃ (j k : Nat) (A4 : Option Addr) (c4 : Nat), k ≤ 8 * nw ∧ i = .int .i64 k ∧ Hid (j = min k u) ∧ j ≤ u ∧ b = .slice A4 j c4 ∧ Mid w xs ws most A3 nw c3 A4 j c4 j wr ∧ Hid (∀ i, u ≤ i → i < k → ub ws i = 0)) (fun _ i _ => 8 * nw - (intOf i).toNat)
        case atStart => exact ⟨0, 0, none, 0, Nat.zero_le _, rfl, Lib.hid (by simp), Nat.zero_le _, rfl, HI.out, Lib.hid (by intro i _ h; omega)⟩
        case round =>
          obtain ⟨j, k, A4, c4, hk, rfl, hj, hju, rfl, hmid, hz⟩ := hrel
          have Hmid := Lib.hid hmid
          have b5' := hmid.item.cell 5
          simp at b5'
          by_cases hlt : k < 8 * nw
          · obtain ⟨q, hq⟩ : ∃ q, q = k / 8 := ⟨_, rfl⟩
            obtain ⟨r, hr⟩ : ∃ r, r = k % 8 := ⟨_, rfl⟩
            have hqm : q < nw := by omega
            have hr8 : r < 8 := by omega
            have hqw : q < ws.length := by rw [Htl.out]; exact hqm
            obtain ⟨ad3, hA3, _, hcw⟩ := (Sl.ofOwn hmid.words).wordB hqw
            obtain ⟨v, hv⟩ : ∃ v, v = ws[q] := ⟨_, rfl⟩
            have hv64 : v < 18446744073709551616 := by rw [hv]; exact H64.out _ (List.getElem_mem hqw)
            rw [← hv] at hcw
            subst hA3
            have hub : ub ws k = v / 256 ^ r % 256 := by
              unfold ub
              rw [← hq, ← hr, hv, show (2 : Nat) ^ (r * 8) = 256 ^ r by rw [Nat.mul_comm, Nat.pow_mul]]
              simp [List.getD, hqw]
            have Hub := Lib.hid hub
            have hq1 : (k : Int) / 8 = (q : Int) := by omega
            have hr1 : (k : Int) % 8 = (r : Int) := by omega
            have hd8 : decide ((k : Int) < 8 * (nw : Int)) = true := by simp; omega
            have Hv := Lib.hid hv
            clear hq hr hub hmid hv
            go_wp2
            go_loop [16, 17] (fun v' i' => ∃ (y z : Nat), y ≤ r ∧ i' = .int .i64 y ∧ v' = .int .u64 z ∧ Hid (z = v / 256 ^ y)) (fun _ i' => r - (intOf i').toNat)
            case atStart => exact ⟨0, v, Nat.zero_le _, rfl, rfl, Lib.hid (by simp)⟩
            case round =>
              obtain ⟨y, z, hy, rfl, rfl, hz2⟩ := hrel
              have hz64 : z < 18446744073709551616 := by
                rw [hz2.out]
                exact Nat.lt_of_le_of_lt (Nat.div_le_self _ _) hv64
              by_cases hyr : y < r
              · go_wp2
                go_round
                case rel => exact ⟨y + 1, z / 256, by omega, by go_num, by simp, Lib.hid (by rw [hz2.out, Nat.div_div_eq_div_mul, Nat.pow_succ])⟩
                case measure => simp [intOf]; omega
              · obtain ⟨b, hb⟩ : ∃ b, b = z % 256 := ⟨_, rfl⟩
                have hb256 : b < 256 := by omega
                have hub : b = ub ws k := by
                  have hyr2 : y = r := by omega
                  rw [hb, hz2.out, hyr2, Hub.out]
                have hbi : (z : Int) % 256 = (b : Int) := by omega
                have hb8 : IntKind.u8.wrap (b : Int) = b := IntWalk.u8_in _ (by omega)
                have Hb := Lib.hid hub
                clear hb hub
                by_cases hku : k < u
                · obtain rfl : j = k := by have := hj.out; omega
                  go_wp2_with (at_builtin; (refine wpList_append_one rfl _ _ _ rfl w.heap.size 5 _ 1 Tryz.underlying137 info5_11 rfl (.slice A4 j c4) j (u8s (unp ws j)) (.int .u8 b) rfl ?k1 wr.heap.size ?k2 ?k3 Hmid.out.bytes (by unfold maxLen; omega) (by omega) Hmid.out.fr.size ?k4))
                  case k2 => rfl
                  case k4 =>
                    intro A5 c5 w5 hown5 hf5 hg5
                    have hmid5 : Mid w xs ws most (some ad3) nw c3 A5 (j + 1) c5 (j + 1) w5 := by
                      have h0 := Hmid.out
                      refine ⟨h0.item.fr hf5 (own_apart h0.bytes h0.item (by decide)), h0.res.fr hf5 (own_apart h0.bytes h0.res (by decide)), own_fr h0.words hf5 (fun k' e1 e2 => own_types h0.words h0.bytes (by decide) e1 e2), ?_, h0.fr.then0 hf5 (fun k' hk' => (h0.bytes.lt k' hk').1)⟩
                      rw [unp_succ, u8s_app, ← Hb.out]
                      exact hown5
                    have Hm5 := Lib.hid hmid5
                    clear hmid5 hown5 hf5 hg5
                    go_wp2
                    go_roundw
                    case rel => exact ⟨j + 1, j + 1, A5, c5, by omega, by go_num, Lib.hid (by omega), by omega, rfl, Hm5.out, Lib.hid (fun i h1 h2 => by omega)⟩
                    case measure => simp [intOf]; omega
                · by_cases hb0 : b = 0
                  · subst hb0
                    have hbz : (((0 : Nat) : Int) != 0) = false := by simp
                    go_wp2
                    go_roundw
                    case rel =>
                      refine ⟨j, k + 1, A4, c4, by omega, by go_num, Lib.hid (by have := hj.out; omega), hju, rfl, Hmid.out, Lib.hid (fun i h1 h2 => ?_)⟩
                      by_cases hik : i = k
                      · subst hik; exact Hb.out.symm
                      · exact hz.out i h1 (by omega)
                    case measure => simp [intOf]; omega
                  · have hbz : ((b : Int) != 0) = true := by rw [bne_iff_ne]; omega
                    have Hno : Hid (textR (some (u :: xs)) = none) := Lib.hid (by
                      have hpad := padB_no (m := nw) (Nat.le_of_not_lt hku) hlt (by rw [← Hb.out]; exact hb0)
                      rw [← Hws.out] at hpad
                      simp [textR, Hcn.out, ← Hnw.out, hpad])
                    have m0 := Hmid.out.item.cell 0
                    have m1 := Hmid.out.item.cell 1
                    have m2 := Hmid.out.item.cell 2
                    have m3 := Hmid.out.item.cell 3
                    have m4 := Hmid.out.item.cell 4
                    have a0 := Hmid.out.res.cell 0
                    have a1 := Hmid.out.res.cell 1
                    have a2 := Hmid.out.res.cell 2
                    have a3 := Hmid.out.res.cell 3
                    have a4 := Hmid.out.res.cell 4
                    have a5 := Hmid.out.res.cell 5
                    have z0 := Hmid.out.res.frozen 0
                    have z1 := Hmid.out.res.frozen 1
                    have z2 := Hmid.out.res.frozen 2
                    have z3 := Hmid.out.res.frozen 3
                    have z4 := Hmid.out.res.frozen 4
                    have z5 := Hmid.out.res.frozen 5
                    simp at m0 m1 m2 m3 m4 a0 a1 a2 a3 a4 a5
                    go_wp2
                    refine bodyPost_ret (v := .tuple #[.agg #[.int .i64 3, .int .i64 0, .int .i64 most, .int .i64 0, .string ⟨#[]⟩, .slice (some ad3) nw c3], .slice (some ad) (m + 1) (c1 + 1), .bool false]) (by simp [results, Tryz.results60, go_sem, a0, a1, a2, a3, a4, a5]) rfl ⟨(by repeat (first | with_reducible exact Hmid.out.fr | (with_reducible refine Fr.drew ?_) | (with_reducible refine Fr.setCell ?_ (.inr (by simp)) _))), .inr ⟨_, _, _, _, _, Hno.out, rfl⟩⟩
          · obtain rfl : k = 8 * nw := by omega
            obtain rfl : j = u := by have := hj.out; omega
            have hd8 : decide (((8 * nw : Nat) : Int) < 8 * (nw : Int)) = false := by simp
            have hpad := padB_yes (m := nw) (fun i h1 h2 => hz.out i h1 h2)
            have Hpad := Lib.hid hpad
            clear hpad
            have hcv := run_string_own (P := Tryz.prog) wr 137 9 5 Tryz.underlying137 Tryz.underlying5 Tryz.underlying9 Hmid.out.bytes
            have m0 := Hmid.out.item.cell 0
            have m1 := Hmid.out.item.cell 1
            have m2 := Hmid.out.item.cell 2
            have m3 := Hmid.out.item.cell 3
            have m4 := Hmid.out.item.cell 4
            have g4 := Hmid.out.item.frozen 4
            have a0 := Hmid.out.res.cell 0
            have a1 := Hmid.out.res.cell 1
            have a2 := Hmid.out.res.cell 2
            have a3 := Hmid.out.res.cell 3
            have a4 := Hmid.out.res.cell 4
            have a5 := Hmid.out.res.cell 5
            have z0 := Hmid.out.res.frozen 0
            have z1 := Hmid.out.res.frozen 1
            have z2 := Hmid.out.res.frozen 2
            have z3 := Hmid.out.res.frozen 3
            have z4 := Hmid.out.res.frozen 4
            have z5 := Hmid.out.res.frozen 5
            simp at m0 m1 m2 m3 m4 a0 a1 a2 a3 a4 a5
            go_wp2
            go_region
            go_wp2
            refine bodyPost_ret (v := .tuple #[.agg #[.int .i64 3, .int .i64 0, .int .i64 most, .int .i64 0, .string (ofB (unp ws j)), .slice A3 nw c3], .slice A2 (m - nw) (c1 - nw), .bool true]) (by simp [results, Tryz.results60, go_sem, a0, a1, a2, a3, a4, a5]) rfl ?_
            have hdl : (xs.drop nw).length = m - nw := by rw [List.length_drop, Hxl.out]
            have hwn : textR (some (j :: xs)) = some (ofB (unp ws j), xs.drop nw) := by
              have h9 := Hxl.out
              have h8 := Hpad.out
              rw [← Hws.out] at h8
              simp only [textR, Hcn.out, ← Hnw.out, ← Hws.out]
              rw [if_pos ⟨by omega, h8⟩]
            refine ⟨?_, .inl ⟨most, ofB (unp ws j), A3, nw, c3, xs.drop nw, A2, c1 - nw, hwn, by rw [hdl], Hs2.out, by rw [hdl]; omega, by have := Hcm.out; omega, by simp; omega⟩⟩
            repeat (first | with_reducible exact Hmid.out.fr | (with_reducible refine Fr.drew ?_) | (with_reducible refine Fr.setCell ?_ (.inr (by simp)) _))
    · have hd3 : ((m : Int) < (nw : Int)) := by omega
      have Hno : Hid (textR (some (u :: xs)) = none) := Lib.hid (by
        have hul2 : ¬ nw ≤ xs.length := by have := Hn.out; omega
        simp [textR, hcn, ← hnw, hul2])
      clear hnw hcn
      go_enter Tryz.func60, Tryz.ntmps60
      go_wp2
      refine bodyPost_ret (v := .tuple #[.agg #[.int .i64 3, .int .i64 0, .int .i64 most, .int .i64 0, .string ⟨#[]⟩, .slice none 0 0], .slice (some ad) (m + 1) (c1 + 1), .bool false]) (by simp [results, Tryz.results60, go_sem]) rfl ⟨(by repeat (first | exact Fr.refl _ _ | refine Fr.alloc ?_ _ | refine Fr.setCell ?_ (.inr (by simp)) _)), .inr ⟨_, _, _, _, _, Hno.out, rfl⟩⟩

theorem rdT_nil (m : Int) (A : Option Addr) (c B : Nat) (w : World) : Calls Tryz.prog 60 #[.slice A 0 c, .int .i64 3, .int .i64 m] w (RdT w B [] none) := by
  go_enter Tryz.func60, Tryz.ntmps60
  go_wp2
  refine bodyPost_ret (v := .tuple #[.agg #[.int .i64 3, .int .i64 0, .int .i64 m, .int .i64 0, .string ⟨#[]⟩, .slice none 0 0], .slice A 0 c, .bool false]) (by simp [results, Tryz.results60, go_sem]) rfl ⟨((Fr.refl _ _).alloc _).alloc _, .inr ⟨m, none, 0, 0, _, rfl, rfl⟩⟩
theorem rdT_any (m : Int) (xs : List Nat) (A : Option Addr) (n c B : Nat) (w : World) (hBw : B ≤ w.heap.size) (hsl : Sl w B A (u64s xs)) (hn : xs.length = n) (hnc : n ≤ c) (hcm : c ≤ maxLen) (hn300 : n ≤ 1000000) (hu : ∀ u ∈ xs, u < 18446744073709551616) :
    Calls Tryz.prog 60 #[.slice A n c, .int .i64 3, .int .i64 m] w (RdT w B xs (textR (some xs))) := by
  match xs, hn, hsl, hu with
  | [], hn, _, _ =>
    obtain rfl : n = 0 := by simpa using hn.symm
    exact rdT_nil m A c B w
  | u :: r, hn, hsl, hu => exact rdT_cons u r m A n c w B hBw hsl (by simpa using hn) hnc hcm (hu u (by simp)) hn300 (fun x hx => hu x (by simp [hx]))
end Go.Proofs.YtbemfomiiikpoaaGreat
/- A text that the document's reader reads. -/
namespace Go.Proofs.YtbemfomiiikpoaaGreat
open Go.RowKit

/-- What a call that reads a text leaves and tells. -/
def ItmT (w : World) (B q : Nat) (o : Option (ByteArray × List Nat)) (e : Ending) (w' : World) : Prop :=
  ∃ (k n m x : Int) (D : Option Addr) (d dc : Nat), e = .returned (.agg #[.int .i64 k, .int .i64 n, .int .i64 m, .int .i64 x, .string ((o.map (·.1)).getD ⟨#[]⟩), .slice D d dc]) ∧ RR w' B q (o.map (·.2)) ∧ Fr (Only q) w w'
theorem textR_64 {xs : List Nat} (h : ∀ u ∈ xs, u < 18446744073709551616) : ∀ y, textR (some xs) = some y → ∀ u ∈ y.2, u < 18446744073709551616 := by
  intro y hy u hu
  unfold textR at hy
  cases hc : cntR 64 (some xs) with
  | none => rw [hc] at hy; cases hy
  | some z =>
    obtain ⟨n, r⟩ := z
    rw [hc] at hy
    simp only at hy
    split at hy
    · simp only [Option.some.injEq] at hy
      rw [← hy] at hu
      have h1 := List.mem_of_mem_drop hu
      cases xs with
      | nil => simp [cntR] at hc
      | cons a s =>
        simp only [cntR] at hc
        split at hc
        · simp only [Option.some.injEq, Prod.mk.injEq] at hc
          exact h u (by rw [← hc.2] at h1; simp [h1])
        · cases hc
    · cases hy

set_option maxHeartbeats 4000000 in
theorem itemT_some (m : Int) (q B : Nat) (xs : List Nat) (o : Option (ByteArray × List Nat)) (w : World) (hr : RR w B q (some xs))
    (hC : ∀ (A : Option Addr) (n c : Nat) (W : World), Fr No w W → Sl W B A (u64s xs) → xs.length = n → n ≤ c → c ≤ maxLen → Calls Tryz.prog 60 #[.slice A n c, .int .i64 3, .int .i64 m] W (RdT W B xs o)) (ho64 : ∀ y, o = some y → ∀ u ∈ y.2, u < 18446744073709551616) :
    Calls Tryz.prog 32 #[.pointer (some ⟨q, 0, none⟩), .int .i64 3, .int .i64 m] w (ItmT w B q o) := by
  obtain ⟨A, n, c, hb, hB, hx⟩ := hr
  obtain ⟨a1, a2, a3, a4, a5⟩ := hx xs rfl
  have hql := hb.lt
  have hf0 : Fr No w (w.alloc (.cells #[.int .i64 0, .int .i64 0, .int .i64 0, .int .i64 0, .string ⟨#[]⟩, .slice none 0 0] 77)) := (Fr.refl _ _).alloc _
  have hb0 := hb.fr hf0 (fun e => e)
  have hX0 := Bk.made w 77 #[.int .i64 0, .int .i64 0, .int .i64 0, .int .i64 0, .string ⟨#[]⟩, .slice none 0 0]
  have k0 := hb.cell 0
  have k1 := hb.cell 1
  simp at k0 k1
  have HC := Lib.hid (hC A n c _ hf0 (a4.fr hf0 (by omega) (fun _ _ _ e => e)) a1 a2 a3)
  have H64 := Lib.hid ho64
  have Hb0 := Lib.hid hb0
  have HX0 := Lib.hid hX0
  have hFO : Hid (Fr (Only q) w (w.alloc (.cells #[.int .i64 0, .int .i64 0, .int .i64 0, .int .i64 0, .string ⟨#[]⟩, .slice none 0 0] 77))) := Lib.hid (hf0.weak (fun _ _ h => h.elim))
  clear hC ho64 hx a1 a2 a3 a4 a5 hb hb0 hX0 hf0
  go_enter Tryz.func32, Tryz.ntmps32
  go_wp2_with fail
  refine (HC.out).mono ?_
  rintro e w1 ⟨hf1, ⟨m2, s2, D2, d2, dc2, r, A2, c2, ho, rfl, hs2, hc2, hcm2, hl2⟩ | ⟨m2, P2, p2, q2, v, ho, rfl⟩⟩
  · have hb1 := Hb0.out.fr hf1 (fun e => e)
    have hX1 := HX0.out.fr hf1 (fun e => e)
    have hql1 := hb1.lt
    have hXl1 := hX1.lt
    have hne : ¬ w.heap.size = q := by omega
    have hne' : ¬ q = w.heap.size := by omega
    have z0 := hb1.frozen 0
    have j0 := hb1.cell 0
    simp at j0
    have y0 := hX1.frozen 0
    have y1 := hX1.frozen 1
    have y2 := hX1.frozen 2
    have y3 := hX1.frozen 3
    have y4 := hX1.frozen 4
    have y5 := hX1.frozen 5
    have u0 := hX1.cell 0
    have u1 := hX1.cell 1
    have u2 := hX1.cell 2
    have u3 := hX1.cell 3
    have u4 := hX1.cell 4
    have u5 := hX1.cell 5
    simp at u0 u1 u2 u3 u4 u5
    have Ho := Lib.hid ho
    have Hs2 := Lib.hid hs2
    clear ho hs2
    have hfin : ItmT w B q o (.returned (.agg #[.int .i64 3, .int .i64 0, .int .i64 m2, .int .i64 0, .string s2, .slice D2 d2 dc2])) ((((((((w1.setCell ⟨q, 0, none⟩ (.slice A2 r.length c2)).setCell ⟨w.heap.size, 0, none⟩ (.int .i64 3)).setCell ⟨w.heap.size, 1, none⟩ (.int .i64 0)).setCell ⟨w.heap.size, 2, none⟩ (.int .i64 m2)).setCell ⟨w.heap.size, 3, none⟩ (.int .i64 0)).setCell ⟨w.heap.size, 4, none⟩ (.string s2)).setCell ⟨w.heap.size, 5, none⟩ (.slice D2 d2 dc2)).alloc (.cells #[.int .i64 3, .int .i64 0, .int .i64 m2, .int .i64 0, .string s2, .slice D2 d2 dc2] 77)) := by
      refine ⟨3, 0, m2, 0, D2, d2, dc2, by rw [Ho.out]; rfl, ?_, (((((((((hFO.out.trans' hf1 (fun _ _ e => e.elim)).setCell (p := ⟨q, 0, none⟩) (.inl rfl) (.slice A2 r.length c2)).setCell (p := ⟨w.heap.size, 0, none⟩) (.inr (Nat.le_refl _)) (.int .i64 3)).setCell (p := ⟨w.heap.size, 1, none⟩) (.inr (Nat.le_refl _)) (.int .i64 0)).setCell (p := ⟨w.heap.size, 2, none⟩) (.inr (Nat.le_refl _)) (.int .i64 m2)).setCell (p := ⟨w.heap.size, 3, none⟩) (.inr (Nat.le_refl _)) (.int .i64 0)).setCell (p := ⟨w.heap.size, 4, none⟩) (.inr (Nat.le_refl _)) (.string s2)).setCell (p := ⟨w.heap.size, 5, none⟩) (.inr (Nat.le_refl _)) (.slice D2 d2 dc2)).alloc _)⟩
      rw [Ho.out]
      have bq := (hb1.put 0 (.slice A2 r.length c2)).fr ((((((((Fr.refl (Only w.heap.size) (w1.setCell ⟨q, 0, none⟩ (.slice A2 r.length c2))).setCell (p := ⟨w.heap.size, 0, none⟩) (.inl rfl) (.int .i64 3)).setCell (p := ⟨w.heap.size, 1, none⟩) (.inl rfl) (.int .i64 0)).setCell (p := ⟨w.heap.size, 2, none⟩) (.inl rfl) (.int .i64 m2)).setCell (p := ⟨w.heap.size, 3, none⟩) (.inl rfl) (.int .i64 0)).setCell (p := ⟨w.heap.size, 4, none⟩) (.inl rfl) (.string s2)).setCell (p := ⟨w.heap.size, 5, none⟩) (.inl rfl) (.slice D2 d2 dc2)).alloc (.cells #[.int .i64 3, .int .i64 0, .int .i64 m2, .int .i64 0, .string s2, .slice D2 d2 dc2] 77)) (fun e => hne' e)
      refine ⟨A2, r.length, c2, by simpa using bq, hB, fun ys e => ?_⟩
      simp only [Option.map_some, Option.some.injEq] at e
      subst e
      have h1 : Sl w1 B A2 (u64s r) := Hs2.out.fr hf1 (by simp; omega) (fun _ _ _ e => e)
      refine ⟨rfl, hc2, hcm2, h1.fr (((((((((Fr.refl (fun k => k = q ∨ k = w.heap.size) w1).setCell (p := ⟨q, 0, none⟩) (.inl (.inl rfl)) (.slice A2 r.length c2)).setCell (p := ⟨w.heap.size, 0, none⟩) (.inl (.inr rfl)) (.int .i64 3)).setCell (p := ⟨w.heap.size, 1, none⟩) (.inl (.inr rfl)) (.int .i64 0)).setCell (p := ⟨w.heap.size, 2, none⟩) (.inl (.inr rfl)) (.int .i64 m2)).setCell (p := ⟨w.heap.size, 3, none⟩) (.inl (.inr rfl)) (.int .i64 0)).setCell (p := ⟨w.heap.size, 4, none⟩) (.inl (.inr rfl)) (.string s2)).setCell (p := ⟨w.heap.size, 5, none⟩) (.inl (.inr rfl)) (.slice D2 d2 dc2)).alloc (.cells #[.int .i64 3, .int .i64 0, .int .i64 m2, .int .i64 0, .string s2, .slice D2 d2 dc2] 77)) (by omega) (fun ad e hn hs => ?_), H64.out _ Ho.out⟩
      obtain ⟨ad', e', hlt, _⟩ := h1 hn
      rw [e] at e'
      injection e' with e'
      subst e'
      rcases hs with hs | hs <;> omega
    have HF := Lib.hid hfin
    have bX := (((((((hX1.fr ((Fr.refl (Only q) w1).setCell (p := ⟨q, 0, none⟩) (.inl rfl) (.slice A2 r.length c2)) hne).put 0 (.int .i64 3)).put 1 (.int .i64 0)).put 2 (.int .i64 m2)).put 3 (.int .i64 0)).put 4 (.string s2)).put 5 (.slice D2 d2 dc2)).fr ((Fr.refl No _).alloc (.cells #[.int .i64 3, .int .i64 0, .int .i64 m2, .int .i64 0, .string s2, .slice D2 d2 dc2] 77)) (fun e => e)
    have m0 := bX.cell 0
    have m1 := bX.cell 1
    have m2' := bX.cell 2
    have m3 := bX.cell 3
    have m4 := bX.cell 4
    have m5 := bX.cell 5
    simp at m0 m1 m2' m3 m4 m5
    have M : Hid (_ ∧ _ ∧ _ ∧ _ ∧ _ ∧ _) := Lib.hid ⟨m0, m1, m2', m3, m4, m5⟩
    clear hfin bX m0 m1 m2' m3 m4 m5
    go_wp2
    obtain ⟨m0, m1, m2', m3, m4, m5⟩ := M.out
    exact bodyPost_ret (v := .agg #[.int .i64 3, .int .i64 0, .int .i64 m2, .int .i64 0, .string s2, .slice D2 d2 dc2]) (by simp [results, Tryz.results32, go_sem, m0, m1, m2', m3, m4, m5]) rfl HF.out
  · have hb1 := Hb0.out.fr hf1 (fun e => e)
    have hX1 := HX0.out.fr hf1 (fun e => e)
    have hql1 := hb1.lt
    have hXl1 := hX1.lt
    have hne : ¬ w.heap.size = q := by omega
    have z1 := hb1.frozen 1
    have j1 := hb1.cell 1
    simp at j1
    have y0 := hX1.frozen 0
    have y1 := hX1.frozen 1
    have y2 := hX1.frozen 2
    have y3 := hX1.frozen 3
    have y4 := hX1.frozen 4
    have y5 := hX1.frozen 5
    have u0 := hX1.cell 0
    have u1 := hX1.cell 1
    have u2 := hX1.cell 2
    have u3 := hX1.cell 3
    have u4 := hX1.cell 4
    have u5 := hX1.cell 5
    simp at u0 u1 u2 u3 u4 u5
    have Ho := Lib.hid ho
    clear ho
    have hfin : ItmT w B q o (.returned (.agg #[.int .i64 0, .int .i64 0, .int .i64 0, .int .i64 0, .string ⟨#[]⟩, .slice none 0 0])) ((((((((w1.setCell ⟨q, 1, none⟩ (.bool true)).setCell ⟨w.heap.size, 0, none⟩ (.int .i64 0)).setCell ⟨w.heap.size, 1, none⟩ (.int .i64 0)).setCell ⟨w.heap.size, 2, none⟩ (.int .i64 0)).setCell ⟨w.heap.size, 3, none⟩ (.int .i64 0)).setCell ⟨w.heap.size, 4, none⟩ (.string ⟨#[]⟩)).setCell ⟨w.heap.size, 5, none⟩ (.slice none 0 0)).alloc (.cells #[.int .i64 3, .int .i64 0, .int .i64 m2, .int .i64 0, .string ⟨#[]⟩, .slice P2 p2 q2] 77)) := by
      refine ⟨0, 0, 0, 0, none, 0, 0, by rw [Ho.out]; rfl, ?_, (((((((((hFO.out.trans' hf1 (fun _ _ e => e.elim)).setCell (p := ⟨q, 1, none⟩) (.inl rfl) (.bool true)).setCell (p := ⟨w.heap.size, 0, none⟩) (.inr (Nat.le_refl _)) (.int .i64 0)).setCell (p := ⟨w.heap.size, 1, none⟩) (.inr (Nat.le_refl _)) (.int .i64 0)).setCell (p := ⟨w.heap.size, 2, none⟩) (.inr (Nat.le_refl _)) (.int .i64 0)).setCell (p := ⟨w.heap.size, 3, none⟩) (.inr (Nat.le_refl _)) (.int .i64 0)).setCell (p := ⟨w.heap.size, 4, none⟩) (.inr (Nat.le_refl _)) (.string ⟨#[]⟩)).setCell (p := ⟨w.heap.size, 5, none⟩) (.inr (Nat.le_refl _)) (.slice none 0 0)).alloc _)⟩
      rw [Ho.out]
      have bq := (hb1.put 1 (.bool true)).fr ((((((((Fr.refl (Only w.heap.size) (w1.setCell ⟨q, 1, none⟩ (.bool true))).setCell (p := ⟨w.heap.size, 0, none⟩) (.inl rfl) (.int .i64 0)).setCell (p := ⟨w.heap.size, 1, none⟩) (.inl rfl) (.int .i64 0)).setCell (p := ⟨w.heap.size, 2, none⟩) (.inl rfl) (.int .i64 0)).setCell (p := ⟨w.heap.size, 3, none⟩) (.inl rfl) (.int .i64 0)).setCell (p := ⟨w.heap.size, 4, none⟩) (.inl rfl) (.string ⟨#[]⟩)).setCell (p := ⟨w.heap.size, 5, none⟩) (.inl rfl) (.slice none 0 0)).alloc (.cells #[.int .i64 3, .int .i64 0, .int .i64 m2, .int .i64 0, .string ⟨#[]⟩, .slice P2 p2 q2] 77)) (fun e => hne e.symm)
      exact ⟨A, n, c, by simpa using bq, hB, fun ys e => by cases e⟩
    have HF := Lib.hid hfin
    have bX := (((((((hX1.fr ((Fr.refl (Only q) w1).setCell (p := ⟨q, 1, none⟩) (.inl rfl) (.bool true)) hne).put 0 (.int .i64 0)).put 1 (.int .i64 0)).put 2 (.int .i64 0)).put 3 (.int .i64 0)).put 4 (.string ⟨#[]⟩)).put 5 (.slice none 0 0)).fr ((Fr.refl No _).alloc (.cells #[.int .i64 3, .int .i64 0, .int .i64 m2, .int .i64 0, .string ⟨#[]⟩, .slice P2 p2 q2] 77)) (fun e => e)
    have m0 := bX.cell 0
    have m1 := bX.cell 1
    have m2' := bX.cell 2
    have m3 := bX.cell 3
    have m4 := bX.cell 4
    have m5 := bX.cell 5
    simp at m0 m1 m2' m3 m4 m5
    have M : Hid (_ ∧ _ ∧ _ ∧ _ ∧ _ ∧ _) := Lib.hid ⟨m0, m1, m2', m3, m4, m5⟩
    clear hfin bX m0 m1 m2' m3 m4 m5
    go_wp2
    obtain ⟨m0, m1, m2', m3, m4, m5⟩ := M.out
    exact bodyPost_ret (v := .agg #[.int .i64 0, .int .i64 0, .int .i64 0, .int .i64 0, .string ⟨#[]⟩, .slice none 0 0]) (by simp [results, Tryz.results32, go_sem, m0, m1, m2', m3, m4, m5]) rfl HF.out

def txS (st : Option (List Nat)) : Option (List Nat) := (textR st).map (·.2)
def txV (st : Option (List Nat)) : ByteArray := ((textR st).map (·.1)).getD ⟨#[]⟩
set_option maxHeartbeats 1000000 in
theorem itemT_none (m : Int) (q B : Nat) (w : World) (hr : RR w B q none) :
    Calls Tryz.prog 32 #[.pointer (some ⟨q, 0, none⟩), .int .i64 3, .int .i64 m] w (ItmT w B q none) := by
  refine (item_none 3 m q B w hr).mono ?_
  rintro e w' ⟨k, m', rfl, h2, h3⟩
  exact ⟨k, 0, m', 0, none, 0, 0, rfl, h2, h3⟩
/-- A text. -/
theorem itemT_any (m : Int) (q B : Nat) (st : Option (List Nat)) (w : World) (hr : RR w B q st) (hl : ∀ xs, st = some xs → xs.length ≤ 1000000) :
    Calls Tryz.prog 32 #[.pointer (some ⟨q, 0, none⟩), .int .i64 3, .int .i64 m] w fun e w' => ∃ (k n m x : Int) (D : Option Addr) (d dc : Nat), e = .returned (.agg #[.int .i64 k, .int .i64 n, .int .i64 m, .int .i64 x, .string (txV st), .slice D d dc]) ∧ RR w' B q (txS st) ∧ Fr (Only q) w w' := by
  have h : Calls Tryz.prog 32 #[.pointer (some ⟨q, 0, none⟩), .int .i64 3, .int .i64 m] w (ItmT w B q (textR st)) := by
    cases st with
    | none => exact itemT_none m q B w hr
    | some xs => exact itemT_some m q B xs (textR (some xs)) w hr (fun A n c W hW hs h1 h2 h3 => rdT_any m xs A n c B W (by obtain ⟨_, _, _, k1, k2, _⟩ := hr; have := k1.lt; have := hW.size; omega) hs h1 h2 h3 (by have := hl xs rfl; omega) hr.words) (textR_64 hr.words)
  exact h
end Go.Proofs.YtbemfomiiikpoaaGreat
