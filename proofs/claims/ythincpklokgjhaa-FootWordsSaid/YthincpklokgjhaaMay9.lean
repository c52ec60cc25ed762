/- Which templates, instructions, programs and arguments may be, as the document has it. -/
import Derived.Test.YthincpklokgjhaaIdx9
import Derived.Deep.RegionHeld3
namespace Go.Proofs.Ythincpklokgjhaa
open Go.RowKit

set_option maxHeartbeats 400000 in
theorem refMayKey_any (k : Int × Int) (n : Int) (w : World) : Calls Try.prog 34 #[kcell k, .int .i64 n] w (Has w (keyOk k.1 k.2 n)) := by
  obtain ⟨x, y⟩ := k
  simp only [kcell]
  by_cases h1 : -1 ≤ x
  · by_cases h2 : x < n
    · by_cases h3 : 0 ≤ y
      · have Hb : Hid (keyOk x y n = decide (y ≤ 900)) := Lib.hid (by rw [Bool.eq_iff_iff, keyOk_iff, decide_eq_true_eq]; omega)
        have d1 : decide (-1 ≤ x) = true := by simpa using h1
        have d2 : decide (x < n) = true := by simpa using h2
        have d3 : decide (0 ≤ y) = true := by simpa using h3
        go_enter Try.func34, Try.ntmps34
        go_wp2
        go_ret
        exact ⟨by rw [Hb.out]; rfl, (Fr.refl _ _).alloc _⟩
      · have Hb : Hid (keyOk x y n = false) := Lib.hid (by rw [Bool.eq_false_iff]; intro e; rw [keyOk_iff] at e; omega)
        have d1 : decide (-1 ≤ x) = true := by simpa using h1
        have d2 : decide (x < n) = true := by simpa using h2
        have d3 : decide (0 ≤ y) = false := by simpa using h3
        go_enter Try.func34, Try.ntmps34
        go_wp2
        go_ret
        exact ⟨by rw [Hb.out]; rfl, (Fr.refl _ _).alloc _⟩
    · have Hb : Hid (keyOk x y n = false) := Lib.hid (by rw [Bool.eq_false_iff]; intro e; rw [keyOk_iff] at e; omega)
      have d1 : decide (-1 ≤ x) = true := by simpa using h1
      have d2 : decide (x < n) = false := by simpa using h2
      go_enter Try.func34, Try.ntmps34
      go_wp2
      go_ret
      exact ⟨by rw [Hb.out]; rfl, (Fr.refl _ _).alloc _⟩
  · have Hb : Hid (keyOk x y n = false) := Lib.hid (by rw [Bool.eq_false_iff]; intro e; rw [keyOk_iff] at e; omega)
    have d1 : decide (-1 ≤ x) = false := by simpa using h1
    go_enter Try.func34, Try.ntmps34
    go_wp2
    go_ret
    exact ⟨by rw [Hb.out]; rfl, (Fr.refl _ _).alloc _⟩

theorem Sl.int9 {w : World} {B : Nat} {A : Option Addr} {l : List Int} (h : Sl w B A (ints l)) {k : Nat} (hk : k < l.length) : ∃ ad, A = some ad ∧ ad.block < B ∧ w.cell? (ad.add k) = some (.int .i64 l[k]) := by
  obtain ⟨ad, e, hb, hc⟩ := h.at (k := k) (by simpa [ints] using hk)
  exact ⟨ad, e, hb, by rw [hc]; simp [ints]⟩

set_option maxHeartbeats 400000 in
theorem refArgs_any (l : List Int) (A : Option Addr) (n c : Nat) (w : World) (hsl : Sl w w.heap.size A (ints l)) (hn : l.length = n) (hnm : n ≤ 1099511627776) :
    Calls Try.prog 35 #[.slice A n c] w (Has w (argsOk l)) := by
  have Hn := Lib.hid hn
  have Hsl := Lib.hid hsl
  clear hn hsl
  go_enter Try.func35, Try.ntmps35
  go_wp2
  go_loopw [3] (fun i wr => ∃ k : Nat, k ≤ n ∧ i = .int .i64 k ∧ Hid ((l.take k).all (fun a => decide (0 ≤ a ∧ a ≤ 99)) = true) ∧ Hid (∃ q, wr = w.drewN q)) (fun i _ => n - (intOf i).toNat)
  case atStart => exact ⟨0, Nat.zero_le _, rfl, Lib.hid (by simp), Lib.hid ⟨0, rfl⟩⟩
  case round =>
    obtain ⟨k, hk, rfl, hpre, hwr⟩ := hrel
    obtain ⟨q, rfl⟩ := hwr.out
    by_cases hlt : k < n
    · have hkl : k < l.length := by rw [Hn.out]; exact hlt
      obtain ⟨ad, rfl, hab, hc⟩ := Hsl.out.int9 hkl
      have Hs : Hid (l.take (k + 1) = l.take k ++ [l[k]]) := Lib.hid (List.take_succ_eq_append_getElem hkl)
      have Hf : Hid (¬ (0 ≤ l[k] ∧ l[k] ≤ 99) → argsOk l = false) := Lib.hid (by
        intro h
        rw [Bool.eq_false_iff]
        intro e
        unfold argsOk at e
        rw [Bool.and_eq_true, List.all_eq_true] at e
        have := e.1 _ (List.getElem_mem hkl)
        rw [decide_eq_true_eq] at this
        exact h this)
      generalize l[k] = x at *
      by_cases h0 : x < 0
      · have d0 : decide (x < 0) = true := by simpa using h0
        go_wp2
        go_ret
        exact ⟨by rw [Hf.out (by omega)]; rfl, (Fr.refl _ _).drewN _⟩
      · have d0 : decide (x < 0) = false := by simpa using h0
        by_cases h9 : 99 < x
        · have d9 : decide (99 < x) = true := by simpa using h9
          go_wp2
          go_ret
          exact ⟨by rw [Hf.out (by omega)]; rfl, (Fr.refl _ _).drewN _⟩
        · have d9 : decide (99 < x) = false := by simpa using h9
          go_wp2
          go_roundw
          case rel =>
            refine ⟨k + 1, by omega, by go_num, Lib.hid ?_, Lib.hid ⟨_, rfl⟩⟩
            rw [Hs.out, List.all_append, hpre.out]
            simp
            omega
          case measure => simp [intOf]; omega
    · obtain rfl : k = n := by omega
      have Hr : Hid (argsOk l = decide ((k : Int) ≤ 3)) := Lib.hid (by
        have h1 := hpre.out
        rw [List.take_of_length_le (by rw [Hn.out]; exact Nat.le_refl _)] at h1
        rw [argsOk, h1, Hn.out, Bool.eq_iff_iff]
        simp
        omega)
      go_wp2
      go_ret
      exact ⟨by rw [Hr.out]; rfl, (Fr.refl _ _).drewN _⟩

set_option maxHeartbeats 400000 in
theorem refKey_any (x y : Int) (l : List Int) (A : Option Addr) (n c : Nat) (w : World) (hsl : Sl w w.heap.size A (ints l)) (hn : l.length = n) (hx : x < n) (hr : keyOk x y n = true) (ha : argsOk l = true) :
    Calls Try.prog 36 #[.agg #[.int .i64 x, .int .i64 y], .slice A n c] w fun e w' => e = .returned (.int .i64 (keyOf x y l)) ∧ Fr No w w' := by
  have hrg := keyOf_range (l := l) (by rw [hn]; exact hr) ha
  by_cases h : x < 0
  · have d0 : decide (x < 0) = true := by simpa using h
    have Hk : Hid (keyOf x y l = y) := Lib.hid (by simp [keyOf, h])
    clear hr hrg ha
    go_enter Try.func36, Try.ntmps36
    go_wp2
    go_ret
    exact ⟨by rw [Hk.out]; rfl, (Fr.refl _ _).alloc _⟩
  · obtain ⟨j, rfl⟩ : ∃ j : Nat, x = j := ⟨x.toNat, by omega⟩
    have hjl : j < l.length := by omega
    have hjn : j < n := by omega
    obtain ⟨ad, rfl, hab, hc⟩ := hsl.int9 hjl
    have hk : keyOf j y l = y + l[j] := by simp [keyOf, h, hjl]
    rw [hk] at hrg ⊢
    generalize l[j] = a at *
    have hw : wrap64 (y + a) = y + a := by unfold wrap64; omega
    have hc2 : (w.alloc (.cells #[.int .i64 (j : Int), .int .i64 y] 58)).cell? (ad.add j) = some (.int .i64 a) := (World.cell?_alloc_lt w _ _ (by rw [block_add]; exact hab)).trans hc
    clear hr ha hsl hk
    go_enter Try.func36, Try.ntmps36
    go_wp2
    go_region
    go_wp2
    go_ret
    exact ⟨by simp [hw], ((Fr.refl _ _).alloc _).drew⟩
end Go.Proofs.Ythincpklokgjhaa
/- Which templates, instructions and programs package prog says may be. -/
namespace Go.Proofs.Ythincpklokgjhaa
open Go.RowKit

theorem Sl.int1 (w : World) (x : Int) (t : TypeId) (H : Nat) (hH : H = w.heap.size) : Sl (w.alloc (.cells #[.int .i64 x] t)) (w.alloc (.cells #[.int .i64 x] t)).heap.size (some ⟨H, 0, none⟩) (ints [x]) := by
  subst hH
  have h := Sl.made w t #[.int .i64 x]
  rw [show (w.alloc (.cells #[.int .i64 x] t)).heap.size = w.heap.size + 1 by simp]
  exact h

set_option maxHeartbeats 400000 in
theorem in1_any (x lo hi : Int) (p q : Addr) (w : World) (hp : w.cell? p = some (.int .i64 lo)) (hq : w.cell? q = some (.int .i64 hi)) :
    Calls Try.prog 85 #[.int .i64 x, .pointer (some p), .pointer (some q)] w (Has w (decide (x < lo ∨ hi < x))) := by
  by_cases h : x < lo
  · have h1 : decide (x < lo) = true := by simpa using h
    go_enter Try.func85, Try.ntmps85
    go_wp2
    go_ret
    exact ⟨by simp [h], Fr.refl _ _⟩
  · have h1 : decide (x < lo) = false := by simpa using h
    go_enter Try.func85, Try.ntmps85
    go_wp2
    go_ret
    exact ⟨by simp [h], Fr.refl _ _⟩

set_option maxHeartbeats 400000 in
theorem within_any (lo hi : Int) (l : List Int) (A : Option Addr) (n c : Nat) (w : World) (hsl : Sl w w.heap.size A (ints l)) (hn : l.length = n) (hnm : n ≤ 1099511627776) :
    Calls Try.prog 78 #[.int .i64 lo, .int .i64 hi, .slice A n c] w (Has w (l.all fun x => decide (lo ≤ x ∧ x ≤ hi))) := by
  have Hb : Hid ((!l.any fun x => decide (x < lo ∨ hi < x)) = l.all fun x => decide (lo ≤ x ∧ x ≤ hi)) := Lib.hid (by
    rw [List.not_any_eq_all_not]
    congr 1
    funext x
    rw [Bool.eq_iff_iff]
    simp)
  have hf2 : Fr No w ((w.alloc (.cells #[.int .i64 lo] 3)).alloc (.cells #[.int .i64 hi] 3)) := ((Fr.refl _ _).alloc _).alloc _
  have Hc := Lib.hid (hasInt l A n c ⟨w.heap.size, 0, none⟩ ⟨w.heap.size + 1, 0, none⟩ (fun x => decide (x < lo ∨ hi < x)) _ (hsl.since hf2) hn hnm (fun x _ W hW => (in1_any x lo hi _ _ W ((hW.cell (by simp; omega) (fun e => e)).trans (by simp)) ((hW.cell (by simp) (fun e => e)).trans (by simp)))))
  generalize (l.any fun x => decide (x < lo ∨ hi < x)) = b at *
  clear hsl hn
  go_enter Try.func78, Try.ntmps78
  go_wp2_with fail
  refine (Hc.out).mono ?_
  rintro e w1 ⟨rfl, hf1⟩
  go_wp2
  go_ret
  exact ⟨by rw [← Hb.out]; rfl, hf2.then0 hf1 (fun _ h => h.elim)⟩

set_option maxHeartbeats 400000 in
theorem mayArgs_any (n : Int) (w : World) : Calls Try.prog 76 #[.int .i64 n] w (Has w (decide (0 ≤ n ∧ n ≤ 3))) := by
  have Hc := Lib.hid (within_any 0 3 [n] _ 1 1 _ (Sl.int1 w n 3 _ rfl) rfl (by omega))
  go_enter Try.func76, Try.ntmps76
  go_wp2_with fail
  refine (Hc.out).mono ?_
  rintro e w1 ⟨rfl, hf1⟩
  go_wp2
  go_ret
  exact ⟨by simp, ((Fr.refl _ _).alloc _).then0 hf1 (fun _ h => h.elim)⟩

set_option maxHeartbeats 1000000 in
theorem key1_any (k : Int × Int) (n : Int) (p : Addr) (w : World) (hp : w.cell? p = some (.int .i64 n)) (hpb : p.block < w.heap.size) (hn : 0 ≤ n ∧ n ≤ 3) :
    Calls Try.prog 83 #[kcell k, .pointer (some p)] w (Has w (!keyOk k.1 k.2 n)) := by
  obtain ⟨x, y⟩ := k
  have hp1 : (w.alloc (.cells #[.int .i64 x, .int .i64 y] 58)).cell? p = some (.int .i64 n) := (World.cell?_alloc_lt w _ p hpb).trans hp
  simp only [kcell]
  by_cases h : -1 ≤ x ∧ x ≤ n - 1
  · have C1 := fun (W : World) (hW : Sl W W.heap.size _ _) => (within_any (-1) (n - 1) [x] (some ⟨w.heap.size + 1, 0, none⟩) 1 1 W hW rfl (by omega))
    have hv : ([x].all fun x => decide (-1 ≤ x ∧ x ≤ n - 1)) = true := by simpa using h
    rw [hv] at C1
    have C2 := fun (W : World) (q : Nat) (hW : Sl W W.heap.size _ _) => (within_any 0 900 [y] (some ⟨q, 0, none⟩) 1 1 W hW rfl (by omega))
    have Hb : Hid ((![y].all fun x => decide (0 ≤ x ∧ x ≤ 900)) = !keyOk x y n) := Lib.hid (by
      rw [Bool.eq_iff_iff]
      simp [keyOk]
      omega)
    generalize ([y].all fun x => decide (0 ≤ x ∧ x ≤ 900)) = b at *
    go_enter Try.func83, Try.ntmps83
    go_wp2_with fail
    refine (C1 _ (Sl.int1 _ x _ _ (by simp))).mono ?_
    rintro e w1 ⟨rfl, hf1⟩
    have hc1 : w1.cell? ⟨w.heap.size, 1, none⟩ = some (.int .i64 y) := (hf1.cell (by simp; omega) (fun e => e)).trans (by simp)
    go_wp2_with fail
    refine (C2 _ _ (Sl.int1 _ y _ _ (by simp))).mono ?_
    rintro e w2 ⟨rfl, hf2⟩
    go_wp2
    go_ret
    exact ⟨by rw [← Hb.out]; rfl, ((((((Fr.refl No w).alloc _).alloc _).then0 hf1 (fun _ h => h.elim)).alloc _).then0 hf2 (fun _ h => h.elim))⟩
  · have C1 := fun (W : World) (hW : Sl W W.heap.size _ _) => (within_any (-1) (n - 1) [x] (some ⟨w.heap.size + 1, 0, none⟩) 1 1 W hW rfl (by omega))
    have hv : ([x].all fun x => decide (-1 ≤ x ∧ x ≤ n - 1)) = false := by simp; omega
    rw [hv] at C1
    have Hb : Hid (keyOk x y n = false) := Lib.hid (by simp [keyOk]; omega)
    go_enter Try.func83, Try.ntmps83
    go_wp2_with fail
    refine (C1 _ (Sl.int1 _ x _ _ (by simp))).mono ?_
    rintro e w1 ⟨rfl, hf1⟩
    go_wp2
    go_ret
    exact ⟨by rw [Hb.out]; rfl, (((Fr.refl No w).alloc _).alloc _).then0 hf1 (fun _ h => h.elim)⟩

set_option maxHeartbeats 400000 in
theorem mayKeys_any (n : Int) (l : List (Int × Int)) (A : Option Addr) (m c : Nat) (w : World) (hn : 0 ≤ n ∧ n ≤ 3) (hsl : Sl w w.heap.size A (l.flatMap kflat)) (hm : l.length = m) (hmm : m ≤ 1099511627776) :
    Calls Try.prog 77 #[.int .i64 n, .slice A m c] w (Has w (l.all fun k => keyOk k.1 k.2 n)) := by
  have Hb : Hid ((!l.any fun k => !keyOk k.1 k.2 n) = l.all fun k => keyOk k.1 k.2 n) := Lib.hid (by
    rw [List.not_any_eq_all_not]
    congr 1
    funext x
    simp)
  have hf2 : Fr No w (w.alloc (.cells #[.int .i64 n] 3)) := (Fr.refl _ _).alloc _
  have Hc := Lib.hid (hasKey l A m c ⟨w.heap.size, 0, none⟩ (fun k => !keyOk k.1 k.2 n) _ (hsl.since hf2) hm hmm (fun x _ W hW => (key1_any x n _ W ((hW.cell (by simp) (fun e => e)).trans (by simp)) (by have := hW.size; simp at this; simp; omega) hn)))
  generalize (l.any fun k => !keyOk k.1 k.2 n) = b at *
  clear hsl hm
  go_enter Try.func77, Try.ntmps77
  go_wp2_with fail
  refine (Hc.out).mono ?_
  rintro e w1 ⟨rfl, hf1⟩
  go_wp2
  go_ret
  exact ⟨by rw [← Hb.out]; rfl, hf2.then0 hf1 (fun _ h => h.elim)⟩

/-- The templates that an instruction has. -/
def tmpls (i : Ins) : List (Int × Int) := if i.op = 1 ∨ i.op = 2 ∨ i.op = 3 then [(i.ka, i.kb)] else if i.op = 4 then [(i.ka, i.kb), (i.la, i.lb)] else []
theorem tmpls_len (i : Ins) : (tmpls i).length ≤ 2 := by
  unfold tmpls
  split
  · simp
  · split <;> simp
theorem slMade (w : World) (t : TypeId) (cs : Array Value) (xs : List Value) (H : Nat) (hH : H = w.heap.size) (hl : cs.toList = xs) : Sl (w.alloc (.cells cs t)) (w.alloc (.cells cs t)).heap.size (some ⟨H, 0, none⟩) xs := by
  subst hH hl
  have h := Sl.made w t cs
  rw [show (w.alloc (.cells cs t)).heap.size = w.heap.size + 1 by simp]
  exact h
/-- What tells templates. -/
def Tells9 (w : World) (l : List (Int × Int)) (e : Ending) (w' : World) : Prop := ∃ A c, e = .returned (.slice A l.length c) ∧ Sl w' w'.heap.size A (l.flatMap kflat) ∧ Fr No w w'
/-- An instruction with nothing but what its Op has. -/
def ownI (i : Ins) : Ins :=
  if i.op = 1 ∨ i.op = 2 then ⟨i.op, i.a, 0, 0, i.ka, i.kb, 0, 0, 0⟩ else if i.op = 3 then ⟨i.op, 0, 0, 0, i.ka, i.kb, 0, 0, 0⟩ else if i.op = 4 then ⟨i.op, i.a, 0, 0, i.ka, i.kb, i.la, i.lb, 0⟩
  else if i.op = 6 ∨ i.op = 7 then ⟨i.op, i.a, i.b, i.c, 0, 0, 0, 0, 0⟩ else if i.op = 5 ∨ i.op = 8 then ⟨i.op, i.a, 0, 0, 0, 0, 0, 0, i.x⟩ else ⟨0, 0, 0, 0, 0, 0, 0, 0, 0⟩
end Go.Proofs.Ythincpklokgjhaa
/- Which instructions and programs package prog says may be, and which can't fail; a template's key. -/
namespace Go.Proofs.Ythincpklokgjhaa
open Go.RowKit

/-- Whether an instruction has nothing but what its Op has. -/
def sameI (i j : Ins) : Bool := i.op == j.op && (i.a == j.a && (i.b == j.b && (i.c == j.c && ((i.ka == j.ka && i.kb == j.kb) && ((i.la == j.la && i.lb == j.lb) && i.x == j.x)))))
theorem insOk_parts (i : Ins) (n : Int) : insOk i n = (decide (1 ≤ i.op ∧ i.op ≤ 8) && (sameI i (ownI i) && ([i.a, i.b, i.c].all (fun x => decide (0 ≤ x ∧ x ≤ 3)) && (tmpls i).all fun k => keyOk k.1 k.2 n))) := by
  obtain ⟨o, a, b, c, ka, kb, la, lb, x⟩ := i
  rw [Bool.eq_iff_iff, insOk_iff]
  by_cases h : 1 ≤ o ∧ o ≤ 8
  · rcases (show o = 1 ∨ o = 2 ∨ o = 3 ∨ o = 4 ∨ o = 5 ∨ o = 6 ∨ o = 7 ∨ o = 8 by omega) with rfl | rfl | rfl | rfl | rfl | rfl | rfl | rfl
    all_goals
      clear h
      simp [InsOk, ownI, sameI, tmpls, keyOk]
      omega
  · simp only [InsOk]
    simp [h]

theorem Has.since {a w : World} {b : Bool} {e : Ending} {w' : World} (ha : Fr No a w) (h : Has w b e w') : Has a b e w' := ⟨h.1, ha.then0 h.2 (fun _ h => h.elim)⟩

end Go.Proofs.Ythincpklokgjhaa
/- A template's key, as package prog has it. -/
namespace Go.Proofs.Ythincpklokgjhaa
open Go.RowKit

/-- A template's key for arguments, and whether there is one. -/
def keyV (x y : Int) (l : List Int) : Int × Bool := if (argsOk l && keyOk x y l.length) = true then (keyOf x y l, true) else (0, false)
def KeyGot (w : World) (r : Int × Bool) (e : Ending) (w' : World) : Prop := e = .returned (.tuple #[.int .i64 r.1, .bool r.2]) ∧ Fr No w w'
set_option maxHeartbeats 1000000 in
theorem key_any (x y : Int) (l : List Int) (A : Option Addr) (n c : Nat) (w : World) (hsl : Sl w w.heap.size A (ints l)) (hn : l.length = n) (hnm : n ≤ 1099511627776) :
    Calls Try.prog 65 #[kcell (x, y), .slice A n c] w (KeyGot w (keyV x y l)) := by
  have C0 := fun W => mayArgs_any (n : Int) W
  simp only [kcell]
  have hf0 : Fr No w (w.alloc (.cells #[.int .i64 x, .int .i64 y] 58)) := (Fr.refl _ _).alloc _
  have Hn := Lib.hid hn
  by_cases h3 : n ≤ 3
  · have e1 : decide (0 ≤ (n : Int) ∧ (n : Int) ≤ 3) = true := by simp; omega
    rw [e1] at C0
    have C1 := fun (W : World) (B : Option Addr) (hW : Sl W W.heap.size B _) => mayKeys_any (n : Int) [(x, y)] B 1 1 W (by omega) hW rfl (by omega)
    have hk1 : ([(x, y)].all fun k => keyOk k.1 k.2 n) = keyOk x y n := by simp
    rw [hk1] at C1
    have C2 := fun (W : World) (hW : Sl W W.heap.size A (ints l)) => within_any 0 99 l A n c W hW hn hnm
    have ha : argsOk l = l.all fun a => decide (0 ≤ a ∧ a ≤ 99) := by
      rw [argsOk, hn, show decide (n ≤ 3) = true by simpa using h3, Bool.and_true]
    rw [← ha] at C2
    have Hv : Hid (keyV x y l = if (argsOk l && keyOk x y n) = true then (keyOf x y l, true) else (0, false)) := Lib.hid (by rw [keyV, hn])
    have Hrg := Lib.hid (fun (h1 : keyOk x y n = true) (h2 : argsOk l = true) => keyOf_range (l := l) (by rw [hn]; exact h1) h2)
    have Hki := Lib.hid (fun (h1 : keyOk x y n = true) => (keyOk_iff x y n).1 h1)
    generalize keyOk x y n = rk at *
    generalize argsOk l = ra at *
    have HC2 := Lib.hid C2
    have Hsl := Lib.hid hsl
    clear hsl hn ha hk1 C2 e1
    go_enter Try.func65, Try.ntmps65
    go_wp2_with fail
    refine (C0 _).mono ?_
    rintro e w1 ⟨rfl, hf1⟩
    have hb1 : Bk w1 w.heap.size 58 #[.int .i64 x, .int .i64 y] := (Bk.made w _ _).fr hf1 (fun e => e)
    have hl1 := hb1.lt
    have g0 := hb1.cell 0
    have g1 := hb1.cell 1
    simp at g0 g1
    go_wp2_with fail
    refine (C1 _ _ (slMade _ _ _ _ _ (by simp) rfl)).mono ?_
    rintro e w2 ⟨rfl, hf2⟩
    have hf12 : Fr No w1 w2 := ((Fr.refl No w1).alloc _).then0 hf2 (fun _ h => h.elim)
    have hb2 := hb1.fr hf12 (fun e => e)
    have hl2 := hb2.lt
    have k0 := hb2.cell 0
    have k1 := hb2.cell 1
    simp at k0 k1
    have hfw := (hf0.then0 hf1 (fun _ h => h.elim)).then0 hf12 (fun _ h => h.elim)
    clear g0 g1
    cases rk
    · go_wp2
      exact bodyPost_ret (v := .tuple #[.int .i64 0, .bool false]) (by simp [results, Try.results65, go_sem]) rfl ⟨by rw [Hv.out]; cases ra <;> rfl, hfw⟩
    · go_wp2_with fail
      refine (HC2.out _ (Hsl.out.since hfw)).mono ?_
      rintro e w3 ⟨rfl, hf3⟩
      have hb3 := hb2.fr hf3 (fun e => e)
      have hl3 := hb3.lt
      have m0 := hb3.cell 0
      have m1 := hb3.cell 1
      simp at m0 m1
      have hfw3 := hfw.then0 hf3 (fun _ h => h.elim)
      have Hs3 := Lib.hid (Hsl.out.since hfw3)
      clear k0 k1
      cases ra
      · go_wp2
        exact bodyPost_ret (v := .tuple #[.int .i64 0, .bool false]) (by simp [results, Try.results65, go_sem]) rfl ⟨by rw [Hv.out]; rfl, hfw3⟩
      · have hrg := Hrg.out (by simp) (by simp)
        obtain ⟨q1, q2, q3, q4⟩ := Hki.out (by simp)
        by_cases hx : x < 0
        · obtain rfl : x = -1 := by omega
          have hk : keyOf (-1) y l = y := by simp [keyOf]
          have Hv2 : Hid (keyV (-1) y l = (y, true)) := Lib.hid (by rw [Hv.out, hk]; rfl)
          clear hrg q1 q2 q3 q4
          go_wp2
          exact bodyPost_ret (v := .tuple #[.int .i64 y, .bool true]) (by simp [results, Try.results65, go_sem]) rfl ⟨by rw [Hv2.out], hfw3⟩
        · obtain ⟨j, rfl⟩ : ∃ j : Nat, x = j := ⟨x.toNat, by omega⟩
          have hjn : j < n := by omega
          have hjl : j < l.length := by rw [Hn.out]; exact hjn
          obtain ⟨ad, rfl, hab, hc⟩ := Hs3.out.int9 hjl
          have hk : keyOf j y l = y + l[j] := by simp [keyOf, hx, hjl]
          rw [hk] at hrg
          have Hv2 : Hid (keyV j y l = (y + l[j], true)) := Lib.hid (by rw [Hv.out, hk]; rfl)
          generalize l[j] = a at *
          have hw : wrap64 (y + a) = y + a := by unfold wrap64; omega
          have hne : ((j : Int) == -1) = false := by rw [beq_eq_false_iff_ne]; omega
          clear q1 q2 q3 q4 hk hx
          go_wp2
          go_region
          go_wp2
          exact bodyPost_ret (v := .tuple #[.int .i64 (y + a), .bool true]) (by simp [results, Try.results65, go_sem]) rfl ⟨by rw [Hv2.out], hfw3.drew⟩
  · have e1 : decide (0 ≤ (n : Int) ∧ (n : Int) ≤ 3) = false := by simp; omega
    rw [e1] at C0
    have Hv : Hid (keyV x y l = (0, false)) := Lib.hid (by
      have : argsOk l = false := by rw [argsOk, hn, show decide (n ≤ 3) = false by simpa using h3, Bool.and_false]
      rw [keyV, this]
      rfl)
    clear hsl hn
    go_enter Try.func65, Try.ntmps65
    go_wp2_with fail
    refine (C0 _).mono ?_
    rintro e w1 ⟨rfl, hf1⟩
    go_wp2
    exact bodyPost_ret (v := .tuple #[.int .i64 0, .bool false]) (by simp [results, Try.results65, go_sem]) rfl ⟨by rw [Hv.out], hf0.then0 hf1 (fun _ h => h.elim)⟩
end Go.Proofs.Ythincpklokgjhaa
