/- A program as the document's items; their words. -/
import Derived.Test.YthincpklokgjhaaIt1
import Derived.Test.YthincpklokgjhaaWrd9
import Derived.Test.YthincpklokgjhaaHand
import Derived.Deep.RegionHeld3
namespace Go.Proofs.Ythincpklokgjhaa
open Go.RowKit

theorem info_item : (Try.prog.info? 82).map (fun i => (i.zero, i.size, i.bytes)) = some (some (.agg #[.int .i64 0, .int .i64 0, .int .i64 0, .int .i64 0, .string ⟨#[]⟩, .slice none 0 0]), 6, 72) := by kernel_rfl
theorem It.cells_len9 (t : It) : t.cells.length = 6 := rfl
theorem its_one (l : List It) : ∀ u ∈ l.flatMap It.cells, u.oneCell' = true := by
  intro u hu
  obtain ⟨t, _, h⟩ := List.mem_flatMap.1 hu
  simp only [It.cells, List.mem_cons, List.not_mem_nil, or_false] at h
  rcases h with rfl | rfl | rfl | rfl | rfl | rfl <;> rfl
theorem its_len (l : List It) : (l.flatMap It.cells).length = l.length * 6 := flat_len _ 6 It.cells_len9 l

theorem slLit (w : World) (t : TypeId) (cs : Array Value) (xs : List Value) (H : Nat) (hH : H = w.heap.size) (hl : cs.toList = xs) : Sl (w.alloc (.cells cs t)) (H + 1) (some ⟨H, 0, none⟩) xs := by
  subst hH hl
  exact Sl.made w t cs
/-- Items behind what is owned, as one step of the walk. -/
theorem append_items {w : World} {ops : Array Oper} {rest : List Oper} {o : Oper} {a : Act} {Q : Exit → Act → World → Prop} (hgd : o.guard = none) (s x : Operand)
    (ho : o.op = .call { callee := .builtin .append, args := #[s, x], argTypes := #[49, 49] })
    (base : Nat) (A : Option Addr) (n c : Nat) (xs : List It) (hs : a.eval s = .slice A n c) (B : Nat) (A2 : Option Addr) (m c2 : Nat) (ys : List It) (hx : a.eval x = .slice A2 m c2) (hm : ys.length = m) (hr : Sl w B A2 (ys.flatMap It.cells))
    (hown : w.ownsRow base 82 6 (.slice A n c) n (xs.flatMap It.cells)) (hlen : n + m ≤ 1000000) (hbase : base ≤ w.heap.size)
    (h : ∀ A' c' w', w'.ownsRow base 82 6 (.slice A' (n + m) c') (n + m) ((xs ++ ys).flatMap It.cells) → Fr (fun k => (Value.slice A n c).ownBlock = some k) w w' →
      ((Value.slice A' (n + m) c').ownBlock = (Value.slice A n c).ownBlock ∨ ∃ k, (Value.slice A' (n + m) c').ownBlock = some k ∧ w.heap.size ≤ k) → wpList Try.prog ops Q rest (a.put o.dst (.slice A' (n + m) c')) w') :
    wpList Try.prog ops Q (o :: rest) a w := by
  obtain ⟨i, hi, hz, hz1, hz2⟩ := info_parts info_item
  refine wpList_append_src _ hgd s x _ ho base 82 i _ 6 72 Try.underlying49 hi hz hz1 hz2 rfl (by omega) (.slice A n c) n (xs.flatMap It.cells) hs hown B A2 m c2 (ys.flatMap It.cells) hx (by rw [its_len, hm]) hr (its_one ys) (by unfold maxLen; omega) (by omega) hbase ?_
  intro v' w' q1 q2 q3
  obtain ⟨A', c', rfl, -, -, -⟩ := own_shape q1
  rw [List.flatMap_append] at h
  refine h A' c' w' q1 ((Fr.refl _ w).grown q2 (fun k hk => .inl hk)) ?_
  rcases q3 with q3 | q3
  · exact .inl q3
  · exact .inr ⟨_, q3, Nat.le_refl _⟩
/-- The same as one step of a region that draws its order. -/
theorem wp_items {w : World} {o : Oper} {a : Act} {K : Act → World → Prop} {Q : Exit → Act → World → Prop} (s x : Operand)
    (ho : o.op = .call { callee := .builtin .append, args := #[s, x], argTypes := #[49, 49] })
    (base : Nat) (A : Option Addr) (n c : Nat) (xs : List It) (hs : a.eval s = .slice A n c) (B : Nat) (A2 : Option Addr) (m c2 : Nat) (ys : List It) (hx : a.eval x = .slice A2 m c2) (hm : ys.length = m) (hr : Sl w B A2 (ys.flatMap It.cells))
    (hown : w.ownsRow base 82 6 (.slice A n c) n (xs.flatMap It.cells)) (hlen : n + m ≤ 1000000) (hbase : base ≤ w.heap.size)
    (h : ∀ A' c' w', w'.ownsRow base 82 6 (.slice A' (n + m) c') (n + m) ((xs ++ ys).flatMap It.cells) → Fr (fun k => (Value.slice A n c).ownBlock = some k) w w' →
      ((Value.slice A' (n + m) c').ownBlock = (Value.slice A n c).ownBlock ∨ ∃ k, (Value.slice A' (n + m) c').ownBlock = some k ∧ w.heap.size ≤ k) → K (a.put o.dst (.slice A' (n + m) c')) w') :
    Oper.wp Try.prog o a w K Q := by
  obtain ⟨i, hi, hz, hz1, hz2⟩ := info_parts info_item
  refine wp_append_src w s x _ ho base 82 i _ 6 72 Try.underlying49 hi hz hz1 hz2 rfl (by omega) (.slice A n c) n (xs.flatMap It.cells) hs hown B A2 m c2 (ys.flatMap It.cells) hx (by rw [its_len, hm]) hr (its_one ys) (by unfold maxLen; omega) (by omega) hbase ?_
  intro v' w' q1 q2 q3
  obtain ⟨A', c', rfl, -, -, -⟩ := own_shape q1
  rw [List.flatMap_append] at h
  refine h A' c' w' q1 ((Fr.refl _ w).grown q2 (fun k hk => .inl hk)) ?_
  rcases q3 with q3 | q3
  · exact .inl q3
  · exact .inr ⟨_, q3, Nat.le_refl _⟩

/-- A count, and a number with a sign, as items. -/
def itN (n most : Int) : It := ⟨0, n, most, 0, ⟨#[]⟩, [], none, 0⟩
def itS (x : Int) : It := ⟨1, 0, 0, x, ⟨#[]⟩, [], none, 0⟩
def itK (x y : Int) : List It := [itS x, itN y 999]
def itI (i : Ins) : List It := [itN i.op 255, itN i.a 255, itN i.b 255, itN i.c 255] ++ itK i.ka i.kb ++ itK i.la i.lb ++ [itS i.x]
def itP (l : List Ins) : List It := itN l.length 8 :: l.flatMap itI
theorem itI_len (i : Ins) : (itI i).length = 9 := rfl
theorem itI_flat (l : List Ins) : (l.flatMap itI).length = l.length * 9 := by
  induction l with
  | nil => simp
  | cons x r ih => rw [List.flatMap_cons, List.length_append, itI_len, ih, List.length_cons]; omega
theorem itP_len (l : List Ins) : (itP l).length = 1 + l.length * 9 := by
  rw [itP, List.length_cons, itI_flat l]
  omega
theorem itN_words (n m : Int) : (itN n m).words = [n.toNat] := by simp [itN, It.words]
theorem itS_words (x : Int) : (itS x).words = [sgn x] := by simp [itS, It.words]
theorem itI_words (i : Ins) : (itI i).flatMap It.words = wordsI i := by
  simp [itI, itK, List.flatMap_cons, itN_words, itS_words, wordsI]
theorem itP_words (l : List Ins) : (itP l).flatMap It.words = wordsP l := by
  rw [itP, List.flatMap_cons, itN_words, wordsP]
  simp only [Int.toNat_natCast, List.cons_append, List.nil_append, List.cons.injEq, true_and]
  induction l with
  | nil => rfl
  | cons x r ih => rw [List.flatMap_cons, List.flatMap_append, itI_words, ih, List.flatMap_cons]

/-- What is made of items. -/
def Items9 (w : World) (l : List It) (e : Ending) (w' : World) : Prop := ∃ A c, e = .returned (.slice A l.length c) ∧ Sl w' w'.heap.size A (l.flatMap It.cells) ∧ (∀ ad, A = some ad → w.heap.size ≤ ad.block) ∧ Fr No w w'
set_option maxHeartbeats 2000000 in
theorem words9_any (ts : List It) (A : Option Addr) (n c : Nat) (w : World) (hsl : Sl w w.heap.size A (ts.flatMap It.cells)) (hn : ts.length = n) (hnm : n ≤ 1000) (hok : ∀ t ∈ ts, (t.kind = 0 ∨ t.kind = 1) ∧ I64 t.n ∧ I64 t.most ∧ I64 t.x ∧ t.s = ⟨#[]⟩ ∧ t.L = [] ∧ t.A = none ∧ t.c = 0) :
    Calls Try.prog 24 #[.slice A n c] w (NewL w (ts.flatMap It.words)) := by
  have Hn := Lib.hid hn
  have Hsl := Lib.hid hsl
  have Hok := Lib.hid hok
  have Hone : Hid (∀ t ∈ ts, t.words.length = 1) := Lib.hid (fun t ht => by
    rcases (hok t ht).1 with h | h <;> simp [It.words, h])
  clear hn hsl hok
  go_enter Try.func24, Try.ntmps24
  go_wp2
  go_loopw [3, 4] (fun out at_ wr => ∃ (k : Nat) (B : Option Addr) (d : Nat), k ≤ n ∧ at_ = .int .i64 k ∧ out = .slice B ((ts.take k).flatMap It.words).length d ∧ Hid (wr.ownsRow w.heap.size 75 1 (.slice B ((ts.take k).flatMap It.words).length d) ((ts.take k).flatMap It.words).length (u64s ((ts.take k).flatMap It.words))) ∧ Fr No w wr) (fun _ i _ => n - (intOf i).toNat)
  case atStart => exact ⟨0, none, 0, Nat.zero_le _, rfl, by simp, Lib.hid (by simpa [u64s] using World.ownsRow_nil _ _ _ _), Fr.refl _ _⟩
  case round =>
    obtain ⟨k, B, d, hk, rfl, rfl, hown, hfr⟩ := hrel
    by_cases hlt : k < n
    · have hkl : k < ts.length := by rw [Hn.out]; exact hlt
      have Hs : Hid (ts.take (k + 1) = ts.take k ++ [ts[k]]) := Lib.hid (List.take_succ_eq_append_getElem hkl)
      have hq := Hok.out _ (List.getElem_mem hkl)
      have Hlen : Hid (((ts.take k).flatMap It.words).length ≤ 1000) := Lib.hid (by
        have e : ∀ us : List It, (∀ t ∈ us, t.words.length = 1) → (us.flatMap It.words).length = us.length := by
          intro us hu
          induction us with
          | nil => rfl
          | cons a r ih => rw [List.flatMap_cons, List.length_append, hu a (by simp), ih (fun t ht => hu t (by simp [ht])), List.length_cons]; omega
        rw [e _ (fun t ht => Hone.out t (List.mem_of_mem_take ht)), List.length_take]
        omega)
      obtain ⟨ad, rfl, hab, hrow⟩ := (Hsl.out.since hfr).row 6 It.cells_len9 hkl (by omega)
      have C0 := fun (h0 : ts[k].kind = 0) (hOk : ts[k].Ok wr wr.heap.size) (hb : wr.ownsRow 0 75 1 (.slice B ((ts.take k).flatMap It.words).length d) ((ts.take k).flatMap It.words).length (u64s ((ts.take k).flatMap It.words))) => refWrite_0 ((ts.take k).flatMap It.words) B d ts[k] wr hb h0 hOk (by have := Hlen.out; omega)
      have C1 := fun (h0 : ts[k].kind = 1) (hOk : ts[k].Ok wr wr.heap.size) (hb : wr.ownsRow 0 75 1 (.slice B ((ts.take k).flatMap It.words).length d) ((ts.take k).flatMap It.words).length (u64s ((ts.take k).flatMap It.words))) => refWrite_1 ((ts.take k).flatMap It.words) B d ts[k] wr hb h0 hOk (by have := Hlen.out; omega)
      generalize ts[k] = t at *
      obtain ⟨kind, n0, most, x, s, L, A0, c0⟩ := t
      dsimp only at hq
      obtain ⟨q1, q2, q3, q4, rfl, rfl, rfl, rfl⟩ := hq
      have hOk : It.Ok wr wr.heap.size ⟨kind, n0, most, x, ⟨#[]⟩, [], none, 0⟩ := ⟨by dsimp only; omega, q2, q3, q4, (show (0 : Nat) ≤ 200 by decide), Nat.zero_le _, by simp, ⟨Nat.le_refl _, Nat.zero_le _⟩, by simp, Sl.nil _ _ _⟩
      have hCC : Calls Try.prog 45 #[.slice B ((ts.take k).flatMap It.words).length d, .agg #[.int .i64 kind, .int .i64 n0, .int .i64 most, .int .i64 x, .string ⟨#[]⟩, .slice none 0 0]] wr (Grew wr (Value.slice B ((ts.take k).flatMap It.words).length d).ownBlock ((ts.take k).flatMap It.words ++ It.words ⟨kind, n0, most, x, ⟨#[]⟩, [], none, 0⟩)) := by
        have hb : wr.ownsRow 0 75 1 (.slice B ((ts.take k).flatMap It.words).length d) ((ts.take k).flatMap It.words).length (u64s ((ts.take k).flatMap It.words)) := by
          obtain ⟨z1, z2⟩ := hown.out
          refine ⟨z1, ?_⟩
          rcases z2 with z2 | ⟨g, cap, cur, hv, hbg, rr⟩
          · exact .inl z2
          · exact .inr ⟨g, cap, cur, hv, Nat.zero_le _, rr⟩
        rcases q1 with q1 | q1
        · exact C0 q1 hOk hb
        · exact C1 q1 hOk hb
      have HC := Lib.hid hCC
      have r0 := hrow 0 _ rfl
      have r1 := hrow 1 _ rfl
      have r2 := hrow 2 _ rfl
      have r3 := hrow 3 _ rfl
      have r4 := hrow 4 _ rfl
      have r5 := hrow 5 _ rfl
      have r0 : wr.cell? (ad.add (k * 6)) = some (.int .i64 kind) := r0
      have r1 : wr.cell? ⟨(ad.add (k * 6)).block, (ad.add (k * 6)).off + 1, none⟩ = some (.int .i64 n0) := r1
      have r2 : wr.cell? ⟨(ad.add (k * 6)).block, (ad.add (k * 6)).off + 2, none⟩ = some (.int .i64 most) := r2
      have r3 : wr.cell? ⟨(ad.add (k * 6)).block, (ad.add (k * 6)).off + 3, none⟩ = some (.int .i64 x) := r3
      have r4 : wr.cell? ⟨(ad.add (k * 6)).block, (ad.add (k * 6)).off + 4, none⟩ = some (.string ⟨#[]⟩) := r4
      have r5 : wr.cell? ⟨(ad.add (k * 6)).block, (ad.add (k * 6)).off + 5, none⟩ = some (.slice none 0 0) := r5
      have Hfl : Hid ((ts.take (k + 1)).flatMap It.words = (ts.take k).flatMap It.words ++ It.words ⟨kind, n0, most, x, ⟨#[]⟩, [], none, 0⟩) := Lib.hid (by rw [Hs.out, List.flatMap_append]; simp)
      clear hrow C0 C1 hCC q1
      generalize (ts.take k).flatMap It.words = ws at *
      go_wp2_with fail
      refine (HC.out).mono ?_
      rintro e w2 ⟨B2, d2, rfl, hown2, hf2, hg2⟩
      go_wp2
      go_roundw
      case rel =>
        refine ⟨k + 1, B2, d2, by omega, by go_num, by rw [Hfl.out, List.length_append], Lib.hid ?_, hfr.trans' hf2 (fun i hi e => by have := (hown.out.lt _ e).1; omega)⟩
        rw [Hfl.out]
        obtain ⟨z1, z2⟩ := hown2
        refine ⟨z1, ?_⟩
        rcases z2 with z2 | ⟨g, cap, cur, hv, hbg, rr⟩
        · exact .inl z2
        · refine .inr ⟨g, cap, cur, hv, ?_, rr⟩
          rw [hv] at hg2
          rcases hg2 with hg2 | ⟨i, hg2, hi⟩
          · exact (hown.out.lt g (by rw [← hg2]; rfl)).1
          · have : g = i := by simpa [Value.ownBlock] using hg2
            subst this
            exact Nat.le_trans hfr.size hi
      case measure => simp [intOf]; omega
    · obtain rfl : k = n := by omega
      have Hall : Hid (ts.take k = ts) := Lib.hid (List.take_of_length_le (by rw [Hn.out]; exact Nat.le_refl _))
      rw [Hall.out] at hown ⊢
      go_wp2
      go_ret
      exact ⟨B, d, rfl, hown.out, hfr⟩
end Go.Proofs.Ythincpklokgjhaa
