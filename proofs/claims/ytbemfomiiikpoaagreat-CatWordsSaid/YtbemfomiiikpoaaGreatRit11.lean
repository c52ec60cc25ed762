/- A footprint as the document's items; their words. -/
import Derived.Test.YtbemfomiiikpoaaGreatItm9
import Derived.Test.YtbemfomiiikpoaaGreatRgt10
import Derived.Test.YtbemfomiiikpoaaGreatRef1W
import Derived.Test.YtbemfomiiikpoaaGreatCls11
namespace Go.Proofs.YtbemfomiiikpoaaGreat
open Go.RowKit

set_option maxHeartbeats 2000000 in
theorem words10_any (ts : List It) (A : Option Addr) (n c : Nat) (w : World) (hsl : Sl w w.heap.size A (ts.flatMap It.cells)) (hn : ts.length = n) (hnm : n ≤ 1000) (hok : ∀ t ∈ ts, (t.kind = 0 ∨ t.kind = 1 ∨ t.kind = 2) ∧ I64 t.n ∧ I64 t.most ∧ I64 t.x ∧ t.s = ⟨#[]⟩ ∧ t.L = [] ∧ t.A = none ∧ t.c = 0) :
    Calls Tryz.prog 12 #[.slice A n c] w (NewL w (ts.flatMap It.words)) := by
  have Hn := Lib.hid hn
  have Hsl := Lib.hid hsl
  have Hok := Lib.hid hok
  have Hone : Hid (∀ t ∈ ts, t.words.length = 1) := Lib.hid (fun t ht => by
    rcases (hok t ht).1 with h | h | h <;> simp [It.words, h])
  clear hn hsl hok
  go_enter Tryz.func12, Tryz.ntmps12
  go_wp2
  go_loopw [3, 4] (fun out at_ wr => ∃ (k : Nat) (B : Option Addr) (d : Nat), k ≤ n ∧ at_ = .int .i64 k ∧ out = .slice B ((ts.take k).flatMap It.words).length d ∧ Hid (wr.ownsRow w.heap.size 70 1 (.slice B ((ts.take k).flatMap It.words).length d) ((ts.take k).flatMap It.words).length (u64s ((ts.take k).flatMap It.words))) ∧ Fr No w wr) (fun _ i _ => n - (intOf i).toNat)
  case atStart => exact ⟨0, none, 0, Nat.zero_le _, rfl, by simp, Lib.hid (by simpa [u64s] using World.ownsRow_nil _ _ _ _), Fr.refl _ _⟩
  case round =>
    obtain ⟨k, B, d, hk, rfl, rfl, hown, hfr⟩ := hrel
    by_cases hlt : k < n
    · have hkl : k < ts.length := by rw [Hn.out]; exact hlt
      have Hs : Hid (ts.take (k + 1) = ts.take k ++ [ts[k]]) := Lib.hid (List.take_succ_eq_append_getElem hkl)
      have hq := Hok.out _ (List.getElem_mem hkl)
      have Hlen : Hid (((ts.take k).flatMap It.words).length ≤ 1000) := Lib.hid (by
        have e : ∀ us : List It, (∀ t ∈ us, t.words.length = 1) → (us.flatMap It.words).length = us.length := by
          intro us hu
          induction us with
          | nil => rfl
          | cons a r ih => rw [List.flatMap_cons, List.length_append, hu a (by simp), ih (fun t ht => hu t (by simp [ht])), List.length_cons]; omega
        rw [e _ (fun t ht => Hone.out t (List.mem_of_mem_take ht)), List.length_take]
        omega)
      obtain ⟨ad, rfl, hab, hrow⟩ := (Hsl.out.since hfr).row 6 It.cells_len9 hkl (by omega)
      have C0 := fun (h0 : ts[k].kind = 0) (hOk : ts[k].Ok wr wr.heap.size) (hb : wr.ownsRow 0 70 1 (.slice B ((ts.take k).flatMap It.words).length d) ((ts.take k).flatMap It.words).length (u64s ((ts.take k).flatMap It.words))) => refWrite_0 ((ts.take k).flatMap It.words) B d ts[k] wr hb h0 hOk (by have := Hlen.out; omega)
      have C1 := fun (h0 : ts[k].kind = 1) (hOk : ts[k].Ok wr wr.heap.size) (hb : wr.ownsRow 0 70 1 (.slice B ((ts.take k).flatMap It.words).length d) ((ts.take k).flatMap It.words).length (u64s ((ts.take k).flatMap It.words))) => refWrite_1 ((ts.take k).flatMap It.words) B d ts[k] wr hb h0 hOk (by have := Hlen.out; omega)
      have C2 := fun (h0 : ts[k].kind = 2) (hOk : ts[k].Ok wr wr.heap.size) (hb : wr.ownsRow 0 70 1 (.slice B ((ts.take k).flatMap It.words).length d) ((ts.take k).flatMap It.words).length (u64s ((ts.take k).flatMap It.words))) => refWrite_2 ((ts.take k).flatMap It.words) B d ts[k] wr hb h0 hOk (by have := Hlen.out; omega)
      generalize ts[k] = t at *
      obtain ⟨kind, n0, most, x, s, L, A0, c0⟩ := t
      dsimp only at hq
      obtain ⟨q1, q2, q3, q4, rfl, rfl, rfl, rfl⟩ := hq
      have hOk : It.Ok wr wr.heap.size ⟨kind, n0, most, x, ⟨#[]⟩, [], none, 0⟩ := ⟨by dsimp only; omega, q2, q3, q4, (show (0 : Nat) ≤ 200 by decide), Nat.zero_le _, by simp, ⟨Nat.le_refl _, Nat.zero_le _⟩, by simp, Sl.nil _ _ _⟩
      have hCC : Calls Tryz.prog 29 #[.slice B ((ts.take k).flatMap It.words).length d, .agg #[.int .i64 kind, .int .i64 n0, .int .i64 most, .int .i64 x, .string ⟨#[]⟩, .slice none 0 0]] wr (Grew wr (Value.slice B ((ts.take k).flatMap It.words).length d).ownBlock ((ts.take k).flatMap It.words ++ It.words ⟨kind, n0, most, x, ⟨#[]⟩, [], none, 0⟩)) := by
        have hb : wr.ownsRow 0 70 1 (.slice B ((ts.take k).flatMap It.words).length d) ((ts.take k).flatMap It.words).length (u64s ((ts.take k).flatMap It.words)) := by
          obtain ⟨z1, z2⟩ := hown.out
          refine ⟨z1, ?_⟩
          rcases z2 with z2 | ⟨g, cap, cur, hv, hbg, rr⟩
          · exact .inl z2
          · exact .inr ⟨g, cap, cur, hv, Nat.zero_le _, rr⟩
        rcases q1 with q1 | q1 | q1
        · exact C0 q1 hOk hb
        · exact C1 q1 hOk hb
        · exact C2 q1 hOk hb
      have HC := Lib.hid hCC
      have r0 := hrow 0 _ rfl
      have r1 := hrow 1 _ rfl
      have r2 := hrow 2 _ rfl
      have r3 := hrow 3 _ rfl
      have r4 := hrow 4 _ rfl
      have r5 := hrow 5 _ rfl
      have r0 : wr.cell? (ad.add (k * 6)) = some (.int .i64 kind) := r0
      have r1 : wr.cell? ⟨(ad.add (k * 6)).block, (ad.add (k * 6)).off + 1, none⟩ = some (.int .i64 n0) := r1
      have r2 : wr.cell? ⟨(ad.add (k * 6)).block, (ad.add (k * 6)).off + 2, none⟩ = some (.int .i64 most) := r2
      have r3 : wr.cell? ⟨(ad.add (k * 6)).block, (ad.add (k * 6)).off + 3, none⟩ = some (.int .i64 x) := r3
      have r4 : wr.cell? ⟨(ad.add (k * 6)).block, (ad.add (k * 6)).off + 4, none⟩ = some (.string ⟨#[]⟩) := r4
      have r5 : wr.cell? ⟨(ad.add (k * 6)).block, (ad.add (k * 6)).off + 5, none⟩ = some (.slice none 0 0) := r5
      have Hfl : Hid ((ts.take (k + 1)).flatMap It.words = (ts.take k).flatMap It.words ++ It.words ⟨kind, n0, most, x, ⟨#[]⟩, [], none, 0⟩) := Lib.hid (by rw [Hs.out, List.flatMap_append]; simp)
      clear hrow C0 C1 C2 hCC q1
      generalize (ts.take k).flatMap It.words = ws at *
      go_wp2_with fail
      refine (HC.out).mono ?_
      rintro e w2 ⟨B2, d2, rfl, hown2, hf2, hg2⟩
      go_wp2
      go_roundw
      case rel =>
        refine ⟨k + 1, B2, d2, by omega, by go_num, by rw [Hfl.out, List.length_append], Lib.hid ?_, hfr.trans' hf2 (fun i hi e => by have := (hown.out.lt _ e).1; omega)⟩
        rw [Hfl.out]
        obtain ⟨z1, z2⟩ := hown2
        refine ⟨z1, ?_⟩
        rcases z2 with z2 | ⟨g, cap, cur, hv, hbg, rr⟩
        · exact .inl z2
        · refine .inr ⟨g, cap, cur, hv, ?_, rr⟩
          rw [hv] at hg2
          rcases hg2 with hg2 | ⟨i, hg2, hi⟩
          · exact (hown.out.lt g (by rw [← hg2]; rfl)).1
          · have : g = i := by simpa [Value.ownBlock] using hg2
            subst this
            exact Nat.le_trans hfr.size hi
      case measure => simp [intOf]; omega
    · obtain rfl : k = n := by omega
      have Hall : Hid (ts.take k = ts) := Lib.hid (List.take_of_length_le (by rw [Hn.out]; exact Nat.le_refl _))
      rw [Hall.out] at hown ⊢
      go_wp2
      go_ret
      exact ⟨B, d, rfl, hown.out, hfr⟩

/-- A flag as an item. -/
def itF (n : Int) : It := ⟨2, n, 0, 0, ⟨#[]⟩, [], none, 0⟩
def itF1 (f : Fsp) : List It := [itS f.la, itN f.lb 999, itS f.ha, itN f.hb 999, itF (if f.wr = true then 1 else 0)]
def itFP (l : List Fsp) : List It := itN l.length 4 :: l.flatMap itF1
theorem itF1_len (f : Fsp) : (itF1 f).length = 5 := rfl
theorem itF1_flat (l : List Fsp) : (l.flatMap itF1).length = l.length * 5 := by
  induction l with
  | nil => simp
  | cons x r ih => rw [List.flatMap_cons, List.length_append, itF1_len, ih, List.length_cons]; omega
theorem itFP_len (l : List Fsp) : (itFP l).length = 1 + l.length * 5 := by
  rw [itFP, List.length_cons, itF1_flat l]
  omega
theorem itF1_words (f : Fsp) : (itF1 f).flatMap It.words = wordsF1 f := by
  have e : (itF (if f.wr = true then 1 else 0)).words = [flagW f.wr] := by cases h : f.wr <;> simp [itF, It.words, flagW]
  simp [itF1, List.flatMap_cons, itN_words, itS_words, wordsF1, e]
theorem itFP_words (l : List Fsp) : (itFP l).flatMap It.words = wordsF l := by
  rw [itFP, List.flatMap_cons, itN_words, wordsF]
  simp only [Int.toNat_natCast, List.cons_append, List.nil_append, List.cons.injEq, true_and]
  induction l with
  | nil => rfl
  | cons x r ih => rw [List.flatMap_cons, List.flatMap_append, itF1_words, ih, List.flatMap_cons]
theorem itFP_fit {l : List Fsp} (h : ∀ i ∈ l, i.I) (hl : l.length ≤ 4) : ∀ t ∈ itFP l, (t.kind = 0 ∨ t.kind = 1 ∨ t.kind = 2) ∧ I64 t.n ∧ I64 t.most ∧ I64 t.x ∧ t.s = ⟨#[]⟩ ∧ t.L = [] ∧ t.A = none ∧ t.c = 0 := by
  have i0 : I64 0 := ⟨by decide, by decide⟩
  have i1 : I64 1 := ⟨by decide, by decide⟩
  have i999 : I64 999 := ⟨by decide, by decide⟩
  have i4 : I64 4 := ⟨by decide, by decide⟩
  intro t ht
  rw [itFP, List.mem_cons] at ht
  rcases ht with rfl | ht
  · exact ⟨.inl rfl, ⟨by simp only [itN]; omega, by simp only [itN]; omega⟩, i4, i0, rfl, rfl, rfl, rfl⟩
  · obtain ⟨i, hi, ht⟩ := List.mem_flatMap.1 ht
    obtain ⟨h0, h1, h2, h3⟩ := h i hi
    simp only [itF1, List.mem_cons, List.not_mem_nil, or_false] at ht
    rcases ht with rfl | rfl | rfl | rfl | rfl
    · exact ⟨.inr (.inl rfl), i0, i0, h0, rfl, rfl, rfl, rfl⟩
    · exact ⟨.inl rfl, h1, i999, i0, rfl, rfl, rfl, rfl⟩
    · exact ⟨.inr (.inl rfl), i0, i0, h2, rfl, rfl, rfl, rfl⟩
    · exact ⟨.inl rfl, h3, i999, i0, rfl, rfl, rfl, rfl⟩
    · refine ⟨.inr (.inr rfl), ?_, i0, i0, rfl, rfl, rfl, rfl⟩
      show I64 (if i.wr = true then 1 else 0)
      cases i.wr
      · exact i0
      · exact i1

set_option maxHeartbeats 8000000 in
theorem items10_any (l : List Fsp) (A : Option Addr) (n c : Nat) (w : World) (hsl : Sl w w.heap.size A (l.flatMap Fsp.cells)) (hn : l.length = n) (hnm : n ≤ 4) :
    Calls Tryz.prog 58 #[.slice A n c] w (Items9 w (itFP l)) := by
  have Hn := Lib.hid hn
  have Hsl := Lib.hid hsl
  clear hn hsl
  go_enter Tryz.func58, Tryz.ntmps58
  go_wp2
  go_loopw [3, 4] (fun out at_ wr => ∃ (k : Nat) (B : Option Addr) (d : Nat), k ≤ n ∧ at_ = .int .i64 k ∧ out = .slice B (1 + k * 5) d ∧ Hid (wr.ownsRow w.heap.size 77 6 (.slice B (1 + k * 5) d) (1 + k * 5) ((itN n 4 :: (l.take k).flatMap itF1).flatMap It.cells)) ∧ Fr No w wr) (fun _ i _ => n - (intOf i).toNat)
  case atStart =>
    refine ⟨0, some ⟨w.heap.size, 0, none⟩, 1, Nat.zero_le _, rfl, rfl, Lib.hid ?_, (Fr.refl _ w).alloc _⟩
    have h := World.ownsRow_lit (base := w.heap.size) (e := 77) (size := 6) w ((itN n 4).cells).toArray 1 (Nat.le_refl _) (by decide) rfl
    simpa [itN, It.cells] using h
  case round =>
    obtain ⟨k, B, d, hk, rfl, rfl, hown, hfr⟩ := hrel
    by_cases hlt : k < n
    · have hkl : k < l.length := by rw [Hn.out]; exact hlt
      obtain ⟨ad, rfl, hab, x0, x1, x2, x3, x4⟩ := (Hsl.out.since hfr).fsp (k := k) hkl
      obtain ⟨ad2, e2, hab0, -⟩ := Hsl.out.fsp (k := k) hkl
      injection e2 with e2
      subst e2
      have hab2 : (ad.add (k * 5)).block < wr.heap.size := by rw [block_add]; exact hab
      have hab3 : ¬ w.heap.size ≤ (ad.add (k * 5)).block := by rw [block_add]; omega
      have Hs : Hid (l.take (k + 1) = l.take k ++ [l[k]]) := Lib.hid (List.take_succ_eq_append_getElem hkl)
      generalize l[k] = x at *
      obtain ⟨la, lb, ha, hb, wt⟩ := x
      dsimp only at x0 x1 x2 x3 x4
      have HS : Hid (∀ w', Fr (fun i => w.heap.size ≤ i) wr w' → w'.cell? (ad.add (k * 5)) = some (.int .i64 la) ∧ w'.cell? ⟨(ad.add (k * 5)).block, (ad.add (k * 5)).off + 1, none⟩ = some (.int .i64 lb) ∧ w'.cell? ⟨(ad.add (k * 5)).block, (ad.add (k * 5)).off + 2, none⟩ = some (.int .i64 ha) ∧ w'.cell? ⟨(ad.add (k * 5)).block, (ad.add (k * 5)).off + 3, none⟩ = some (.int .i64 hb)) := Lib.hid (fun w' h => ⟨(h.cell hab2 hab3).trans x0, (h.cell (p := ⟨(ad.add (k * 5)).block, (ad.add (k * 5)).off + 1, none⟩) hab2 hab3).trans x1, (h.cell (p := ⟨(ad.add (k * 5)).block, (ad.add (k * 5)).off + 2, none⟩) hab2 hab3).trans x2, (h.cell (p := ⟨(ad.add (k * 5)).block, (ad.add (k * 5)).off + 3, none⟩) hab2 hab3).trans x3⟩)
      cases wt
      · go_wp2
        refine wp_region_held_drew (S := fun w' => w'.cell? (ad.add (k * 5)) = some (.int .i64 la) ∧ w'.cell? ⟨(ad.add (k * 5)).block, (ad.add (k * 5)).off + 1, none⟩ = some (.int .i64 lb) ∧ w'.cell? ⟨(ad.add (k * 5)).block, (ad.add (k * 5)).off + 2, none⟩ = some (.int .i64 ha) ∧ w'.cell? ⟨(ad.add (k * 5)).block, (ad.add (k * 5)).off + 3, none⟩ = some (.int .i64 hb)) (by kernel_rfl) (HS.out wr (Fr.refl _ _)) (fun hHeld => ?_)
        refine any_take 21 (.slice B (1 + k * 5) d) (i := 0) rfl rfl (by kernel_rfl) (by kernel_rfl) (by kernel_rfl) (fun _ _ _ h => h) (by rfl) (by intro w hSw; (try dsimp only at hSw); go_simp; try with_reducible rfl) (by assumption) ?_
        simp only [Act.put, List.setIfInBounds_toArray, List.set_cons_zero, List.set_cons_succ]
        refine any_take 22 (.slice (some ad) n c) (i := 1) rfl rfl (by kernel_rfl) (by kernel_rfl) (by kernel_rfl) (fun _ _ _ h => h) (by rfl) (by intro w hSw; (try dsimp only at hSw); go_simp; try with_reducible rfl) (by assumption) ?_
        simp only [Act.put, List.setIfInBounds_toArray, List.set_cons_zero, List.set_cons_succ]
        refine any_take 23 (.int .i64 k) (i := 2) rfl rfl (by kernel_rfl) (by kernel_rfl) (by kernel_rfl) (fun _ _ _ h => h) (by rfl) (by intro w hSw; (try dsimp only at hSw); go_simp; try with_reducible rfl) (by assumption) ?_
        simp only [Act.put, List.setIfInBounds_toArray, List.set_cons_zero, List.set_cons_succ]
        refine any_take 24 (.pointer (some (ad.add (k * 5)))) (i := 3) rfl rfl (by kernel_rfl) (by kernel_rfl) (by kernel_rfl) (fun _ _ _ h => h) (by rfl) (by intro w hSw; (try dsimp only at hSw); go_simp; try with_reducible rfl) (by assumption) ?_
        simp only [Act.put, List.setIfInBounds_toArray, List.set_cons_zero, List.set_cons_succ]
        refine any_take 25 (.pointer (some (ad.add (k * 5)))) (i := 4) rfl rfl (by kernel_rfl) (by kernel_rfl) (by kernel_rfl) (fun _ _ _ h => h) (by rfl) (by intro w hSw; (try dsimp only at hSw); go_simp; try with_reducible rfl) (by assumption) ?_
        simp only [Act.put, List.setIfInBounds_toArray, List.set_cons_zero, List.set_cons_succ]
        refine any_take 26 (.pointer (some (ad.add (k * 5)))) (i := 5) rfl rfl (by kernel_rfl) (by kernel_rfl) (by kernel_rfl) (fun _ _ _ h => h) (by rfl) (by intro w hSw; (try dsimp only at hSw); go_simp; try with_reducible rfl) (by assumption) ?_
        simp only [Act.put, List.setIfInBounds_toArray, List.set_cons_zero, List.set_cons_succ]
        refine any_take 27 (.int .i64 la) (i := 6) rfl rfl (by kernel_rfl) (by kernel_rfl) (by kernel_rfl) (fun _ _ _ h => h) (by rfl) (by intro w hSw; (try dsimp only at hSw); go_simp; try with_reducible rfl) (by assumption) ?_
        simp only [Act.put, List.setIfInBounds_toArray, List.set_cons_zero, List.set_cons_succ]
        refine any_take 28 (.agg #[.int .i64 1, .int .i64 0, .int .i64 0, .int .i64 la, .string ⟨#[]⟩, .slice none 0 0]) (i := 7) rfl rfl (by kernel_rfl) (by kernel_rfl) (by kernel_rfl) (fun _ _ _ h => h) (by rfl) (by intro w hSw; (try dsimp only at hSw); go_simp; try with_reducible rfl) (by assumption) ?_
        simp only [Act.put, List.setIfInBounds_toArray, List.set_cons_zero, List.set_cons_succ]
        refine any_take 29 (.slice (some ad) n c) (i := 8) rfl rfl (by kernel_rfl) (by kernel_rfl) (by kernel_rfl) (fun _ _ _ h => h) (by rfl) (by intro w hSw; (try dsimp only at hSw); go_simp; try with_reducible rfl) (by assumption) ?_
        simp only [Act.put, List.setIfInBounds_toArray, List.set_cons_zero, List.set_cons_succ]
        refine any_take 30 (.int .i64 k) (i := 9) rfl rfl (by kernel_rfl) (by kernel_rfl) (by kernel_rfl) (fun _ _ _ h => h) (by rfl) (by intro w hSw; (try dsimp only at hSw); go_simp; try with_reducible rfl) (by assumption) ?_
        simp only [Act.put, List.setIfInBounds_toArray, List.set_cons_zero, List.set_cons_succ]
        refine any_take 31 (.pointer (some (ad.add (k * 5)))) (i := 10) rfl rfl (by kernel_rfl) (by kernel_rfl) (by kernel_rfl) (fun _ _ _ h => h) (by rfl) (by intro w hSw; (try dsimp only at hSw); go_simp; try with_reducible rfl) (by assumption) ?_
        simp only [Act.put, List.setIfInBounds_toArray, List.set_cons_zero, List.set_cons_succ]
        refine any_take 32 (.pointer (some (ad.add (k * 5)))) (i := 11) rfl rfl (by kernel_rfl) (by kernel_rfl) (by kernel_rfl) (fun _ _ _ h => h) (by rfl) (by intro w hSw; (try dsimp only at hSw); go_simp; try with_reducible rfl) (by assumption) ?_
        simp only [Act.put, List.setIfInBounds_toArray, List.set_cons_zero, List.set_cons_succ]
        refine any_take 33 (.pointer (some ⟨(ad.add (k * 5)).block, (ad.add (k * 5)).off + 1, none⟩)) (i := 12) rfl rfl (by kernel_rfl) (by kernel_rfl) (by kernel_rfl) (fun _ _ _ h => h) (by rfl) (by intro w hSw; (try dsimp only at hSw); go_simp; try with_reducible rfl) (by assumption) ?_
        simp only [Act.put, List.setIfInBounds_toArray, List.set_cons_zero, List.set_cons_succ]
        refine any_take 34 (.int .i64 lb) (i := 13) rfl rfl (by kernel_rfl) (by kernel_rfl) (by kernel_rfl) (fun _ _ _ h => h) (by rfl) (by intro w hSw; (try dsimp only at hSw); go_simp; try with_reducible rfl) (by assumption) ?_
        simp only [Act.put, List.setIfInBounds_toArray, List.set_cons_zero, List.set_cons_succ]
        refine any_take 35 (.agg #[.int .i64 0, .int .i64 lb, .int .i64 999, .int .i64 0, .string ⟨#[]⟩, .slice none 0 0]) (i := 14) rfl rfl (by kernel_rfl) (by kernel_rfl) (by kernel_rfl) (fun _ _ _ h => h) (by rfl) (by intro w hSw; (try dsimp only at hSw); go_simp; try with_reducible rfl) (by assumption) ?_
        simp only [Act.put, List.setIfInBounds_toArray, List.set_cons_zero, List.set_cons_succ]
        refine any_take 36 (.slice (some ad) n c) (i := 15) rfl rfl (by kernel_rfl) (by kernel_rfl) (by kernel_rfl) (fun _ _ _ h => h) (by rfl) (by intro w hSw; (try dsimp only at hSw); go_simp; try with_reducible rfl) (by assumption) ?_
        simp only [Act.put, List.setIfInBounds_toArray, List.set_cons_zero, List.set_cons_succ]
        refine any_take 37 (.int .i64 k) (i := 16) rfl rfl (by kernel_rfl) (by kernel_rfl) (by kernel_rfl) (fun _ _ _ h => h) (by rfl) (by intro w hSw; (try dsimp only at hSw); go_simp; try with_reducible rfl) (by assumption) ?_
        simp only [Act.put, List.setIfInBounds_toArray, List.set_cons_zero, List.set_cons_succ]
        refine any_take 38 (.pointer (some (ad.add (k * 5)))) (i := 17) rfl rfl (by kernel_rfl) (by kernel_rfl) (by kernel_rfl) (fun _ _ _ h => h) (by rfl) (by intro w hSw; (try dsimp only at hSw); go_simp; try with_reducible rfl) (by assumption) ?_
        simp only [Act.put, List.setIfInBounds_toArray, List.set_cons_zero, List.set_cons_succ]
        refine any_take 39 (.pointer (some ⟨(ad.add (k * 5)).block, (ad.add (k * 5)).off + 2, none⟩)) (i := 18) rfl rfl (by kernel_rfl) (by kernel_rfl) (by kernel_rfl) (fun _ _ _ h => h) (by rfl) (by intro w hSw; (try dsimp only at hSw); go_simp; try with_reducible rfl) (by assumption) ?_
        simp only [Act.put, List.setIfInBounds_toArray, List.set_cons_zero, List.set_cons_succ]
        refine any_take 40 (.pointer (some ⟨(ad.add (k * 5)).block, (ad.add (k * 5)).off + 2, none⟩)) (i := 19) rfl rfl (by kernel_rfl) (by kernel_rfl) (by kernel_rfl) (fun _ _ _ h => h) (by rfl) (by intro w hSw; (try dsimp only at hSw); go_simp; try with_reducible rfl) (by assumption) ?_
        simp only [Act.put, List.setIfInBounds_toArray, List.set_cons_zero, List.set_cons_succ]
        refine any_take 41 (.int .i64 ha) (i := 20) rfl rfl (by kernel_rfl) (by kernel_rfl) (by kernel_rfl) (fun _ _ _ h => h) (by rfl) (by intro w hSw; (try dsimp only at hSw); go_simp; try with_reducible rfl) (by assumption) ?_
        simp only [Act.put, List.setIfInBounds_toArray, List.set_cons_zero, List.set_cons_succ]
        refine any_take 42 (.agg #[.int .i64 1, .int .i64 0, .int .i64 0, .int .i64 ha, .string ⟨#[]⟩, .slice none 0 0]) (i := 21) rfl rfl (by kernel_rfl) (by kernel_rfl) (by kernel_rfl) (fun _ _ _ h => h) (by rfl) (by intro w hSw; (try dsimp only at hSw); go_simp; try with_reducible rfl) (by assumption) ?_
        simp only [Act.put, List.setIfInBounds_toArray, List.set_cons_zero, List.set_cons_succ]
        refine any_take 43 (.slice (some ad) n c) (i := 22) rfl rfl (by kernel_rfl) (by kernel_rfl) (by kernel_rfl) (fun _ _ _ h => h) (by rfl) (by intro w hSw; (try dsimp only at hSw); go_simp; try with_reducible rfl) (by assumption) ?_
        simp only [Act.put, List.setIfInBounds_toArray, List.set_cons_zero, List.set_cons_succ]
        refine any_take 44 (.int .i64 k) (i := 23) rfl rfl (by kernel_rfl) (by kernel_rfl) (by kernel_rfl) (fun _ _ _ h => h) (by rfl) (by intro w hSw; (try dsimp only at hSw); go_simp; try with_reducible rfl) (by assumption) ?_
        simp only [Act.put, List.setIfInBounds_toArray, List.set_cons_zero, List.set_cons_succ]
        refine any_take 45 (.pointer (some (ad.add (k * 5)))) (i := 24) rfl rfl (by kernel_rfl) (by kernel_rfl) (by kernel_rfl) (fun _ _ _ h => h) (by rfl) (by intro w hSw; (try dsimp only at hSw); go_simp; try with_reducible rfl) (by assumption) ?_
        simp only [Act.put, List.setIfInBounds_toArray, List.set_cons_zero, List.set_cons_succ]
        refine any_take 46 (.pointer (some ⟨(ad.add (k * 5)).block, (ad.add (k * 5)).off + 2, none⟩)) (i := 25) rfl rfl (by kernel_rfl) (by kernel_rfl) (by kernel_rfl) (fun _ _ _ h => h) (by rfl) (by intro w hSw; (try dsimp only at hSw); go_simp; try with_reducible rfl) (by assumption) ?_
        simp only [Act.put, List.setIfInBounds_toArray, List.set_cons_zero, List.set_cons_succ]
        refine any_take 47 (.pointer (some ⟨(ad.add (k * 5)).block, (ad.add (k * 5)).off + 3, none⟩)) (i := 26) rfl rfl (by kernel_rfl) (by kernel_rfl) (by kernel_rfl) (fun _ _ _ h => h) (by rfl) (by intro w hSw; (try dsimp only at hSw); go_simp; try with_reducible rfl) (by assumption) ?_
        simp only [Act.put, List.setIfInBounds_toArray, List.set_cons_zero, List.set_cons_succ]
        refine any_take 48 (.int .i64 hb) (i := 27) rfl rfl (by kernel_rfl) (by kernel_rfl) (by kernel_rfl) (fun _ _ _ h => h) (by rfl) (by intro w hSw; (try dsimp only at hSw); go_simp; try with_reducible rfl) (by assumption) ?_
        simp only [Act.put, List.setIfInBounds_toArray, List.set_cons_zero, List.set_cons_succ]
        refine any_take 49 (.agg #[.int .i64 0, .int .i64 hb, .int .i64 999, .int .i64 0, .string ⟨#[]⟩, .slice none 0 0]) (i := 28) rfl rfl (by kernel_rfl) (by kernel_rfl) (by kernel_rfl) (fun _ _ _ h => h) (by rfl) (by intro w hSw; (try dsimp only at hSw); go_simp; try with_reducible rfl) (by assumption) ?_
        simp only [Act.put, List.setIfInBounds_toArray, List.set_cons_zero, List.set_cons_succ]
        refine any_take 50 (.int .i64 0) (i := 29) rfl rfl (by kernel_rfl) (by kernel_rfl) (by kernel_rfl) (fun _ _ _ h => h) (by rfl) (by intro w hSw; (try dsimp only at hSw); go_simp; try with_reducible rfl) (by assumption) ?_
        simp only [Act.put, List.setIfInBounds_toArray, List.set_cons_zero, List.set_cons_succ]
        refine any_take 51 (.agg #[.int .i64 2, .int .i64 0, .int .i64 0, .int .i64 0, .string ⟨#[]⟩, .slice none 0 0]) (i := 30) rfl rfl (by kernel_rfl) (by kernel_rfl) (by kernel_rfl) (fun _ _ _ h => h) (by rfl) (by intro w hSw; (try dsimp only at hSw); go_simp; try with_reducible rfl) (by assumption) ?_
        simp only [Act.put, List.setIfInBounds_toArray, List.set_cons_zero, List.set_cons_succ]
        refine wpAnyH_ready (rs := [31]) (by kernel_rfl) (by simp) ?_
        refine AllReadyH.cons rfl (fun K' hK => ?_) AllReadyH.nil
        go_simp
        have F3 : Fr No w (wr.drew.alloc (.cells ((([itS la, itN lb 999, itS ha, itN hb 999, itF 0] : List It).flatMap It.cells).toArray) 77)) := hfr.drew.alloc _
        have G3 : Fr (fun i => w.heap.size ≤ i) wr (wr.drew.alloc (.cells ((([itS la, itN lb 999, itS ha, itN hb 999, itF 0] : List It).flatMap It.cells).toArray) 77)) := ((Fr.refl _ wr).drew).alloc _
        refine hK.out _ _ (HS.out _ G3) (fun hHeld => ?_)
        clear hK
        try simp only [Act.put, List.setIfInBounds_toArray, List.set_cons_zero, List.set_cons_succ]
        refine wpAnyH_ready (rs := [32]) (by kernel_rfl) (by simp) ?_
        refine AllReadyH.cons rfl (fun K' hK => ?_) AllReadyH.nil
        refine wp_items _ _ rfl w.heap.size B (1 + k * 5) d _ rfl (wr.heap.size + 1) (some ⟨wr.heap.size, 0, none⟩) 5 5 [itS la, itN lb 999, itS ha, itN hb 999, itF 0] rfl rfl (slLit _ _ _ _ _ rfl rfl) ((own_fr hown.out ((Fr.refl No wr).drew) (fun _ _ e => e)).alloc _) (by omega) (by have := F3.size; exact this) ?_
        intro B3 d3 w3 hown3 hf3 hg3
        have F4 : Fr No w w3 := F3.trans' hf3 (fun i hi e => by have := (hown.out.lt _ e).1; omega)
        have G4 : Fr (fun i => w.heap.size ≤ i) wr w3 := G3.trans' hf3 (fun i hi e => (hown.out.lt _ e).1)
        refine hK.out _ _ (HS.out _ G4) (fun hHeld => ?_)
        clear hK
        refine any_take 3 (.slice B3 (1 + k * 5 + 5) d3) (i := 33) rfl rfl (by kernel_rfl) (by kernel_rfl) (by kernel_rfl) (fun _ _ _ h => h) (by rfl) (by intro w hSw; (try dsimp only at hSw); go_simp; try with_reducible rfl) (by assumption) ?_
        simp only [Act.put, List.setIfInBounds_toArray]
        refine wpAnyH_done (by kernel_rfl) ?_ _
        clear hHeld
        go_wp2
        go_roundw
        case rel =>
          refine ⟨k + 1, B3, d3, by omega, by go_num, by rw [show 1 + (k + 1) * 5 = 1 + k * 5 + 5 by omega], Lib.hid ?_, F4⟩
          have e1 : (itN n 4 :: (l.take (k + 1)).flatMap itF1) = (itN n 4 :: (l.take k).flatMap itF1) ++ [itS la, itN lb 999, itS ha, itN hb 999, itF 0] := by
            rw [Hs.out, List.flatMap_append]
            simp [itF1]
          rw [e1, show 1 + (k + 1) * 5 = 1 + k * 5 + 5 by omega]
          exact hown3
        case measure => simp [intOf]; omega
      · go_wp2
        refine wp_region_held_drew (S := fun w' => w'.cell? (ad.add (k * 5)) = some (.int .i64 la) ∧ w'.cell? ⟨(ad.add (k * 5)).block, (ad.add (k * 5)).off + 1, none⟩ = some (.int .i64 lb) ∧ w'.cell? ⟨(ad.add (k * 5)).block, (ad.add (k * 5)).off + 2, none⟩ = some (.int .i64 ha) ∧ w'.cell? ⟨(ad.add (k * 5)).block, (ad.add (k * 5)).off + 3, none⟩ = some (.int .i64 hb)) (by kernel_rfl) (HS.out wr (Fr.refl _ _)) (fun hHeld => ?_)
        refine any_take 21 (.slice B (1 + k * 5) d) (i := 0) rfl rfl (by kernel_rfl) (by kernel_rfl) (by kernel_rfl) (fun _ _ _ h => h) (by rfl) (by intro w hSw; (try dsimp only at hSw); go_simp; try with_reducible rfl) (by assumption) ?_
        simp only [Act.put, List.setIfInBounds_toArray, List.set_cons_zero, List.set_cons_succ]
        refine any_take 22 (.slice (some ad) n c) (i := 1) rfl rfl (by kernel_rfl) (by kernel_rfl) (by kernel_rfl) (fun _ _ _ h => h) (by rfl) (by intro w hSw; (try dsimp only at hSw); go_simp; try with_reducible rfl) (by assumption) ?_
        simp only [Act.put, List.setIfInBounds_toArray, List.set_cons_zero, List.set_cons_succ]
        refine any_take 23 (.int .i64 k) (i := 2) rfl rfl (by kernel_rfl) (by kernel_rfl) (by kernel_rfl) (fun _ _ _ h => h) (by rfl) (by intro w hSw; (try dsimp only at hSw); go_simp; try with_reducible rfl) (by assumption) ?_
        simp only [Act.put, List.setIfInBounds_toArray, List.set_cons_zero, List.set_cons_succ]
        refine any_take 24 (.pointer (some (ad.add (k * 5)))) (i := 3) rfl rfl (by kernel_rfl) (by kernel_rfl) (by kernel_rfl) (fun _ _ _ h => h) (by rfl) (by intro w hSw; (try dsimp only at hSw); go_simp; try with_reducible rfl) (by assumption) ?_
        simp only [Act.put, List.setIfInBounds_toArray, List.set_cons_zero, List.set_cons_succ]
        refine any_take 25 (.pointer (some (ad.add (k * 5)))) (i := 4) rfl rfl (by kernel_rfl) (by kernel_rfl) (by kernel_rfl) (fun _ _ _ h => h) (by rfl) (by intro w hSw; (try dsimp only at hSw); go_simp; try with_reducible rfl) (by assumption) ?_
        simp only [Act.put, List.setIfInBounds_toArray, List.set_cons_zero, List.set_cons_succ]
        refine any_take 26 (.pointer (some (ad.add (k * 5)))) (i := 5) rfl rfl (by kernel_rfl) (by kernel_rfl) (by kernel_rfl) (fun _ _ _ h => h) (by rfl) (by intro w hSw; (try dsimp only at hSw); go_simp; try with_reducible rfl) (by assumption) ?_
        simp only [Act.put, List.setIfInBounds_toArray, List.set_cons_zero, List.set_cons_succ]
        refine any_take 27 (.int .i64 la) (i := 6) rfl rfl (by kernel_rfl) (by kernel_rfl) (by kernel_rfl) (fun _ _ _ h => h) (by rfl) (by intro w hSw; (try dsimp only at hSw); go_simp; try with_reducible rfl) (by assumption) ?_
        simp only [Act.put, List.setIfInBounds_toArray, List.set_cons_zero, List.set_cons_succ]
        refine any_take 28 (.agg #[.int .i64 1, .int .i64 0, .int .i64 0, .int .i64 la, .string ⟨#[]⟩, .slice none 0 0]) (i := 7) rfl rfl (by kernel_rfl) (by kernel_rfl) (by kernel_rfl) (fun _ _ _ h => h) (by rfl) (by intro w hSw; (try dsimp only at hSw); go_simp; try with_reducible rfl) (by assumption) ?_
        simp only [Act.put, List.setIfInBounds_toArray, List.set_cons_zero, List.set_cons_succ]
        refine any_take 29 (.slice (some ad) n c) (i := 8) rfl rfl (by kernel_rfl) (by kernel_rfl) (by kernel_rfl) (fun _ _ _ h => h) (by rfl) (by intro w hSw; (try dsimp only at hSw); go_simp; try with_reducible rfl) (by assumption) ?_
        simp only [Act.put, List.setIfInBounds_toArray, List.set_cons_zero, List.set_cons_succ]
        refine any_take 30 (.int .i64 k) (i := 9) rfl rfl (by kernel_rfl) (by kernel_rfl) (by kernel_rfl) (fun _ _ _ h => h) (by rfl) (by intro w hSw; (try dsimp only at hSw); go_simp; try with_reducible rfl) (by assumption) ?_
        simp only [Act.put, List.setIfInBounds_toArray, List.set_cons_zero, List.set_cons_succ]
        refine any_take 31 (.pointer (some (ad.add (k * 5)))) (i := 10) rfl rfl (by kernel_rfl) (by kernel_rfl) (by kernel_rfl) (fun _ _ _ h => h) (by rfl) (by intro w hSw; (try dsimp only at hSw); go_simp; try with_reducible rfl) (by assumption) ?_
        simp only [Act.put, List.setIfInBounds_toArray, List.set_cons_zero, List.set_cons_succ]
        refine any_take 32 (.pointer (some (ad.add (k * 5)))) (i := 11) rfl rfl (by kernel_rfl) (by kernel_rfl) (by kernel_rfl) (fun _ _ _ h => h) (by rfl) (by intro w hSw; (try dsimp only at hSw); go_simp; try with_reducible rfl) (by assumption) ?_
        simp only [Act.put, List.setIfInBounds_toArray, List.set_cons_zero, List.set_cons_succ]
        refine any_take 33 (.pointer (some ⟨(ad.add (k * 5)).block, (ad.add (k * 5)).off + 1, none⟩)) (i := 12) rfl rfl (by kernel_rfl) (by kernel_rfl) (by kernel_rfl) (fun _ _ _ h => h) (by rfl) (by intro w hSw; (try dsimp only at hSw); go_simp; try with_reducible rfl) (by assumption) ?_
        simp only [Act.put, List.setIfInBounds_toArray, List.set_cons_zero, List.set_cons_succ]
        refine any_take 34 (.int .i64 lb) (i := 13) rfl rfl (by kernel_rfl) (by kernel_rfl) (by kernel_rfl) (fun _ _ _ h => h) (by rfl) (by intro w hSw; (try dsimp only at hSw); go_simp; try with_reducible rfl) (by assumption) ?_
        simp only [Act.put, List.setIfInBounds_toArray, List.set_cons_zero, List.set_cons_succ]
        refine any_take 35 (.agg #[.int .i64 0, .int .i64 lb, .int .i64 999, .int .i64 0, .string ⟨#[]⟩, .slice none 0 0]) (i := 14) rfl rfl (by kernel_rfl) (by kernel_rfl) (by kernel_rfl) (fun _ _ _ h => h) (by rfl) (by intro w hSw; (try dsimp only at hSw); go_simp; try with_reducible rfl) (by assumption) ?_
        simp only [Act.put, List.setIfInBounds_toArray, List.set_cons_zero, List.set_cons_succ]
        refine any_take 36 (.slice (some ad) n c) (i := 15) rfl rfl (by kernel_rfl) (by kernel_rfl) (by kernel_rfl) (fun _ _ _ h => h) (by rfl) (by intro w hSw; (try dsimp only at hSw); go_simp; try with_reducible rfl) (by assumption) ?_
        simp only [Act.put, List.setIfInBounds_toArray, List.set_cons_zero, List.set_cons_succ]
        refine any_take 37 (.int .i64 k) (i := 16) rfl rfl (by kernel_rfl) (by kernel_rfl) (by kernel_rfl) (fun _ _ _ h => h) (by rfl) (by intro w hSw; (try dsimp only at hSw); go_simp; try with_reducible rfl) (by assumption) ?_
        simp only [Act.put, List.setIfInBounds_toArray, List.set_cons_zero, List.set_cons_succ]
        refine any_take 38 (.pointer (some (ad.add (k * 5)))) (i := 17) rfl rfl (by kernel_rfl) (by kernel_rfl) (by kernel_rfl) (fun _ _ _ h => h) (by rfl) (by intro w hSw; (try dsimp only at hSw); go_simp; try with_reducible rfl) (by assumption) ?_
        simp only [Act.put, List.setIfInBounds_toArray, List.set_cons_zero, List.set_cons_succ]
        refine any_take 39 (.pointer (some ⟨(ad.add (k * 5)).block, (ad.add (k * 5)).off + 2, none⟩)) (i := 18) rfl rfl (by kernel_rfl) (by kernel_rfl) (by kernel_rfl) (fun _ _ _ h => h) (by rfl) (by intro w hSw; (try dsimp only at hSw); go_simp; try with_reducible rfl) (by assumption) ?_
        simp only [Act.put, List.setIfInBounds_toArray, List.set_cons_zero, List.set_cons_succ]
        refine any_take 40 (.pointer (some ⟨(ad.add (k * 5)).block, (ad.add (k * 5)).off + 2, none⟩)) (i := 19) rfl rfl (by kernel_rfl) (by kernel_rfl) (by kernel_rfl) (fun _ _ _ h => h) (by rfl) (by intro w hSw; (try dsimp only at hSw); go_simp; try with_reducible rfl) (by assumption) ?_
        simp only [Act.put, List.setIfInBounds_toArray, List.set_cons_zero, List.set_cons_succ]
        refine any_take 41 (.int .i64 ha) (i := 20) rfl rfl (by kernel_rfl) (by kernel_rfl) (by kernel_rfl) (fun _ _ _ h => h) (by rfl) (by intro w hSw; (try dsimp only at hSw); go_simp; try with_reducible rfl) (by assumption) ?_
        simp only [Act.put, List.setIfInBounds_toArray, List.set_cons_zero, List.set_cons_succ]
        refine any_take 42 (.agg #[.int .i64 1, .int .i64 0, .int .i64 0, .int .i64 ha, .string ⟨#[]⟩, .slice none 0 0]) (i := 21) rfl rfl (by kernel_rfl) (by kernel_rfl) (by kernel_rfl) (fun _ _ _ h => h) (by rfl) (by intro w hSw; (try dsimp only at hSw); go_simp; try with_reducible rfl) (by assumption) ?_
        simp only [Act.put, List.setIfInBounds_toArray, List.set_cons_zero, List.set_cons_succ]
        refine any_take 43 (.slice (some ad) n c) (i := 22) rfl rfl (by kernel_rfl) (by kernel_rfl) (by kernel_rfl) (fun _ _ _ h => h) (by rfl) (by intro w hSw; (try dsimp only at hSw); go_simp; try with_reducible rfl) (by assumption) ?_
        simp only [Act.put, List.setIfInBounds_toArray, List.set_cons_zero, List.set_cons_succ]
        refine any_take 44 (.int .i64 k) (i := 23) rfl rfl (by kernel_rfl) (by kernel_rfl) (by kernel_rfl) (fun _ _ _ h => h) (by rfl) (by intro w hSw; (try dsimp only at hSw); go_simp; try with_reducible rfl) (by assumption) ?_
        simp only [Act.put, List.setIfInBounds_toArray, List.set_cons_zero, List.set_cons_succ]
        refine any_take 45 (.pointer (some (ad.add (k * 5)))) (i := 24) rfl rfl (by kernel_rfl) (by kernel_rfl) (by kernel_rfl) (fun _ _ _ h => h) (by rfl) (by intro w hSw; (try dsimp only at hSw); go_simp; try with_reducible rfl) (by assumption) ?_
        simp only [Act.put, List.setIfInBounds_toArray, List.set_cons_zero, List.set_cons_succ]
        refine any_take 46 (.pointer (some ⟨(ad.add (k * 5)).block, (ad.add (k * 5)).off + 2, none⟩)) (i := 25) rfl rfl (by kernel_rfl) (by kernel_rfl) (by kernel_rfl) (fun _ _ _ h => h) (by rfl) (by intro w hSw; (try dsimp only at hSw); go_simp; try with_reducible rfl) (by assumption) ?_
        simp only [Act.put, List.setIfInBounds_toArray, List.set_cons_zero, List.set_cons_succ]
        refine any_take 47 (.pointer (some ⟨(ad.add (k * 5)).block, (ad.add (k * 5)).off + 3, none⟩)) (i := 26) rfl rfl (by kernel_rfl) (by kernel_rfl) (by kernel_rfl) (fun _ _ _ h => h) (by rfl) (by intro w hSw; (try dsimp only at hSw); go_simp; try with_reducible rfl) (by assumption) ?_
        simp only [Act.put, List.setIfInBounds_toArray, List.set_cons_zero, List.set_cons_succ]
        refine any_take 48 (.int .i64 hb) (i := 27) rfl rfl (by kernel_rfl) (by kernel_rfl) (by kernel_rfl) (fun _ _ _ h => h) (by rfl) (by intro w hSw; (try dsimp only at hSw); go_simp; try with_reducible rfl) (by assumption) ?_
        simp only [Act.put, List.setIfInBounds_toArray, List.set_cons_zero, List.set_cons_succ]
        refine any_take 49 (.agg #[.int .i64 0, .int .i64 hb, .int .i64 999, .int .i64 0, .string ⟨#[]⟩, .slice none 0 0]) (i := 28) rfl rfl (by kernel_rfl) (by kernel_rfl) (by kernel_rfl) (fun _ _ _ h => h) (by rfl) (by intro w hSw; (try dsimp only at hSw); go_simp; try with_reducible rfl) (by assumption) ?_
        simp only [Act.put, List.setIfInBounds_toArray, List.set_cons_zero, List.set_cons_succ]
        refine any_take 50 (.int .i64 1) (i := 29) rfl rfl (by kernel_rfl) (by kernel_rfl) (by kernel_rfl) (fun _ _ _ h => h) (by rfl) (by intro w hSw; (try dsimp only at hSw); go_simp; try with_reducible rfl) (by assumption) ?_
        simp only [Act.put, List.setIfInBounds_toArray, List.set_cons_zero, List.set_cons_succ]
        refine any_take 51 (.agg #[.int .i64 2, .int .i64 1, .int .i64 0, .int .i64 0, .string ⟨#[]⟩, .slice none 0 0]) (i := 30) rfl rfl (by kernel_rfl) (by kernel_rfl) (by kernel_rfl) (fun _ _ _ h => h) (by rfl) (by intro w hSw; (try dsimp only at hSw); go_simp; try with_reducible rfl) (by assumption) ?_
        simp only [Act.put, List.setIfInBounds_toArray, List.set_cons_zero, List.set_cons_succ]
        refine wpAnyH_ready (rs := [31]) (by kernel_rfl) (by simp) ?_
        refine AllReadyH.cons rfl (fun K' hK => ?_) AllReadyH.nil
        go_simp
        have F3 : Fr No w (wr.drew.alloc (.cells ((([itS la, itN lb 999, itS ha, itN hb 999, itF 1] : List It).flatMap It.cells).toArray) 77)) := hfr.drew.alloc _
        have G3 : Fr (fun i => w.heap.size ≤ i) wr (wr.drew.alloc (.cells ((([itS la, itN lb 999, itS ha, itN hb 999, itF 1] : List It).flatMap It.cells).toArray) 77)) := ((Fr.refl _ wr).drew).alloc _
        refine hK.out _ _ (HS.out _ G3) (fun hHeld => ?_)
        clear hK
        try simp only [Act.put, List.setIfInBounds_toArray, List.set_cons_zero, List.set_cons_succ]
        refine wpAnyH_ready (rs := [32]) (by kernel_rfl) (by simp) ?_
        refine AllReadyH.cons rfl (fun K' hK => ?_) AllReadyH.nil
        refine wp_items _ _ rfl w.heap.size B (1 + k * 5) d _ rfl (wr.heap.size + 1) (some ⟨wr.heap.size, 0, none⟩) 5 5 [itS la, itN lb 999, itS ha, itN hb 999, itF 1] rfl rfl (slLit _ _ _ _ _ rfl rfl) ((own_fr hown.out ((Fr.refl No wr).drew) (fun _ _ e => e)).alloc _) (by omega) (by have := F3.size; exact this) ?_
        intro B3 d3 w3 hown3 hf3 hg3
        have F4 : Fr No w w3 := F3.trans' hf3 (fun i hi e => by have := (hown.out.lt _ e).1; omega)
        have G4 : Fr (fun i => w.heap.size ≤ i) wr w3 := G3.trans' hf3 (fun i hi e => (hown.out.lt _ e).1)
        refine hK.out _ _ (HS.out _ G4) (fun hHeld => ?_)
        clear hK
        refine any_take 3 (.slice B3 (1 + k * 5 + 5) d3) (i := 33) rfl rfl (by kernel_rfl) (by kernel_rfl) (by kernel_rfl) (fun _ _ _ h => h) (by rfl) (by intro w hSw; (try dsimp only at hSw); go_simp; try with_reducible rfl) (by assumption) ?_
        simp only [Act.put, List.setIfInBounds_toArray]
        refine wpAnyH_done (by kernel_rfl) ?_ _
        clear hHeld
        go_wp2
        go_roundw
        case rel =>
          refine ⟨k + 1, B3, d3, by omega, by go_num, by rw [show 1 + (k + 1) * 5 = 1 + k * 5 + 5 by omega], Lib.hid ?_, F4⟩
          have e1 : (itN n 4 :: (l.take (k + 1)).flatMap itF1) = (itN n 4 :: (l.take k).flatMap itF1) ++ [itS la, itN lb 999, itS ha, itN hb 999, itF 1] := by
            rw [Hs.out, List.flatMap_append]
            simp [itF1]
          rw [e1, show 1 + (k + 1) * 5 = 1 + k * 5 + 5 by omega]
          exact hown3
        case measure => simp [intOf]; omega
    · obtain rfl : k = n := by omega
      have Hp : Hid (itFP l = itN k 4 :: (l.take k).flatMap itF1) := Lib.hid (by rw [itFP, List.take_of_length_le (by rw [Hn.out]; exact Nat.le_refl _), Hn.out])
      have Hl : Hid ((itFP l).length = 1 + k * 5) := Lib.hid (by rw [itFP_len, Hn.out])
      go_wp2
      go_ret
      refine ⟨B, d, by rw [Hl.out]; rfl, by rw [Hp.out]; exact Sl.ofOwn hown.out, ?_, hfr⟩
      intro ad e
      have h1 := (hown.out.lt ad.block (by subst e; rfl)).1
      exact h1
end Go.Proofs.YtbemfomiiikpoaaGreat
/- Words of items, texts among them, as the document has them. -/
namespace Go.Proofs.YtbemfomiiikpoaaGreat
open Go.RowKit

theorem words_few {t : It} (h : t.kind = 0 ∨ t.kind = 1 ∨ t.kind = 2 ∨ t.kind = 3) (hs : t.s.size ≤ 64) : t.words.length ≤ 9 := by
  rcases h with h | h | h | h
  · simp [It.words, h]
  · simp [It.words, h]
  · simp [It.words, h]
  · simp [It.words, h, packed_len, byts_len]
    omega

set_option maxHeartbeats 2000000 in
theorem words11_any (ts : List It) (A : Option Addr) (n c : Nat) (w : World) (hsl : Sl w w.heap.size A (ts.flatMap It.cells)) (hn : ts.length = n) (hnm : n ≤ 10000) (hok : ∀ t ∈ ts, (t.kind = 0 ∨ t.kind = 1 ∨ t.kind = 2 ∨ t.kind = 3) ∧ I64 t.n ∧ I64 t.most ∧ I64 t.x ∧ t.s.size ≤ 64 ∧ t.L = [] ∧ t.A = none ∧ t.c = 0) :
    Calls Tryz.prog 12 #[.slice A n c] w (NewL w (ts.flatMap It.words)) := by
  have Hn := Lib.hid hn
  have Hsl := Lib.hid hsl
  have Hok := Lib.hid hok
  have Hone : Hid (∀ t ∈ ts, t.words.length ≤ 9) := Lib.hid (fun t ht => words_few (hok t ht).1 (hok t ht).2.2.2.2.1)
  clear hn hsl hok
  go_enter Tryz.func12, Tryz.ntmps12
  go_wp2
  go_loopw [3, 4] (fun out at_ wr => ∃ (k : Nat) (B : Option Addr) (d : Nat), k ≤ n ∧ at_ = .int .i64 k ∧ out = .slice B ((ts.take k).flatMap It.words).length d ∧ Hid (wr.ownsRow w.heap.size 70 1 (.slice B ((ts.take k).flatMap It.words).length d) ((ts.take k).flatMap It.words).length (u64s ((ts.take k).flatMap It.words))) ∧ Fr No w wr) (fun _ i _ => n - (intOf i).toNat)
  case atStart => exact ⟨0, none, 0, Nat.zero_le _, rfl, by simp, Lib.hid (by simpa [u64s] using World.ownsRow_nil _ _ _ _), Fr.refl _ _⟩
  case round =>
    obtain ⟨k, B, d, hk, rfl, rfl, hown, hfr⟩ := hrel
    by_cases hlt : k < n
    · have hkl : k < ts.length := by rw [Hn.out]; exact hlt
      have Hs : Hid (ts.take (k + 1) = ts.take k ++ [ts[k]]) := Lib.hid (List.take_succ_eq_append_getElem hkl)
      have hq := Hok.out _ (List.getElem_mem hkl)
      have Hlen : Hid (((ts.take k).flatMap It.words).length ≤ 90000) := Lib.hid (by
        have e : ∀ us : List It, (∀ t ∈ us, t.words.length ≤ 9) → (us.flatMap It.words).length ≤ us.length * 9 := by
          intro us hu
          induction us with
          | nil => simp
          | cons a r ih =>
            have h1 := hu a (by simp)
            have h2 := ih (fun t ht => hu t (by simp [ht]))
            rw [List.flatMap_cons, List.length_append, List.length_cons]
            omega
        have h1 := e (ts.take k) (fun t ht => Hone.out t (List.mem_of_mem_take ht))
        rw [List.length_take] at h1
        omega)
      obtain ⟨ad, rfl, hab, hrow⟩ := (Hsl.out.since hfr).row 6 It.cells_len9 hkl (by omega)
      have C0 := fun (h0 : ts[k].kind = 0) (hOk : ts[k].Ok wr wr.heap.size) (hb : wr.ownsRow 0 70 1 (.slice B ((ts.take k).flatMap It.words).length d) ((ts.take k).flatMap It.words).length (u64s ((ts.take k).flatMap It.words))) => refWrite_0 ((ts.take k).flatMap It.words) B d ts[k] wr hb h0 hOk (by have := Hlen.out; omega)
      have C1 := fun (h0 : ts[k].kind = 1) (hOk : ts[k].Ok wr wr.heap.size) (hb : wr.ownsRow 0 70 1 (.slice B ((ts.take k).flatMap It.words).length d) ((ts.take k).flatMap It.words).length (u64s ((ts.take k).flatMap It.words))) => refWrite_1 ((ts.take k).flatMap It.words) B d ts[k] wr hb h0 hOk (by have := Hlen.out; omega)
      have C2 := fun (h0 : ts[k].kind = 2) (hOk : ts[k].Ok wr wr.heap.size) (hb : wr.ownsRow 0 70 1 (.slice B ((ts.take k).flatMap It.words).length d) ((ts.take k).flatMap It.words).length (u64s ((ts.take k).flatMap It.words))) => refWrite_2 ((ts.take k).flatMap It.words) B d ts[k] wr hb h0 hOk (by have := Hlen.out; omega)
      have C3 := fun (h0 : ts[k].kind = 3) (hOk : ts[k].Ok wr wr.heap.size) (hb : wr.ownsRow 0 70 1 (.slice B ((ts.take k).flatMap It.words).length d) ((ts.take k).flatMap It.words).length (u64s ((ts.take k).flatMap It.words))) => refWrite_3 ((ts.take k).flatMap It.words) B d ts[k] wr hb h0 hOk (by have := Hlen.out; omega)
      generalize ts[k] = t at *
      obtain ⟨kind, n0, most, x, s, L, A0, c0⟩ := t
      dsimp only at hq
      obtain ⟨q1, q2, q3, q4, q5, rfl, rfl, rfl⟩ := hq
      have hOk : It.Ok wr wr.heap.size ⟨kind, n0, most, x, s, [], none, 0⟩ := ⟨by dsimp only; omega, q2, q3, q4, (show s.size ≤ 200 by omega), Nat.zero_le _, by simp, ⟨Nat.le_refl _, Nat.zero_le _⟩, by simp, Sl.nil _ _ _⟩
      have hCC : Calls Tryz.prog 29 #[.slice B ((ts.take k).flatMap It.words).length d, .agg #[.int .i64 kind, .int .i64 n0, .int .i64 most, .int .i64 x, .string s, .slice none 0 0]] wr (Grew wr (Value.slice B ((ts.take k).flatMap It.words).length d).ownBlock ((ts.take k).flatMap It.words ++ It.words ⟨kind, n0, most, x, s, [], none, 0⟩)) := by
        have hb : wr.ownsRow 0 70 1 (.slice B ((ts.take k).flatMap It.words).length d) ((ts.take k).flatMap It.words).length (u64s ((ts.take k).flatMap It.words)) := by
          obtain ⟨z1, z2⟩ := hown.out
          refine ⟨z1, ?_⟩
          rcases z2 with z2 | ⟨g, cap, cur, hv, hbg, rr⟩
          · exact .inl z2
          · exact .inr ⟨g, cap, cur, hv, Nat.zero_le _, rr⟩
        rcases q1 with q1 | q1 | q1 | q1
        · exact C0 q1 hOk hb
        · exact C1 q1 hOk hb
        · exact C2 q1 hOk hb
        · exact C3 q1 hOk hb
      have HC := Lib.hid hCC
      have r0 := hrow 0 _ rfl
      have r1 := hrow 1 _ rfl
      have r2 := hrow 2 _ rfl
      have r3 := hrow 3 _ rfl
      have r4 := hrow 4 _ rfl
      have r5 := hrow 5 _ rfl
      have r0 : wr.cell? (ad.add (k * 6)) = some (.int .i64 kind) := r0
      have r1 : wr.cell? ⟨(ad.add (k * 6)).block, (ad.add (k * 6)).off + 1, none⟩ = some (.int .i64 n0) := r1
      have r2 : wr.cell? ⟨(ad.add (k * 6)).block, (ad.add (k * 6)).off + 2, none⟩ = some (.int .i64 most) := r2
      have r3 : wr.cell? ⟨(ad.add (k * 6)).block, (ad.add (k * 6)).off + 3, none⟩ = some (.int .i64 x) := r3
      have r4 : wr.cell? ⟨(ad.add (k * 6)).block, (ad.add (k * 6)).off + 4, none⟩ = some (.string s) := r4
      have r5 : wr.cell? ⟨(ad.add (k * 6)).block, (ad.add (k * 6)).off + 5, none⟩ = some (.slice none 0 0) := r5
      have Hfl : Hid ((ts.take (k + 1)).flatMap It.words = (ts.take k).flatMap It.words ++ It.words ⟨kind, n0, most, x, s, [], none, 0⟩) := Lib.hid (by rw [Hs.out, List.flatMap_append]; simp)
      clear hrow C0 C1 C2 C3 hCC q1
      generalize (ts.take k).flatMap It.words = ws at *
      go_wp2_with fail
      refine (HC.out).mono ?_
      rintro e w2 ⟨B2, d2, rfl, hown2, hf2, hg2⟩
      go_wp2
      go_roundw
      case rel =>
        refine ⟨k + 1, B2, d2, by omega, by go_num, by rw [Hfl.out, List.length_append], Lib.hid ?_, hfr.trans' hf2 (fun i hi e => by have := (hown.out.lt _ e).1; omega)⟩
        rw [Hfl.out]
        obtain ⟨z1, z2⟩ := hown2
        refine ⟨z1, ?_⟩
        rcases z2 with z2 | ⟨g, cap, cur, hv, hbg, rr⟩
        · exact .inl z2
        · refine .inr ⟨g, cap, cur, hv, ?_, rr⟩
          rw [hv] at hg2
          rcases hg2 with hg2 | ⟨i, hg2, hi⟩
          · exact (hown.out.lt g (by rw [← hg2]; rfl)).1
          · have : g = i := by simpa [Value.ownBlock] using hg2
            subst this
            exact Nat.le_trans hfr.size hi
      case measure => simp [intOf]; omega
    · obtain rfl : k = n := by omega
      have Hall : Hid (ts.take k = ts) := Lib.hid (List.take_of_length_le (by rw [Hn.out]; exact Nat.le_refl _))
      rw [Hall.out] at hown ⊢
      go_wp2
      go_ret
      exact ⟨B, d, rfl, hown.out, hfr⟩

end Go.Proofs.YtbemfomiiikpoaaGreat
/- A class as the document's items. -/
namespace Go.Proofs.YtbemfomiiikpoaaGreat
open Go.RowKit

/-- A text as an item. -/
def itT (s : ByteArray) : It := ⟨3, 0, 0, 0, s, [], none, 0⟩
def itPr (q : (List Ins × List Fsp) × (List Ins × List Fsp)) : List It := itP q.1.1 ++ itFP q.1.2 ++ itP q.2.1 ++ itFP q.2.2
/-- The items of a class. -/
def itC (c : PC) : List It := ([itT c.name, itN c.args 3, itN c.steps.length 4] ++ (c.steps.zip c.comps).flatMap itPr) ++ [itF (if c.res = true then 1 else 0)]
structure Stp.Small (s : Stp) : Prop where
  code : s.code.length ≤ 8
  foot : s.foot.length ≤ 4
theorem itPr_len {q : (List Ins × List Fsp) × (List Ins × List Fsp)} : (itPr q).length = 4 + q.1.1.length * 9 + q.1.2.length * 5 + q.2.1.length * 9 + q.2.2.length * 5 := by
  unfold itPr
  simp only [List.length_append, itP_len, itFP_len]
  omega

set_option maxRecDepth 100000 in
set_option maxHeartbeats 8000000 in
theorem refItems11_any (c : Cls) (w : World) (hc : c.Ok w) (hn : c.steps.length ≤ 4) (hm : c.comps.length = c.steps.length) (h1 : ∀ s ∈ c.steps, s.Small) (h2 : ∀ s ∈ c.comps, s.Small) :
    Calls Tryz.prog 30 #[c.agg] w (Items9 w (itC c.p)) := by
  have Hst := Lib.hid (fun (W : World) (h : Fr No w W) => hc.steps.since h)
  have Hco := Lib.hid (fun (W : World) (h : Fr No w W) => hc.comps.since h)
  have Hall := Lib.hid (fun s hs => hc.steps.all s hs)
  have Hallc := Lib.hid (fun s hs => hc.comps.all s hs)
  have Hsm := Lib.hid h1
  have Hsc := Lib.hid h2
  obtain ⟨zs, hzs⟩ : ∃ zs, c.p.steps.zip c.p.comps = zs := ⟨_, rfl⟩
  have Hget : Hid (∀ k (h1 : k < c.steps.length) (h2 : k < c.comps.length), ∃ h : k < zs.length, zs[k] = (c.steps[k].p, c.comps[k].p)) := Lib.hid (by
    subst hzs
    intro k h1 h2
    exact ⟨by simp [Cls.p]; omega, by simp [Cls.p, List.getElem_zip]⟩)
  have HZ : Hid (zs.length = c.steps.length) := Lib.hid (by subst hzs; simp [Cls.p, hm])
  have Hi : Hid (itC c.p = ([itT c.name, itN c.args 3, itN c.steps.length 4] ++ zs.flatMap itPr) ++ [itF (if c.res = true then 1 else 0)]) := Lib.hid (by subst hzs; simp [itC, Cls.p]; rfl)
  generalize itC c.p = its at *
  clear hzs
  obtain ⟨an, a, sA, ss, sc, uA, us, uc, res⟩ := c
  simp only [Cls.agg]
  dsimp only at Hst Hco Hall Hallc Hget HZ Hi Hsm Hsc hn hm
  obtain ⟨n, hn0⟩ : ∃ n, ss.length = n := ⟨_, rfl⟩
  rw [hn0] at Hi HZ hn hm
  simp only [hn0, hm]
  have Hn := Lib.hid hn0
  have Hm := Lib.hid hm
  have hfa : Fr No w (w.alloc (.cells #[.string an, .int .i64 a, .slice sA n sc, .slice uA n uc, .bool res] 59)) := (Fr.refl _ _).alloc _
  clear hc hm hn0 h1 h2
  have HB := Lib.hid (Bk.made w 59 #[.string an, .int .i64 a, .slice sA n sc, .slice uA n uc, .bool res])
  obtain ⟨W0, hW0⟩ : ∃ W0, Hid (W0 = (w.alloc (.cells #[.string an, .int .i64 a, .slice sA n sc, .slice uA n uc, .bool res] 59)).alloc (.cells (([itT an, itN a 3, itN n 4] : List It).flatMap It.cells).toArray 77)) := ⟨_, Lib.hid rfl⟩
  have hfW : Hid (Fr No w W0) := Lib.hid (by rw [hW0.out]; exact hfa.alloc _)
  have hbW : Hid (Bk W0 w.heap.size 59 #[.string an, .int .i64 a, .slice sA n sc, .slice uA n uc, .bool res]) := Lib.hid (by rw [hW0.out]; exact HB.out.fr ((Fr.refl No _).alloc _) (fun e => e))
  have hown0 : Hid (W0.ownsRow (w.heap.size + 1) 77 6 (.slice (some ⟨w.heap.size + 1, 0, none⟩) 3 3) 3 (([itT an, itN a 3, itN n 4] : List It).flatMap It.cells)) := Lib.hid (by
    have h := World.ownsRow_lit (base := w.heap.size + 1) (e := 77) (size := 6) (w.alloc (.cells #[.string an, .int .i64 a, .slice sA n sc, .slice uA n uc, .bool res] 59)) (([itT an, itN a 3, itN n 4] : List It).flatMap It.cells).toArray 3 (by simp) (by decide) rfl
    rw [hW0.out]
    simpa using h)
  have hwe : (w.alloc (.cells #[.string an, .int .i64 a, .slice sA n sc, .slice uA n uc, .bool res] 59)).alloc (.cells #[.int .i64 3, .int .i64 0, .int .i64 0, .int .i64 0, .string an, .slice none 0 0, .int .i64 0, .int .i64 a, .int .i64 3, .int .i64 0, .string ⟨#[]⟩, .slice none 0 0, .int .i64 0, .int .i64 n, .int .i64 4, .int .i64 0, .string ⟨#[]⟩, .slice none 0 0] 77) = W0 := by rw [hW0.out]; rfl
  go_enter Tryz.func30, Tryz.ntmps30
  go_wp2
  clear hwe
  have HB := hbW
  go_loopw [3, 4] (fun out i wr => ∃ (k : Nat) (B : Option Addr) (d : Nat), k ≤ n ∧ i = .int .i64 k ∧ out = .slice B ([itT an, itN a 3, itN n 4] ++ (zs.take k).flatMap itPr).length d ∧ Hid (([itT an, itN a 3, itN n 4] ++ (zs.take k).flatMap itPr).length ≤ 3 + k * 200) ∧ Hid (wr.ownsRow (w.heap.size + 1) 77 6 (.slice B ([itT an, itN a 3, itN n 4] ++ (zs.take k).flatMap itPr).length d) ([itT an, itN a 3, itN n 4] ++ (zs.take k).flatMap itPr).length (([itT an, itN a 3, itN n 4] ++ (zs.take k).flatMap itPr).flatMap It.cells)) ∧ Fr No w wr ∧ Fr (fun i => w.heap.size + 1 ≤ i) W0 wr) (fun _ i _ => n - (intOf i).toNat)
  case atStart => exact ⟨0, some ⟨w.heap.size + 1, 0, none⟩, 3, Nat.zero_le _, rfl, by simp, Lib.hid (by simp), Lib.hid (by simpa using hown0.out), hfW.out, Fr.refl _ _⟩
  case round =>
    obtain ⟨k, B, d, hk, rfl, rfl, hlen, hown, hfr, hgr⟩ := hrel
    have hb := HB.out.fr hgr (fun e => by omega)
    have hbl := hb.lt
    have f2 := hb.cell 2
    have f3 := hb.cell 3
    have f4 := hb.cell 4
    simp at f2 f3 f4
    by_cases hlt : k < n
    · have hkl : k < ss.length := by rw [Hn.out]; exact hlt
      have hkm : k < us.length := by rw [Hm.out]; exact hlt
      obtain ⟨ad, rfl, hab, c0, c1⟩ := (Hst.out wr hfr).sl.stp (k := k) hkl
      obtain ⟨ae, rfl, hae, e0, e1⟩ := (Hco.out wr hfr).sl.stp (k := k) hkm
      have hab0 : ad.block < w.heap.size := by
        obtain ⟨ad', e', h', _⟩ := (Hst.out w (Fr.refl _ _)).sl.stp (k := k) hkl
        injection e' with e'
        subst e'
        exact h'
      have hae0 : ae.block < w.heap.size := by
        obtain ⟨ad', e', h', _⟩ := (Hco.out w (Fr.refl _ _)).sl.stp (k := k) hkm
        injection e' with e'
        subst e'
        exact h'
      have HX := Lib.hid (Hall.out _ (List.getElem_mem hkl))
      have HY := Lib.hid (Hallc.out _ (List.getElem_mem hkm))
      have HXs := Lib.hid (Hsm.out _ (List.getElem_mem hkl))
      have HYs := Lib.hid (Hsc.out _ (List.getElem_mem hkm))
      obtain ⟨hkz, hzk⟩ := Hget.out k hkl hkm
      have Hs : Hid (zs.take (k + 1) = zs.take k ++ [zs[k]]) := Lib.hid (List.take_succ_eq_append_getElem hkz)
      rw [hzk] at Hs
      clear hkz hzk
      generalize ss[k] = x at *
      generalize us[k] = y at *
      obtain ⟨xc, xl, xd, xf, xm, xe⟩ := x
      obtain ⟨yc, yl, yd, yf, ym, ye⟩ := y
      dsimp only at c0 c1 e0 e1
      have hl1 : xl.length ≤ 8 := HXs.out.code
      have hl2 : xm.length ≤ 4 := HXs.out.foot
      have hl3 : yl.length ≤ 8 := HYs.out.code
      have hl4 : ym.length ≤ 4 := HYs.out.foot
      have C1 := Lib.hid (fun (W : World) (h : Fr No w W) => items_any xl xc xl.length xd W (HX.out.code.since h) rfl hl1)
      have C2 := Lib.hid (fun (W : World) (h : Fr No w W) => items10_any xm xf xm.length xe W (HX.out.foot.since h) rfl hl2)
      have C3 := Lib.hid (fun (W : World) (h : Fr No w W) => items_any yl yc yl.length yd W (HY.out.code.since h) rfl hl3)
      have C4 := Lib.hid (fun (W : World) (h : Fr No w W) => items10_any ym yf ym.length ye W (HY.out.foot.since h) rfl hl4)
      have HQ : Hid ([itT an, itN a 3, itN n 4] ++ (zs.take (k + 1)).flatMap itPr = ([itT an, itN a 3, itN n 4] ++ (zs.take k).flatMap itPr) ++ itP xl ++ itFP xm ++ itP yl ++ itFP ym) := Lib.hid (by
        rw [Hs.out, List.flatMap_append]
        simp [itPr, Stp.p, List.append_assoc])
      have L1 : Hid ((itP xl).length ≤ 73) := Lib.hid (by rw [itP_len]; omega)
      have L2 : Hid ((itFP xm).length ≤ 21) := Lib.hid (by rw [itFP_len]; omega)
      have L3 : Hid ((itP yl).length ≤ 73) := Lib.hid (by rw [itP_len]; omega)
      have L4 : Hid ((itFP ym).length ≤ 21) := Lib.hid (by rw [itFP_len]; omega)
      obtain ⟨cur2, hcur2⟩ : ∃ z, Hid ([itT an, itN a 3, itN n 4] ++ (zs.take (k + 1)).flatMap itPr = z) := ⟨_, Lib.hid rfl⟩
      rw [hcur2.out] at HQ
      generalize [itT an, itN a 3, itN n 4] ++ (zs.take k).flatMap itPr = cur at *
      generalize itP xl = t1 at *
      generalize itFP xm = t2 at *
      generalize itP yl = t3 at *
      generalize itFP ym = t4 at *
      generalize xl.length = p1 at *
      generalize xm.length = p2 at *
      generalize yl.length = p3 at *
      generalize ym.length = p4 at *
      have HS : Hid (∀ w', Fr (fun i => w.heap.size + 1 ≤ i) wr w' → w'.cell? ⟨w.heap.size, 2, none⟩ = some (.slice (some ad) n sc) ∧ w'.cell? ⟨w.heap.size, 3, none⟩ = some (.slice (some ae) n uc) ∧ w'.cell? (ad.add (k * 2)) = some (.slice xc p1 xd) ∧ w'.cell? ⟨(ad.add (k * 2)).block, (ad.add (k * 2)).off + 1, none⟩ = some (.slice xf p2 xe) ∧ w'.cell? (ae.add (k * 2)) = some (.slice yc p3 yd) ∧ w'.cell? ⟨(ae.add (k * 2)).block, (ae.add (k * 2)).off + 1, none⟩ = some (.slice yf p4 ye) ∧ w.heap.size < w'.heap.size) := Lib.hid (fun w' h => ⟨(h.cell (p := ⟨w.heap.size, 2, none⟩) hbl (fun e => absurd e (Nat.not_succ_le_self _))).trans f2, (h.cell (p := ⟨w.heap.size, 3, none⟩) hbl (fun e => absurd e (Nat.not_succ_le_self _))).trans f3, (h.cell (p := ad.add (k * 2)) (by rw [block_add]; exact hab) (fun e => by rw [block_add] at e; omega)).trans c0, (h.cell (p := ⟨(ad.add (k * 2)).block, (ad.add (k * 2)).off + 1, none⟩) (by rw [block_add]; exact hab) (fun e => by simp only [block_add] at e; omega)).trans c1, (h.cell (p := ae.add (k * 2)) (by rw [block_add]; exact hae) (fun e => by rw [block_add] at e; omega)).trans e0, (h.cell (p := ⟨(ae.add (k * 2)).block, (ae.add (k * 2)).off + 1, none⟩) (by rw [block_add]; exact hae) (fun e => by simp only [block_add] at e; omega)).trans e1, Nat.lt_of_lt_of_le hbl h.size⟩)
      have HO0 := hown
      have HF0 := Lib.hid hfr
      have HG0 : Hid (Fr (fun i => w.heap.size + 1 ≤ i) wr wr) := Lib.hid (Fr.refl _ _)
      have HLen0 := hlen
      clear HX HY HXs HYs hb hl1 hl2 hl3 hl4 Hs hown hlen hfr
      go_wp2_with fail
      refine (C1.out _ HF0.out).mono ?_
      rintro e' v1 ⟨D1, d1, rfl, hsl1, -, g1⟩
      have HSl1 := Lib.hid hsl1
      have HFm1 : Hid (Fr No w v1) := Lib.hid (HF0.out.then0 g1 (fun _ h => h.elim))
      have HGm1 : Hid (Fr (fun i => w.heap.size + 1 ≤ i) wr v1) := Lib.hid (HG0.out.trans' g1 (fun _ _ h => h.elim))
      have HOm1 := Lib.hid (own_fr HO0.out g1 (fun _ _ e => e))
      clear hsl1 g1 f2 f3 f4 c0 c1 e0 e1
      go_wp2_with (
        at_builtin
        refine append_items rfl _ _ rfl (w.heap.size + 1) B _ d cur rfl v1.heap.size D1 _ d1 t1 rfl rfl HSl1.out HOm1.out (by have := HLen0.out; have := L1.out; omega) (by have := (HS.out v1 HGm1.out).2.2.2.2.2.2; omega) ?_
        intro B1 b1 w1 o1 fr1 gr1
        rw [← List.length_append] at o1 ⊢
        obtain ⟨cu1, hcu1⟩ : ∃ z, Hid (z = cur ++ t1) := ⟨_, Lib.hid rfl⟩
        rw [← hcu1.out] at o1 ⊢
        have HO1 := Lib.hid o1
        have HF1 : Hid (Fr No w w1) := Lib.hid (HFm1.out.trans' fr1 (fun i hi e => by have := (HOm1.out.lt _ e).1; omega))
        have HG1 : Hid (Fr (fun i => w.heap.size + 1 ≤ i) wr w1) := Lib.hid (HGm1.out.trans' fr1 (fun i hi e => (HOm1.out.lt _ e).1))
        have HLen1 : Hid (cu1.length ≤ 3 + k * 200 + 73) := Lib.hid (by have := HLen0.out; have := L1.out; rw [hcu1.out, List.length_append]; omega)
        obtain ⟨f2_1, f3_1, c0_1, c1_1, e0_1, e1_1, hbl_1⟩ := HS.out w1 HG1.out
        have hab_1 : (ad.add (k * 2)).block < w1.heap.size := by rw [block_add]; omega
        have hae_1 : (ae.add (k * 2)).block < w1.heap.size := by rw [block_add]; omega
        clear o1 fr1 gr1)
      refine (C2.out _ HF1.out).mono ?_
      rintro e' v2 ⟨D2, d2, rfl, hsl2, -, g2⟩
      have HSl2 := Lib.hid hsl2
      have HFm2 : Hid (Fr No w v2) := Lib.hid (HF1.out.then0 g2 (fun _ h => h.elim))
      have HGm2 : Hid (Fr (fun i => w.heap.size + 1 ≤ i) wr v2) := Lib.hid (HG1.out.trans' g2 (fun _ _ h => h.elim))
      have HOm2 := Lib.hid (own_fr HO1.out g2 (fun _ _ e => e))
      clear hsl2 g2 f2_1 f3_1 c0_1 c1_1 e0_1 e1_1
      go_wp2_with (
        at_builtin
        refine append_items rfl _ _ rfl (w.heap.size + 1) B1 _ b1 cu1 rfl v2.heap.size D2 _ d2 t2 rfl rfl HSl2.out HOm2.out (by have := HLen1.out; have := L2.out; omega) (by have := (HS.out v2 HGm2.out).2.2.2.2.2.2; omega) ?_
        intro B2 b2 w2 o2 fr2 gr2
        rw [← List.length_append] at o2 ⊢
        obtain ⟨cu2, hcu2⟩ : ∃ z, Hid (z = cu1 ++ t2) := ⟨_, Lib.hid rfl⟩
        rw [← hcu2.out] at o2 ⊢
        have HO2 := Lib.hid o2
        have HF2 : Hid (Fr No w w2) := Lib.hid (HFm2.out.trans' fr2 (fun i hi e => by have := (HOm2.out.lt _ e).1; omega))
        have HG2 : Hid (Fr (fun i => w.heap.size + 1 ≤ i) wr w2) := Lib.hid (HGm2.out.trans' fr2 (fun i hi e => (HOm2.out.lt _ e).1))
        have HLen2 : Hid (cu2.length ≤ 3 + k * 200 + 94) := Lib.hid (by have := HLen1.out; have := L2.out; rw [hcu2.out, List.length_append]; omega)
        obtain ⟨f2_2, f3_2, c0_2, c1_2, e0_2, e1_2, hbl_2⟩ := HS.out w2 HG2.out
        have hab_2 : (ad.add (k * 2)).block < w2.heap.size := by rw [block_add]; omega
        have hae_2 : (ae.add (k * 2)).block < w2.heap.size := by rw [block_add]; omega
        clear o2 fr2 gr2)
      refine (C3.out _ HF2.out).mono ?_
      rintro e' v3 ⟨D3, d3, rfl, hsl3, -, g3⟩
      have HSl3 := Lib.hid hsl3
      have HFm3 : Hid (Fr No w v3) := Lib.hid (HF2.out.then0 g3 (fun _ h => h.elim))
      have HGm3 : Hid (Fr (fun i => w.heap.size + 1 ≤ i) wr v3) := Lib.hid (HG2.out.trans' g3 (fun _ _ h => h.elim))
      have HOm3 := Lib.hid (own_fr HO2.out g3 (fun _ _ e => e))
      clear hsl3 g3 f2_2 f3_2 c0_2 c1_2 e0_2 e1_2
      go_wp2_with (
        at_builtin
        refine append_items rfl _ _ rfl (w.heap.size + 1) B2 _ b2 cu2 rfl v3.heap.size D3 _ d3 t3 rfl rfl HSl3.out HOm3.out (by have := HLen2.out; have := L3.out; omega) (by have := (HS.out v3 HGm3.out).2.2.2.2.2.2; omega) ?_
        intro B3 b3 w3 o3 fr3 gr3
        rw [← List.length_append] at o3 ⊢
        obtain ⟨cu3, hcu3⟩ : ∃ z, Hid (z = cu2 ++ t3) := ⟨_, Lib.hid rfl⟩
        rw [← hcu3.out] at o3 ⊢
        have HO3 := Lib.hid o3
        have HF3 : Hid (Fr No w w3) := Lib.hid (HFm3.out.trans' fr3 (fun i hi e => by have := (HOm3.out.lt _ e).1; omega))
        have HG3 : Hid (Fr (fun i => w.heap.size + 1 ≤ i) wr w3) := Lib.hid (HGm3.out.trans' fr3 (fun i hi e => (HOm3.out.lt _ e).1))
        have HLen3 : Hid (cu3.length ≤ 3 + k * 200 + 167) := Lib.hid (by have := HLen2.out; have := L3.out; rw [hcu3.out, List.length_append]; omega)
        obtain ⟨f2_3, f3_3, c0_3, c1_3, e0_3, e1_3, hbl_3⟩ := HS.out w3 HG3.out
        have hab_3 : (ad.add (k * 2)).block < w3.heap.size := by rw [block_add]; omega
        have hae_3 : (ae.add (k * 2)).block < w3.heap.size := by rw [block_add]; omega
        clear o3 fr3 gr3)
      refine (C4.out _ HF3.out).mono ?_
      rintro e' v4 ⟨D4, d4, rfl, hsl4, -, g4⟩
      have HSl4 := Lib.hid hsl4
      have HFm4 : Hid (Fr No w v4) := Lib.hid (HF3.out.then0 g4 (fun _ h => h.elim))
      have HGm4 : Hid (Fr (fun i => w.heap.size + 1 ≤ i) wr v4) := Lib.hid (HG3.out.trans' g4 (fun _ _ h => h.elim))
      have HOm4 := Lib.hid (own_fr HO3.out g4 (fun _ _ e => e))
      clear hsl4 g4 f2_3 f3_3 c0_3 c1_3 e0_3 e1_3
      go_wp2_with (
        at_builtin
        refine append_items rfl _ _ rfl (w.heap.size + 1) B3 _ b3 cu3 rfl v4.heap.size D4 _ d4 t4 rfl rfl HSl4.out HOm4.out (by have := HLen3.out; have := L4.out; omega) (by have := (HS.out v4 HGm4.out).2.2.2.2.2.2; omega) ?_
        intro B4 b4 w4 o4 fr4 gr4
        rw [← List.length_append] at o4 ⊢
        obtain ⟨cu4, hcu4⟩ : ∃ z, Hid (z = cu3 ++ t4) := ⟨_, Lib.hid rfl⟩
        rw [← hcu4.out] at o4 ⊢
        have HO4 := Lib.hid o4
        have HF4 : Hid (Fr No w w4) := Lib.hid (HFm4.out.trans' fr4 (fun i hi e => by have := (HOm4.out.lt _ e).1; omega))
        have HG4 : Hid (Fr (fun i => w.heap.size + 1 ≤ i) wr w4) := Lib.hid (HGm4.out.trans' fr4 (fun i hi e => (HOm4.out.lt _ e).1))
        have HLen4 : Hid (cu4.length ≤ 3 + k * 200 + 188) := Lib.hid (by have := HLen3.out; have := L4.out; rw [hcu4.out, List.length_append]; omega)
        obtain ⟨f2_4, f3_4, c0_4, c1_4, e0_4, e1_4, hbl_4⟩ := HS.out w4 HG4.out
        have hab_4 : (ad.add (k * 2)).block < w4.heap.size := by rw [block_add]; omega
        have hae_4 : (ae.add (k * 2)).block < w4.heap.size := by rw [block_add]; omega
        clear o4 fr4 gr4)
      go_roundw
      case rel =>
        have hq : cur2 = cu4 := by rw [HQ.out, hcu4.out, hcu3.out, hcu2.out, hcu1.out]
        refine ⟨k + 1, B4, b4, by omega, by go_num, by rw [hcur2.out, hq], Lib.hid (by rw [hcur2.out, hq]; have := HLen4.out; omega), by rw [hcur2.out, hq]; exact HO4, HF4.out, hgr.trans' HG4.out (fun _ _ h => h)⟩
      case measure => simp [intOf]; omega
    · obtain rfl : k = n := by omega
      have Hz : Hid (zs.take k = zs) := Lib.hid (List.take_of_length_le (by rw [HZ.out]; exact Nat.le_refl _))
      rw [Hz.out] at hown hlen ⊢
      generalize [itT an, itN a 3, itN k 4] ++ zs.flatMap itPr = cur at *
      have HF0 := Lib.hid hfr
      cases res
      all_goals
        go_wp2_with (
          at_builtin
          refine append_items rfl _ _ rfl (w.heap.size + 1) B _ d cur rfl (wr.heap.size + 1) (some ⟨wr.heap.size, 0, none⟩) 1 _ [itF _] rfl rfl (slLit _ _ _ _ _ rfl rfl) (hown.out.alloc _) (by have := hlen.out; omega) (by simp; omega) ?_
          intro B3 b3 w3 o3 fr3 gr3)
        go_ret
        refine ⟨B3, b3, by rw [Hi.out, List.length_append]; rfl, by rw [Hi.out]; exact Sl.ofOwn o3, fun ad e => ?_, (HF0.out.alloc _).trans' fr3 (fun i hi e => by have := (hown.out.lt _ e).1; omega)⟩
        subst e
        have h := (o3.lt ad.block (by obtain ⟨A9, c9, e9, -, -, -⟩ := own_shape o3; rfl)).1
        omega
end Go.Proofs.YtbemfomiiikpoaaGreat
