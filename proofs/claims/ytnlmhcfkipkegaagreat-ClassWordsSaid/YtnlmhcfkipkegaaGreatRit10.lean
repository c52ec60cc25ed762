/- A footprint as the document's items; their words. -/
import Derived.Test.YtnlmhcfkipkegaaGreatItm9
import Derived.Test.YtnlmhcfkipkegaaGreatPrg10
namespace Go.Proofs.YtnlmhcfkipkegaaGreat
open Go.RowKit

set_option maxHeartbeats 2000000 in
theorem words10_any (ts : List It) (A : Option Addr) (n c : Nat) (w : World) (hsl : Sl w w.heap.size A (ts.flatMap It.cells)) (hn : ts.length = n) (hnm : n ≤ 1000) (hok : ∀ t ∈ ts, (t.kind = 0 ∨ t.kind = 1 ∨ t.kind = 2) ∧ I64 t.n ∧ I64 t.most ∧ I64 t.x ∧ t.s = ⟨#[]⟩ ∧ t.L = [] ∧ t.A = none ∧ t.c = 0) :
    Calls Tryz.prog 11 #[.slice A n c] w (NewL w (ts.flatMap It.words)) := by
  have Hn := Lib.hid hn
  have Hsl := Lib.hid hsl
  have Hok := Lib.hid hok
  have Hone : Hid (∀ t ∈ ts, t.words.length = 1) := Lib.hid (fun t ht => by
    rcases (hok t ht).1 with h | h | h <;> simp [It.words, h])
  clear hn hsl hok
  go_enter Tryz.func11, Tryz.ntmps11
  go_wp2
  go_loopw [3, 4] (fun out at_ wr => ∃ (k : Nat) (B : Option Addr) (d : Nat), k ≤ n ∧ at_ = .int .i64 k ∧ out = .slice B ((ts.take k).flatMap It.words).length d ∧ Hid (wr.ownsRow w.heap.size 60 1 (.slice B ((ts.take k).flatMap It.words).length d) ((ts.take k).flatMap It.words).length (u64s ((ts.take k).flatMap It.words))) ∧ Fr No w wr) (fun _ i _ => n - (intOf i).toNat)
  case atStart => exact ⟨0, none, 0, Nat.zero_le _, rfl, by simp, Lib.hid (by simpa [u64s] using World.ownsRow_nil _ _ _ _), Fr.refl _ _⟩
  case round =>
    obtain ⟨k, B, d, hk, rfl, rfl, hown, hfr⟩ := hrel
    by_cases hlt : k < n
    · have hkl : k < ts.length := by rw [Hn.out]; exact hlt
      have Hs : Hid (ts.take (k + 1) = ts.take k ++ [ts[k]]) := Lib.hid (List.take_succ_eq_append_getElem hkl)
      have hq := Hok.out _ (List.getElem_mem hkl)
      have Hlen : Hid (((ts.take k).flatMap It.words).length ≤ 1000) := Lib.hid (by
        have e : ∀ us : List It, (∀ t ∈ us, t.words.length = 1) → (us.flatMap It.words).length = us.length := by
          intro us hu
          induction us with
          | nil => rfl
          | cons a r ih => rw [List.flatMap_cons, List.length_append, hu a (by simp), ih (fun t ht => hu t (by simp [ht])), List.length_cons]; omega
        rw [e _ (fun t ht => Hone.out t (List.mem_of_mem_take ht)), List.length_take]
        omega)
      obtain ⟨ad, rfl, hab, hrow⟩ := (Hsl.out.since hfr).row 6 It.cells_len9 hkl (by omega)
      have C0 := fun (h0 : ts[k].kind = 0) (hOk : ts[k].Ok wr wr.heap.size) (hb : wr.ownsRow 0 60 1 (.slice B ((ts.take k).flatMap It.words).length d) ((ts.take k).flatMap It.words).length (u64s ((ts.take k).flatMap It.words))) => refWrite_0 ((ts.take k).flatMap It.words) B d ts[k] wr hb h0 hOk (by have := Hlen.out; omega)
      have C1 := fun (h0 : ts[k].kind = 1) (hOk : ts[k].Ok wr wr.heap.size) (hb : wr.ownsRow 0 60 1 (.slice B ((ts.take k).flatMap It.words).length d) ((ts.take k).flatMap It.words).length (u64s ((ts.take k).flatMap It.words))) => refWrite_1 ((ts.take k).flatMap It.words) B d ts[k] wr hb h0 hOk (by have := Hlen.out; omega)
      have C2 := fun (h0 : ts[k].kind = 2) (hOk : ts[k].Ok wr wr.heap.size) (hb : wr.ownsRow 0 60 1 (.slice B ((ts.take k).flatMap It.words).length d) ((ts.take k).flatMap It.words).length (u64s ((ts.take k).flatMap It.words))) => refWrite_2 ((ts.take k).flatMap It.words) B d ts[k] wr hb h0 hOk (by have := Hlen.out; omega)
      generalize ts[k] = t at *
      obtain ⟨kind, n0, most, x, s, L, A0, c0⟩ := t
      dsimp only at hq
      obtain ⟨q1, q2, q3, q4, rfl, rfl, rfl, rfl⟩ := hq
      have hOk : It.Ok wr wr.heap.size ⟨kind, n0, most, x, ⟨#[]⟩, [], none, 0⟩ := ⟨by dsimp only; omega, q2, q3, q4, (show (0 : Nat) ≤ 200 by decide), Nat.zero_le _, by simp, ⟨Nat.le_refl _, Nat.zero_le _⟩, by simp, Sl.nil _ _ _⟩
      have hCC : Calls Tryz.prog 28 #[.slice B ((ts.take k).flatMap It.words).length d, .agg #[.int .i64 kind, .int .i64 n0, .int .i64 most, .int .i64 x, .string ⟨#[]⟩, .slice none 0 0]] wr (Grew wr (Value.slice B ((ts.take k).flatMap It.words).length d).ownBlock ((ts.take k).flatMap It.words ++ It.words ⟨kind, n0, most, x, ⟨#[]⟩, [], none, 0⟩)) := by
        have hb : wr.ownsRow 0 60 1 (.slice B ((ts.take k).flatMap It.words).length d) ((ts.take k).flatMap It.words).length (u64s ((ts.take k).flatMap It.words)) := by
          obtain ⟨z1, z2⟩ := hown.out
          refine ⟨z1, ?_⟩
          rcases z2 with z2 | ⟨g, cap, cur, hv, hbg, rr⟩
          · exact .inl z2
          · exact .inr ⟨g, cap, cur, hv, Nat.zero_le _, rr⟩
        rcases q1 with q1 | q1 | q1
        · exact C0 q1 hOk hb
        · exact C1 q1 hOk hb
        · exact C2 q1 hOk hb
      have HC := Lib.hid hCC
      have r0 := hrow 0 _ rfl
      have r1 := hrow 1 _ rfl
      have r2 := hrow 2 _ rfl
      have r3 := hrow 3 _ rfl
      have r4 := hrow 4 _ rfl
      have r5 := hrow 5 _ rfl
      have r0 : wr.cell? (ad.add (k * 6)) = some (.int .i64 kind) := r0
      have r1 : wr.cell? ⟨(ad.add (k * 6)).block, (ad.add (k * 6)).off + 1, none⟩ = some (.int .i64 n0) := r1
      have r2 : wr.cell? ⟨(ad.add (k * 6)).block, (ad.add (k * 6)).off + 2, none⟩ = some (.int .i64 most) := r2
      have r3 : wr.cell? ⟨(ad.add (k * 6)).block, (ad.add (k * 6)).off + 3, none⟩ = some (.int .i64 x) := r3
      have r4 : wr.cell? ⟨(ad.add (k * 6)).block, (ad.add (k * 6)).off + 4, none⟩ = some (.string ⟨#[]⟩) := r4
      have r5 : wr.cell? ⟨(ad.add (k * 6)).block, (ad.add (k * 6)).off + 5, none⟩ = some (.slice none 0 0) := r5
      have Hfl : Hid ((ts.take (k + 1)).flatMap It.words = (ts.take k).flatMap It.words ++ It.words ⟨kind, n0, most, x, ⟨#[]⟩, [], none, 0⟩) := Lib.hid (by rw [Hs.out, List.flatMap_append]; simp)
      clear hrow C0 C1 C2 hCC q1
      generalize (ts.take k).flatMap It.words = ws at *
      go_wp2_with fail
      refine (HC.out).mono ?_
      rintro e w2 ⟨B2, d2, rfl, hown2, hf2, hg2⟩
      go_wp2
      go_roundw
      case rel =>
        refine ⟨k + 1, B2, d2, by omega, by go_num, by rw [Hfl.out, List.length_append], Lib.hid ?_, hfr.trans' hf2 (fun i hi e => by have := (hown.out.lt _ e).1; omega)⟩
        rw [Hfl.out]
        obtain ⟨z1, z2⟩ := hown2
        refine ⟨z1, ?_⟩
        rcases z2 with z2 | ⟨g, cap, cur, hv, hbg, rr⟩
        · exact .inl z2
        · refine .inr ⟨g, cap, cur, hv, ?_, rr⟩
          rw [hv] at hg2
          rcases hg2 with hg2 | ⟨i, hg2, hi⟩
          · exact (hown.out.lt g (by rw [← hg2]; rfl)).1
          · have : g = i := by simpa [Value.ownBlock] using hg2
            subst this
            exact Nat.le_trans hfr.size hi
      case measure => simp [intOf]; omega
    · obtain rfl : k = n := by omega
      have Hall : Hid (ts.take k = ts) := Lib.hid (List.take_of_length_le (by rw [Hn.out]; exact Nat.le_refl _))
      rw [Hall.out] at hown ⊢
      go_wp2
      go_ret
      exact ⟨B, d, rfl, hown.out, hfr⟩

/-- A flag as an item. -/
def itF (n : Int) : It := ⟨2, n, 0, 0, ⟨#[]⟩, [], none, 0⟩
def itF1 (f : Fsp) : List It := [itS f.la, itN f.lb 999, itS f.ha, itN f.hb 999, itF (if f.wr = true then 1 else 0)]
def itFP (l : List Fsp) : List It := itN l.length 4 :: l.flatMap itF1
theorem itF1_len (f : Fsp) : (itF1 f).length = 5 := rfl
theorem itF1_flat (l : List Fsp) : (l.flatMap itF1).length = l.length * 5 := by
  induction l with
  | nil => simp
  | cons x r ih => rw [List.flatMap_cons, List.length_append, itF1_len, ih, List.length_cons]; omega
theorem itFP_len (l : List Fsp) : (itFP l).length = 1 + l.length * 5 := by
  rw [itFP, List.length_cons, itF1_flat l]
  omega
theorem itF1_words (f : Fsp) : (itF1 f).flatMap It.words = wordsF1 f := by
  have e : (itF (if f.wr = true then 1 else 0)).words = [flagW f.wr] := by cases h : f.wr <;> simp [itF, It.words, flagW]
  simp [itF1, List.flatMap_cons, itN_words, itS_words, wordsF1, e]
theorem itFP_words (l : List Fsp) : (itFP l).flatMap It.words = wordsF l := by
  rw [itFP, List.flatMap_cons, itN_words, wordsF]
  simp only [Int.toNat_natCast, List.cons_append, List.nil_append, List.cons.injEq, true_and]
  induction l with
  | nil => rfl
  | cons x r ih => rw [List.flatMap_cons, List.flatMap_append, itF1_words, ih, List.flatMap_cons]
theorem itFP_fit {l : List Fsp} (h : ∀ i ∈ l, i.I) (hl : l.length ≤ 4) : ∀ t ∈ itFP l, (t.kind = 0 ∨ t.kind = 1 ∨ t.kind = 2) ∧ I64 t.n ∧ I64 t.most ∧ I64 t.x ∧ t.s = ⟨#[]⟩ ∧ t.L = [] ∧ t.A = none ∧ t.c = 0 := by
  have i0 : I64 0 := ⟨by decide, by decide⟩
  have i1 : I64 1 := ⟨by decide, by decide⟩
  have i999 : I64 999 := ⟨by decide, by decide⟩
  have i4 : I64 4 := ⟨by decide, by decide⟩
  intro t ht
  rw [itFP, List.mem_cons] at ht
  rcases ht with rfl | ht
  · exact ⟨.inl rfl, ⟨by simp only [itN]; omega, by simp only [itN]; omega⟩, i4, i0, rfl, rfl, rfl, rfl⟩
  · obtain ⟨i, hi, ht⟩ := List.mem_flatMap.1 ht
    obtain ⟨h0, h1, h2, h3⟩ := h i hi
    simp only [itF1, List.mem_cons, List.not_mem_nil, or_false] at ht
    rcases ht with rfl | rfl | rfl | rfl | rfl
    · exact ⟨.inr (.inl rfl), i0, i0, h0, rfl, rfl, rfl, rfl⟩
    · exact ⟨.inl rfl, h1, i999, i0, rfl, rfl, rfl, rfl⟩
    · exact ⟨.inr (.inl rfl), i0, i0, h2, rfl, rfl, rfl, rfl⟩
    · exact ⟨.inl rfl, h3, i999, i0, rfl, rfl, rfl, rfl⟩
    · refine ⟨.inr (.inr rfl), ?_, i0, i0, rfl, rfl, rfl, rfl⟩
      show I64 (if i.wr = true then 1 else 0)
      cases i.wr
      · exact i0
      · exact i1

set_option maxHeartbeats 8000000 in
theorem items10_any (l : List Fsp) (A : Option Addr) (n c : Nat) (w : World) (hsl : Sl w w.heap.size A (l.flatMap Fsp.cells)) (hn : l.length = n) (hnm : n ≤ 4) :
    Calls Tryz.prog 30 #[.slice A n c] w (Items9 w (itFP l)) := by
  have Hn := Lib.hid hn
  have Hsl := Lib.hid hsl
  clear hn hsl
  go_enter Tryz.func30, Tryz.ntmps30
  go_wp2
  go_loopw [3, 4] (fun out at_ wr => ∃ (k : Nat) (B : Option Addr) (d : Nat), k ≤ n ∧ at_ = .int .i64 k ∧ out = .slice B (1 + k * 5) d ∧ Hid (wr.ownsRow w.heap.size 68 6 (.slice B (1 + k * 5) d) (1 + k * 5) ((itN n 4 :: (l.take k).flatMap itF1).flatMap It.cells)) ∧ Fr No w wr) (fun _ i _ => n - (intOf i).toNat)
  case atStart =>
    refine ⟨0, some ⟨w.heap.size, 0, none⟩, 1, Nat.zero_le _, rfl, rfl, Lib.hid ?_, (Fr.refl _ w).alloc _⟩
    have h := World.ownsRow_lit (base := w.heap.size) (e := 68) (size := 6) w ((itN n 4).cells).toArray 1 (Nat.le_refl _) (by decide) rfl
    simpa [itN, It.cells] using h
  case round =>
    obtain ⟨k, B, d, hk, rfl, rfl, hown, hfr⟩ := hrel
    by_cases hlt : k < n
    · have hkl : k < l.length := by rw [Hn.out]; exact hlt
      obtain ⟨ad, rfl, hab, x0, x1, x2, x3, x4⟩ := (Hsl.out.since hfr).fsp (k := k) hkl
      obtain ⟨ad2, e2, hab0, -⟩ := Hsl.out.fsp (k := k) hkl
      injection e2 with e2
      subst e2
      have hab2 : (ad.add (k * 5)).block < wr.heap.size := by rw [block_add]; exact hab
      have hab3 : ¬ w.heap.size ≤ (ad.add (k * 5)).block := by rw [block_add]; omega
      have Hs : Hid (l.take (k + 1) = l.take k ++ [l[k]]) := Lib.hid (List.take_succ_eq_append_getElem hkl)
      generalize l[k] = x at *
      obtain ⟨la, lb, ha, hb, wt⟩ := x
      dsimp only at x0 x1 x2 x3 x4
      have HS : Hid (∀ w', Fr (fun i => w.heap.size ≤ i) wr w' → w'.cell? (ad.add (k * 5)) = some (.int .i64 la) ∧ w'.cell? ⟨(ad.add (k * 5)).block, (ad.add (k * 5)).off + 1, none⟩ = some (.int .i64 lb) ∧ w'.cell? ⟨(ad.add (k * 5)).block, (ad.add (k * 5)).off + 2, none⟩ = some (.int .i64 ha) ∧ w'.cell? ⟨(ad.add (k * 5)).block, (ad.add (k * 5)).off + 3, none⟩ = some (.int .i64 hb)) := Lib.hid (fun w' h => ⟨(h.cell hab2 hab3).trans x0, (h.cell (p := ⟨(ad.add (k * 5)).block, (ad.add (k * 5)).off + 1, none⟩) hab2 hab3).trans x1, (h.cell (p := ⟨(ad.add (k * 5)).block, (ad.add (k * 5)).off + 2, none⟩) hab2 hab3).trans x2, (h.cell (p := ⟨(ad.add (k * 5)).block, (ad.add (k * 5)).off + 3, none⟩) hab2 hab3).trans x3⟩)
      cases wt
      · go_wp2
        refine wp_region_held_drew (S := fun w' => w'.cell? (ad.add (k * 5)) = some (.int .i64 la) ∧ w'.cell? ⟨(ad.add (k * 5)).block, (ad.add (k * 5)).off + 1, none⟩ = some (.int .i64 lb) ∧ w'.cell? ⟨(ad.add (k * 5)).block, (ad.add (k * 5)).off + 2, none⟩ = some (.int .i64 ha) ∧ w'.cell? ⟨(ad.add (k * 5)).block, (ad.add (k * 5)).off + 3, none⟩ = some (.int .i64 hb)) (by kernel_rfl) (HS.out wr (Fr.refl _ _)) (fun hHeld => ?_)
        refine any_take 21 (.slice B (1 + k * 5) d) (i := 0) rfl rfl (by kernel_rfl) (by kernel_rfl) (by kernel_rfl) (fun _ _ _ h => h) (by rfl) (by intro w hSw; (try dsimp only at hSw); go_simp; try with_reducible rfl) (by assumption) ?_
        simp only [Act.put, List.setIfInBounds_toArray, List.set_cons_zero, List.set_cons_succ]
        refine any_take 22 (.slice (some ad) n c) (i := 1) rfl rfl (by kernel_rfl) (by kernel_rfl) (by kernel_rfl) (fun _ _ _ h => h) (by rfl) (by intro w hSw; (try dsimp only at hSw); go_simp; try with_reducible rfl) (by assumption) ?_
        simp only [Act.put, List.setIfInBounds_toArray, List.set_cons_zero, List.set_cons_succ]
        refine any_take 23 (.int .i64 k) (i := 2) rfl rfl (by kernel_rfl) (by kernel_rfl) (by kernel_rfl) (fun _ _ _ h => h) (by rfl) (by intro w hSw; (try dsimp only at hSw); go_simp; try with_reducible rfl) (by assumption) ?_
        simp only [Act.put, List.setIfInBounds_toArray, List.set_cons_zero, List.set_cons_succ]
        refine any_take 24 (.pointer (some (ad.add (k * 5)))) (i := 3) rfl rfl (by kernel_rfl) (by kernel_rfl) (by kernel_rfl) (fun _ _ _ h => h) (by rfl) (by intro w hSw; (try dsimp only at hSw); go_simp; try with_reducible rfl) (by assumption) ?_
        simp only [Act.put, List.setIfInBounds_toArray, List.set_cons_zero, List.set_cons_succ]
        refine any_take 25 (.pointer (some (ad.add (k * 5)))) (i := 4) rfl rfl (by kernel_rfl) (by kernel_rfl) (by kernel_rfl) (fun _ _ _ h => h) (by rfl) (by intro w hSw; (try dsimp only at hSw); go_simp; try with_reducible rfl) (by assumption) ?_
        simp only [Act.put, List.setIfInBounds_toArray, List.set_cons_zero, List.set_cons_succ]
        refine any_take 26 (.pointer (some (ad.add (k * 5)))) (i := 5) rfl rfl (by kernel_rfl) (by kernel_rfl) (by kernel_rfl) (fun _ _ _ h => h) (by rfl) (by intro w hSw; (try dsimp only at hSw); go_simp; try with_reducible rfl) (by assumption) ?_
        simp only [Act.put, List.setIfInBounds_toArray, List.set_cons_zero, List.set_cons_succ]
        refine any_take 27 (.int .i64 la) (i := 6) rfl rfl (by kernel_rfl) (by kernel_rfl) (by kernel_rfl) (fun _ _ _ h => h) (by rfl) (by intro w hSw; (try dsimp only at hSw); go_simp; try with_reducible rfl) (by assumption) ?_
        simp only [Act.put, List.setIfInBounds_toArray, List.set_cons_zero, List.set_cons_succ]
        refine any_take 28 (.agg #[.int .i64 1, .int .i64 0, .int .i64 0, .int .i64 la, .string ⟨#[]⟩, .slice none 0 0]) (i := 7) rfl rfl (by kernel_rfl) (by kernel_rfl) (by kernel_rfl) (fun _ _ _ h => h) (by rfl) (by intro w hSw; (try dsimp only at hSw); go_simp; try with_reducible rfl) (by assumption) ?_
        simp only [Act.put, List.setIfInBounds_toArray, List.set_cons_zero, List.set_cons_succ]
        refine any_take 29 (.slice (some ad) n c) (i := 8) rfl rfl (by kernel_rfl) (by kernel_rfl) (by kernel_rfl) (fun _ _ _ h => h) (by rfl) (by intro w hSw; (try dsimp only at hSw); go_simp; try with_reducible rfl) (by assumption) ?_
        simp only [Act.put, List.setIfInBounds_toArray, List.set_cons_zero, List.set_cons_succ]
        refine any_take 30 (.int .i64 k) (i := 9) rfl rfl (by kernel_rfl) (by kernel_rfl) (by kernel_rfl) (fun _ _ _ h => h) (by rfl) (by intro w hSw; (try dsimp only at hSw); go_simp; try with_reducible rfl) (by assumption) ?_
        simp only [Act.put, List.setIfInBounds_toArray, List.set_cons_zero, List.set_cons_succ]
        refine any_take 31 (.pointer (some (ad.add (k * 5)))) (i := 10) rfl rfl (by kernel_rfl) (by kernel_rfl) (by kernel_rfl) (fun _ _ _ h => h) (by rfl) (by intro w hSw; (try dsimp only at hSw); go_simp; try with_reducible rfl) (by assumption) ?_
        simp only [Act.put, List.setIfInBounds_toArray, List.set_cons_zero, List.set_cons_succ]
        refine any_take 32 (.pointer (some (ad.add (k * 5)))) (i := 11) rfl rfl (by kernel_rfl) (by kernel_rfl) (by kernel_rfl) (fun _ _ _ h => h) (by rfl) (by intro w hSw; (try dsimp only at hSw); go_simp; try with_reducible rfl) (by assumption) ?_
        simp only [Act.put, List.setIfInBounds_toArray, List.set_cons_zero, List.set_cons_succ]
        refine any_take 33 (.pointer (some ⟨(ad.add (k * 5)).block, (ad.add (k * 5)).off + 1, none⟩)) (i := 12) rfl rfl (by kernel_rfl) (by kernel_rfl) (by kernel_rfl) (fun _ _ _ h => h) (by rfl) (by intro w hSw; (try dsimp only at hSw); go_simp; try with_reducible rfl) (by assumption) ?_
        simp only [Act.put, List.setIfInBounds_toArray, List.set_cons_zero, List.set_cons_succ]
        refine any_take 34 (.int .i64 lb) (i := 13) rfl rfl (by kernel_rfl) (by kernel_rfl) (by kernel_rfl) (fun _ _ _ h => h) (by rfl) (by intro w hSw; (try dsimp only at hSw); go_simp; try with_reducible rfl) (by assumption) ?_
        simp only [Act.put, List.setIfInBounds_toArray, List.set_cons_zero, List.set_cons_succ]
        refine any_take 35 (.agg #[.int .i64 0, .int .i64 lb, .int .i64 999, .int .i64 0, .string ⟨#[]⟩, .slice none 0 0]) (i := 14) rfl rfl (by kernel_rfl) (by kernel_rfl) (by kernel_rfl) (fun _ _ _ h => h) (by rfl) (by intro w hSw; (try dsimp only at hSw); go_simp; try with_reducible rfl) (by assumption) ?_
        simp only [Act.put, List.setIfInBounds_toArray, List.set_cons_zero, List.set_cons_succ]
        refine any_take 36 (.slice (some ad) n c) (i := 15) rfl rfl (by kernel_rfl) (by kernel_rfl) (by kernel_rfl) (fun _ _ _ h => h) (by rfl) (by intro w hSw; (try dsimp only at hSw); go_simp; try with_reducible rfl) (by assumption) ?_
        simp only [Act.put, List.setIfInBounds_toArray, List.set_cons_zero, List.set_cons_succ]
        refine any_take 37 (.int .i64 k) (i := 16) rfl rfl (by kernel_rfl) (by kernel_rfl) (by kernel_rfl) (fun _ _ _ h => h) (by rfl) (by intro w hSw; (try dsimp only at hSw); go_simp; try with_reducible rfl) (by assumption) ?_
        simp only [Act.put, List.setIfInBounds_toArray, List.set_cons_zero, List.set_cons_succ]
        refine any_take 38 (.pointer (some (ad.add (k * 5)))) (i := 17) rfl rfl (by kernel_rfl) (by kernel_rfl) (by kernel_rfl) (fun _ _ _ h => h) (by rfl) (by intro w hSw; (try dsimp only at hSw); go_simp; try with_reducible rfl) (by assumption) ?_
        simp only [Act.put, List.setIfInBounds_toArray, List.set_cons_zero, List.set_cons_succ]
        refine any_take 39 (.pointer (some ⟨(ad.add (k * 5)).block, (ad.add (k * 5)).off + 2, none⟩)) (i := 18) rfl rfl (by kernel_rfl) (by kernel_rfl) (by kernel_rfl) (fun _ _ _ h => h) (by rfl) (by intro w hSw; (try dsimp only at hSw); go_simp; try with_reducible rfl) (by assumption) ?_
        simp only [Act.put, List.setIfInBounds_toArray, List.set_cons_zero, List.set_cons_succ]
        refine any_take 40 (.pointer (some ⟨(ad.add (k * 5)).block, (ad.add (k * 5)).off + 2, none⟩)) (i := 19) rfl rfl (by kernel_rfl) (by kernel_rfl) (by kernel_rfl) (fun _ _ _ h => h) (by rfl) (by intro w hSw; (try dsimp only at hSw); go_simp; try with_reducible rfl) (by assumption) ?_
        simp only [Act.put, List.setIfInBounds_toArray, List.set_cons_zero, List.set_cons_succ]
        refine any_take 41 (.int .i64 ha) (i := 20) rfl rfl (by kernel_rfl) (by kernel_rfl) (by kernel_rfl) (fun _ _ _ h => h) (by rfl) (by intro w hSw; (try dsimp only at hSw); go_simp; try with_reducible rfl) (by assumption) ?_
        simp only [Act.put, List.setIfInBounds_toArray, List.set_cons_zero, List.set_cons_succ]
        refine any_take 42 (.agg #[.int .i64 1, .int .i64 0, .int .i64 0, .int .i64 ha, .string ⟨#[]⟩, .slice none 0 0]) (i := 21) rfl rfl (by kernel_rfl) (by kernel_rfl) (by kernel_rfl) (fun _ _ _ h => h) (by rfl) (by intro w hSw; (try dsimp only at hSw); go_simp; try with_reducible rfl) (by assumption) ?_
        simp only [Act.put, List.setIfInBounds_toArray, List.set_cons_zero, List.set_cons_succ]
        refine any_take 43 (.slice (some ad) n c) (i := 22) rfl rfl (by kernel_rfl) (by kernel_rfl) (by kernel_rfl) (fun _ _ _ h => h) (by rfl) (by intro w hSw; (try dsimp only at hSw); go_simp; try with_reducible rfl) (by assumption) ?_
        simp only [Act.put, List.setIfInBounds_toArray, List.set_cons_zero, List.set_cons_succ]
        refine any_take 44 (.int .i64 k) (i := 23) rfl rfl (by kernel_rfl) (by kernel_rfl) (by kernel_rfl) (fun _ _ _ h => h) (by rfl) (by intro w hSw; (try dsimp only at hSw); go_simp; try with_reducible rfl) (by assumption) ?_
        simp only [Act.put, List.setIfInBounds_toArray, List.set_cons_zero, List.set_cons_succ]
        refine any_take 45 (.pointer (some (ad.add (k * 5)))) (i := 24) rfl rfl (by kernel_rfl) (by kernel_rfl) (by kernel_rfl) (fun _ _ _ h => h) (by rfl) (by intro w hSw; (try dsimp only at hSw); go_simp; try with_reducible rfl) (by assumption) ?_
        simp only [Act.put, List.setIfInBounds_toArray, List.set_cons_zero, List.set_cons_succ]
        refine any_take 46 (.pointer (some ⟨(ad.add (k * 5)).block, (ad.add (k * 5)).off + 2, none⟩)) (i := 25) rfl rfl (by kernel_rfl) (by kernel_rfl) (by kernel_rfl) (fun _ _ _ h => h) (by rfl) (by intro w hSw; (try dsimp only at hSw); go_simp; try with_reducible rfl) (by assumption) ?_
        simp only [Act.put, List.setIfInBounds_toArray, List.set_cons_zero, List.set_cons_succ]
        refine any_take 47 (.pointer (some ⟨(ad.add (k * 5)).block, (ad.add (k * 5)).off + 3, none⟩)) (i := 26) rfl rfl (by kernel_rfl) (by kernel_rfl) (by kernel_rfl) (fun _ _ _ h => h) (by rfl) (by intro w hSw; (try dsimp only at hSw); go_simp; try with_reducible rfl) (by assumption) ?_
        simp only [Act.put, List.setIfInBounds_toArray, List.set_cons_zero, List.set_cons_succ]
        refine any_take 48 (.int .i64 hb) (i := 27) rfl rfl (by kernel_rfl) (by kernel_rfl) (by kernel_rfl) (fun _ _ _ h => h) (by rfl) (by intro w hSw; (try dsimp only at hSw); go_simp; try with_reducible rfl) (by assumption) ?_
        simp only [Act.put, List.setIfInBounds_toArray, List.set_cons_zero, List.set_cons_succ]
        refine any_take 49 (.agg #[.int .i64 0, .int .i64 hb, .int .i64 999, .int .i64 0, .string ⟨#[]⟩, .slice none 0 0]) (i := 28) rfl rfl (by kernel_rfl) (by kernel_rfl) (by kernel_rfl) (fun _ _ _ h => h) (by rfl) (by intro w hSw; (try dsimp only at hSw); go_simp; try with_reducible rfl) (by assumption) ?_
        simp only [Act.put, List.setIfInBounds_toArray, List.set_cons_zero, List.set_cons_succ]
        refine any_take 50 (.int .i64 0) (i := 29) rfl rfl (by kernel_rfl) (by kernel_rfl) (by kernel_rfl) (fun _ _ _ h => h) (by rfl) (by intro w hSw; (try dsimp only at hSw); go_simp; try with_reducible rfl) (by assumption) ?_
        simp only [Act.put, List.setIfInBounds_toArray, List.set_cons_zero, List.set_cons_succ]
        refine any_take 51 (.agg #[.int .i64 2, .int .i64 0, .int .i64 0, .int .i64 0, .string ⟨#[]⟩, .slice none 0 0]) (i := 30) rfl rfl (by kernel_rfl) (by kernel_rfl) (by kernel_rfl) (fun _ _ _ h => h) (by rfl) (by intro w hSw; (try dsimp only at hSw); go_simp; try with_reducible rfl) (by assumption) ?_
        simp only [Act.put, List.setIfInBounds_toArray, List.set_cons_zero, List.set_cons_succ]
        refine wpAnyH_ready (rs := [31]) (by kernel_rfl) (by simp) ?_
        refine AllReadyH.cons rfl (fun K' hK => ?_) AllReadyH.nil
        go_simp
        have F3 : Fr No w (wr.drew.alloc (.cells ((([itS la, itN lb 999, itS ha, itN hb 999, itF 0] : List It).flatMap It.cells).toArray) 68)) := hfr.drew.alloc _
        have G3 : Fr (fun i => w.heap.size ≤ i) wr (wr.drew.alloc (.cells ((([itS la, itN lb 999, itS ha, itN hb 999, itF 0] : List It).flatMap It.cells).toArray) 68)) := ((Fr.refl _ wr).drew).alloc _
        refine hK.out _ _ (HS.out _ G3) (fun hHeld => ?_)
        clear hK
        try simp only [Act.put, List.setIfInBounds_toArray, List.set_cons_zero, List.set_cons_succ]
        refine wpAnyH_ready (rs := [32]) (by kernel_rfl) (by simp) ?_
        refine AllReadyH.cons rfl (fun K' hK => ?_) AllReadyH.nil
        refine wp_items _ _ rfl w.heap.size B (1 + k * 5) d _ rfl (wr.heap.size + 1) (some ⟨wr.heap.size, 0, none⟩) 5 5 [itS la, itN lb 999, itS ha, itN hb 999, itF 0] rfl rfl (slLit _ _ _ _ _ rfl rfl) ((own_fr hown.out ((Fr.refl No wr).drew) (fun _ _ e => e)).alloc _) (by omega) (by have := F3.size; exact this) ?_
        intro B3 d3 w3 hown3 hf3 hg3
        have F4 : Fr No w w3 := F3.trans' hf3 (fun i hi e => by have := (hown.out.lt _ e).1; omega)
        have G4 : Fr (fun i => w.heap.size ≤ i) wr w3 := G3.trans' hf3 (fun i hi e => (hown.out.lt _ e).1)
        refine hK.out _ _ (HS.out _ G4) (fun hHeld => ?_)
        clear hK
        refine any_take 3 (.slice B3 (1 + k * 5 + 5) d3) (i := 33) rfl rfl (by kernel_rfl) (by kernel_rfl) (by kernel_rfl) (fun _ _ _ h => h) (by rfl) (by intro w hSw; (try dsimp only at hSw); go_simp; try with_reducible rfl) (by assumption) ?_
        simp only [Act.put, List.setIfInBounds_toArray, List.set_cons_zero, List.set_cons_succ]
        refine wpAnyH_done (by kernel_rfl) ?_ _
        clear hHeld
        go_wp2
        go_roundw
        case rel =>
          refine ⟨k + 1, B3, d3, by omega, by go_num, by rw [show 1 + (k + 1) * 5 = 1 + k * 5 + 5 by omega], Lib.hid ?_, F4⟩
          have e1 : (itN n 4 :: (l.take (k + 1)).flatMap itF1) = (itN n 4 :: (l.take k).flatMap itF1) ++ [itS la, itN lb 999, itS ha, itN hb 999, itF 0] := by
            rw [Hs.out, List.flatMap_append]
            simp [itF1]
          rw [e1, show 1 + (k + 1) * 5 = 1 + k * 5 + 5 by omega]
          exact hown3
        case measure => simp [intOf]; omega
      · go_wp2
        refine wp_region_held_drew (S := fun w' => w'.cell? (ad.add (k * 5)) = some (.int .i64 la) ∧ w'.cell? ⟨(ad.add (k * 5)).block, (ad.add (k * 5)).off + 1, none⟩ = some (.int .i64 lb) ∧ w'.cell? ⟨(ad.add (k * 5)).block, (ad.add (k * 5)).off + 2, none⟩ = some (.int .i64 ha) ∧ w'.cell? ⟨(ad.add (k * 5)).block, (ad.add (k * 5)).off + 3, none⟩ = some (.int .i64 hb)) (by kernel_rfl) (HS.out wr (Fr.refl _ _)) (fun hHeld => ?_)
        refine any_take 21 (.slice B (1 + k * 5) d) (i := 0) rfl rfl (by kernel_rfl) (by kernel_rfl) (by kernel_rfl) (fun _ _ _ h => h) (by rfl) (by intro w hSw; (try dsimp only at hSw); go_simp; try with_reducible rfl) (by assumption) ?_
        simp only [Act.put, List.setIfInBounds_toArray, List.set_cons_zero, List.set_cons_succ]
        refine any_take 22 (.slice (some ad) n c) (i := 1) rfl rfl (by kernel_rfl) (by kernel_rfl) (by kernel_rfl) (fun _ _ _ h => h) (by rfl) (by intro w hSw; (try dsimp only at hSw); go_simp; try with_reducible rfl) (by assumption) ?_
        simp only [Act.put, List.setIfInBounds_toArray, List.set_cons_zero, List.set_cons_succ]
        refine any_take 23 (.int .i64 k) (i := 2) rfl rfl (by kernel_rfl) (by kernel_rfl) (by kernel_rfl) (fun _ _ _ h => h) (by rfl) (by intro w hSw; (try dsimp only at hSw); go_simp; try with_reducible rfl) (by assumption) ?_
        simp only [Act.put, List.setIfInBounds_toArray, List.set_cons_zero, List.set_cons_succ]
        refine any_take 24 (.pointer (some (ad.add (k * 5)))) (i := 3) rfl rfl (by kernel_rfl) (by kernel_rfl) (by kernel_rfl) (fun _ _ _ h => h) (by rfl) (by intro w hSw; (try dsimp only at hSw); go_simp; try with_reducible rfl) (by assumption) ?_
        simp only [Act.put, List.setIfInBounds_toArray, List.set_cons_zero, List.set_cons_succ]
        refine any_take 25 (.pointer (some (ad.add (k * 5)))) (i := 4) rfl rfl (by kernel_rfl) (by kernel_rfl) (by kernel_rfl) (fun _ _ _ h => h) (by rfl) (by intro w hSw; (try dsimp only at hSw); go_simp; try with_reducible rfl) (by assumption) ?_
        simp only [Act.put, List.setIfInBounds_toArray, List.set_cons_zero, List.set_cons_succ]
        refine any_take 26 (.pointer (some (ad.add (k * 5)))) (i := 5) rfl rfl (by kernel_rfl) (by kernel_rfl) (by kernel_rfl) (fun _ _ _ h => h) (by rfl) (by intro w hSw; (try dsimp only at hSw); go_simp; try with_reducible rfl) (by assumption) ?_
        simp only [Act.put, List.setIfInBounds_toArray, List.set_cons_zero, List.set_cons_succ]
        refine any_take 27 (.int .i64 la) (i := 6) rfl rfl (by kernel_rfl) (by kernel_rfl) (by kernel_rfl) (fun _ _ _ h => h) (by rfl) (by intro w hSw; (try dsimp only at hSw); go_simp; try with_reducible rfl) (by assumption) ?_
        simp only [Act.put, List.setIfInBounds_toArray, List.set_cons_zero, List.set_cons_succ]
        refine any_take 28 (.agg #[.int .i64 1, .int .i64 0, .int .i64 0, .int .i64 la, .string ⟨#[]⟩, .slice none 0 0]) (i := 7) rfl rfl (by kernel_rfl) (by kernel_rfl) (by kernel_rfl) (fun _ _ _ h => h) (by rfl) (by intro w hSw; (try dsimp only at hSw); go_simp; try with_reducible rfl) (by assumption) ?_
        simp only [Act.put, List.setIfInBounds_toArray, List.set_cons_zero, List.set_cons_succ]
        refine any_take 29 (.slice (some ad) n c) (i := 8) rfl rfl (by kernel_rfl) (by kernel_rfl) (by kernel_rfl) (fun _ _ _ h => h) (by rfl) (by intro w hSw; (try dsimp only at hSw); go_simp; try with_reducible rfl) (by assumption) ?_
        simp only [Act.put, List.setIfInBounds_toArray, List.set_cons_zero, List.set_cons_succ]
        refine any_take 30 (.int .i64 k) (i := 9) rfl rfl (by kernel_rfl) (by kernel_rfl) (by kernel_rfl) (fun _ _ _ h => h) (by rfl) (by intro w hSw; (try dsimp only at hSw); go_simp; try with_reducible rfl) (by assumption) ?_
        simp only [Act.put, List.setIfInBounds_toArray, List.set_cons_zero, List.set_cons_succ]
        refine any_take 31 (.pointer (some (ad.add (k * 5)))) (i := 10) rfl rfl (by kernel_rfl) (by kernel_rfl) (by kernel_rfl) (fun _ _ _ h => h) (by rfl) (by intro w hSw; (try dsimp only at hSw); go_simp; try with_reducible rfl) (by assumption) ?_
        simp only [Act.put, List.setIfInBounds_toArray, List.set_cons_zero, List.set_cons_succ]
        refine any_take 32 (.pointer (some (ad.add (k * 5)))) (i := 11) rfl rfl (by kernel_rfl) (by kernel_rfl) (by kernel_rfl) (fun _ _ _ h => h) (by rfl) (by intro w hSw; (try dsimp only at hSw); go_simp; try with_reducible rfl) (by assumption) ?_
        simp only [Act.put, List.setIfInBounds_toArray, List.set_cons_zero, List.set_cons_succ]
        refine any_take 33 (.pointer (some ⟨(ad.add (k * 5)).block, (ad.add (k * 5)).off + 1, none⟩)) (i := 12) rfl rfl (by kernel_rfl) (by kernel_rfl) (by kernel_rfl) (fun _ _ _ h => h) (by rfl) (by intro w hSw; (try dsimp only at hSw); go_simp; try with_reducible rfl) (by assumption) ?_
        simp only [Act.put, List.setIfInBounds_toArray, List.set_cons_zero, List.set_cons_succ]
        refine any_take 34 (.int .i64 lb) (i := 13) rfl rfl (by kernel_rfl) (by kernel_rfl) (by kernel_rfl) (fun _ _ _ h => h) (by rfl) (by intro w hSw; (try dsimp only at hSw); go_simp; try with_reducible rfl) (by assumption) ?_
        simp only [Act.put, List.setIfInBounds_toArray, List.set_cons_zero, List.set_cons_succ]
        refine any_take 35 (.agg #[.int .i64 0, .int .i64 lb, .int .i64 999, .int .i64 0, .string ⟨#[]⟩, .slice none 0 0]) (i := 14) rfl rfl (by kernel_rfl) (by kernel_rfl) (by kernel_rfl) (fun _ _ _ h => h) (by rfl) (by intro w hSw; (try dsimp only at hSw); go_simp; try with_reducible rfl) (by assumption) ?_
        simp only [Act.put, List.setIfInBounds_toArray, List.set_cons_zero, List.set_cons_succ]
        refine any_take 36 (.slice (some ad) n c) (i := 15) rfl rfl (by kernel_rfl) (by kernel_rfl) (by kernel_rfl) (fun _ _ _ h => h) (by rfl) (by intro w hSw; (try dsimp only at hSw); go_simp; try with_reducible rfl) (by assumption) ?_
        simp only [Act.put, List.setIfInBounds_toArray, List.set_cons_zero, List.set_cons_succ]
        refine any_take 37 (.int .i64 k) (i := 16) rfl rfl (by kernel_rfl) (by kernel_rfl) (by kernel_rfl) (fun _ _ _ h => h) (by rfl) (by intro w hSw; (try dsimp only at hSw); go_simp; try with_reducible rfl) (by assumption) ?_
        simp only [Act.put, List.setIfInBounds_toArray, List.set_cons_zero, List.set_cons_succ]
        refine any_take 38 (.pointer (some (ad.add (k * 5)))) (i := 17) rfl rfl (by kernel_rfl) (by kernel_rfl) (by kernel_rfl) (fun _ _ _ h => h) (by rfl) (by intro w hSw; (try dsimp only at hSw); go_simp; try with_reducible rfl) (by assumption) ?_
        simp only [Act.put, List.setIfInBounds_toArray, List.set_cons_zero, List.set_cons_succ]
        refine any_take 39 (.pointer (some ⟨(ad.add (k * 5)).block, (ad.add (k * 5)).off + 2, none⟩)) (i := 18) rfl rfl (by kernel_rfl) (by kernel_rfl) (by kernel_rfl) (fun _ _ _ h => h) (by rfl) (by intro w hSw; (try dsimp only at hSw); go_simp; try with_reducible rfl) (by assumption) ?_
        simp only [Act.put, List.setIfInBounds_toArray, List.set_cons_zero, List.set_cons_succ]
        refine any_take 40 (.pointer (some ⟨(ad.add (k * 5)).block, (ad.add (k * 5)).off + 2, none⟩)) (i := 19) rfl rfl (by kernel_rfl) (by kernel_rfl) (by kernel_rfl) (fun _ _ _ h => h) (by rfl) (by intro w hSw; (try dsimp only at hSw); go_simp; try with_reducible rfl) (by assumption) ?_
        simp only [Act.put, List.setIfInBounds_toArray, List.set_cons_zero, List.set_cons_succ]
        refine any_take 41 (.int .i64 ha) (i := 20) rfl rfl (by kernel_rfl) (by kernel_rfl) (by kernel_rfl) (fun _ _ _ h => h) (by rfl) (by intro w hSw; (try dsimp only at hSw); go_simp; try with_reducible rfl) (by assumption) ?_
        simp only [Act.put, List.setIfInBounds_toArray, List.set_cons_zero, List.set_cons_succ]
        refine any_take 42 (.agg #[.int .i64 1, .int .i64 0, .int .i64 0, .int .i64 ha, .string ⟨#[]⟩, .slice none 0 0]) (i := 21) rfl rfl (by kernel_rfl) (by kernel_rfl) (by kernel_rfl) (fun _ _ _ h => h) (by rfl) (by intro w hSw; (try dsimp only at hSw); go_simp; try with_reducible rfl) (by assumption) ?_
        simp only [Act.put, List.setIfInBounds_toArray, List.set_cons_zero, List.set_cons_succ]
        refine any_take 43 (.slice (some ad) n c) (i := 22) rfl rfl (by kernel_rfl) (by kernel_rfl) (by kernel_rfl) (fun _ _ _ h => h) (by rfl) (by intro w hSw; (try dsimp only at hSw); go_simp; try with_reducible rfl) (by assumption) ?_
        simp only [Act.put, List.setIfInBounds_toArray, List.set_cons_zero, List.set_cons_succ]
        refine any_take 44 (.int .i64 k) (i := 23) rfl rfl (by kernel_rfl) (by kernel_rfl) (by kernel_rfl) (fun _ _ _ h => h) (by rfl) (by intro w hSw; (try dsimp only at hSw); go_simp; try with_reducible rfl) (by assumption) ?_
        simp only [Act.put, List.setIfInBounds_toArray, List.set_cons_zero, List.set_cons_succ]
        refine any_take 45 (.pointer (some (ad.add (k * 5)))) (i := 24) rfl rfl (by kernel_rfl) (by kernel_rfl) (by kernel_rfl) (fun _ _ _ h => h) (by rfl) (by intro w hSw; (try dsimp only at hSw); go_simp; try with_reducible rfl) (by assumption) ?_
        simp only [Act.put, List.setIfInBounds_toArray, List.set_cons_zero, List.set_cons_succ]
        refine any_take 46 (.pointer (some ⟨(ad.add (k * 5)).block, (ad.add (k * 5)).off + 2, none⟩)) (i := 25) rfl rfl (by kernel_rfl) (by kernel_rfl) (by kernel_rfl) (fun _ _ _ h => h) (by rfl) (by intro w hSw; (try dsimp only at hSw); go_simp; try with_reducible rfl) (by assumption) ?_
        simp only [Act.put, List.setIfInBounds_toArray, List.set_cons_zero, List.set_cons_succ]
        refine any_take 47 (.pointer (some ⟨(ad.add (k * 5)).block, (ad.add (k * 5)).off + 3, none⟩)) (i := 26) rfl rfl (by kernel_rfl) (by kernel_rfl) (by kernel_rfl) (fun _ _ _ h => h) (by rfl) (by intro w hSw; (try dsimp only at hSw); go_simp; try with_reducible rfl) (by assumption) ?_
        simp only [Act.put, List.setIfInBounds_toArray, List.set_cons_zero, List.set_cons_succ]
        refine any_take 48 (.int .i64 hb) (i := 27) rfl rfl (by kernel_rfl) (by kernel_rfl) (by kernel_rfl) (fun _ _ _ h => h) (by rfl) (by intro w hSw; (try dsimp only at hSw); go_simp; try with_reducible rfl) (by assumption) ?_
        simp only [Act.put, List.setIfInBounds_toArray, List.set_cons_zero, List.set_cons_succ]
        refine any_take 49 (.agg #[.int .i64 0, .int .i64 hb, .int .i64 999, .int .i64 0, .string ⟨#[]⟩, .slice none 0 0]) (i := 28) rfl rfl (by kernel_rfl) (by kernel_rfl) (by kernel_rfl) (fun _ _ _ h => h) (by rfl) (by intro w hSw; (try dsimp only at hSw); go_simp; try with_reducible rfl) (by assumption) ?_
        simp only [Act.put, List.setIfInBounds_toArray, List.set_cons_zero, List.set_cons_succ]
        refine any_take 50 (.int .i64 1) (i := 29) rfl rfl (by kernel_rfl) (by kernel_rfl) (by kernel_rfl) (fun _ _ _ h => h) (by rfl) (by intro w hSw; (try dsimp only at hSw); go_simp; try with_reducible rfl) (by assumption) ?_
        simp only [Act.put, List.setIfInBounds_toArray, List.set_cons_zero, List.set_cons_succ]
        refine any_take 51 (.agg #[.int .i64 2, .int .i64 1, .int .i64 0, .int .i64 0, .string ⟨#[]⟩, .slice none 0 0]) (i := 30) rfl rfl (by kernel_rfl) (by kernel_rfl) (by kernel_rfl) (fun _ _ _ h => h) (by rfl) (by intro w hSw; (try dsimp only at hSw); go_simp; try with_reducible rfl) (by assumption) ?_
        simp only [Act.put, List.setIfInBounds_toArray, List.set_cons_zero, List.set_cons_succ]
        refine wpAnyH_ready (rs := [31]) (by kernel_rfl) (by simp) ?_
        refine AllReadyH.cons rfl (fun K' hK => ?_) AllReadyH.nil
        go_simp
        have F3 : Fr No w (wr.drew.alloc (.cells ((([itS la, itN lb 999, itS ha, itN hb 999, itF 1] : List It).flatMap It.cells).toArray) 68)) := hfr.drew.alloc _
        have G3 : Fr (fun i => w.heap.size ≤ i) wr (wr.drew.alloc (.cells ((([itS la, itN lb 999, itS ha, itN hb 999, itF 1] : List It).flatMap It.cells).toArray) 68)) := ((Fr.refl _ wr).drew).alloc _
        refine hK.out _ _ (HS.out _ G3) (fun hHeld => ?_)
        clear hK
        try simp only [Act.put, List.setIfInBounds_toArray, List.set_cons_zero, List.set_cons_succ]
        refine wpAnyH_ready (rs := [32]) (by kernel_rfl) (by simp) ?_
        refine AllReadyH.cons rfl (fun K' hK => ?_) AllReadyH.nil
        refine wp_items _ _ rfl w.heap.size B (1 + k * 5) d _ rfl (wr.heap.size + 1) (some ⟨wr.heap.size, 0, none⟩) 5 5 [itS la, itN lb 999, itS ha, itN hb 999, itF 1] rfl rfl (slLit _ _ _ _ _ rfl rfl) ((own_fr hown.out ((Fr.refl No wr).drew) (fun _ _ e => e)).alloc _) (by omega) (by have := F3.size; exact this) ?_
        intro B3 d3 w3 hown3 hf3 hg3
        have F4 : Fr No w w3 := F3.trans' hf3 (fun i hi e => by have := (hown.out.lt _ e).1; omega)
        have G4 : Fr (fun i => w.heap.size ≤ i) wr w3 := G3.trans' hf3 (fun i hi e => (hown.out.lt _ e).1)
        refine hK.out _ _ (HS.out _ G4) (fun hHeld => ?_)
        clear hK
        refine any_take 3 (.slice B3 (1 + k * 5 + 5) d3) (i := 33) rfl rfl (by kernel_rfl) (by kernel_rfl) (by kernel_rfl) (fun _ _ _ h => h) (by rfl) (by intro w hSw; (try dsimp only at hSw); go_simp; try with_reducible rfl) (by assumption) ?_
        simp only [Act.put, List.setIfInBounds_toArray, List.set_cons_zero, List.set_cons_succ]
        refine wpAnyH_done (by kernel_rfl) ?_ _
        clear hHeld
        go_wp2
        go_roundw
        case rel =>
          refine ⟨k + 1, B3, d3, by omega, by go_num, by rw [show 1 + (k + 1) * 5 = 1 + k * 5 + 5 by omega], Lib.hid ?_, F4⟩
          have e1 : (itN n 4 :: (l.take (k + 1)).flatMap itF1) = (itN n 4 :: (l.take k).flatMap itF1) ++ [itS la, itN lb 999, itS ha, itN hb 999, itF 1] := by
            rw [Hs.out, List.flatMap_append]
            simp [itF1]
          rw [e1, show 1 + (k + 1) * 5 = 1 + k * 5 + 5 by omega]
          exact hown3
        case measure => simp [intOf]; omega
    · obtain rfl : k = n := by omega
      have Hp : Hid (itFP l = itN k 4 :: (l.take k).flatMap itF1) := Lib.hid (by rw [itFP, List.take_of_length_le (by rw [Hn.out]; exact Nat.le_refl _), Hn.out])
      have Hl : Hid ((itFP l).length = 1 + k * 5) := Lib.hid (by rw [itFP_len, Hn.out])
      go_wp2
      go_ret
      refine ⟨B, d, by rw [Hl.out]; rfl, by rw [Hp.out]; exact Sl.ofOwn hown.out, ?_, hfr⟩
      intro ad e
      have h1 := (hown.out.lt ad.block (by subst e; rfl)).1
      exact h1
end Go.Proofs.YtnlmhcfkipkegaaGreat
