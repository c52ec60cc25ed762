/- What is read of any words is the document's: the walk of 'CodesRead'. -/
import Derived.Test.YteakdcnbjcnpnaaT3
namespace Go.Proofs.Yteakdcnbjcnpnaa
open Go.RowKit

theorem refRead_any (xs : List Nat) (k most : Int) (A : Option Addr) (n c : Nat) (w : World) (hk : 0 ≤ k ∧ k ≤ 4) (hsl : Sl w w.heap.size A (u64s xs)) (hn : xs.length = n) (hnc : n ≤ c) (hcm : c ≤ maxLen) (h64 : ∀ x ∈ xs, x < 18446744073709551616)
    (hm : -9223372036854775808 ≤ most ∧ most < 9223372036854775808) (hn300 : n ≤ 1000000) :
    Calls Try.prog 13 #[.slice A n c, .int .i64 k, .int .i64 most] w (RefRead w xs k most) := by
  match xs, hsl, hn, h64 with
  | [], _, hn, _ =>
    obtain rfl : n = 0 := hn.symm
    exact refRead_nil k most A c w hk
  | u :: xs, hsl, hn, h64 =>
    have hu := h64 u (by simp)
    have h64' : ∀ x ∈ xs, x < 18446744073709551616 := fun x hx => h64 x (by simp [hx])
    have hn' : xs.length + 1 = n := hn
    rcases (show k = 0 ∨ k = 1 ∨ k = 2 ∨ k = 3 ∨ k = 4 by omega) with rfl | rfl | rfl | rfl | rfl
    · exact refRead_0 u xs most A n c w hsl hn' hnc hcm hu hm.1 hm.2
    · exact refRead_1 u xs most A n c w hsl hn' hnc hcm hu
    · exact refRead_2 u xs most A n c w hsl hn' hnc hcm hu
    · exact refRead_3 u xs most A n c w hsl hn' hnc hcm hu hn300 h64'
    · exact refRead_4 u xs most A n c w hsl hn' hnc hcm hu hm.1 hm.2 hn300

theorem sl_apart {w : World} {p B : Nat} {ty : TypeId} {cs : Array Value} {A : Option Addr} {xs : List Nat} (hB : Bk w p ty cs) (hsl : Sl w B A (u64s xs)) (hne : ∀ (i : Nat) (v : Int), cs[i]? ≠ some (.int .u64 v)) : ∀ ad, A = some ad → xs ≠ [] → ad.block ≠ p := by
  intro ad hA hx he
  obtain ⟨ad', e, _, hc⟩ := hsl.wordB (k := 0) (by cases xs with | nil => exact absurd rfl hx | cons => simp)
  rw [hA] at e
  injection e with e
  subst e
  have hb : w.heap[(ad.add 0).block]? = some (.cells cs ty (0, 0)) := by rw [block_add, he]; exact hB
  unfold World.cell? at hc
  rw [hb] at hc
  simp only at hc
  split at hc
  · cases hc
  · exact hne _ _ hc

theorem Rdr.apart {w : World} {p B : Nat} {st : Option (List Nat)} {A : Option Addr} {xs : List Nat} (h : Rdr w p st) (hsl : Sl w B A (u64s xs)) : ∀ ad, A = some ad → xs ≠ [] → ad.block ≠ p := by
  obtain ⟨A', c', h1, _⟩ := h
  refine sl_apart h1 hsl ?_
  intro i v
  match i with
  | 0 => simp
  | 1 => simp
  | i + 2 => simp

/-- An item that holds nothing. -/
def It.bare (k most : Int) : It := ⟨k, 0, most, 0, ⟨#[]⟩, [], none, 0⟩
theorem bare_is {k most : Int} {st : Option (List Nat)} (hk : 0 ≤ k ∧ k ≤ 4) (h : (It.bare k most).rest st = none) : (It.bare k most).isB st = true := by
  rcases (show k = 0 ∨ k = 1 ∨ k = 2 ∨ k = 3 ∨ k = 4 by omega) with rfl | rfl | rfl | rfl | rfl <;> simp [It.bare, It.rest] at h <;> simp [It.bare, It.isB, h]
theorem bare_none {k most : Int} (hk : 0 ≤ k ∧ k ≤ 4) : (It.bare k most).rest none = none := by
  rcases (show k = 0 ∨ k = 1 ∨ k = 2 ∨ k = 3 ∨ k = 4 by omega) with rfl | rfl | rfl | rfl | rfl <;> simp [It.bare, It.rest, cntR, sgnR, flagR, textR, wordsR]

/-- Where the document's reader stands: the words that are left. -/
structure Left (w : World) (q : Nat) (st : Option (List Nat)) (A : Option Addr) (m c : Nat) : Prop where
  rd : Rdr w q st
  len : ∀ r, st = some r → r.length = m ∧ m ≤ c ∧ c ≤ maxLen ∧ m ≤ 300 ∧ Sl w w.heap.size A (u64s r) ∧ ∀ x ∈ r, x < 18446744073709551616

theorem Left.later {w w' : World} {q : Nat} {st : Option (List Nat)} {A : Option Addr} {m c : Nat} (h : Left w q st A m c) (hf : Fr No w w') : Left w' q st A m c :=
  ⟨h.rd.fr hf id (fun _ h => h.elim), fun r e => by
    obtain ⟨h1, h2, h3, h4, h5, h6⟩ := h.len r e
    exact ⟨h1, h2, h3, h4, (h5.fr hf (Nat.le_refl _) (fun _ _ _ => id)).more hf.size, h6⟩⟩

set_option maxRecDepth 100000 in
set_option maxHeartbeats 4000000 in
theorem codesRead_any (xs : List Nat) (D : Option Addr) (nx cx : Nat) (ts : List It) (A : Option Addr) (n c : Nat) (w : World) (hx : xs.length = nx) (hxs : Sl w w.heap.size D (u64s xs)) (h64 : ∀ x ∈ xs, x < 18446744073709551616) (hxc : nx ≤ cx ∧ cx ≤ maxLen) (hxn : D = none → nx = 0 ∧ cx = 0)
    (hn : ts.length = n) (hsl : Sl w w.heap.size A (ts.flatMap It.cells)) (hfit : ∀ t ∈ ts, t.Fit w w.heap.size) (hn1 : n ≤ 9223372036854775807) (hx1 : nx ≤ 9223372036854775807) :
    Calls Try.prog 4 #[.slice D nx cx, .slice A n c] w fun e w' => e = .returned (.bool true) ∧ Below w.heap.size w w' := by
  have Hn := Lib.hid hn
  have Hfit := Lib.hid hfit
  have Hx := Lib.hid hx
  have H64 := Lib.hid h64
  have Hxc := Lib.hid hxc
  have Hxs := Lib.hid hxs
  have Hxn := Lib.hid hxn
  clear hn hfit hx h64 hxc hxs hxn
  go_enter Try.func4, Try.ntmps4
  go_wp2_with fail
  refine (alive_any w).mono ?_
  rintro e w1 ⟨rfl, hf1⟩
  have hb1 := hf1.below0
  have hsl1 : Sl w1 w1.heap.size A (ts.flatMap It.cells) := (hsl.below hb1).more hf1.size
  have Hfit1 : Hid (∀ t ∈ ts, t.Fit w1 w1.heap.size) := Lib.hid (fun t ht => by
    have h := Hfit.out t ht
    exact ⟨h.kind, h.n, h.most, h.x, h.s, h.w64, h.c, h.nil, (h.sl.below hb1).more hf1.size⟩)
  have Hxs1 : Hid (Sl w1 w1.heap.size D (u64s xs)) := Lib.hid ((Hxs.out.below hb1).more hf1.size)
  go_wp2_with fail
  refine (great_any ts A n c w1 Hn.out hsl1 Hfit1.out hn1).mono ?_
  rintro e w2 ⟨b, rfl, rfl, hb⟩
  cases b with
  | true =>
    go_wp2
    go_ret
    exact ⟨rfl, hb1⟩
  | false =>
    obtain ⟨h60, hfair⟩ := hb rfl
    have Hfair := Lib.hid hfair
    have hn60 : n ≤ 60 := by rw [← Hn.out]; exact h60
    clear hb hfair h60
    by_cases h300 : 300 < (nx : Int)
    · have hd : decide (300 < (nx : Int)) = true := by simpa using h300
      go_wp2
      go_ret
      exact ⟨rfl, hb1⟩
    · have hd : decide (300 < (nx : Int)) = false := by simpa using h300
      have hnx : nx ≤ 300 := by omega
      go_wp2_with fail
      refine (newReader_any xs D nx cx w2 Hxs1.out Hx.out Hxn.out (by omega) H64.out).mono ?_
      rintro e w3 ⟨q, rfl, hq, hr3, hf3⟩
      have hqB : w.heap.size ≤ q := Nat.le_trans hf1.size hq
      have hb3 : Below w.heap.size w w3 := hb1.trans (hf3.toBelow hf1.size (fun _ h => h.elim))
      have hL3 : Left w3 q (some xs) D nx cx := ⟨hr3, fun r e => by
        injection e with e
        subst e
        exact ⟨Hx.out, Hxc.out.1, Hxc.out.2, hnx, (Hxs1.out.fr hf3 (Nat.le_refl _) (fun _ _ _ => id)).more hf3.size, H64.out⟩⟩
      have HL3 := Lib.hid hL3
      clear hL3 hr3
      go_wp2
      go_loopw [6, 7, 8] (fun a o i wr => ∃ (k : Nat) (st : Option (List Nat)) (A' : Option Addr) (m' c' : Nat), k ≤ n ∧ i = .int .i64 k ∧ o = .bool st.isSome ∧ a = .slice A' m' c' ∧ Left wr q st A' m' c' ∧ Below w.heap.size w wr) (fun _ _ i _ => n - (intOf i).toNat)
      case atStart => exact ⟨0, some xs, D, nx, cx, Nat.zero_le _, rfl, rfl, rfl, HL3.out, hb3⟩
      case round =>
        obtain ⟨k, st, A', m', c', hk, rfl, rfl, rfl, hleft, hbw⟩ := hrel
        by_cases hlt : k < n
        · have hkt : k < ts.length := by rw [Hn.out]; exact hlt
          obtain ⟨ad, rfl, had, hcell⟩ := hsl.row 6 It.cells_len hkt (by omega)
          have hft := Hfit.out _ (List.getElem_mem hkt)
          have hfa := Hfair.out _ (List.getElem_mem hkt)
          generalize ts[k] = t at *
          have hcw : ∀ j u, t.cells[j]? = some u → wr.cell? ((ad.add (k * 6)).add j) = some u := fun j u hu => by
            rw [hbw.cell (by rw [block_add, block_add]; exact had)]
            exact hcell j u hu
          have hc0 : wr.cell? (ad.add (k * 6)) = some (.int .i64 t.kind) := hcw 0 _ rfl
          have hc2 : wr.cell? ⟨(ad.add (k * 6)).block, (ad.add (k * 6)).off + 2, none⟩ = some (.int .i64 t.most) := hcw 2 _ rfl
          have hkk := hfa.2.2
          have hmm := hft.most
          have hwB : w.heap.size ≤ wr.heap.size := hbw.size
          have hqw := hleft.rd.lt
          have hadr : ad.block < wr.heap.size := by omega
          have hd0 : (wr.alloc (.cells #[.int .i64 0, .int .i64 0, .int .i64 0, .int .i64 0, .string ⟨#[]⟩, .slice none 0 0] 31)).cell? (ad.add (k * 6)) = some (.int .i64 t.kind) := (((Fr.refl No wr).alloc _).cell (by rw [block_add]; exact hadr) id).trans hc0
          have hd2 : (wr.alloc (.cells #[.int .i64 0, .int .i64 0, .int .i64 0, .int .i64 0, .string ⟨#[]⟩, .slice none 0 0] 31)).cell? ⟨(ad.add (k * 6)).block, (ad.add (k * 6)).off + 2, none⟩ = some (.int .i64 t.most) := (((Fr.refl No wr).alloc _).cell (by show (ad.add (k * 6)).block < _; rw [block_add]; exact hadr) id).trans hc2
          have Hleft := Lib.hid hleft
          have Hbw := Lib.hid hbw
          clear hcell hcw hft hfa hleft hbw
          cases st with
          | none =>
            have hL : ∀ W, Rdr W q none → Calls Try.prog 14 #[.pointer (some ⟨q, 0, none⟩), .agg #[.int .i64 t.kind, .int .i64 0, .int .i64 t.most, .int .i64 0, .string ⟨#[]⟩, .slice none 0 0]] W (Red W q none (.bool true)) := fun W hr => by
              have h := lawRead_any q none (It.bare t.kind t.most) W hr hkk hmm (Sl.nil _ _ _) (fun ad h => by cases h) (by simp [It.bare]) (by simp)
              rw [bare_none hkk, bare_is hkk (bare_none hkk)] at h
              exact h
            have HL := Lib.hid hL
            clear hL
            go_wp2_with fail
            go_region
            go_wp2_with fail
            refine (HL.out _ (Hleft.out.rd.fr ((Fr.refl No wr).alloc _).drew id (fun _ h => h.elim))).mono ?_
            rintro e w5 ⟨rfl, hr5, hf5⟩
            have hfr5 : Fr (Only q) wr w5 := (((Fr.refl (Only q) wr).alloc _).drew).trans' hf5 (fun _ _ h => h)
            have hb5 : Below w.heap.size w w5 := Hbw.out.trans (hfr5.toBelow hwB (fun i hi => by simp only [Only] at hi; omega))
            go_wp2_with fail
            refine (rok_any q none _ hr5).mono ?_
            rintro e w6 ⟨rfl, rfl⟩
            go_wp2_with fail
            refine (rend_any q none _ hr5).mono ?_
            rintro e w7 ⟨rfl, hf7⟩
            have hb7 : Below w.heap.size w w7 := hb5.trans (hf7.toBelow hb5.size (fun _ h => h.elim))
            have hr7 := hr5.fr hf7 id (fun _ h => h.elim)
            go_wp2
            go_roundw
            case rel => exact ⟨k + 1, none, A', m', c', by omega, by go_num, rfl, rfl, ⟨hr7, fun _ e => by cases e⟩, hb7⟩
            case measure => simp [intOf]; omega
          | some r =>
            obtain ⟨hrm, hmc, hcm, hm300, hslr, hr64⟩ := Hleft.out.len r rfl
            have Hslr := Lib.hid hslr
            have Hr64 := Lib.hid hr64
            have Hrm := Lib.hid hrm
            clear hslr hr64 hrm
            go_wp2_with fail
            go_region
            go_wp2_with fail
            refine (refRead_any r t.kind t.most A' m' c' _ hkk ((Hslr.out.fr ((Fr.refl No wr).alloc _).drew (Nat.le_refl _) (fun _ _ _ => id)).more (by simp)) Hrm.out hmc hcm Hr64.out hmm (by omega)).mono ?_
            rintro e w4 ⟨hf4, ⟨u, r2, A2, c2, hk2, hm2, rfl, hB2, hR2, hsl2, h21, h22, hsl3, h23, h24⟩ | ⟨P9, a9, b9, v9, rfl, hno⟩⟩
            · have hfw4 : Fr No wr w4 := (((Fr.refl No wr).alloc _).drew).trans' hf4 (fun _ _ h => h.elim)
              have hBx : Bk w4 wr.heap.size 31 #[.int .i64 t.kind, .int .i64 0, .int .i64 t.most, .int .i64 0, .string ⟨#[]⟩, .slice none 0 0] :=
                ((Bk.made wr 31 #[.int .i64 t.kind, .int .i64 0, .int .i64 t.most, .int .i64 0, .string ⟨#[]⟩, .slice none 0 0]).fr (S := No) ((Fr.refl No _).drew) id).fr hf4 id
              have hBy := hBx.fr ((Fr.refl No w4).alloc (.cells #[.int .i64 u.kind, .int .i64 u.n, .int .i64 u.most, .int .i64 u.x, .string u.s, .slice u.A u.L.length u.c] 31)) id
              have x0 := hBy.cell 0
              have x1 := hBy.cell 1
              have x2 := hBy.cell 2
              have x3 := hBy.cell 3
              have x4 := hBy.cell 4
              have x5 := hBy.cell 5
              have z0 := hBy.frozen 0
              have z1 := hBy.frozen 1
              have z2 := hBy.frozen 2
              have z3 := hBy.frozen 3
              have z4 := hBy.frozen 4
              have z5 := hBy.frozen 5
              simp at x0 x1 x2 x3 x4 x5
              have hL : ∀ W, Fr No wr W → Fr (fun k => k = wr.heap.size) w4 W → Calls Try.prog 14 #[.pointer (some ⟨q, 0, none⟩), .agg #[.int .i64 u.kind, .int .i64 u.n, .int .i64 u.most, .int .i64 u.x, .string u.s, .slice u.A u.L.length u.c]] W
                  (fun e w5 => e = .returned (.bool true) ∧ Left w5 q (some r2) A2 r2.length c2 ∧ Fr (Only q) wr w5) := fun W hfA hfB => by
                have hne : ∀ (i : Nat) (v : Int), (#[.int .i64 t.kind, .int .i64 0, .int .i64 t.most, .int .i64 0, .string ⟨#[]⟩, .slice none 0 0] : Array Value)[i]? ≠ some (.int .u64 v) := by
                  intro i v
                  match i with
                  | 0 => simp
                  | 1 => simp
                  | 2 => simp
                  | 3 => simp
                  | 4 => simp
                  | 5 => simp
                  | i + 6 => simp
                have hr := Hleft.out.rd.fr hfA id (fun _ h => h.elim)
                have s3 := (hsl3.fr hfB (Nat.le_refl _) (sl_apart hBx hsl3 hne · · <| u64s_ne ·)).more hfB.size
                have s2 := (hsl2.fr hfB (Nat.le_refl _) (sl_apart hBx hsl2 hne · · <| u64s_ne ·)).more hfB.size
                have h := lawRead_any q (some r) u W hr (by rw [hk2]; exact hkk) (by rw [hm2]; exact hmm) s3 (hr.apart s3) (by rw [Hrm.out] at h23; omega) (by simp [Hrm.out]; omega)
                rw [hR2, hB2] at h
                refine h.mono ?_
                rintro e w5 ⟨rfl, hr5, hf5⟩
                obtain ⟨_, _, _, _, _, _, _, _, h64'⟩ := id hr5
                refine ⟨rfl, ⟨hr5, fun r' e => ?_⟩, (hfA.weak (fun _ _ h => h.elim)).trans' hf5 (fun _ _ h => h)⟩
                injection e with e
                subst e
                exact ⟨rfl, h21, h22, by rw [Hrm.out] at h24; omega, (s2.fr hf5 (Nat.le_refl _) (fun a h1 h2 => hr.apart s2 a h1 (u64s_ne h2))).more hf5.size, h64'⟩
              have HL := Lib.hid hL
              have Hfw4 := Lib.hid hfw4
              clear hL hBy hBx hsl2 hsl3 hB2 hR2 hf4 hfw4 hk2 hm2
              unfold It.val
              go_wp2_with fail
              refine (HL.out _ ?f1 ?f2).mono ?_
              case f1 => repeat (first | with_reducible exact Hfw4.out | (with_reducible refine Fr.drew ?_) | (with_reducible refine Fr.setCell ?_ (.inr (by simp)) _) | (with_reducible refine Fr.alloc ?_ _))
              case f2 => repeat (first | with_reducible exact Fr.refl _ _ | (with_reducible refine Fr.drew ?_) | (with_reducible refine Fr.setCell ?_ (.inl (by simp)) _) | (with_reducible refine Fr.alloc ?_ _))
              rintro e w5 ⟨rfl, hl5, hfr5⟩
              have hb5 : Below w.heap.size w w5 := Hbw.out.trans (hfr5.toBelow hwB (fun i hi => by simp only [Only] at hi; omega))
              go_wp2_with fail
              refine (rok_any q (some r2) _ hl5.rd).mono ?_
              rintro e w6 ⟨rfl, rfl⟩
              rcases Nat.eq_zero_or_pos r2.length with h0 | h0
              all_goals
                have hE := rend_any q (some r2) w5 hl5.rd
              · have h0b : ((r2.length : Int) == 0) = true := by rw [beq_iff_eq]; omega
                rw [show decide (some r2 = some []) = true by rw [List.eq_nil_of_length_eq_zero h0]; simp] at hE
                go_wp2_with fail
                refine hE.mono ?_
                rintro e w7 ⟨rfl, hf7⟩
                have hb7 : Below w.heap.size w w7 := hb5.trans (hf7.toBelow hb5.size (fun _ h => h.elim))
                have hl7 := hl5.later hf7
                go_wp2
                go_roundw
                case rel => exact ⟨k + 1, some r2, A2, r2.length, c2, by omega, by go_num, rfl, by rw [h0], hl7, hb7⟩
                case measure => simp [intOf]; omega
              · have h0b : ((r2.length : Int) == 0) = false := by rw [beq_eq_false_iff_ne]; omega
                rw [show decide (some r2 = some []) = false by rw [decide_eq_false_iff_not]; intro e; injection e with e; rw [e] at h0; simp at h0] at hE
                go_wp2_with fail
                refine hE.mono ?_
                rintro e w7 ⟨rfl, hf7⟩
                have hb7 : Below w.heap.size w w7 := hb5.trans (hf7.toBelow hb5.size (fun _ h => h.elim))
                have hl7 := hl5.later hf7
                go_wp2
                go_roundw
                case rel => exact ⟨k + 1, some r2, A2, r2.length, c2, by omega, by go_num, rfl, rfl, hl7, hb7⟩
                case measure => simp [intOf]; omega
            · have hfw4 : Fr No wr w4 := (((Fr.refl No wr).alloc _).drew).trans' hf4 (fun _ _ h => h.elim)
              have hBx : Bk w4 wr.heap.size 31 #[.int .i64 t.kind, .int .i64 0, .int .i64 t.most, .int .i64 0, .string ⟨#[]⟩, .slice none 0 0] :=
                ((Bk.made wr 31 #[.int .i64 t.kind, .int .i64 0, .int .i64 t.most, .int .i64 0, .string ⟨#[]⟩, .slice none 0 0]).fr (S := No) ((Fr.refl No _).drew) id).fr hf4 id
              have hBy := hBx.fr ((Fr.refl No w4).alloc (.cells #[.int .i64 t.kind, .int .i64 0, .int .i64 t.most, .int .i64 0, .string ⟨#[]⟩, .slice P9 a9 b9] 31)) id
              have x0 := hBy.cell 0
              have x1 := hBy.cell 1
              have x2 := hBy.cell 2
              have x3 := hBy.cell 3
              have x4 := hBy.cell 4
              have x5 := hBy.cell 5
              simp at x0 x1 x2 x3 x4 x5
              have hL : ∀ W, Rdr W q (some r) → Calls Try.prog 14 #[.pointer (some ⟨q, 0, none⟩), .agg #[.int .i64 t.kind, .int .i64 0, .int .i64 t.most, .int .i64 0, .string ⟨#[]⟩, .slice none 0 0]] W (Red W q none (.bool true)) := fun W hr => by
                have hrn := hno (It.bare t.kind t.most) rfl rfl
                have h := lawRead_any q (some r) (It.bare t.kind t.most) W hr hkk hmm (Sl.nil _ _ _) (fun ad h => by cases h) (by simp [It.bare]) (by simp [Hrm.out]; omega)
                rw [hrn, bare_is hkk hrn] at h
                exact h
              have HL := Lib.hid hL
              have Hfw4 := Lib.hid hfw4
              clear hL hno hBy hBx hf4 hfw4
              go_wp2_with fail
              refine (HL.out _ (Hleft.out.rd.fr (Hfw4.out.alloc _) id (fun _ h => h.elim))).mono ?_
              rintro e w5 ⟨rfl, hr5, hf5⟩
              have hfr5 : Fr (Only q) wr w5 := ((Hfw4.out.alloc _).weak (fun _ _ h => h.elim)).trans' hf5 (fun _ _ h => h)
              have hb5 : Below w.heap.size w w5 := Hbw.out.trans (hfr5.toBelow hwB (fun i hi => by simp only [Only] at hi; omega))
              go_wp2_with fail
              refine (rok_any q none _ hr5).mono ?_
              rintro e w6 ⟨rfl, rfl⟩
              go_wp2_with fail
              refine (rend_any q none _ hr5).mono ?_
              rintro e w7 ⟨rfl, hf7⟩
              have hb7 : Below w.heap.size w w7 := hb5.trans (hf7.toBelow hb5.size (fun _ h => h.elim))
              have hr7 := hr5.fr hf7 id (fun _ h => h.elim)
              go_wp2
              go_roundw
              case rel => exact ⟨k + 1, none, A', m', c', by omega, by go_num, rfl, rfl, ⟨hr7, fun _ e => by cases e⟩, hb7⟩
              case measure => simp [intOf]; omega
        · go_wp2
          go_ret
          exact ⟨rfl, hbw⟩

end Go.Proofs.Yteakdcnbjcnpnaa
