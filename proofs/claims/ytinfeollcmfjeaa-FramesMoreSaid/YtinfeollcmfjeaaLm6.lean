/- The law 'FramesMore'. -/
import Derived.Test.YtinfeollcmfjeaaLs6
namespace Go.Proofs.Ytinfeollcmfjeaa
open Go.RowKit

/-- Frames behind a row of frames that is owned, as one step of the walk, also where the step hangs on a guard. -/
theorem app_frames {w : World} {ops : Array Oper} {rest : List Oper} {o : Oper} {a : Act} {Q : Exit → Act → World → Prop} (hgd : Region.wanted o (yielded ops a.tmps) = true) (s x : Operand)
    (ho : o.op = .call { callee := .builtin .append, args := #[s, x], argTypes := #[27, 27] })
    (base : Nat) (A : Option Addr) (n c : Nat) (us : List FrV) (hs : a.eval s = .slice A n c) (hown : w.ownsRow base 24 2 (.slice A n c) n (us.flatMap FrV.cells)) (B : Nat) (A2 : Option Addr) (m c2 : Nat) (vs : List FrV) (hx : a.eval x = .slice A2 m c2) (hm : vs.length = m) (hr : Sl w B A2 (vs.flatMap FrV.cells))
    (hlen : n + m ≤ 1099511627776) (hbase : base ≤ w.heap.size)
    (h : ∀ A' c' w', w'.ownsRow base 24 2 (.slice A' (n + m) c') (n + m) ((us ++ vs).flatMap FrV.cells) → Fr (fun k => (Value.slice A n c).ownBlock = some k) w w' → wpList Try.prog ops Q rest (a.put o.dst (.slice A' (n + m) c')) w') :
    wpList Try.prog ops Q (o :: rest) a w := by
  obtain ⟨i, hi, hz, hz1, hz2⟩ := info_parts info_frame
  refine wpList_step fun K hK => ?_
  rw [if_pos hgd]
  refine wp_append_src w s x _ ho base 24 i _ 2 32 Try.underlying27 hi hz hz1 hz2 rfl (by omega) (.slice A n c) n (us.flatMap FrV.cells) hs hown B A2 m c2 (vs.flatMap FrV.cells) hx (by rw [flat_len FrV.cells 2 FrV.cells_len, hm]) hr ?_ (by unfold maxLen; omega) (by omega) hbase ?_
  · intro u hu
    obtain ⟨y, -, hy⟩ := List.mem_flatMap.1 hu
    simp [FrV.cells] at hy
    rcases hy with rfl | rfl <;> rfl
  · intro v' w' q1 q2 q3
    obtain ⟨A', c', rfl, -, -, -⟩ := own_shape q1
    rw [List.flatMap_append] at h
    exact hK _ _ (h A' c' w' q1 ((Fr.refl _ w).grown q2 (fun k hk => .inl hk)))

theorem own_base6 {w : World} {B B' : Nat} {t : TypeId} {n k : Nat} {v : Value} {xs : List Value} (h : w.ownsRow B t k v n xs) (hB : B' ≤ B) : w.ownsRow B' t k v n xs := by
  refine ⟨h.1, ?_⟩
  rcases h.2 with h0 | ⟨g, cap, cur, hv, hb, r⟩
  · exact .inl h0
  · exact .inr ⟨g, cap, cur, hv, Nat.le_trans hB hb, r⟩

set_option maxRecDepth 100000 in
set_option maxHeartbeats 8000000 in
theorem lawMore_any (E : Nat) (hE : E < 65536) (xs ys : List FrV) (n m : Nat) (A B : Option Addr) (c d : Nat) (w : World) (hs : Frs w A xs) (ht : Frs w B ys) (hn : xs.length = n) (hm : ys.length = m) (hnc : n ≤ c) (hc : c ≤ maxLen) (hmd : m ≤ d) (hd : d ≤ maxLen) :
    Calls Try.prog 6 #[.int .u16 E, .slice A n c, .slice B m d] w fun e w' => e = .returned (.bool true) ∧ Fr No w w' := by
  have hc63 : c ≤ 9223372036854775807 := hc
  have hd63 : d ≤ 9223372036854775807 := hd
  have Hn := Lib.hid hn
  have Hm := Lib.hid hm
  have Hs := Lib.hid (fun W (hW : Fr No w W) => hs.since hW)
  have Ht := Lib.hid (fun W (hW : Fr No w W) => ht.since hW)
  have HG1 := Lib.hid (fun W (hW : Fr No w W) => great6_any xs A n c W (hs.since hW) hn (by omega))
  have HG2 := Lib.hid (fun W (hW : Fr No w W) => great6_any ys B m d W (ht.since hW) hm (by omega))
  have HST := Lib.hid (fun W (hW : Fr No w W) (hl : n ≤ 30) => stream_any E (by omega) xs n A c W (hs.since hW) hn (by omega))
  have hne : numOk (E : Int) = true := (numOk_iff _).2 (by omega)
  have Hne := Lib.hid hne
  clear hn hm hs ht hc hd hne
  go_enter Try.func6, Try.ntmps6
  go_wp2_with fail
  refine (alive6_any _).mono ?_
  rintro e w1 ⟨rfl, f1⟩
  go_wp2_with fail
  refine (HG1.out _ f1).mono ?_
  rintro e w2 ⟨⟨bg, rfl, hbg⟩, rfl⟩
  cases bg with
  | true =>
    clear hbg
    go_wp2
    go_ret
    exact ⟨rfl, f1⟩
  | false =>
    obtain ⟨hn30, hl21⟩ := hbg rfl
    have Hl21 := Lib.hid hl21
    clear hbg hl21
    go_wp2_with fail
    refine (HG2.out _ f1).mono ?_
    rintro e w2 ⟨⟨bg, rfl, hbg⟩, rfl⟩
    cases bg with
    | true =>
      clear hbg
      go_wp2
      go_ret
      exact ⟨rfl, f1⟩
    | false =>
      obtain ⟨hm30, hk21⟩ := hbg rfl
      clear hbg hk21
      go_wp2_with fail
      refine (HST.out _ f1 hn30).mono ?_
      rintro e w3 ⟨A3, c3, rfl, hown3, f3⟩
      have F3 := Lib.hid (f1.trans' f3 (fun _ _ e => e))
      have HO3 := Lib.hid (own_base6 hown3 f1.size)
      obtain ⟨s, Hs1⟩ : ∃ s, Hid (s = (streamP E (xs.map FrV.f)).length) := ⟨_, Lib.hid rfl⟩
      rw [← Hs1.out] at HO3 ⊢
      clear f1 f3 hown3 HST HG1 HG2
      go_wp2
      go_loopw [8] (fun iv wr => ∃ j : Nat, j ≤ n ∧ iv = .int .i64 j ∧ Hid (∀ x ∈ xs.take j, frmOk x.f = true) ∧ Hid (Fr No w3 wr)) (fun iv _ => n - (intOf iv).toNat)
      case atStart => exact ⟨0, by omega, rfl, Lib.hid (by simp), Lib.hid (Fr.refl _ _)⟩
      case round =>
        obtain ⟨j, hj, rfl, Hok, Hfr⟩ := hrel
        by_cases hlt : j < n
        · have hjx : j < xs.length := by rw [Hn.out]; exact hlt
          have hfs := Hs.out wr (F3.out.trans' Hfr.out (fun _ _ e => e))
          obtain ⟨ad, rfl, -, x0, x1⟩ := hfs.at hjx
          have Htk : Hid (xs.take (j + 1) = xs.take j ++ [xs[j]]) := Lib.hid (List.take_succ_eq_append_getElem hjx)
          have HRM := Lib.hid (fun W => refMay_any xs[j] W)
          generalize xs[j] = x at *
          have Hx1 : Hid (frmOk x.f = true → ∀ x ∈ xs.take (j + 1), frmOk x.f = true) := Lib.hid (fun hx y hy => by
            rw [Htk.out, List.mem_append, List.mem_singleton] at hy
            rcases hy with hy | rfl
            · exact Hok.out y hy
            · exact hx)
          obtain ⟨xk, xA, xw, xc⟩ := x
          simp only [FrV.agg, FrV.f] at x0 x1 HRM Hx1
          obtain ⟨bf, Hbf⟩ : ∃ bf, Hid (bf = frmOk ⟨xk, xw⟩) := ⟨_, Lib.hid rfl⟩
          rw [← Hbf.out] at HRM Hx1
          generalize xw.length = xm at *
          clear hfs Hbf Htk
          cases bf with
          | false =>
            have HFF := Lib.hid (F3.out.trans' Hfr.out (fun _ _ e => e))
            go_wp2_with (go_at_call 10; refine (HRM.out _).mono ?_; rintro e w4 ⟨rfl, f4⟩; clear x0 x1)
            go_ret
            exact ⟨rfl, HFF.out.trans' f4 (fun _ _ e => e)⟩
          | true =>
            go_wp2_with (go_at_call 10; refine (HRM.out _).mono ?_; rintro e w4 ⟨rfl, f4⟩; clear x0 x1)
            go_roundw
            case rel => exact ⟨j + 1, by omega, by go_num, Lib.hid (Hx1.out (by simp)), Lib.hid (Hfr.out.trans' f4 (fun _ _ e => e))⟩
            case measure => simp [intOf]; omega
        · have hjl : xs.length ≤ j := by rw [Hn.out]; omega
          have hall : ∀ f ∈ xs.map FrV.f, frmOk f = true := by
            have := Hok.out
            rw [List.take_of_length_le hjl] at this
            intro f hf
            obtain ⟨x, hx, rfl⟩ := List.mem_map.1 hf
            exact this x hx
          have hSe := okTo_yes Hne.out hall
          rw [hSe] at HO3 Hs1
          have Hall := Lib.hid hall
          have HG := Lib.hid (F3.out.trans' Hfr.out (fun _ _ e => e))
          have HOr := Lib.hid (own_fr HO3.out Hfr.out (fun _ _ e => e))
          have hLl : (xs.map FrV.f).length = n := by rw [List.length_map, Hn.out]
          have HLl := Lib.hid hLl
          have hs0 : s ≤ n * 2001 := by
            have := streamF_len_le E (xs.map FrV.f) 0 hall
            rw [hLl, ← Hs1.out] at this
            exact this
          clear hjl hall hSe hLl HO3 F3 Hok Hfr
          go_wp2
          go_loopw [7, 9] (fun av iv wq => ∃ (i z : Nat) (C : Option Addr) (cc : Nat), i ≤ m ∧ iv = .int .i64 i ∧ av = .slice C z cc ∧ z ≤ n * 2001 + i * 2001 ∧ Hid (∀ y ∈ ys.take i, frmOk y.f = true) ∧ Hid (z = (streamF E 0 (xs.map FrV.f ++ (ys.take i).map FrV.f)).length) ∧
            Hid (wq.ownsRow w.heap.size 43 1 (.slice C z cc) z (u64s (streamF E 0 (xs.map FrV.f ++ (ys.take i).map FrV.f)))) ∧ Hid (Fr No w wq)) (fun _ iv _ => m - (intOf iv).toNat)
          case atStart => exact ⟨0, s, A3, c3, by omega, rfl, rfl, by omega, Lib.hid (by simp), Lib.hid (by simpa using Hs1.out), Lib.hid (by simpa using HOr.out), HG⟩
          case round =>
            clear HOr HG Hs1 hs0 hlt
            obtain ⟨i, z, C, cc, hi, rfl, rfl, hz, Hok, Hz, Hrow, Hfr⟩ := hrel
            by_cases hlt : i < m
            · have hjy : i < ys.length := by rw [Hm.out]; exact hlt
              have hfs := Ht.out wr Hfr.out
              obtain ⟨ad, rfl, -, x0, x1⟩ := hfs.at hjy
              have hfit := hfs.fit _ (List.getElem_mem hjy)
              have Htk : Hid (ys.take (i + 1) = ys.take i ++ [ys[i]]) := Lib.hid (List.take_succ_eq_append_getElem hjy)
              have HRM := Lib.hid (fun W => refMay_any ys[i] W)
              have HPt := Lib.hid (fun W (hW : Fr No wr W) => put_any E ((n : Int) + (i : Int)) (by omega) (by omega) ys[i] W (hfit.since hW))
              generalize ys[i] = x at *
              have hlen : ((xs.map FrV.f) ++ (ys.take i).map FrV.f).length = n + i := by
                rw [List.length_append, HLl.out, List.length_map, List.length_take, Hm.out]
                omega
              have Hsn : Hid (streamF E 0 (xs.map FrV.f ++ (ys.take (i + 1)).map FrV.f) = streamF E 0 (xs.map FrV.f ++ (ys.take i).map FrV.f) ++ putW E ((n : Int) + (i : Int)) x.f) := Lib.hid (by
                rw [Htk.out, List.map_append, List.map_singleton, ← List.append_assoc, streamF_snoc, hlen, Int.natCast_add])
              have Hx1 : Hid (frmOk x.f = true → ∀ y ∈ ys.take (i + 1), frmOk y.f = true) := Lib.hid (fun hx y hy => by
                rw [Htk.out, List.mem_append, List.mem_singleton] at hy
                rcases hy with hy | rfl
                · exact Hok.out y hy
                · exact hx)
              have Hpl : Hid (frmOk x.f = true → putP E ((n : Int) + (i : Int)) x.f = putW E ((n : Int) + (i : Int)) x.f ∧ (putW E ((n : Int) + (i : Int)) x.f).length ≤ 2001) := Lib.hid (fun hx => by
                refine ⟨?_, ?_⟩
                · unfold putP
                  rw [if_pos ⟨hx, Hne.out, (numOk_iff _).2 (by omega)⟩]
                · rw [putW_len]
                  have := ((frmOk_iff _).1 hx).2.2
                  omega)
              obtain ⟨xk, xA, xw, xc⟩ := x
              simp only [FrV.agg, FrV.f] at x0 x1 HRM HPt Hsn Hx1 Hpl
              obtain ⟨bf, Hbf⟩ : ∃ bf, Hid (bf = frmOk ⟨xk, xw⟩) := ⟨_, Lib.hid rfl⟩
              rw [← Hbf.out] at HRM Hx1 Hpl
              obtain ⟨xm, Hxm⟩ : ∃ xm, Hid (xm = xw.length) := ⟨_, Lib.hid rfl⟩
              rw [← Hxm.out] at x1 HRM HPt
              have HC := Lib.hid (fun W (hW : Fr No w W) => (Ht.out W hW).at hjy)
              clear hfs Htk hfit hlen Hbf HC
              have hab := fun W (hW : Fr No wr W) => (show W.cell? (ad.add (i * 2)) = wr.cell? (ad.add (i * 2)) from hW.cell (World.block_lt_of_cell? wr _ x0) (fun e => e))
              have hab1 := fun W (hW : Fr No wr W) => (show W.cell? ⟨(ad.add (i * 2)).block, (ad.add (i * 2)).off + 1, none⟩ = wr.cell? ⟨(ad.add (i * 2)).block, (ad.add (i * 2)).off + 1, none⟩ from hW.cell (World.block_lt_of_cell? wr _ x1) (fun e => e))
              have Hc0 := Lib.hid (fun W (hW : Fr No wr W) => (hab W hW).trans x0)
              have Hc1 := Lib.hid (fun W (hW : Fr No wr W) => (hab1 W hW).trans x1)
              clear hab hab1
              cases bf with
              | false =>
                have HFF := Lib.hid Hfr.out
                go_wp2_with (go_at_call 10; refine (HRM.out _).mono ?_; rintro e w4 ⟨rfl, f4⟩; clear x0 x1)
                go_ret
                exact ⟨rfl, HFF.out.trans' f4 (fun _ _ e => e)⟩
              | true =>
                obtain ⟨hp1, hp2⟩ := Hpl.out (by simp)
                rw [hp1] at HPt
                obtain ⟨pw, Hpw⟩ : ∃ pw, Hid (pw = putW E ((n : Int) + (i : Int)) ⟨xk, xw⟩) := ⟨_, Lib.hid rfl⟩
                rw [← Hpw.out] at HPt Hsn hp2
                obtain ⟨p, Hp⟩ : ∃ p, Hid (p = pw.length) := ⟨_, Lib.hid rfl⟩
                rw [← Hp.out] at hp2
                have HR1 := Lib.hid (fun W (hW : Fr No wr W) => own_fr Hrow.out hW (fun _ _ e => e))
                have hni : (n : Int) + (i : Int) ≤ 60 := by omega
                clear hp1 Hpl
                go_wp2_with (go_at_call 10; refine (HRM.out _).mono ?_; rintro e w4 ⟨rfl, f4⟩; clear x0 x1; have x0 := Hc0.out w4 f4; have x1 := Hc1.out w4 f4)
                refine (HPt.out _ f4).mono ?_
                rintro e w5 ⟨A5, c5, rfl, hown5, f5⟩
                rw [← Hp.out] at hown5 ⊢
                have f6 := f4.trans' f5 (fun _ _ e => e)
                have hrw := HR1.out w5 f6
                have hfw := Hfr.out.trans' f6 (fun _ _ e => e)
                have HSl := Lib.hid (Sl.ofOwn hown5)
                clear x0 x1 hown5 f4 f5 f6
                go_wp2_with (
                  at_builtin
                  refine append_words rfl _ _ rfl w.heap.size C z cc (streamF E 0 (xs.map FrV.f ++ (ys.take i).map FrV.f)) rfl _ A5 p c5 pw rfl Hp.out.symm HSl.out hrw (by omega) hfw.size ?_
                  intro A6 c6 w6 hown6 hf6 hg6
                  have HO6 := Lib.hid hown6
                  have HF6 := Lib.hid (hfw.trans' hf6 (fun k hk e => by have := hrw.lt k e; omega))
                  clear hrw hfw hf6 hg6 hown6 HSl)
                go_roundw
                case rel =>
                  refine ⟨i + 1, z + p, A6, c6, by omega, by go_num, rfl, by omega, Lib.hid (Hx1.out (by simp)), Lib.hid ?_, Lib.hid ?_, HF6⟩
                  · rw [Hsn.out, List.length_append, ← Hp.out, ← Hz.out]
                  · rw [Hsn.out]
                    exact HO6.out
                case measure => simp [intOf]; omega
            · have hil : ys.length ≤ i := by rw [Hm.out]; omega
              have hty : ys.take i = ys := List.take_of_length_le hil
              rw [hty] at Hok Hz Hrow
              have hallc : ∀ f ∈ (xs ++ ys).map FrV.f, frmOk f = true := by
                intro f hf
                rw [List.map_append] at hf
                rcases List.mem_append.1 hf with hf | hf
                · exact Hall.out f hf
                · obtain ⟨y, hy, rfl⟩ := List.mem_map.1 hf
                  exact Hok.out y hy
              rw [← List.map_append] at Hz Hrow
              obtain ⟨T, HT⟩ : ∃ T, Hid (T = streamF E 0 ((xs ++ ys).map FrV.f)) := ⟨_, Lib.hid rfl⟩
              rw [← HT.out] at Hz Hrow
              have HTd : Hid (∀ zs k, Told E T zs k → zs = (xs ++ ys).map FrV.f ∧ k = z) := Lib.hid (fun zs k h => by
                have h2 := streamF_told E ((xs ++ ys).map FrV.f) [] Hne.out hallc (by rw [List.length_map, List.length_append, Hn.out, Hm.out]; omega) rfl
                rw [List.append_nil, ← HT.out, ← Hz.out] at h2
                exact h.uniq h2)
              have h64 : ∀ u ∈ T, u < 18446744073709551616 := by
                rw [HT.out]
                refine streamF_lt E _ 0 ?_
                intro f hf
                obtain ⟨y, hy, rfl⟩ := List.mem_map.1 hf
                rcases List.mem_append.1 hy with hy | hy
                · exact ((Hs.out w (Fr.refl _ _)).fit y hy).lt
                · exact ((Ht.out w (Fr.refl _ _)).fit y hy).lt
              have hsh : z ≤ cc ∧ cc ≤ maxLen := by
                obtain ⟨_, _, hv, q1, q2, -⟩ := own_shape Hrow.out
                simp only [Value.slice.injEq] at hv
                obtain ⟨-, -, rfl⟩ := hv
                exact ⟨q1, q2⟩
              have HAl := Lib.hid (all_any E (by omega) T h64 z C cc wr (Sl.ofOwn Hrow.out) Hz.out.symm hsh.1 hsh.2 (by omega))
              have HGr := Lib.hid Hfr.out
              clear hil hty Hok Hz Hrow HT h64 hsh hallc Hall HLl Hfr
              go_wp2_with fail
              refine HAl.out.mono ?_
              rintro e w4 ⟨zs, A4, c4, k4, rfl, ht4, ho4⟩
              obtain ⟨hzz, rfl⟩ := HTd.out _ _ ht4
              have Hzz := Lib.hid hzz
              obtain ⟨n4, N4⟩ : ∃ n4, Hid (n4 = zs.length) := ⟨_, Lib.hid rfl⟩
              have hn4 : n4 = n + m := by
                have := congrArg List.length hzz
                simp only [List.length_map, List.length_append, Hn.out, Hm.out] at this
                rw [N4.out, this]
              have HN4 := Lib.hid hn4
              rw [← N4.out]
              have HO4 := Lib.hid ho4.frs
              have G4 := Lib.hid (HGr.out.trans' ho4.fr (fun _ _ e => e))
              have f5 : Fr No w4 (w4.alloc (.cells #[] 24)) := (Fr.refl _ _).alloc _
              have hown5 := World.ownsRow_lit (base := w4.heap.size) (e := 24) (size := 2) w4 #[] 0 (Nat.le_refl _) (by unfold maxLen; omega) rfl
              have hsA := (Hs.out _ (G4.out.trans' f5 (fun _ _ e => e))).sl
              clear ht4 ho4 hzz hn4 HAl HTd
              go_wp2_with (first
                | (go_at_call 16
                   refine HSm.out.mono ?_
                   rintro e w8 ⟨rfl, f8⟩)
                | (at_builtin
                   have _ := hown6
                   refine app_frames (by rfl) _ _ rfl w4.heap.size A6 n c6 xs rfl hown6 _ B m d ys rfl Hm.out (Ht.out w6 g6).sl (by omega) f6.size ?_
                   intro A7 c7 w7 hown7 hf7
                   have f7 : Fr No w4 w7 := f6.trans' hf7 (fun k hk e => by have := (hown6.lt k e).1; omega)
                   have G7 := Lib.hid (G4.out.trans' f7 (fun _ _ e => e))
                   have HSm : Hid (Calls Try.prog 16 #[.slice A4 n4 c4, .slice A7 (n + m) c7] w7 fun e w' => e = .returned (.bool true) ∧ Fr No w7 w') := Lib.hid (by
                     have hfr7 : Frs w7 A7 (xs ++ ys) := ⟨Sl.ofOwn hown7, fun y hy => by
                       rcases List.mem_append.1 hy with hy | hy
                       · exact (Hs.out w7 G7.out).fit y hy
                       · exact (Ht.out w7 G7.out).fit y hy⟩
                     refine (refSame6_any zs (xs ++ ys) A4 A7 n4 (n + m) c4 c7 w7 (HO4.out.since f7) hfr7 N4.out.symm (by rw [List.length_append, Hn.out, Hm.out]) (by rw [HN4.out]; omega) (by omega)).mono ?_
                     rintro e w' ⟨⟨b, rfl, hb⟩, hf⟩
                     have : b = true := hb.2 Hzz.out
                     exact ⟨by rw [this], hf⟩)
                   clear hown6 hf7 f7 hown7 f6 g6)
                | (at_builtin
                   refine app_frames (by rfl) _ _ rfl w4.heap.size (some ⟨w4.heap.size, 0, none⟩) 0 0 [] rfl (by simpa using hown5) _ A n c xs rfl Hn.out hsA (by omega) (by simp) ?_
                   intro A6 c6 w6 hown6 hf6
                   rw [show 0 + n = n by omega] at hown6 ⊢
                   simp only [List.nil_append] at hown6
                   have f6 : Fr No w4 w6 := f5.trans' hf6 (fun k hk e => by simp [Value.ownBlock] at e; omega)
                   have g6 := G4.out.trans' f6 (fun _ _ e => e)
                   clear hf6 hown5 hsA f5))
              go_ret
              exact ⟨rfl, G7.out.trans' f8 (fun _ _ e => e)⟩
end Go.Proofs.Ytinfeollcmfjeaa
