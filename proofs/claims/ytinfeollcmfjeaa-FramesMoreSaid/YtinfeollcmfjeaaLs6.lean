/- The law 'FramesStream'. -/
import Derived.Test.YtinfeollcmfjeaaLg6
import Derived.Test.YtinfeollcmfjeaaZer6
namespace Go.Proofs.Ytinfeollcmfjeaa
open Go.RowKit

theorem take_flat {α : Type} (f : α → List Value) (m : Nat) (hm : ∀ x, (f x).length = m) (l : List α) (j : Nat) : (l.take j).flatMap f = (l.flatMap f).take (j * m) := by
  induction l generalizing j with
  | nil => simp
  | cons x r ih =>
    cases j with
    | zero => simp
    | succ j =>
      have e : (j + 1) * m = m + j * m := by rw [Nat.succ_mul]; omega
      have h := hm x
      rw [List.take_succ_cons, List.flatMap_cons, List.flatMap_cons, ih, e]
      generalize f x = u at *
      generalize j * m = i
      subst h
      exact (List.take_length_add_append i).symm
theorem Frs.take {w : World} {A : Option Addr} {xs : List FrV} (h : Frs w A xs) (j : Nat) : Frs w A (xs.take j) :=
  ⟨by rw [take_flat FrV.cells 2 FrV.cells_len]; exact h.sl.take _, fun x hx => h.fit x (List.mem_of_mem_take hx)⟩
/-- May all frames so far be, and the epoch? -/
def okTo (ep : Int) (xs : List FrV) (j : Nat) : Bool := numOk ep && (xs.take j).all fun x => frmOk x.f
theorem okTo_succ {ep : Int} {xs : List FrV} {j : Nat} {x : FrV} (h : xs.take (j + 1) = xs.take j ++ [x]) : okTo ep xs (j + 1) = (okTo ep xs j && frmOk x.f) := by
  unfold okTo
  rw [h, List.all_append, List.all_cons, List.all_nil, Bool.and_true, Bool.and_assoc]
theorem okTo_all {ep : Int} {xs : List FrV} {j : Nat} (hj : xs.length ≤ j) : okTo ep xs j = true → numOk ep = true ∧ ∀ f ∈ xs.map FrV.f, frmOk f = true := by
  unfold okTo
  rw [List.take_of_length_le hj]
  simp only [Bool.and_eq_true, List.all_eq_true, List.mem_map]
  rintro ⟨h1, h2⟩
  exact ⟨h1, by rintro _ ⟨x, hx, rfl⟩; exact h2 x hx⟩
theorem okTo_no {ep : Int} {xs : List FrV} {j : Nat} (hj : xs.length ≤ j) : okTo ep xs j = false → streamP ep (xs.map FrV.f) = [] := by
  unfold okTo
  rw [List.take_of_length_le hj]
  intro h
  unfold streamP
  split
  · next h2 =>
    simp only [Bool.and_eq_true, List.all_eq_true, List.mem_map, Bool.or_eq_true, List.isEmpty_iff, List.map_eq_nil_iff] at h2
    obtain ⟨q1, q2 | q2⟩ := h2
    · subst q2; rfl
    · exfalso
      rw [q2, Bool.true_and] at h
      have : (xs.all fun x => frmOk x.f) = true := List.all_eq_true.2 (fun x hx => q1 _ ⟨x, hx, rfl⟩)
      rw [this] at h
      cases h
  · rfl
theorem okTo_yes {ep : Int} {xs : List FrV} (h1 : numOk ep = true) (h2 : ∀ f ∈ xs.map FrV.f, frmOk f = true) : streamP ep (xs.map FrV.f) = streamF ep 0 (xs.map FrV.f) := by
  unfold streamP
  rw [if_pos]
  simp only [Bool.and_eq_true, List.all_eq_true, Bool.or_eq_true]
  exact ⟨h2, .inr h1⟩

set_option maxRecDepth 100000 in
set_option maxHeartbeats 8000000 in
theorem lawStream_any (ep : Int) (he : -9223372036854775808 ≤ ep ∧ ep < 9223372036854775808) (xs : List FrV) (n : Nat) (A : Option Addr) (c : Nat) (w : World) (hs : Frs w A xs) (hn : xs.length = n) (hnc : n ≤ c) (hc : c ≤ maxLen) (z q : Nat) (hz : z < 256) (hq : q < 65536) :
    Calls Try.prog 5 #[.int .i64 ep, .slice A n c, .int .u8 z, .int .u16 q] w fun e w' => e = .returned (.bool true) ∧ Fr No w w' := by
  have hc63 : c ≤ 9223372036854775807 := hc
  have Hn := Lib.hid hn
  have He := Lib.hid he
  have Hs := Lib.hid (fun W (hW : Fr No w W) => hs.since hW)
  have HG := Lib.hid (fun W (hW : Fr No w W) => great6_any xs A n c W (hs.since hW) hn (by omega))
  have HST := Lib.hid (fun W (hW : Fr No w W) (hl : n ≤ 30) => stream_any ep he xs n A c W (hs.since hW) hn (by omega))
  have HE := Lib.hid (fun W => refNumber_any ep W)
  clear hn he hs hc
  obtain ⟨be, Hbe⟩ : ∃ be, Hid (be = numOk ep) := ⟨_, Lib.hid rfl⟩
  rw [← Hbe.out] at HE
  go_enter Try.func5, Try.ntmps5
  go_wp2_with fail
  refine (alive6_any _).mono ?_
  rintro e w1 ⟨rfl, f1⟩
  go_wp2_with fail
  refine (HG.out _ f1).mono ?_
  rintro e w2 ⟨⟨bg, rfl, hbg⟩, rfl⟩
  cases bg with
  | true =>
    clear hbg
    go_wp2
    go_ret
    exact ⟨rfl, f1⟩
  | false =>
    obtain ⟨hn30, hl21⟩ := hbg rfl
    have Hl21 := Lib.hid hl21
    clear hbg hl21
    go_wp2_with fail
    refine (HST.out _ f1 hn30).mono ?_
    rintro e w3 ⟨A3, c3, rfl, hown3, f3⟩
    have F3 := Lib.hid (f1.trans' f3 (fun _ _ e => e))
    have HO3 := Lib.hid (Sl.ofOwn hown3)
    have hc3 : (streamP ep (xs.map FrV.f)).length ≤ c3 ∧ c3 ≤ maxLen := by
      obtain ⟨_, _, hv, q1, q2, -⟩ := own_shape hown3
      simp only [Value.slice.injEq] at hv
      obtain ⟨-, -, rfl⟩ := hv
      exact ⟨q1, q2⟩
    obtain ⟨S, HS⟩ : ∃ S, Hid (S = streamP ep (xs.map FrV.f)) := ⟨_, Lib.hid rfl⟩
    rw [← HS.out] at HO3 hc3 ⊢
    obtain ⟨s, Hs1⟩ : ∃ s, Hid (s = S.length) := ⟨_, Lib.hid rfl⟩
    rw [← Hs1.out] at hc3 ⊢
    obtain ⟨hsc, hc3m⟩ := hc3
    have hc3n : c3 ≤ 9223372036854775807 := hc3m
    clear f1 f3 hown3 HST HG hc3m
    go_wp2_with fail
    refine (HE.out _).mono ?_
    rintro e w' ⟨rfl, rfl⟩
    go_wp2
    go_loopw [10, 11] (fun bv iv wr => ∃ (j : Nat) (bb : Bool), j ≤ n ∧ iv = .int .i64 j ∧ bv = .bool bb ∧ Hid (bb = !okTo ep xs j) ∧ Hid (Fr No w3 wr)) (fun _ iv _ => n - (intOf iv).toNat)
    case atStart => exact ⟨0, !be, by omega, rfl, rfl, Lib.hid (by rw [Hbe.out]; simp [okTo]), Lib.hid (Fr.refl _ _)⟩
    case round =>
      obtain ⟨j, bb, hj, rfl, rfl, Hbb, Hfr⟩ := hrel
      by_cases hlt : j < n
      · have hjx : j < xs.length := by rw [Hn.out]; exact hlt
        have hfs := Hs.out wr (F3.out.trans' Hfr.out (fun _ _ e => e))
        obtain ⟨ad, rfl, -, x0, x1⟩ := hfs.at hjx
        have Hsu : Hid (okTo ep xs (j + 1) = (okTo ep xs j && frmOk xs[j].f)) := Lib.hid (okTo_succ (List.take_succ_eq_append_getElem hjx))
        have HRM := Lib.hid (fun W => refMay_any xs[j] W)
        generalize xs[j] = x at *
        obtain ⟨xk, xA, xw, xc⟩ := x
        simp only [FrV.agg, FrV.f] at x0 x1 HRM Hsu
        generalize xw.length = xm at *
        obtain ⟨bf, Hbf⟩ : ∃ bf, Hid (bf = frmOk ⟨xk, xw⟩) := ⟨_, Lib.hid rfl⟩
        rw [← Hbf.out] at HRM Hsu
        clear hfs Hbf
        cases bb with
        | true =>
          clear x0 x1
          have Hno : Hid (true = !okTo ep xs (j + 1)) := Lib.hid (by rw [Hsu.out]; have := Hbb.out; revert this; cases okTo ep xs j <;> simp)
          go_wp2
          go_roundw
          case rel => exact ⟨j + 1, true, by omega, by go_num, rfl, Hno, Hfr⟩
          case measure => simp [intOf]; omega
        | false =>
          have Hno : Hid ((!bf) = !okTo ep xs (j + 1)) := Lib.hid (by rw [Hsu.out]; have := Hbb.out; revert this; cases okTo ep xs j <;> simp)
          go_wp2_with (go_at_call 10; refine (HRM.out _).mono ?_; rintro e w4 ⟨rfl, f4⟩; clear x0 x1)
          go_roundw
          case rel => exact ⟨j + 1, !bf, by omega, by go_num, by simp, Hno, Lib.hid (Hfr.out.trans' f4 (fun _ _ e => e))⟩
          case measure => simp [intOf]; omega
      · have hjn : j = n := by omega
        have hjl : xs.length ≤ j := by rw [Hn.out]; omega
        cases bb with
        | true =>
          have Hs0 : Hid (s = 0) := Lib.hid (by
            rw [Hs1.out, HS.out, okTo_no hjl (by have := Hbb.out; revert this; cases okTo ep xs j <;> simp)]
            rfl)
          have HFF := Lib.hid (F3.out.trans' Hfr.out (fun _ _ e => e))
          have hs0 := Hs0.out
          subst hs0
          clear hjl
          go_wp2
          go_ret
          exact ⟨rfl, HFF.out⟩
        | false =>
          obtain ⟨hne, hall⟩ := okTo_all hjl (by have := Hbb.out; revert this; cases okTo ep xs j <;> simp)
          have hSe : S = streamF ep 0 (xs.map FrV.f) := by rw [HS.out, okTo_yes hne hall]
          have hLl : (xs.map FrV.f).length = n := by rw [List.length_map, Hn.out]
          have hsl : s ≤ 30 * 2001 := by
            have h1 := streamF_len_le ep (xs.map FrV.f) 0 hall
            rw [Hs1.out, hSe]
            rw [hLl] at h1
            omega
          have H64 : Hid (∀ u ∈ S, u < 18446744073709551616) := Lib.hid (by
            rw [hSe]
            refine streamF_lt ep _ 0 ?_
            intro f hf
            obtain ⟨x, hx, rfl⟩ := List.mem_map.1 hf
            exact ((Hs.out w (Fr.refl _ _)).fit x hx).lt)
          have HT1 : Hid (∀ ys k, Told ep (S ++ List.replicate z 0) ys k → ys = xs.map FrV.f ∧ k = s) := Lib.hid (fun ys k h => by
            have h2 := streamF_told ep (xs.map FrV.f) (List.replicate z 0) hne hall (by rw [hLl]; omega) (getF_zeros _ _ _)
            rw [← hSe, ← Hs1.out] at h2
            exact h.uniq h2)
          have HT2 : Hid (∀ (m : Nat) (ys : List Frm) (k i : Nat), m ≤ n → Told ep (S.take i) ys k → (streamF ep 0 ((xs.map FrV.f).take m)).length ≤ i → (∀ h : m < xs.length, i < (streamF ep 0 ((xs.map FrV.f).take m)).length + 1 + xs[m].ws.length) → ys = (xs.take m).map FrV.f ∧ k = (streamF ep 0 ((xs.map FrV.f).take m)).length) := Lib.hid (fun m ys k i hm h q1 q2 => by
            have h2 := streamF_cut ep (xs.map FrV.f) m i hne hall (by rw [hLl]; omega) (by rw [hLl]; exact hm) q1 (fun h3 => by
              have := q2 (by simpa using h3)
              simpa [FrV.f] using this)
            rw [← hSe] at h2
            rw [List.map_take]
            exact h.uniq h2)
          have HL : Hid (∀ m (h : m < xs.length), (streamF ep 0 ((xs.map FrV.f).take (m + 1))).length = (streamF ep 0 ((xs.map FrV.f).take m)).length + 1 + xs[m].ws.length) := Lib.hid (fun m h => by
            have := streamF_len_snoc ep (xs.map FrV.f) m (by simpa using h)
            simpa [FrV.f] using this)
          have G4 := Lib.hid (F3.out.trans' Hfr.out (fun _ _ e => e))
          have Hfr0 := Hfr.out
          have f5 : Fr No wr (wr.alloc (.cells #[] 43)) := (Fr.refl _ _).alloc _
          have hown5 := World.ownsRow_lit (base := wr.heap.size) (e := 43) (size := 1) wr #[] 0 (Nat.le_refl _) (by unfold maxLen; omega) rfl
          have hsl5 : Sl (wr.alloc (.cells #[] 43)) (wr.alloc (.cells #[] 43)).heap.size A3 (u64s S) := (HO3.out.since Hfr.out).since f5
          clear hne hall hSe hLl Hbb HS hjl Hfr0
          go_wp2_with (first
            | (at_builtin
               have _ := hown6
               refine app_zeros rfl _ _ rfl wr.heap.size A6 s c6 z S rfl rfl hown6 (by omega) f6.size ?_
               intro A7 c7 w7 hown7 hf7
               have f7 : Fr No wr w7 := f6.trans' hf7 (fun k hk e => by have := (hown6.lt k e).1; omega)
               clear hown6 hf7)
            | (at_builtin
               refine append_words rfl _ _ rfl wr.heap.size (some ⟨wr.heap.size, 0, none⟩) 0 0 [] rfl _ A3 s c3 S rfl Hs1.out.symm hsl5 (by simpa [u64s] using hown5) (by omega) (by simp) ?_
               intro A6 c6 w6 hown6 hf6 hg6
               rw [show 0 + s = s by omega] at hown6 ⊢
               simp only [List.nil_append] at hown6
               have f6 : Fr No wr w6 := f5.trans' hf6 (fun k hk e => by simp [Value.ownBlock] at e; omega)
               clear hf6 hg6 hown5 hsl5 f5))
          have hsh : s + z ≤ c7 ∧ c7 ≤ maxLen := by
            obtain ⟨_, _, hv, q1, q2, -⟩ := own_shape hown7
            simp only [Value.slice.injEq] at hv
            obtain ⟨-, -, rfl⟩ := hv
            exact ⟨q1, q2⟩
          have h64z : ∀ u ∈ S ++ List.replicate z 0, u < 18446744073709551616 := fun u hu => by
            rcases List.mem_append.1 hu with hu | hu
            · exact H64.out u hu
            · have := List.eq_of_mem_replicate hu; omega
          refine (all_any ep He.out (S ++ List.replicate z 0) h64z (s + z) A7 c7 w7 (Sl.ofOwn hown7) (by rw [List.length_append, List.length_replicate, ← Hs1.out]) hsh.1 hsh.2 (by omega)).mono ?_
          rintro e w8 ⟨ys, A8, c8, k8, rfl, ht8, ho8⟩
          obtain ⟨hy, rfl⟩ := HT1.out _ _ ht8
          have F8 := Lib.hid (Hfr.out.trans' (f7.trans' ho8.fr (fun _ _ e => e)) (fun _ _ e => e))
          obtain ⟨n8, N8⟩ : ∃ n8, Hid (n8 = ys.length) := ⟨_, Lib.hid rfl⟩
          rw [← N8.out]
          have hn8 : n8 ≤ 1099511627776 := by
            have := congrArg List.length hy
            simp only [List.length_map] at this
            rw [N8.out, this, Hn.out]
            omega
          have HS8 : Hid (Calls Try.prog 16 #[.slice A8 n8 c8, .slice A n c] w8 fun e w' => e = .returned (.bool true) ∧ Fr No w8 w') := Lib.hid (by
            refine (refSame6_any ys xs A8 A n8 n c8 c w8 ho8.frs (Hs.out w8 (F3.out.trans' F8.out (fun _ _ e => e))) N8.out.symm Hn.out hn8 (by omega)).mono ?_
            rintro e w' ⟨⟨b, rfl, hb⟩, hf⟩
            have : b = true := hb.2 hy
            exact ⟨by rw [this], hf⟩)
          obtain ⟨kk, Hkk⟩ : ∃ kk, Hid (kk = q % (k8 + 1)) := ⟨_, Lib.hid rfl⟩
          have hkk : kk ≤ k8 := by rw [Hkk.out]; have := Nat.mod_lt q (show 0 < k8 + 1 by omega); omega
          have hrem : (q : Int).tmod ((k8 : Int) + 1) = (kk : Int) := by
            rw [Hkk.out]
            have : ((k8 : Int) + 1) = ((k8 + 1 : Nat) : Int) := by push_cast; rfl
            rw [this]
            exact (Int.ofNat_tmod q (k8 + 1)).symm
          have hs10 : ¬ ((k8 : Int) + 1 = 0) := by omega
          clear hsh h64z hown7 ht8 ho8 hy f7 HT1
          go_wp2_with (go_at_call 16; refine HS8.out.mono ?_; rintro e w9 ⟨rfl, f9⟩)
          have F9 := Lib.hid (F8.out.trans' f9 (fun _ _ e => e))
          have hst9 : Sl w9 w9.heap.size A3 (u64s (S.take kk)) := by
            have h1 := (HO3.out.since F9.out).take kk
            have h2 : (u64s S).take kk = u64s (S.take kk) := by simp [u64s]
            rw [h2] at h1
            exact h1
          refine (all_any ep He.out (S.take kk) (fun u hu => H64.out u (List.mem_of_mem_take hu)) kk A3 c3 w9 hst9 (by rw [List.length_take, ← Hs1.out]; omega) (by omega) hc3n (by omega)).mono ?_
          rintro e w10 ⟨zs, A10, c10, k10, rfl, ht10, ho10⟩
          obtain ⟨n10, N10⟩ : ∃ n10, Hid (n10 = zs.length) := ⟨_, Lib.hid rfl⟩
          rw [← N10.out]
          have HTd := Lib.hid ht10
          have F10 := Lib.hid (F3.out.trans' (F9.out.trans' ho10.fr (fun _ _ e => e)) (fun _ _ e => e))
          have HO10 := Lib.hid ho10.frs
          have hfs := Hs.out w10 F10.out
          clear ht10 ho10 hst9 f9 HS8 hrem hs10 H64 hn8 Hs1 HO3 He F9 F8
          go_wp2
          go_loop [17, 18] (fun nv hv => ∃ j h : Nat, j ≤ n ∧ nv = .int .i64 j ∧ hv = .int .i64 h ∧ h ≤ kk ∧ Hid (h = (streamF ep 0 ((xs.map FrV.f).take j)).length)) (fun nv _ => n - (intOf nv).toNat)
          case atStart => exact ⟨0, 0, by omega, rfl, rfl, by omega, Lib.hid rfl⟩
          case round =>
            obtain ⟨j, h, hj, rfl, rfl, hh, Hh⟩ := hrel
            have HSame : Hid (zs.map FrV.f = (xs.take j).map FrV.f ∧ k10 = h → Calls Try.prog 16 #[.slice A10 n10 c10, .slice A j c] w10 fun e w' => e = .returned (.bool true) ∧ Fr No w10 w') := Lib.hid (fun hz => by
              have hlz : n10 = j := by
                have := congrArg List.length hz.1
                simp only [List.length_map, List.length_take, Hn.out] at this
                rw [N10.out, this]
                omega
              refine (refSame6_any zs (xs.take j) A10 A n10 j c10 c w10 HO10.out (hfs.take j) N10.out.symm (by rw [List.length_take, Hn.out]; omega) (by omega) (by omega)).mono ?_
              rintro e w' ⟨⟨b, rfl, hb⟩, hf⟩
              have : b = true := hb.2 hz.1
              exact ⟨by rw [this], hf⟩)
            have hb1 : h ≤ 60030 := by omega
            have hb2 : j ≤ 30 := by omega
            have hb3 : kk ≤ 60030 := by omega
            by_cases hlt : j < n
            · have hjx : j < xs.length := by rw [Hn.out]; exact hlt
              obtain ⟨ad, rfl, -, x0, x1⟩ := hfs.at hjx
              have HLj := Lib.hid (HL.out j hjx)
              have hx21 := Hl21.out _ (List.getElem_mem hjx)
              have HT2j := Lib.hid (HT2.out j (zs.map FrV.f) k10 kk hj HTd.out (by rw [← Hh.out]; exact hh))
              have Hg : Hid (∀ h : j < xs.length, xs[j].ws.length = (xs[j]'hjx).ws.length) := Lib.hid (fun _ => rfl)
              obtain ⟨xm, Hxm⟩ : ∃ xm, Hid (xm = xs[j].ws.length) := ⟨_, Lib.hid rfl⟩
              rw [← Hxm.out] at x1 hx21
              by_cases hfit : h + 1 + xm ≤ kk
              · have hd : decide ((h : Int) + 1 + (xm : Int) ≤ (kk : Int)) = true := by simp; omega
                have Hnx : Hid (h + 1 + xm = (streamF ep 0 ((xs.map FrV.f).take (j + 1))).length) := Lib.hid (by rw [HLj.out, ← Hh.out, Hxm.out])
                clear HSame HT2j
                generalize xs[j] = x at *
                go_wp2
                go_round
                case rel => exact ⟨j + 1, h + 1 + xm, by omega, by go_num, by go_num, hfit, Hnx⟩
                case measure => simp [intOf]; omega
              · have hd : decide ((h : Int) + 1 + (xm : Int) ≤ (kk : Int)) = false := by simp; omega
                have hz := HT2j.out (fun _ => by rw [← Hh.out, ← Hxm.out]; omega)
                rw [← Hh.out] at hz
                have HSm := Lib.hid (HSame.out hz)
                have hkh := hz.2
                clear HSame HT2j hz HLj Hg
                generalize xs[j] = x at *
                subst hkh
                go_wp2_with (go_at_call 16; refine HSm.out.mono ?_; rintro e w11 ⟨rfl, f11⟩)
                go_ret
                exact ⟨rfl, F10.out.trans' f11 (fun _ _ e => e)⟩
            · have hjn : j = n := by omega
              have hz := HT2.out j (zs.map FrV.f) k10 kk hj HTd.out (by rw [← Hh.out]; exact hh) (fun h => by rw [Hn.out] at h; omega)
              rw [← Hh.out] at hz
              have HSm := Lib.hid (HSame.out hz)
              have hkh := hz.2
              clear HSame hz hjn
              subst hkh
              go_wp2_with (go_at_call 16; refine HSm.out.mono ?_; rintro e w11 ⟨rfl, f11⟩)
              go_ret
              exact ⟨rfl, F10.out.trans' f11 (fun _ _ e => e)⟩
end Go.Proofs.Ytinfeollcmfjeaa
