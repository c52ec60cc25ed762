/- Package deps: lists that may be those of a history are copied; a node more. -/
import Derived.Test.YtmabapbdnafpfaaOf15
namespace Go.Proofs.Ytmabapbdnafpfaa
open Go.RowKit

theorem info_int15 : (Try.prog.info? 3).map (fun i => (i.zero, i.size, i.bytes)) = some (some (.int .i64 0), 1, 8) := by kernel_rfl
theorem nums_one (l : List Nat) : ∀ u ∈ nums l, u.oneCell' = true := by
  intro u hu
  unfold nums at hu
  obtain ⟨k, -, rfl⟩ := List.mem_map.1 hu
  rfl
set_option maxRecDepth 100000 in
set_option maxHeartbeats 2000000 in
theorem clone15 (l : List Nat) (A : Option Addr) (n c : Nat) (w : World) (h : Sl w w.heap.size A (nums l)) (hn : l.length = n) (hm : n ≤ 1048576) :
    Calls Try.prog 32 #[.slice A n c] w fun e w' => ∃ A' c', e = .returned (.slice A' n c') ∧ w'.ownsRow w.heap.size 3 1 (.slice A' n c') n (nums l) ∧ Fr No w w' := by
  have hne := fun w (a : Option Addr) k k' k2 k3 => Lib.run_eql_slice_nil (P := Try.prog) w 31 3 a k k' k2 k3 Try.underlying31
  have hl : (nums l).length = n * 1 := by rw [nums_len, hn, Nat.mul_one]
  have h1 := nums_one l
  generalize nums l = xs at *
  cases A with
  | none =>
    have hx : xs = [] := Classical.byContradiction fun e => by
      obtain ⟨_, e', _⟩ := h e
      cases e'
    subst hx
    obtain rfl : n = 0 := by simp at hl; omega
    go_enter Try.func32, Try.ntmps32
    go_wp2
    go_ret
    exact ⟨none, 0, rfl, World.ownsRow_nil _ _ _ _, Fr.refl _ _⟩
  | some ad =>
    obtain ⟨i0, hi, hz0, hz1, hz2⟩ := info_parts info_int15
    go_enter Try.func32, Try.ntmps32
    go_wp2_with (at_builtin; refine wpList_append_src _ rfl _ _ 31 rfl w.heap.size 3 i0 _ 1 8 Try.underlying31 hi hz0 hz1 hz2 rfl (by decide) _ _ _ rfl (World.ownsRow_made w #[] 0 (Nat.le_refl _) (Nat.zero_le _) (by simp)) w.heap.size (some ad) n c xs rfl ?q1 ?q2 ?q3 ?q4 ?q5 ?q6 ?_)
    case q1 => exact hl
    case q2 => exact h.fr ((Fr.refl No w).alloc _) (Nat.le_refl _) (fun _ _ _ e => e)
    case q3 => exact h1
    case q4 => unfold maxLen; omega
    case q5 => omega
    case q6 => simp
    intro v' w1 hown hgrow hnil
    have hown' : w1.ownsRow w.heap.size 3 1 v' n xs := by simpa using hown
    obtain ⟨A', c', rfl, -, -, -⟩ := own_shape hown'
    have hfr : Fr No w w1 := (((Fr.refl No w).alloc (.cells #[] 3))).grown hgrow (fun k e => by simp [Value.ownBlock] at e; exact .inr (by omega))
    have Hfr := Lib.hid hfr
    have Hown := Lib.hid hown'
    clear hown hgrow hnil hown' hfr h
    go_wp2
    go_ret
    exact ⟨A', c', rfl, Hown.out, Hfr.out⟩
/-- A list that rises, of numbers below i, is what may asks for. -/
theorem depL_rise (h : List Nd) (i : Nat) : (depL h i).Pairwise (· < ·) := List.Pairwise.filter _ List.pairwise_lt_range
theorem rise_at {l : List Nat} (hp : l.Pairwise (· < ·)) {j : Nat} (hj : j + 1 < l.length) : l[j] + 1 ≤ l[j + 1] := by
  have := (List.pairwise_iff_getElem.1 hp) j (j + 1) (by omega) hj (by omega)
  omega
set_option maxRecDepth 100000 in
set_option maxHeartbeats 4000000 in
theorem may15 (ls : List IL) (L : Option Addr) (n lc : Nat) (w : World) (hI : Ils w L ls) (hn : ls.length = n) (hnm : n ≤ 1048576) (hr : ∀ i (hi : i < ls.length), ls[i].l.Pairwise (· < ·) ∧ ∀ x ∈ ls[i].l, x < i) :
    Calls Try.prog 31 #[.slice L n lc, .int .i64 (n : Int)] w (Has w true) := by
  have Hn := Lib.hid hn
  have Hsl := Lib.hid (fun (k : Nat) (hk : k < ls.length) W (h : Fr No w W) => (hI.since h).sl.il hk)
  have Hnum := Lib.hid (fun (k : Nat) (hk : k < ls.length) W (h : Fr No w W) => (hI.since h).all _ (List.getElem_mem hk))
  have Hr := Lib.hid hr
  clear hI hn hr
  go_enter Try.func31, Try.ntmps31
  go_wp2
  go_loopw [16] (fun iv wr => ∃ i : Nat, i ≤ n ∧ iv = .int .i64 (i : Int) ∧ Hid (Fr No w wr)) (fun iv _ => n - (intOf iv).toNat)
  case atStart => exact ⟨0, Nat.zero_le _, rfl, Lib.hid (Fr.refl _ _)⟩
  case round =>
    obtain ⟨i, hi, rfl, hfr⟩ := hrel
    by_cases hlt : i < n
    · have hil : i < ls.length := by rw [Hn.out]; exact hlt
      have hin : ((i : Nat) : Int) < (n : Int) := by omega
      obtain ⟨ad, rfl, hab, c0⟩ := Hsl.out i hil _ hfr.out
      have hnum := Lib.hid (fun W (h : Fr No w W) => Hnum.out i hil W h)
      have hrise := Lib.hid (Hr.out i hil).1
      have hbel := Lib.hid (Hr.out i hil).2
      have hb31 : ls[i].l.length ≤ i := by
        have h1 := below_len i ls[i].l (hrise.out.imp (fun {a b} h => by omega)) hbel.out
        exact h1
      generalize ls[i].A = A2 at *
      generalize ls[i].c = c2 at *
      generalize ls[i].l = l at *
      clear Hsl Hnum Hr
      obtain ⟨ll, hll⟩ : ∃ m, l.length = m := ⟨_, rfl⟩
      have Hll := Lib.hid hll
      rw [hll] at c0 hb31
      clear hll hab
      go_wp2
      go_loopw [7, 23] (fun mv jv wx => ∃ j m : Nat, j ≤ ll ∧ jv = .int .i64 (j : Int) ∧ mv = .int .i64 (m : Int) ∧ Hid (∀ hj : j < l.length, m ≤ l[j]) ∧ Hid (Fr No w wx)) (fun _ jv _ => ll - (intOf jv).toNat)
      case atStart => exact ⟨0, 0, Nat.zero_le _, rfl, rfl, Lib.hid (fun _ => Nat.zero_le _), hfr⟩
      case round =>
        obtain ⟨j, m, hj, rfl, rfl, hm, hfx⟩ := hrel
        by_cases hjl : j < ll
        · have hjl2 : j < l.length := by rw [Hll.out]; exact hjl
          have hji : ((j : Nat) : Int) < (ll : Int) := by omega
          obtain ⟨ae, rfl, hae, a0⟩ := (hnum.out _ hfx.out).num hjl2
          have h1 := hm.out hjl2
          have h2 := hbel.out _ (List.getElem_mem hjl2)
          have hs : Hid (∀ hj : j + 1 < l.length, l[j] + 1 ≤ l[j + 1]) := Lib.hid (fun hj => rise_at hrise.out hj)
          obtain ⟨x, hx⟩ : ∃ x, l[j] = x := ⟨_, rfl⟩
          rw [hx] at h1 h2 hs a0
          have d1 : decide ((x : Int) < (m : Int)) = false := decide_eq_false (by omega)
          have d2 : decide ((i : Int) ≤ (x : Int)) = false := decide_eq_false (by omega)
          have d3 : decide (x < m) = false := decide_eq_false (by omega)
          have d4 : decide (i ≤ x) = false := decide_eq_false (by omega)
          have hx2 : x ≤ 1048576 := by omega
          clear h1 h2 hm hnum hrise hbel hx hae
          go_wp2
          go_roundw
          case rel => exact ⟨j + 1, x + 1, by omega, by go_num, by go_num, hs, hfx⟩
          case measure => simp [intOf]; omega
        · obtain rfl : j = ll := by omega
          clear hnum hrise hbel hm
          go_wp2
          go_roundw
          case rel => exact ⟨i + 1, by omega, by go_num, hfx⟩
          case measure => simp [intOf]; omega
    · obtain rfl : i = n := by omega
      go_wp2
      go_ret
      exact ⟨rfl, hfr.out⟩
set_option maxRecDepth 100000 in
set_option maxHeartbeats 8000000 in
theorem known15 (h : List Ndl) (ls : List IL) (L A : Option Addr) (n c lc : Nat) (w : World) (hI : Ils w L ls) (hO : OfL (ndsOf h) ls) (hh : h.length = n) (hnm : n ≤ 1048576) :
    Calls Try.prog 24 #[.slice L n lc, .slice A n c] w fun e w' => ∃ (L' : Option Addr) (lc' : Nat) (ls' : List IL), e = .returned (.slice L' n lc') ∧ ls'.length = n ∧ Own15 w' w.heap.size L' lc' ls' ∧ OfL (ndsOf h) ls' ∧ Fr No w w' := by
  have hn : ls.length = n := by rw [hO.len, ndsOf_len, hh]
  have CM := Lib.hid (may15 ls L n lc w hI hn hnm (fun i hi => by
    rw [hO.at hi]
    exact ⟨depL_rise _ _, fun x hx => depL_lt hx⟩))
  have Hn := Lib.hid hn
  have Hsl := Lib.hid (fun (k : Nat) (hk : k < ls.length) W (h : Fr No w W) => (hI.since h).sl.il hk)
  have Hcl := Lib.hid (fun (k : Nat) (hk : k < ls.length) W (hW : Fr No w W) => clone15 ls[k].l ls[k].A ls[k].l.length ls[k].c W ((hI.since hW).all _ (List.getElem_mem hk)) rfl (by
    rw [hO.at hk]
    have := depL_len (ndsOf h) k
    omega))
  have Hfin := Lib.hid (fun (ls' : List IL) (hm : ls'.map IL.l = (ls.take ls.length).map IL.l) => show OfL (ndsOf h) ls' by
    rw [List.take_length] at hm
    unfold OfL at hO ⊢
    rw [hm]
    exact hO)
  have Hst := Lib.hid (fun (k : Nat) (hk : k < ls.length) (ls' : List IL) (x : IL) (hm : ls'.map IL.l = (ls.take k).map IL.l) (hx : x.l = ls[k].l) => show (ls' ++ [x]).map IL.l = (ls.take (k + 1)).map IL.l by
    rw [List.take_succ_eq_append_getElem hk, List.map_append, List.map_append, hm, List.map_singleton, List.map_singleton, hx])
  obtain ⟨i0, hi0, hz0, hz1, hz2⟩ := info_parts info_il15
  clear hI hO hn hh
  go_enter Try.func24, Try.ntmps24
  go_wp2_with fail
  refine (CM.out).mono ?_
  rintro e w1 ⟨rfl, f1⟩
  have F1 := Lib.hid f1
  clear f1 CM
  go_wp2
  go_loopw [5, 17] (fun lv iv wr => ∃ (i : Nat) (L' : Option Addr) (lc' : Nat) (ls' : List IL), i ≤ n ∧ lv = .slice L' i lc' ∧ iv = .int .i64 (i : Int) ∧ ls'.length = i ∧ Hid (Own15 wr w.heap.size L' lc' ls') ∧ Hid (ls'.map IL.l = (ls.take i).map IL.l) ∧ Hid (Fr No w wr)) (fun _ iv _ => n - (intOf iv).toNat)
  case atStart => exact ⟨0, none, 0, [], Nat.zero_le _, rfl, rfl, rfl, Lib.hid (Own15.nil _ _), Lib.hid rfl, F1⟩
  case round =>
    obtain ⟨i, L', lc', ls', hi, rfl, rfl, hls, hIo, hm, hfr⟩ := hrel
    by_cases hlt : i < n
    · have hil : i < ls.length := by rw [Hn.out]; exact hlt
      have hin : ((i : Nat) : Int) < (n : Int) := by omega
      obtain ⟨ad, rfl, hab, c0⟩ := Hsl.out i hil _ hfr.out
      have hC1 := Lib.hid (Hcl.out i hil _ hfr.out)
      have hst := Lib.hid (fun x hx => Hst.out i hil ls' x hm.out hx)
      have hsw := hfr.out.size
      clear Hsl Hcl Hfin Hst hm hab
      generalize ls[i].A = A2 at *
      generalize ls[i].c = c2 at *
      generalize ls[i].l = l at *
      obtain ⟨ll, hll⟩ : ∃ m, l.length = m := ⟨_, rfl⟩
      have Hll := Lib.hid hll
      rw [hll] at c0 hC1
      clear hll
      go_wp2_with (first
        | (go_at_call 32
           refine (hC1.out).mono ?_
           rintro e w4 ⟨xA, xc, rfl, hx, f4⟩
           have F4 := Lib.hid (hfr.out.trans' f4 (fun _ _ e => e))
           have K1 := Lib.hid (hIo.out.fr f4)
           have hsz4 := f4.size
           have HX : Hid (w4.ownsRow w.heap.size 3 1 (IL.cell ⟨xA, l, xc⟩) l.length (nums l)) := Lib.hid (by unfold IL.cell; rw [Hll.out]; exact own_base hx hsw)
           clear hx f4)
        | (at_builtin; refine wpList_append_src _ rfl _ _ 29 rfl w.heap.size 31 i0 _ 1 24 Try.underlying29 hi0 hz0 hz1 hz2 rfl (by decide) (.slice L' i lc') i (ls'.map IL.cell) rfl (by have q := K1.out.row; rw [hls] at q; exact q.alloc _) (w4.heap.size + 1) (some ⟨w4.heap.size, 0, none⟩) 1 1 [.slice xA ll xc] rfl rfl (Sl.made w4 _ #[.slice xA ll xc]) (by intro u hu; simp at hu; subst hu; rfl) (by unfold maxLen; omega) (by omega) (by simp; omega) ?_
           intro v' w5 q1 q2 q3
           obtain ⟨A', c', rfl, -, -, -⟩ := own_shape q1
           have f5 : Fr (fun k => (Value.slice L' i lc').ownBlock = some k) w4 w5 := ((Fr.refl _ w4).alloc _).grown q2 (fun k hk => .inl hk)
           have HI5 : Hid (Own15 w5 w.heap.size A' c' (ls' ++ [⟨xA, l, xc⟩])) := Lib.hid (K1.out.app HX.out (by rw [hls]; have e := Hll.out; unfold IL.cell; rw [e]; exact q1) (by rw [hls]; exact f5))
           have HF5 : Hid (Fr No w w5) := Lib.hid (F4.out.trans' f5 (fun k hk e => by have := K1.out.row.lt k (by rw [hls]; exact e); omega))
           have HM5 := Lib.hid (hst.out ⟨xA, l, xc⟩ rfl)
           clear q1 q2 q3 f5 hst))
      go_roundw
      case rel => exact ⟨i + 1, A', c', ls' ++ [⟨xA, l, xc⟩], by omega, rfl, by go_num, by simp [hls], HI5, HM5, HF5⟩
      case measure => simp [intOf]; omega
    · obtain rfl : i = n := by omega
      have HO2 := Lib.hid (Hfin.out ls' (by rw [Hn.out]; exact hm.out))
      clear Hsl Hcl Hfin Hst hm
      go_wp2
      go_ret
      exact ⟨L', lc', ls', rfl, hls, hIo.out, HO2.out, hfr.out⟩
set_option maxRecDepth 100000 in
set_option maxHeartbeats 8000000 in
theorem add15 (h : List Ndl) (a : Ndl) (ls : List IL) (L A : Option Addr) (n c lc : Nat) (w : World) (hs : Nds w A h) (hI : Ils w L ls) (hO : OfL (ndsOf h) ls) (hh : h.length = n) (hnm : n ≤ 1048575)
    (hC : ∀ (b : Nat) (hb : b < h.length) W, Fr No w W → Calls Try.prog 29 #[a.agg, h[b].agg] W (Has W (confN a.n h[b].n))) :
    Calls Try.prog 16 #[.slice L n lc, .slice A n c, a.agg] w fun e w' => ∃ (L' : Option Addr) (lc' : Nat) (ls' : List IL), e = .returned (.slice L' (n + 1) lc') ∧ ls'.length = n + 1 ∧ Own15 w' w.heap.size L' lc' ls' ∧ OfL (ndsOf h ++ [a.n]) ls' ∧ Fr No w w' := by
  have f0 : Fr No w (w.alloc (.cells a.arr 27)) := (Fr.refl _ _).alloc _
  have CK := Lib.hid (known15 h ls L A n c lc _ (hI.since f0) hO hh (by omega))
  have bx : Bk (w.alloc (.cells a.arr 27)) w.heap.size 27 a.arr := Bk.made _ _ _
  have CN := Lib.hid (fun (ls' : List IL) (L' : Option Addr) (lc' : Nat) W (hW : Fr No w W) (hI' : Ils W L' ls') (hO' : OfL (ndsOf h) ls') => next15 h A n c a ls' L' lc' W (hs.since hW) hh (by omega) hI' hO' (fun x V hV => direct15 a h[x.1] V (fun U hU => hC x.1 x.2 U ((hW.trans' (Fr.ofBelow hV No) (fun _ _ e => e)).trans' hU (fun _ _ e => e)))))
  have Hmore := Lib.hid (fun (ls' : List IL) (hO' : OfL (ndsOf h) ls') (x : IL) (hx : x.l = depL (ndsOf h ++ [a.n]) n) => hO'.more a.n x (by rw [ndsOf_len, hh]; exact hx))
  have HB := Lib.hid (fun W (hW : Fr No (w.alloc (.cells a.arr 27)) W) => bx.fr hW (fun e => e))
  have HF0 := Lib.hid f0
  obtain ⟨i0, hi0, hz0, hz1, hz2⟩ := info_parts info_il15
  generalize depL (ndsOf h ++ [a.n]) n = res at *
  unfold Ndl.agg Ndl.arr at *
  clear hs hI hO hh hC f0 bx
  go_enter Try.func16, Try.ntmps16
  go_wp2_with fail
  refine (CK.out).mono ?_
  rintro e w1 ⟨L', lc', ls', rfl, hls, hOw, hOf, f1⟩
  have hb := HB.out w1 f1
  have y0 := hb.cell 0
  have y1 := hb.cell 1
  have y2 := hb.cell 2
  have y3 := hb.cell 3
  have y4 := hb.cell 4
  have y5 := hb.cell 5
  simp only [List.getElem?_toArray, List.getElem?_cons_zero, List.getElem?_cons_succ] at y0 y1 y2 y3 y4 y5
  have HF1 := Lib.hid (HF0.out.trans' f1 (fun _ _ e => e))
  have HOw : Hid (Own15 w1 w.heap.size L' lc' ls') := Lib.hid ⟨own_base hOw.row (by simp), fun x hx => own_base (hOw.all x hx) (by simp)⟩
  have HOf := Lib.hid hOf
  have C2 := Lib.hid (CN.out ls' L' lc' w1 HF1.out hOw.ils hOf)
  clear hb hOw hOf f1 CK CN HB HF0
  go_wp2_with (first
    | (go_at_call 19
       refine (C2.out).mono ?_
       rintro e w4 ⟨xA, xc, rfl, hx, f4⟩
       have F4 := Lib.hid (HF1.out.trans' f4 (fun _ _ e => e))
       have K1 := Lib.hid (HOw.out.fr f4)
       have hsz1 := HF1.out.size
       have hsz4 := f4.size
       obtain ⟨ll, hll⟩ : ∃ m, res.length = m := ⟨_, rfl⟩
       rw [hll] at hx ⊢
       have Hll := Lib.hid hll
       have HX : Hid (w4.ownsRow w.heap.size 3 1 (IL.cell ⟨xA, res, xc⟩) res.length (nums res)) := Lib.hid (by unfold IL.cell; rw [Hll.out]; exact own_base hx hsz1)
       clear hx f4 hll y0 y1 y2 y3 y4 y5)
    | (at_builtin; refine wpList_append_src _ rfl _ _ 29 rfl w.heap.size 31 i0 _ 1 24 Try.underlying29 hi0 hz0 hz1 hz2 rfl (by decide) (.slice L' n lc') n (ls'.map IL.cell) rfl (by have q := K1.out.row; rw [hls] at q; exact q.alloc _) (w4.heap.size + 1) (some ⟨w4.heap.size, 0, none⟩) 1 1 [.slice xA ll xc] rfl rfl (Sl.made w4 _ #[.slice xA ll xc]) (by intro u hu; simp at hu; subst hu; rfl) (by unfold maxLen; omega) (by omega) (by simp; omega) ?_
       intro v' w5 q1 q2 q3
       obtain ⟨A', c', rfl, -, -, -⟩ := own_shape q1
       have f5 : Fr (fun k => (Value.slice L' n lc').ownBlock = some k) w4 w5 := ((Fr.refl _ w4).alloc _).grown q2 (fun k hk => .inl hk)
       have HI5 : Hid (Own15 w5 w.heap.size A' c' (ls' ++ [⟨xA, res, xc⟩])) := Lib.hid (K1.out.app HX.out (by rw [hls]; have e := Hll.out; unfold IL.cell; rw [e]; exact q1) (by rw [hls]; exact f5))
       have HF5 : Hid (Fr No w w5) := Lib.hid (F4.out.trans' f5 (fun k hk e => by have := K1.out.row.lt k (by rw [hls]; exact e); omega))
       have HM5 := Lib.hid (Hmore.out ls' HOf.out ⟨xA, res, xc⟩ rfl)
       clear q1 q2 q3 f5))
  go_ret
  exact ⟨A', c', ls' ++ [⟨xA, res, xc⟩], rfl, by simp [hls], HI5.out, HM5.out, HF5.out⟩
end Go.Proofs.Ytmabapbdnafpfaa
