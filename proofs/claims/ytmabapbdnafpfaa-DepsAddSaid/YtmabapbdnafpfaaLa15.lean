/- The law 'DepsAdd', walked. -/
import Derived.Test.YtmabapbdnafpfaaCtr15
import Derived.Deep.CutRange
namespace Go.Proofs.Ytmabapbdnafpfaa
open Go.RowKit

theorem info_nd15 : (Try.prog.info? 27).map (fun i => (i.zero, i.size, i.bytes)) = some (some (.agg #[.int .i64 0, .int .i64 0, .int .i64 0, .bool false, .slice none 0 0, .slice none 0 0]), 6, 80) := by kernel_rfl
theorem slLit15 (w : World) (t : TypeId) (cs : Array Value) (xs : List Value) (H : Nat) (hH : H = w.heap.size) (hl : cs.toList = xs) : Sl (w.alloc (.cells cs t)) (H + 1) (some ⟨H, 0, none⟩) xs := by
  subst hH
  subst hl
  exact Sl.made w t cs
theorem nds_one15 (l : List Ndl) : ∀ u ∈ l.flatMap Ndl.cells, u.oneCell' = true := by
  intro u hu
  obtain ⟨t, _, h⟩ := List.mem_flatMap.1 hu
  simp [Ndl.cells] at h
  rcases h with rfl | rfl | rfl | rfl | rfl | rfl <;> rfl
theorem wp_nds15 {w : World} {o : Oper} {a : Act} {K : Act → World → Prop} {Q : Exit → Act → World → Prop} (s x : Operand)
    (ho : o.op = .call { callee := .builtin .append, args := #[s, x], argTypes := #[22, 22] })
    (base : Nat) (A : Option Addr) (n c : Nat) (xs : List Ndl) (hs : a.eval s = .slice A n c) (B : Nat) (A2 : Option Addr) (m c2 : Nat) (ys : List Ndl) (hx : a.eval x = .slice A2 m c2) (hm : ys.length = m) (hr : Sl w B A2 (ys.flatMap Ndl.cells))
    (hown : w.ownsRow base 27 6 (.slice A n c) n (xs.flatMap Ndl.cells)) (hlen : (n + m) * 80 ≤ 140737488355328) (hbase : base ≤ w.heap.size)
    (h : ∀ A' c' w', w'.ownsRow base 27 6 (.slice A' (n + m) c') (n + m) ((xs ++ ys).flatMap Ndl.cells) → Fr (fun k => (Value.slice A n c).ownBlock = some k) w w' → K (a.put o.dst (.slice A' (n + m) c')) w') :
    Oper.wp Try.prog o a w K Q := by
  obtain ⟨i, hi, hz, hz1, hz2⟩ := info_parts info_nd15
  refine wp_append_src w s x _ ho base 27 i _ 6 80 Try.underlying22 hi hz hz1 hz2 rfl (by omega) (.slice A n c) n (xs.flatMap Ndl.cells) hs hown B A2 m c2 (ys.flatMap Ndl.cells) hx (by rw [show (ys.flatMap Ndl.cells).length = ys.length * 6 from flat_len _ 6 Ndl.cells_len ys, hm]) hr (nds_one15 ys) (by unfold maxLen; omega) hlen hbase ?_
  intro v' w' q1 q2 q3
  obtain ⟨A', c', rfl, -, -, -⟩ := own_shape q1
  rw [show xs.flatMap Ndl.cells ++ ys.flatMap Ndl.cells = (xs ++ ys).flatMap Ndl.cells from (List.flatMap_append).symm] at q1
  exact h A' c' w' q1 ((Fr.refl _ w).grown q2 (fun k hk => .inl hk))
theorem OfL.all15 {h : List Nd} {ls : List IL} (e : OfL h ls) {n : Nat} (hn : h.length = n) : ∀ i (hi : i < ls.length), ls[i].l = (List.range n).filter (depB h i) := fun i hi => by
  have hl := e.len
  rw [e.at hi, depL_all (by omega)]
set_option maxRecDepth 100000 in
set_option maxHeartbeats 8000000 in
theorem lawAdd15 (h : List Ndl) (y : Ndl) (A : Option Addr) (n c : Nat) (w : World) (hs : Nds w A h) (hy : y.Ok w) (hh : h.length = n) (hnc : n ≤ c) (hnb : n * 80 ≤ 140737488351232) : Calls Try.prog 5 #[.slice A n c, y.agg] w (Has w true) := by
  have HIn := Lib.hid (fun (hg : great15 (h ++ [y]) = false) => show n ≤ 40 ∧ FewN (h ++ [y]) ∧ FewN h by
    have h1 := (few_of_great15 hg).1
    have h2 := fewN_of_great15 hg
    rw [List.length_append, List.length_singleton] at h1
    exact ⟨by omega, h2, fun x hx => h2 x (List.mem_append_left _ hx)⟩)
  have hlen1 : (ndsOf (h ++ [y])).length = n + 1 := by simp [ndsOf, hh]
  have hsn : ndsOf (h ++ [y]) = ndsOf h ++ [y.n] := by simp [ndsOf]
  have HOf := Lib.hid (fun (hg : great15 (h ++ [y]) = false) W (hW : Fr No w W) => ofC15 h A n c W (hs.since hW) hh (by have := (HIn.out hg).1; omega) hnc (HIn.out hg).2.2)
  have HAd := Lib.hid (fun (hg : great15 (h ++ [y]) = false) (ls : List IL) (L : Option Addr) (lc : Nat) W (hW : Fr No w W) (hI : Ils W L ls) (hO : OfL (ndsOf h) ls) => add15 h y ls L A n c lc W (hs.since hW) hI hO hh (by have := (HIn.out hg).1; omega) (fun b hb V hV => conflictU_any y h[b] V (hy.since (hW.trans' hV (fun _ _ e => e))) ((hs.all _ (List.getElem_mem hb)).since (hW.trans' hV (fun _ _ e => e))) ((HIn.out hg).2.1 y (by simp)).1 ((HIn.out hg).2.1 y (by simp)).2 ((HIn.out hg).2.2 _ (List.getElem_mem hb)).1 ((HIn.out hg).2.2 _ (List.getElem_mem hb)).2))
  have HGr := Lib.hid (fun (Z : Option Addr) (zc : Nat) W (hN : Nds W Z (h ++ [y])) => great15_any (h ++ [y]) Z (n + 1) zc W hN (by simp [hh]) (by omega))
  have HR1 := Lib.hid (fun (hg : great15 (h ++ [y]) = false) (Z : Option Addr) (zc : Nat) W (hN : Nds W Z (h ++ [y])) => refOf15_any (h ++ [y]) Z (n + 1) zc W hN (by simp [hh]) (by have := (HIn.out hg).1; omega) (confR15 hN (HIn.out hg).2.1))
  have HR2 := Lib.hid (fun (hg : great15 (h ++ [y]) = false) W (hW : Fr No w W) => refOf15_any h A n c W (hs.since hW) hh (by have := (HIn.out hg).1; omega) (confR15 (hs.since hW) (HIn.out hg).2.2))
  have HS1 := Lib.hid (fun (hg : great15 (h ++ [y]) = false) (ls : List IL) (L : Option Addr) (lc B G : Nat) (g : Nat → Nat) W (hI : Ils W L ls) (hO : OfL (ndsOf h ++ [y.n]) ls) (hn : ls.length = n + 1) (hM : MatB W B 36 4 G (n + 1) (n + 1) g (depB (ndsOf (h ++ [y])))) => refSame15_any ls L (n + 1) lc B G g (depB (ndsOf (h ++ [y]))) W hI hn (by have := (HIn.out hg).1; omega) hM (by rw [hsn]; exact hO.all15 (by rw [← hsn]; exact hlen1)))
  have HS2 := Lib.hid (fun (hg : great15 (h ++ [y]) = false) (ls : List IL) (L : Option Addr) (lc B G : Nat) (g : Nat → Nat) W (hI : Ils W L ls) (hO : OfL (ndsOf h) ls) (hn : ls.length = n) (hM : MatB W B 36 4 G n n g (depB (ndsOf h))) => refSame15_any ls L n lc B G g (depB (ndsOf h)) W hI hn (by have := (HIn.out hg).1; omega) hM (hO.all15 (by simp [ndsOf, hh])))
  have HLn := Lib.hid (fun (ls : List IL) (hO : OfL (ndsOf h) ls) => show ls.length = n by rw [hO.len, ndsOf_len, hh])
  have hh := Lib.hid hh
  have f0 : Fr No w (w.alloc (.cells y.arr 27)) := (Fr.refl _ _).alloc _
  have hbx0 : Bk (w.alloc (.cells y.arr 27)) w.heap.size 27 y.arr := Bk.made _ _ _
  have HNZ := Lib.hid (fun W (Z : Option Addr) (zc B : Nat) (hW : Fr No w W) (hO : W.ownsRow B 27 6 (.slice Z (n + 1) zc) (n + 1) ((h ++ [y]).flatMap Ndl.cells)) => show Nds W Z (h ++ [y]) from ⟨Sl.ofOwn hO, fun x hx => by
    rcases List.mem_append.1 hx with hx | hx
    · exact (hs.all x hx).since hW
    · rw [List.mem_singleton.1 hx]; exact hy.since hW⟩)
  have hsl := Lib.hid hs.sl
  have hY : [y].flatMap Ndl.cells = [.int .i64 y.n.saga, .int .i64 y.n.cls, .int .i64 y.n.step, .bool y.n.back, .slice y.rA y.n.rd.length y.rc, .slice y.wA y.n.wt.length y.wc] := rfl
  generalize great15 (h ++ [y]) = gr at *
  unfold Ndl.agg Ndl.arr at *
  clear hs hy hsn hlen1
  generalize y.n.saga = sa at *
  generalize y.n.cls = ca at *
  generalize y.n.step = ta at *
  generalize y.n.back = ka at *
  generalize y.n.rd.length = na at *
  generalize y.n.wt.length = ma at *
  generalize y.rA = Ra at *
  generalize y.rc = rca at *
  generalize y.wA = Va at *
  generalize y.wc = wca at *
  have HB := Lib.hid (fun V (hV : Fr No (w.alloc (.cells #[.int .i64 sa, .int .i64 ca, .int .i64 ta, .bool ka, .slice Ra na rca, .slice Va ma wca] 27)) V) => hbx0.fr hV (fun e => e))
  have HS : Hid (∀ V, Fr No (w.alloc (.cells #[.int .i64 sa, .int .i64 ca, .int .i64 ta, .bool ka, .slice Ra na rca, .slice Va ma wca] 27)) V → (fun V => V.cell? ⟨w.heap.size, 0, none⟩ = some (.int .i64 sa) ∧ V.cell? ⟨w.heap.size, 1, none⟩ = some (.int .i64 ca) ∧ V.cell? ⟨w.heap.size, 2, none⟩ = some (.int .i64 ta) ∧ V.cell? ⟨w.heap.size, 3, none⟩ = some (.bool ka) ∧ V.cell? ⟨w.heap.size, 4, none⟩ = some (.slice Ra na rca) ∧ V.cell? ⟨w.heap.size, 5, none⟩ = some (.slice Va ma wca)) V) := Lib.hid (fun V hV => ⟨(HB.out V hV).cell 0, (HB.out V hV).cell 1, (HB.out V hV).cell 2, (HB.out V hV).cell 3, (HB.out V hV).cell 4, (HB.out V hV).cell 5⟩)
  obtain ⟨W0, hW0⟩ : ∃ W0, W0 = w.alloc (.cells #[.int .i64 sa, .int .i64 ca, .int .i64 ta, .bool ka, .slice Ra na rca, .slice Va ma wca] 27) := ⟨_, rfl⟩
  have hwe := hW0.symm
  rw [← hW0] at f0 HS
  have HF0 := Lib.hid f0
  clear HB hbx0 f0 hW0
  go_enter Try.func5, Try.ntmps5
  go_wp2_with fail
  refine (aliveD15 _).mono ?_
  rintro e w1 ⟨rfl, f1⟩
  have FB0 := Lib.hid f1
  have F1 := Lib.hid (HF0.out.trans' f1 (fun _ _ e => e))
  clear f1 hwe
  go_wp2_with fail
  go_cut [15] from 9 to 16 (fun s15 wx => s15 = .bool gr ∧ Hid (Fr No W0 wx))
  case first =>
    have FB0' := FB0.out
    have FB : Fr No w w1 := F1.out
    refine wp_region_held_drew (S := fun V => V.cell? ⟨w.heap.size, 0, none⟩ = some (.int .i64 sa) ∧ V.cell? ⟨w.heap.size, 1, none⟩ = some (.int .i64 ca) ∧ V.cell? ⟨w.heap.size, 2, none⟩ = some (.int .i64 ta) ∧ V.cell? ⟨w.heap.size, 3, none⟩ = some (.bool ka) ∧ V.cell? ⟨w.heap.size, 4, none⟩ = some (.slice Ra na rca) ∧ V.cell? ⟨w.heap.size, 5, none⟩ = some (.slice Va ma wca)) (by kernel_rfl) (HS.out _ (FB0'.trans' ((Fr.refl No w1).drew) (fun _ _ e => e))) (fun hHeld => ?_)
    have fD : Fr No w1 w1.drew := (Fr.refl No w1).drew
    refine any_take 10 (.slice A n c) (i := 1) rfl rfl (by kernel_rfl) (by kernel_rfl) (by kernel_rfl) (fun _ _ _ h => h) (by rfl) (by intro w hSw; (try dsimp only at hSw); go_simp; try with_reducible rfl) (by assumption) ?_
    simp only [Act.put, List.setIfInBounds_toArray, List.set_cons_zero, List.set_cons_succ]
    refine any_take 12 (.agg #[.int .i64 sa, .int .i64 ca, .int .i64 ta, .bool ka, .slice Ra na rca, .slice Va ma wca]) (i := 3) rfl rfl (by kernel_rfl) (by kernel_rfl) (by kernel_rfl) (fun _ _ _ h => h) (by rfl) (by intro w hSw; (try dsimp only at hSw); go_simp; try with_reducible rfl) (by assumption) ?_
    simp only [Act.put, List.setIfInBounds_toArray, List.set_cons_zero, List.set_cons_succ]
    refine wpAnyH_ready (rs := [0, 4]) (by kernel_rfl) (by simp) ?_
    refine AllReadyH.cons rfl (fun K' hK => ?_) (AllReadyH.cons rfl (fun K' hK => ?_) AllReadyH.nil)
    · go_simp
      have FE1 : Fr No w1 (w1.drew.alloc (.cells #[] 27)) := fD.alloc _
      have OE1 : (w1.drew.alloc (.cells #[] 27)).ownsRow w1.heap.size 27 6 (.slice (some ⟨w1.heap.size, 0, none⟩) 0 0) 0 [] := by
        have h : (w1.drew.alloc (.cells #[] 27)).ownsRow w1.heap.size 27 6 (.slice (some ⟨w1.drew.heap.size, 0, none⟩) 0 0) 0 [] := own_base (World.ownsRow_lit w1.drew #[] 0 (Nat.le_refl _) (Nat.zero_le _) rfl) fD.size
        rw [show w1.drew.heap.size = w1.heap.size by simp] at h
        exact h
      refine hK.out _ _ (HS.out _ (FB0'.trans' FE1 (fun _ _ e => e))) (fun hHeld => ?_)
      clear hK
      try simp only [Act.put, List.setIfInBounds_toArray, List.set_cons_zero, List.set_cons_succ]
      refine wpAnyH_ready (rs := [2, 4]) (by kernel_rfl) (by simp) ?_
      refine AllReadyH.cons rfl (fun K' hK => ?_) (AllReadyH.cons rfl (fun K' hK => ?_) AllReadyH.nil)
      · refine wp_nds15 _ _ rfl w1.heap.size (some ⟨w1.heap.size, 0, none⟩) 0 0 [] rfl w1.heap.size A n c h rfl hh.out ((hsl.out.since FB).fr FE1 (Nat.le_refl _) (fun _ _ _ e => e)) OE1 (by omega) FE1.size ?_
        intro X1 x1 v1 OX1 FX1
        rw [Nat.zero_add] at OX1 ⊢
        rw [List.nil_append] at OX1
        have FY1 : Fr No w1 v1 := FE1.trans' FX1 (fun i hi e => by have := ((OE1).lt _ e).1; omega)
        refine hK.out _ _ (HS.out _ (FB0'.trans' FY1 (fun _ _ e => e))) (fun hHeld => ?_)
        clear hK
        try simp only [Act.put, List.setIfInBounds_toArray]
        refine wpAnyH_ready (rs := [4]) (by kernel_rfl) (by simp) ?_
        refine AllReadyH.cons rfl (fun K' hK => ?_) AllReadyH.nil
        have OW1 : (v1.alloc (.cells #[.int .i64 sa, .int .i64 ca, .int .i64 ta, .bool ka, .slice Ra na rca, .slice Va ma wca] 27)).ownsRow w1.heap.size 27 6 (.slice X1 n x1) n (h.flatMap Ndl.cells) := OX1.alloc _
        go_simp
        have FO1 : Fr No w1 (v1.alloc (.cells #[.int .i64 sa, .int .i64 ca, .int .i64 ta, .bool ka, .slice Ra na rca, .slice Va ma wca] 27)) := FY1.alloc _
        have SO1 : Sl (v1.alloc (.cells #[.int .i64 sa, .int .i64 ca, .int .i64 ta, .bool ka, .slice Ra na rca, .slice Va ma wca] 27)) (v1.heap.size + 1) (some ⟨v1.heap.size, 0, none⟩) ([y].flatMap Ndl.cells) := slLit15 _ _ _ _ _ (by simp) hY.symm
        refine hK.out _ _ (HS.out _ (FB0'.trans' FO1 (fun _ _ e => e))) (fun hHeld => ?_)
        clear hK
        try simp only [Act.put, List.setIfInBounds_toArray, List.set_cons_zero, List.set_cons_succ]
        refine wpAnyH_ready (rs := [5]) (by kernel_rfl) (by simp) ?_
        refine AllReadyH.cons rfl (fun K' hK => ?_) AllReadyH.nil
        refine wp_nds15 _ _ rfl w1.heap.size X1 n x1 h rfl _ (some ⟨v1.heap.size, 0, none⟩) 1 1 [y] rfl rfl SO1 OW1 (by omega) FO1.size ?_
        intro Z zc wz OZ FX2
        have FZ0 : Fr No w1 wz := FO1.trans' FX2 (fun i hi e => by have := ((OW1).lt _ e).1; omega)
        have FZ : Fr No w wz := FB.trans' FZ0 (fun _ _ e => e)
        have NZ : Nds wz Z (h ++ [y]) := HNZ.out wz Z zc _ FZ OZ
        refine hK.out _ _ (HS.out _ (FB0'.trans' FZ0 (fun _ _ e => e))) (fun hHeld => ?_)
        clear hK
        try simp only [Act.put, List.setIfInBounds_toArray]
        refine wpAnyH_ready (rs := [6]) (by kernel_rfl) (by simp) ?_
        refine AllReadyH.cons rfl (fun K' hK => ?_) AllReadyH.nil
        go_simp
        go_at_call 8
        refine (HGr.out Z zc wz NZ).mono ?_
        rintro e' v6 ⟨rfl, f6⟩
        have F6 : Fr No w1 v6 := FZ0.trans' f6 (fun _ _ e => e)
        dsimp only
        refine hK.out _ _ (HS.out _ (FB0'.trans' F6 (fun _ _ e => e))) (fun hHeld => ?_)
        clear hK
        try simp only [Act.put, List.setIfInBounds_toArray, List.set_cons_zero, List.set_cons_succ]
        refine wpAnyH_done (by kernel_rfl) ?_ _
        clear hHeld
        go_wp2
        go_meet
        exact ⟨rfl, Lib.hid (FB0.out.trans' F6 (fun _ _ e => e))⟩
      · go_simp
        have FO2 : Fr No w1 ((w1.drew.alloc (.cells #[] 27)).alloc (.cells #[.int .i64 sa, .int .i64 ca, .int .i64 ta, .bool ka, .slice Ra na rca, .slice Va ma wca] 27)) := FE1.alloc _
        have SO2 : Sl ((w1.drew.alloc (.cells #[] 27)).alloc (.cells #[.int .i64 sa, .int .i64 ca, .int .i64 ta, .bool ka, .slice Ra na rca, .slice Va ma wca] 27)) ((w1.heap.size + 1) + 1) (some ⟨(w1.heap.size + 1), 0, none⟩) ([y].flatMap Ndl.cells) := slLit15 _ _ _ _ _ (by simp) hY.symm
        refine hK.out _ _ (HS.out _ (FB0'.trans' FO2 (fun _ _ e => e))) (fun hHeld => ?_)
        clear hK
        try simp only [Act.put, List.setIfInBounds_toArray, List.set_cons_zero, List.set_cons_succ]
        refine wpAnyH_ready (rs := [2]) (by kernel_rfl) (by simp) ?_
        refine AllReadyH.cons rfl (fun K' hK => ?_) AllReadyH.nil
        have OW2 : ((w1.drew.alloc (.cells #[] 27)).alloc (.cells #[.int .i64 sa, .int .i64 ca, .int .i64 ta, .bool ka, .slice Ra na rca, .slice Va ma wca] 27)).ownsRow w1.heap.size 27 6 (.slice (some ⟨w1.heap.size, 0, none⟩) 0 0) 0 [] := OE1.alloc _
        refine wp_nds15 _ _ rfl w1.heap.size (some ⟨w1.heap.size, 0, none⟩) 0 0 [] rfl w1.heap.size A n c h rfl hh.out ((hsl.out.since FB).fr FO2 (Nat.le_refl _) (fun _ _ _ e => e)) OW2 (by omega) FO2.size ?_
        intro X3 x3 v3 OX3 FX3
        rw [Nat.zero_add] at OX3 ⊢
        rw [List.nil_append] at OX3
        have FY3 : Fr No w1 v3 := FO2.trans' FX3 (fun i hi e => by have := ((OW2).lt _ e).1; omega)
        refine hK.out _ _ (HS.out _ (FB0'.trans' FY3 (fun _ _ e => e))) (fun hHeld => ?_)
        clear hK
        try simp only [Act.put, List.setIfInBounds_toArray]
        refine wpAnyH_ready (rs := [5]) (by kernel_rfl) (by simp) ?_
        refine AllReadyH.cons rfl (fun K' hK => ?_) AllReadyH.nil
        refine wp_nds15 _ _ rfl w1.heap.size X3 n x3 h rfl _ (some ⟨(w1.heap.size + 1), 0, none⟩) 1 1 [y] rfl rfl (SO2.fr FX3 (by simp) (fun ad e _ h => by injection e with e; subst e; simp [Value.ownBlock] at h)) OX3 (by omega) FY3.size ?_
        intro Z zc wz OZ FX4
        have FZ0 : Fr No w1 wz := FY3.trans' FX4 (fun i hi e => by have := ((OX3).lt _ e).1; omega)
        have FZ : Fr No w wz := FB.trans' FZ0 (fun _ _ e => e)
        have NZ : Nds wz Z (h ++ [y]) := HNZ.out wz Z zc _ FZ OZ
        refine hK.out _ _ (HS.out _ (FB0'.trans' FZ0 (fun _ _ e => e))) (fun hHeld => ?_)
        clear hK
        try simp only [Act.put]
        refine wpAnyH_ready (rs := [6]) (by kernel_rfl) (by simp) ?_
        refine AllReadyH.cons rfl (fun K' hK => ?_) AllReadyH.nil
        go_simp
        go_at_call 8
        refine (HGr.out Z zc wz NZ).mono ?_
        rintro e' v6 ⟨rfl, f6⟩
        have F6 : Fr No w1 v6 := FZ0.trans' f6 (fun _ _ e => e)
        dsimp only
        refine hK.out _ _ (HS.out _ (FB0'.trans' F6 (fun _ _ e => e))) (fun hHeld => ?_)
        clear hK
        try simp only [Act.put, List.setIfInBounds_toArray, List.set_cons_zero, List.set_cons_succ]
        refine wpAnyH_done (by kernel_rfl) ?_ _
        clear hHeld
        go_wp2
        go_meet
        exact ⟨rfl, Lib.hid (FB0.out.trans' F6 (fun _ _ e => e))⟩
    · go_simp
      have FO3 : Fr No w1 (w1.drew.alloc (.cells #[.int .i64 sa, .int .i64 ca, .int .i64 ta, .bool ka, .slice Ra na rca, .slice Va ma wca] 27)) := fD.alloc _
      have SO3 : Sl (w1.drew.alloc (.cells #[.int .i64 sa, .int .i64 ca, .int .i64 ta, .bool ka, .slice Ra na rca, .slice Va ma wca] 27)) (w1.heap.size + 1) (some ⟨w1.heap.size, 0, none⟩) ([y].flatMap Ndl.cells) := slLit15 _ _ _ _ _ (by simp) hY.symm
      refine hK.out _ _ (HS.out _ (FB0'.trans' FO3 (fun _ _ e => e))) (fun hHeld => ?_)
      clear hK
      try simp only [Act.put, List.setIfInBounds_toArray, List.set_cons_zero, List.set_cons_succ]
      refine wpAnyH_ready (rs := [0]) (by kernel_rfl) (by simp) ?_
      refine AllReadyH.cons rfl (fun K' hK => ?_) AllReadyH.nil
      go_simp
      have FE2 : Fr No w1 ((w1.drew.alloc (.cells #[.int .i64 sa, .int .i64 ca, .int .i64 ta, .bool ka, .slice Ra na rca, .slice Va ma wca] 27)).alloc (.cells #[] 27)) := FO3.alloc _
      have OE2 : ((w1.drew.alloc (.cells #[.int .i64 sa, .int .i64 ca, .int .i64 ta, .bool ka, .slice Ra na rca, .slice Va ma wca] 27)).alloc (.cells #[] 27)).ownsRow w1.heap.size 27 6 (.slice (some ⟨(w1.heap.size + 1), 0, none⟩) 0 0) 0 [] := by
        have h : ((w1.drew.alloc (.cells #[.int .i64 sa, .int .i64 ca, .int .i64 ta, .bool ka, .slice Ra na rca, .slice Va ma wca] 27)).alloc (.cells #[] 27)).ownsRow w1.heap.size 27 6 (.slice (some ⟨(w1.drew.alloc (.cells #[.int .i64 sa, .int .i64 ca, .int .i64 ta, .bool ka, .slice Ra na rca, .slice Va ma wca] 27)).heap.size, 0, none⟩) 0 0) 0 [] := own_base (World.ownsRow_lit (w1.drew.alloc (.cells #[.int .i64 sa, .int .i64 ca, .int .i64 ta, .bool ka, .slice Ra na rca, .slice Va ma wca] 27)) #[] 0 (Nat.le_refl _) (Nat.zero_le _) rfl) FO3.size
        rw [show (w1.drew.alloc (.cells #[.int .i64 sa, .int .i64 ca, .int .i64 ta, .bool ka, .slice Ra na rca, .slice Va ma wca] 27)).heap.size = (w1.heap.size + 1) by simp] at h
        exact h
      refine hK.out _ _ (HS.out _ (FB0'.trans' FE2 (fun _ _ e => e))) (fun hHeld => ?_)
      clear hK
      try simp only [Act.put, List.setIfInBounds_toArray, List.set_cons_zero, List.set_cons_succ]
      refine wpAnyH_ready (rs := [2]) (by kernel_rfl) (by simp) ?_
      refine AllReadyH.cons rfl (fun K' hK => ?_) AllReadyH.nil
      refine wp_nds15 _ _ rfl w1.heap.size (some ⟨(w1.heap.size + 1), 0, none⟩) 0 0 [] rfl w1.heap.size A n c h rfl hh.out ((hsl.out.since FB).fr FE2 (Nat.le_refl _) (fun _ _ _ e => e)) OE2 (by omega) FE2.size ?_
      intro X5 x5 v5 OX5 FX5
      rw [Nat.zero_add] at OX5 ⊢
      rw [List.nil_append] at OX5
      have FY5 : Fr No w1 v5 := FE2.trans' FX5 (fun i hi e => by have := ((OE2).lt _ e).1; omega)
      refine hK.out _ _ (HS.out _ (FB0'.trans' FY5 (fun _ _ e => e))) (fun hHeld => ?_)
      clear hK
      try simp only [Act.put, List.setIfInBounds_toArray]
      refine wpAnyH_ready (rs := [5]) (by kernel_rfl) (by simp) ?_
      refine AllReadyH.cons rfl (fun K' hK => ?_) AllReadyH.nil
      refine wp_nds15 _ _ rfl w1.heap.size X5 n x5 h rfl _ (some ⟨w1.heap.size, 0, none⟩) 1 1 [y] rfl rfl ((SO3.fr ((Fr.refl No _).alloc _) (by simp) (fun _ _ _ e => e)).fr FX5 (by simp) (fun ad e _ h => by injection e with e; subst e; simp [Value.ownBlock] at h)) OX5 (by omega) FY5.size ?_
      intro Z zc wz OZ FX6
      have FZ0 : Fr No w1 wz := FY5.trans' FX6 (fun i hi e => by have := ((OX5).lt _ e).1; omega)
      have FZ : Fr No w wz := FB.trans' FZ0 (fun _ _ e => e)
      have NZ : Nds wz Z (h ++ [y]) := HNZ.out wz Z zc _ FZ OZ
      refine hK.out _ _ (HS.out _ (FB0'.trans' FZ0 (fun _ _ e => e))) (fun hHeld => ?_)
      clear hK
      try simp only [Act.put]
      refine wpAnyH_ready (rs := [6]) (by kernel_rfl) (by simp) ?_
      refine AllReadyH.cons rfl (fun K' hK => ?_) AllReadyH.nil
      go_simp
      go_at_call 8
      refine (HGr.out Z zc wz NZ).mono ?_
      rintro e' v6 ⟨rfl, f6⟩
      have F6 : Fr No w1 v6 := FZ0.trans' f6 (fun _ _ e => e)
      dsimp only
      refine hK.out _ _ (HS.out _ (FB0'.trans' F6 (fun _ _ e => e))) (fun hHeld => ?_)
      clear hK
      try simp only [Act.put, List.setIfInBounds_toArray, List.set_cons_zero, List.set_cons_succ]
      refine wpAnyH_done (by kernel_rfl) ?_ _
      clear hHeld
      go_wp2
      go_meet
      exact ⟨rfl, Lib.hid (FB0.out.trans' F6 (fun _ _ e => e))⟩
  case rest =>
    obtain ⟨rfl, F2⟩ := hcut
    clear FB0 F1
    cases gr
    case true =>
      go_wp2
      go_ret
      exact ⟨rfl, HF0.out.trans' F2.out (fun _ _ e => e)⟩
    case false =>
      have Of2 := Lib.hid (HOf.out rfl)
      have Ad2 := Lib.hid (HAd.out rfl)
      have R1 := Lib.hid (HR1.out rfl)
      have R2 := Lib.hid (HR2.out rfl)
      have S1 := Lib.hid (HS1.out rfl)
      have S2 := Lib.hid (HS2.out rfl)
      have h40 := (HIn.out rfl).1
      clear HOf HAd HR1 HR2 HS1 HS2 HIn HGr
      go_wp2_with fail
      refine (Of2.out _ (HF0.out.trans' F2.out (fun _ _ e => e))).mono ?_
      rintro e w3 ⟨L, ls, lc, rfl, hI, hO, f3⟩
      have hls := HLn.out ls hO
      have F3 := Lib.hid (F2.out.trans' f3 (fun _ _ e => e))
      obtain ⟨x0, x1, x2, x3, x4, x5⟩ := HS.out w3 F3.out
      have C4 := Lib.hid (Ad2.out ls L lc w3 (HF0.out.trans' F3.out (fun _ _ e => e)) hI hO)
      have HI3 := Lib.hid hI
      have HO3 := Lib.hid hO
      rw [hls]
      clear Of2 Ad2 HLn hI hO f3
      go_wp2_with fail
      refine (C4.out).mono ?_
      rintro e w4 ⟨L', lc', ls', rfl, hls', hOw, hO', f4⟩
      have FB0 := Lib.hid (F3.out.trans' f4 (fun _ _ e => e))
      have HI4 := Lib.hid hOw
      have HO4 := Lib.hid hO'
      have F34 := Lib.hid f4
      clear C4 hOw hO' f4 x0 x1 x2 x3 x4 x5
      go_wp2_with fail
      have FB0' := FB0.out
      have FB : Fr No w w4 := HF0.out.trans' FB0' (fun _ _ e => e)
      refine wp_region_held_drew (S := fun V => V.cell? ⟨w.heap.size, 0, none⟩ = some (.int .i64 sa) ∧ V.cell? ⟨w.heap.size, 1, none⟩ = some (.int .i64 ca) ∧ V.cell? ⟨w.heap.size, 2, none⟩ = some (.int .i64 ta) ∧ V.cell? ⟨w.heap.size, 3, none⟩ = some (.bool ka) ∧ V.cell? ⟨w.heap.size, 4, none⟩ = some (.slice Ra na rca) ∧ V.cell? ⟨w.heap.size, 5, none⟩ = some (.slice Va ma wca)) (by kernel_rfl) (HS.out _ (FB0'.trans' ((Fr.refl No w4).drew) (fun _ _ e => e))) (fun hHeld => ?_)
      have fD : Fr No w4 w4.drew := (Fr.refl No w4).drew
      refine any_take 22 (.slice L' (n + 1) lc') (i := 0) rfl rfl (by kernel_rfl) (by kernel_rfl) (by kernel_rfl) (fun _ _ _ h => h) (by rfl) (by intro w hSw; (try dsimp only at hSw); go_simp; try with_reducible rfl) (by assumption) ?_
      simp only [Act.put, List.setIfInBounds_toArray, List.set_cons_zero, List.set_cons_succ]
      refine any_take 24 (.slice A n c) (i := 2) rfl rfl (by kernel_rfl) (by kernel_rfl) (by kernel_rfl) (fun _ _ _ h => h) (by rfl) (by intro w hSw; (try dsimp only at hSw); go_simp; try with_reducible rfl) (by assumption) ?_
      simp only [Act.put, List.setIfInBounds_toArray, List.set_cons_zero, List.set_cons_succ]
      refine any_take 26 (.agg #[.int .i64 sa, .int .i64 ca, .int .i64 ta, .bool ka, .slice Ra na rca, .slice Va ma wca]) (i := 4) rfl rfl (by kernel_rfl) (by kernel_rfl) (by kernel_rfl) (fun _ _ _ h => h) (by rfl) (by intro w hSw; (try dsimp only at hSw); go_simp; try with_reducible rfl) (by assumption) ?_
      simp only [Act.put, List.setIfInBounds_toArray, List.set_cons_zero, List.set_cons_succ]
      refine wpAnyH_ready (rs := [1, 5]) (by kernel_rfl) (by simp) ?_
      refine AllReadyH.cons rfl (fun K' hK => ?_) (AllReadyH.cons rfl (fun K' hK => ?_) AllReadyH.nil)
      · go_simp
        have FE1 : Fr No w4 (w4.drew.alloc (.cells #[] 27)) := fD.alloc _
        have OE1 : (w4.drew.alloc (.cells #[] 27)).ownsRow w4.heap.size 27 6 (.slice (some ⟨w4.heap.size, 0, none⟩) 0 0) 0 [] := by
          have h : (w4.drew.alloc (.cells #[] 27)).ownsRow w4.heap.size 27 6 (.slice (some ⟨w4.drew.heap.size, 0, none⟩) 0 0) 0 [] := own_base (World.ownsRow_lit w4.drew #[] 0 (Nat.le_refl _) (Nat.zero_le _) rfl) fD.size
          rw [show w4.drew.heap.size = w4.heap.size by simp] at h
          exact h
        refine hK.out _ _ (HS.out _ (FB0'.trans' FE1 (fun _ _ e => e))) (fun hHeld => ?_)
        clear hK
        try simp only [Act.put, List.setIfInBounds_toArray, List.set_cons_zero, List.set_cons_succ]
        refine wpAnyH_ready (rs := [3, 5]) (by kernel_rfl) (by simp) ?_
        refine AllReadyH.cons rfl (fun K' hK => ?_) (AllReadyH.cons rfl (fun K' hK => ?_) AllReadyH.nil)
        · refine wp_nds15 _ _ rfl w4.heap.size (some ⟨w4.heap.size, 0, none⟩) 0 0 [] rfl w4.heap.size A n c h rfl hh.out ((hsl.out.since FB).fr FE1 (Nat.le_refl _) (fun _ _ _ e => e)) OE1 (by omega) FE1.size ?_
          intro X1 x1 v1 OX1 FX1
          rw [Nat.zero_add] at OX1 ⊢
          rw [List.nil_append] at OX1
          have FY1 : Fr No w4 v1 := FE1.trans' FX1 (fun i hi e => by have := ((OE1).lt _ e).1; omega)
          refine hK.out _ _ (HS.out _ (FB0'.trans' FY1 (fun _ _ e => e))) (fun hHeld => ?_)
          clear hK
          try simp only [Act.put, List.setIfInBounds_toArray]
          refine wpAnyH_ready (rs := [5]) (by kernel_rfl) (by simp) ?_
          refine AllReadyH.cons rfl (fun K' hK => ?_) AllReadyH.nil
          have OW1 : (v1.alloc (.cells #[.int .i64 sa, .int .i64 ca, .int .i64 ta, .bool ka, .slice Ra na rca, .slice Va ma wca] 27)).ownsRow w4.heap.size 27 6 (.slice X1 n x1) n (h.flatMap Ndl.cells) := OX1.alloc _
          go_simp
          have FO1 : Fr No w4 (v1.alloc (.cells #[.int .i64 sa, .int .i64 ca, .int .i64 ta, .bool ka, .slice Ra na rca, .slice Va ma wca] 27)) := FY1.alloc _
          have SO1 : Sl (v1.alloc (.cells #[.int .i64 sa, .int .i64 ca, .int .i64 ta, .bool ka, .slice Ra na rca, .slice Va ma wca] 27)) (v1.heap.size + 1) (some ⟨v1.heap.size, 0, none⟩) ([y].flatMap Ndl.cells) := slLit15 _ _ _ _ _ (by simp) hY.symm
          refine hK.out _ _ (HS.out _ (FB0'.trans' FO1 (fun _ _ e => e))) (fun hHeld => ?_)
          clear hK
          try simp only [Act.put, List.setIfInBounds_toArray, List.set_cons_zero, List.set_cons_succ]
          refine wpAnyH_ready (rs := [6]) (by kernel_rfl) (by simp) ?_
          refine AllReadyH.cons rfl (fun K' hK => ?_) AllReadyH.nil
          refine wp_nds15 _ _ rfl w4.heap.size X1 n x1 h rfl _ (some ⟨v1.heap.size, 0, none⟩) 1 1 [y] rfl rfl SO1 OW1 (by omega) FO1.size ?_
          intro Z zc wz OZ FX2
          have FZ0 : Fr No w4 wz := FO1.trans' FX2 (fun i hi e => by have := ((OW1).lt _ e).1; omega)
          have FZ : Fr No w wz := FB.trans' FZ0 (fun _ _ e => e)
          have NZ : Nds wz Z (h ++ [y]) := HNZ.out wz Z zc _ FZ OZ
          refine hK.out _ _ (HS.out _ (FB0'.trans' FZ0 (fun _ _ e => e))) (fun hHeld => ?_)
          clear hK
          try simp only [Act.put, List.setIfInBounds_toArray]
          refine wpAnyH_ready (rs := [7]) (by kernel_rfl) (by simp) ?_
          refine AllReadyH.cons rfl (fun K' hK => ?_) AllReadyH.nil
          go_simp
          go_at_call 12
          refine (R1.out Z zc wz NZ).mono ?_
          rintro e' v7 ⟨G, g, rfl, hM, f7⟩
          have F7 : Fr No w4 v7 := FZ0.trans' f7 (fun _ _ e => e)
          dsimp only
          refine hK.out _ _ (HS.out _ (FB0'.trans' F7 (fun _ _ e => e))) (fun hHeld => ?_)
          clear hK
          try simp only [Act.put, List.setIfInBounds_toArray, List.set_cons_zero, List.set_cons_succ]
          refine wpAnyH_ready (rs := [8]) (by kernel_rfl) (by simp) ?_
          refine AllReadyH.cons rfl (fun K' hK => ?_) AllReadyH.nil
          go_simp
          go_at_call 11
          refine (S1.out ls' L' lc' _ G g v7 (HI4.out.fr F7).ils HO4.out hls' hM).mono ?_
          rintro e' v8 ⟨rfl, f8⟩
          have F8 : Fr No w4 v8 := F7.trans' f8 (fun _ _ e => e)
          dsimp only
          refine hK.out _ _ (HS.out _ (FB0'.trans' F8 (fun _ _ e => e))) (fun hHeld => ?_)
          clear hK
          try simp only [Act.put, List.setIfInBounds_toArray, List.set_cons_zero, List.set_cons_succ]
          refine any_take 31 (.bool true) (i := 9) rfl rfl (by kernel_rfl) (by kernel_rfl) (by kernel_rfl) (fun _ _ _ h => h) (by rfl) (by intro w hSw; (try dsimp only at hSw); go_simp; try with_reducible rfl) (by assumption) ?_
          simp only [Act.put, List.setIfInBounds_toArray, List.set_cons_zero, List.set_cons_succ]
          refine any_take 32 (.slice L n lc) (i := 10) rfl rfl (by kernel_rfl) (by kernel_rfl) (by kernel_rfl) (fun _ _ _ h => h) (by rfl) (by intro w hSw; (try dsimp only at hSw); go_simp; try with_reducible rfl) (by assumption) ?_
          simp only [Act.put, List.setIfInBounds_toArray, List.set_cons_zero, List.set_cons_succ]
          refine any_take 33 (.slice A n c) (i := 11) rfl rfl (by kernel_rfl) (by kernel_rfl) (by kernel_rfl) (fun _ _ _ h => h) (by rfl) (by intro w hSw; (try dsimp only at hSw); go_simp; try with_reducible rfl) (by assumption) ?_
          simp only [Act.put, List.setIfInBounds_toArray, List.set_cons_zero, List.set_cons_succ]
          refine wpAnyH_ready (rs := [12]) (by kernel_rfl) (by simp) ?_
          refine AllReadyH.cons rfl (fun K' hK => ?_) AllReadyH.nil
          go_simp
          go_at_call 12
          refine (R2.out v8 (FB.trans' F8 (fun _ _ e => e))).mono ?_
          rintro e' v9 ⟨G2, g2, rfl, hM2, f9⟩
          have F9 : Fr No w4 v9 := F8.trans' f9 (fun _ _ e => e)
          dsimp only
          refine hK.out _ _ (HS.out _ (FB0'.trans' F9 (fun _ _ e => e))) (fun hHeld => ?_)
          clear hK
          try simp only [Act.put, List.setIfInBounds_toArray, List.set_cons_zero, List.set_cons_succ]
          refine wpAnyH_ready (rs := [13]) (by kernel_rfl) (by simp) ?_
          refine AllReadyH.cons rfl (fun K' hK => ?_) AllReadyH.nil
          go_simp
          go_at_call 11
          refine (S2.out ls L lc _ G2 g2 v9 (HI3.out.since (F34.out.trans' F9 (fun _ _ e => e))) HO3.out hls hM2).mono ?_
          rintro e' va ⟨rfl, fa⟩
          have Fa : Fr No w4 va := F9.trans' fa (fun _ _ e => e)
          dsimp only
          refine hK.out _ _ (HS.out _ (FB0'.trans' Fa (fun _ _ e => e))) (fun hHeld => ?_)
          clear hK
          try simp only [Act.put, List.setIfInBounds_toArray, List.set_cons_zero, List.set_cons_succ]
          refine any_take 36 (.bool true) (i := 14) rfl rfl (by kernel_rfl) (by kernel_rfl) (by kernel_rfl) (fun _ _ _ h => h) (by rfl) (by intro w hSw; (try dsimp only at hSw); go_simp; try with_reducible rfl) (by assumption) ?_
          simp only [Act.put, List.setIfInBounds_toArray, List.set_cons_zero, List.set_cons_succ]
          refine any_take 4 (.bool true) (i := 15) rfl rfl (by kernel_rfl) (by kernel_rfl) (by kernel_rfl) (fun _ _ _ h => h) (by rfl) (by intro w hSw; (try dsimp only at hSw); go_simp; try with_reducible rfl) (by assumption) ?_
          simp only [Act.put, List.setIfInBounds_toArray, List.set_cons_zero, List.set_cons_succ]
          refine wpAnyH_done (by kernel_rfl) ?_ _
          clear hHeld
          go_wp2
          go_ret
          exact ⟨rfl, FB.trans' Fa (fun _ _ e => e)⟩
        · go_simp
          have FO2 : Fr No w4 ((w4.drew.alloc (.cells #[] 27)).alloc (.cells #[.int .i64 sa, .int .i64 ca, .int .i64 ta, .bool ka, .slice Ra na rca, .slice Va ma wca] 27)) := FE1.alloc _
          have SO2 : Sl ((w4.drew.alloc (.cells #[] 27)).alloc (.cells #[.int .i64 sa, .int .i64 ca, .int .i64 ta, .bool ka, .slice Ra na rca, .slice Va ma wca] 27)) ((w4.heap.size + 1) + 1) (some ⟨(w4.heap.size + 1), 0, none⟩) ([y].flatMap Ndl.cells) := slLit15 _ _ _ _ _ (by simp) hY.symm
          refine hK.out _ _ (HS.out _ (FB0'.trans' FO2 (fun _ _ e => e))) (fun hHeld => ?_)
          clear hK
          try simp only [Act.put, List.setIfInBounds_toArray, List.set_cons_zero, List.set_cons_succ]
          refine wpAnyH_ready (rs := [3]) (by kernel_rfl) (by simp) ?_
          refine AllReadyH.cons rfl (fun K' hK => ?_) AllReadyH.nil
          have OW2 : ((w4.drew.alloc (.cells #[] 27)).alloc (.cells #[.int .i64 sa, .int .i64 ca, .int .i64 ta, .bool ka, .slice Ra na rca, .slice Va ma wca] 27)).ownsRow w4.heap.size 27 6 (.slice (some ⟨w4.heap.size, 0, none⟩) 0 0) 0 [] := OE1.alloc _
          refine wp_nds15 _ _ rfl w4.heap.size (some ⟨w4.heap.size, 0, none⟩) 0 0 [] rfl w4.heap.size A n c h rfl hh.out ((hsl.out.since FB).fr FO2 (Nat.le_refl _) (fun _ _ _ e => e)) OW2 (by omega) FO2.size ?_
          intro X3 x3 v3 OX3 FX3
          rw [Nat.zero_add] at OX3 ⊢
          rw [List.nil_append] at OX3
          have FY3 : Fr No w4 v3 := FO2.trans' FX3 (fun i hi e => by have := ((OW2).lt _ e).1; omega)
          refine hK.out _ _ (HS.out _ (FB0'.trans' FY3 (fun _ _ e => e))) (fun hHeld => ?_)
          clear hK
          try simp only [Act.put, List.setIfInBounds_toArray]
          refine wpAnyH_ready (rs := [6]) (by kernel_rfl) (by simp) ?_
          refine AllReadyH.cons rfl (fun K' hK => ?_) AllReadyH.nil
          refine wp_nds15 _ _ rfl w4.heap.size X3 n x3 h rfl _ (some ⟨(w4.heap.size + 1), 0, none⟩) 1 1 [y] rfl rfl (SO2.fr FX3 (by simp) (fun ad e _ h => by injection e with e; subst e; simp [Value.ownBlock] at h)) OX3 (by omega) FY3.size ?_
          intro Z zc wz OZ FX4
          have FZ0 : Fr No w4 wz := FY3.trans' FX4 (fun i hi e => by have := ((OX3).lt _ e).1; omega)
          have FZ : Fr No w wz := FB.trans' FZ0 (fun _ _ e => e)
          have NZ : Nds wz Z (h ++ [y]) := HNZ.out wz Z zc _ FZ OZ
          refine hK.out _ _ (HS.out _ (FB0'.trans' FZ0 (fun _ _ e => e))) (fun hHeld => ?_)
          clear hK
          try simp only [Act.put]
          refine wpAnyH_ready (rs := [7]) (by kernel_rfl) (by simp) ?_
          refine AllReadyH.cons rfl (fun K' hK => ?_) AllReadyH.nil
          go_simp
          go_at_call 12
          refine (R1.out Z zc wz NZ).mono ?_
          rintro e' v7 ⟨G, g, rfl, hM, f7⟩
          have F7 : Fr No w4 v7 := FZ0.trans' f7 (fun _ _ e => e)
          dsimp only
          refine hK.out _ _ (HS.out _ (FB0'.trans' F7 (fun _ _ e => e))) (fun hHeld => ?_)
          clear hK
          try simp only [Act.put, List.setIfInBounds_toArray, List.set_cons_zero, List.set_cons_succ]
          refine wpAnyH_ready (rs := [8]) (by kernel_rfl) (by simp) ?_
          refine AllReadyH.cons rfl (fun K' hK => ?_) AllReadyH.nil
          go_simp
          go_at_call 11
          refine (S1.out ls' L' lc' _ G g v7 (HI4.out.fr F7).ils HO4.out hls' hM).mono ?_
          rintro e' v8 ⟨rfl, f8⟩
          have F8 : Fr No w4 v8 := F7.trans' f8 (fun _ _ e => e)
          dsimp only
          refine hK.out _ _ (HS.out _ (FB0'.trans' F8 (fun _ _ e => e))) (fun hHeld => ?_)
          clear hK
          try simp only [Act.put, List.setIfInBounds_toArray, List.set_cons_zero, List.set_cons_succ]
          refine any_take 31 (.bool true) (i := 9) rfl rfl (by kernel_rfl) (by kernel_rfl) (by kernel_rfl) (fun _ _ _ h => h) (by rfl) (by intro w hSw; (try dsimp only at hSw); go_simp; try with_reducible rfl) (by assumption) ?_
          simp only [Act.put, List.setIfInBounds_toArray, List.set_cons_zero, List.set_cons_succ]
          refine any_take 32 (.slice L n lc) (i := 10) rfl rfl (by kernel_rfl) (by kernel_rfl) (by kernel_rfl) (fun _ _ _ h => h) (by rfl) (by intro w hSw; (try dsimp only at hSw); go_simp; try with_reducible rfl) (by assumption) ?_
          simp only [Act.put, List.setIfInBounds_toArray, List.set_cons_zero, List.set_cons_succ]
          refine any_take 33 (.slice A n c) (i := 11) rfl rfl (by kernel_rfl) (by kernel_rfl) (by kernel_rfl) (fun _ _ _ h => h) (by rfl) (by intro w hSw; (try dsimp only at hSw); go_simp; try with_reducible rfl) (by assumption) ?_
          simp only [Act.put, List.setIfInBounds_toArray, List.set_cons_zero, List.set_cons_succ]
          refine wpAnyH_ready (rs := [12]) (by kernel_rfl) (by simp) ?_
          refine AllReadyH.cons rfl (fun K' hK => ?_) AllReadyH.nil
          go_simp
          go_at_call 12
          refine (R2.out v8 (FB.trans' F8 (fun _ _ e => e))).mono ?_
          rintro e' v9 ⟨G2, g2, rfl, hM2, f9⟩
          have F9 : Fr No w4 v9 := F8.trans' f9 (fun _ _ e => e)
          dsimp only
          refine hK.out _ _ (HS.out _ (FB0'.trans' F9 (fun _ _ e => e))) (fun hHeld => ?_)
          clear hK
          try simp only [Act.put, List.setIfInBounds_toArray, List.set_cons_zero, List.set_cons_succ]
          refine wpAnyH_ready (rs := [13]) (by kernel_rfl) (by simp) ?_
          refine AllReadyH.cons rfl (fun K' hK => ?_) AllReadyH.nil
          go_simp
          go_at_call 11
          refine (S2.out ls L lc _ G2 g2 v9 (HI3.out.since (F34.out.trans' F9 (fun _ _ e => e))) HO3.out hls hM2).mono ?_
          rintro e' va ⟨rfl, fa⟩
          have Fa : Fr No w4 va := F9.trans' fa (fun _ _ e => e)
          dsimp only
          refine hK.out _ _ (HS.out _ (FB0'.trans' Fa (fun _ _ e => e))) (fun hHeld => ?_)
          clear hK
          try simp only [Act.put, List.setIfInBounds_toArray, List.set_cons_zero, List.set_cons_succ]
          refine any_take 36 (.bool true) (i := 14) rfl rfl (by kernel_rfl) (by kernel_rfl) (by kernel_rfl) (fun _ _ _ h => h) (by rfl) (by intro w hSw; (try dsimp only at hSw); go_simp; try with_reducible rfl) (by assumption) ?_
          simp only [Act.put, List.setIfInBounds_toArray, List.set_cons_zero, List.set_cons_succ]
          refine any_take 4 (.bool true) (i := 15) rfl rfl (by kernel_rfl) (by kernel_rfl) (by kernel_rfl) (fun _ _ _ h => h) (by rfl) (by intro w hSw; (try dsimp only at hSw); go_simp; try with_reducible rfl) (by assumption) ?_
          simp only [Act.put, List.setIfInBounds_toArray, List.set_cons_zero, List.set_cons_succ]
          refine wpAnyH_done (by kernel_rfl) ?_ _
          clear hHeld
          go_wp2
          go_ret
          exact ⟨rfl, FB.trans' Fa (fun _ _ e => e)⟩
      · go_simp
        have FO3 : Fr No w4 (w4.drew.alloc (.cells #[.int .i64 sa, .int .i64 ca, .int .i64 ta, .bool ka, .slice Ra na rca, .slice Va ma wca] 27)) := fD.alloc _
        have SO3 : Sl (w4.drew.alloc (.cells #[.int .i64 sa, .int .i64 ca, .int .i64 ta, .bool ka, .slice Ra na rca, .slice Va ma wca] 27)) (w4.heap.size + 1) (some ⟨w4.heap.size, 0, none⟩) ([y].flatMap Ndl.cells) := slLit15 _ _ _ _ _ (by simp) hY.symm
        refine hK.out _ _ (HS.out _ (FB0'.trans' FO3 (fun _ _ e => e))) (fun hHeld => ?_)
        clear hK
        try simp only [Act.put, List.setIfInBounds_toArray, List.set_cons_zero, List.set_cons_succ]
        refine wpAnyH_ready (rs := [1]) (by kernel_rfl) (by simp) ?_
        refine AllReadyH.cons rfl (fun K' hK => ?_) AllReadyH.nil
        go_simp
        have FE2 : Fr No w4 ((w4.drew.alloc (.cells #[.int .i64 sa, .int .i64 ca, .int .i64 ta, .bool ka, .slice Ra na rca, .slice Va ma wca] 27)).alloc (.cells #[] 27)) := FO3.alloc _
        have OE2 : ((w4.drew.alloc (.cells #[.int .i64 sa, .int .i64 ca, .int .i64 ta, .bool ka, .slice Ra na rca, .slice Va ma wca] 27)).alloc (.cells #[] 27)).ownsRow w4.heap.size 27 6 (.slice (some ⟨(w4.heap.size + 1), 0, none⟩) 0 0) 0 [] := by
          have h : ((w4.drew.alloc (.cells #[.int .i64 sa, .int .i64 ca, .int .i64 ta, .bool ka, .slice Ra na rca, .slice Va ma wca] 27)).alloc (.cells #[] 27)).ownsRow w4.heap.size 27 6 (.slice (some ⟨(w4.drew.alloc (.cells #[.int .i64 sa, .int .i64 ca, .int .i64 ta, .bool ka, .slice Ra na rca, .slice Va ma wca] 27)).heap.size, 0, none⟩) 0 0) 0 [] := own_base (World.ownsRow_lit (w4.drew.alloc (.cells #[.int .i64 sa, .int .i64 ca, .int .i64 ta, .bool ka, .slice Ra na rca, .slice Va ma wca] 27)) #[] 0 (Nat.le_refl _) (Nat.zero_le _) rfl) FO3.size
          rw [show (w4.drew.alloc (.cells #[.int .i64 sa, .int .i64 ca, .int .i64 ta, .bool ka, .slice Ra na rca, .slice Va ma wca] 27)).heap.size = (w4.heap.size + 1) by simp] at h
          exact h
        refine hK.out _ _ (HS.out _ (FB0'.trans' FE2 (fun _ _ e => e))) (fun hHeld => ?_)
        clear hK
        try simp only [Act.put, List.setIfInBounds_toArray, List.set_cons_zero, List.set_cons_succ]
        refine wpAnyH_ready (rs := [3]) (by kernel_rfl) (by simp) ?_
        refine AllReadyH.cons rfl (fun K' hK => ?_) AllReadyH.nil
        refine wp_nds15 _ _ rfl w4.heap.size (some ⟨(w4.heap.size + 1), 0, none⟩) 0 0 [] rfl w4.heap.size A n c h rfl hh.out ((hsl.out.since FB).fr FE2 (Nat.le_refl _) (fun _ _ _ e => e)) OE2 (by omega) FE2.size ?_
        intro X5 x5 v5 OX5 FX5
        rw [Nat.zero_add] at OX5 ⊢
        rw [List.nil_append] at OX5
        have FY5 : Fr No w4 v5 := FE2.trans' FX5 (fun i hi e => by have := ((OE2).lt _ e).1; omega)
        refine hK.out _ _ (HS.out _ (FB0'.trans' FY5 (fun _ _ e => e))) (fun hHeld => ?_)
        clear hK
        try simp only [Act.put, List.setIfInBounds_toArray]
        refine wpAnyH_ready (rs := [6]) (by kernel_rfl) (by simp) ?_
        refine AllReadyH.cons rfl (fun K' hK => ?_) AllReadyH.nil
        refine wp_nds15 _ _ rfl w4.heap.size X5 n x5 h rfl _ (some ⟨w4.heap.size, 0, none⟩) 1 1 [y] rfl rfl ((SO3.fr ((Fr.refl No _).alloc _) (by simp) (fun _ _ _ e => e)).fr FX5 (by simp) (fun ad e _ h => by injection e with e; subst e; simp [Value.ownBlock] at h)) OX5 (by omega) FY5.size ?_
        intro Z zc wz OZ FX6
        have FZ0 : Fr No w4 wz := FY5.trans' FX6 (fun i hi e => by have := ((OX5).lt _ e).1; omega)
        have FZ : Fr No w wz := FB.trans' FZ0 (fun _ _ e => e)
        have NZ : Nds wz Z (h ++ [y]) := HNZ.out wz Z zc _ FZ OZ
        refine hK.out _ _ (HS.out _ (FB0'.trans' FZ0 (fun _ _ e => e))) (fun hHeld => ?_)
        clear hK
        try simp only [Act.put]
        refine wpAnyH_ready (rs := [7]) (by kernel_rfl) (by simp) ?_
        refine AllReadyH.cons rfl (fun K' hK => ?_) AllReadyH.nil
        go_simp
        go_at_call 12
        refine (R1.out Z zc wz NZ).mono ?_
        rintro e' v7 ⟨G, g, rfl, hM, f7⟩
        have F7 : Fr No w4 v7 := FZ0.trans' f7 (fun _ _ e => e)
        dsimp only
        refine hK.out _ _ (HS.out _ (FB0'.trans' F7 (fun _ _ e => e))) (fun hHeld => ?_)
        clear hK
        try simp only [Act.put, List.setIfInBounds_toArray, List.set_cons_zero, List.set_cons_succ]
        refine wpAnyH_ready (rs := [8]) (by kernel_rfl) (by simp) ?_
        refine AllReadyH.cons rfl (fun K' hK => ?_) AllReadyH.nil
        go_simp
        go_at_call 11
        refine (S1.out ls' L' lc' _ G g v7 (HI4.out.fr F7).ils HO4.out hls' hM).mono ?_
        rintro e' v8 ⟨rfl, f8⟩
        have F8 : Fr No w4 v8 := F7.trans' f8 (fun _ _ e => e)
        dsimp only
        refine hK.out _ _ (HS.out _ (FB0'.trans' F8 (fun _ _ e => e))) (fun hHeld => ?_)
        clear hK
        try simp only [Act.put, List.setIfInBounds_toArray, List.set_cons_zero, List.set_cons_succ]
        refine any_take 31 (.bool true) (i := 9) rfl rfl (by kernel_rfl) (by kernel_rfl) (by kernel_rfl) (fun _ _ _ h => h) (by rfl) (by intro w hSw; (try dsimp only at hSw); go_simp; try with_reducible rfl) (by assumption) ?_
        simp only [Act.put, List.setIfInBounds_toArray, List.set_cons_zero, List.set_cons_succ]
        refine any_take 32 (.slice L n lc) (i := 10) rfl rfl (by kernel_rfl) (by kernel_rfl) (by kernel_rfl) (fun _ _ _ h => h) (by rfl) (by intro w hSw; (try dsimp only at hSw); go_simp; try with_reducible rfl) (by assumption) ?_
        simp only [Act.put, List.setIfInBounds_toArray, List.set_cons_zero, List.set_cons_succ]
        refine any_take 33 (.slice A n c) (i := 11) rfl rfl (by kernel_rfl) (by kernel_rfl) (by kernel_rfl) (fun _ _ _ h => h) (by rfl) (by intro w hSw; (try dsimp only at hSw); go_simp; try with_reducible rfl) (by assumption) ?_
        simp only [Act.put, List.setIfInBounds_toArray, List.set_cons_zero, List.set_cons_succ]
        refine wpAnyH_ready (rs := [12]) (by kernel_rfl) (by simp) ?_
        refine AllReadyH.cons rfl (fun K' hK => ?_) AllReadyH.nil
        go_simp
        go_at_call 12
        refine (R2.out v8 (FB.trans' F8 (fun _ _ e => e))).mono ?_
        rintro e' v9 ⟨G2, g2, rfl, hM2, f9⟩
        have F9 : Fr No w4 v9 := F8.trans' f9 (fun _ _ e => e)
        dsimp only
        refine hK.out _ _ (HS.out _ (FB0'.trans' F9 (fun _ _ e => e))) (fun hHeld => ?_)
        clear hK
        try simp only [Act.put, List.setIfInBounds_toArray, List.set_cons_zero, List.set_cons_succ]
        refine wpAnyH_ready (rs := [13]) (by kernel_rfl) (by simp) ?_
        refine AllReadyH.cons rfl (fun K' hK => ?_) AllReadyH.nil
        go_simp
        go_at_call 11
        refine (S2.out ls L lc _ G2 g2 v9 (HI3.out.since (F34.out.trans' F9 (fun _ _ e => e))) HO3.out hls hM2).mono ?_
        rintro e' va ⟨rfl, fa⟩
        have Fa : Fr No w4 va := F9.trans' fa (fun _ _ e => e)
        dsimp only
        refine hK.out _ _ (HS.out _ (FB0'.trans' Fa (fun _ _ e => e))) (fun hHeld => ?_)
        clear hK
        try simp only [Act.put, List.setIfInBounds_toArray, List.set_cons_zero, List.set_cons_succ]
        refine any_take 36 (.bool true) (i := 14) rfl rfl (by kernel_rfl) (by kernel_rfl) (by kernel_rfl) (fun _ _ _ h => h) (by rfl) (by intro w hSw; (try dsimp only at hSw); go_simp; try with_reducible rfl) (by assumption) ?_
        simp only [Act.put, List.setIfInBounds_toArray, List.set_cons_zero, List.set_cons_succ]
        refine any_take 4 (.bool true) (i := 15) rfl rfl (by kernel_rfl) (by kernel_rfl) (by kernel_rfl) (fun _ _ _ h => h) (by rfl) (by intro w hSw; (try dsimp only at hSw); go_simp; try with_reducible rfl) (by assumption) ?_
        simp only [Act.put, List.setIfInBounds_toArray, List.set_cons_zero, List.set_cons_succ]
        refine wpAnyH_done (by kernel_rfl) ?_ _
        clear hHeld
        go_wp2
        go_ret
        exact ⟨rfl, FB.trans' Fa (fun _ _ e => e)⟩
end Go.Proofs.Ytmabapbdnafpfaa
