/- A node more, appended to a history. -/
import Derived.Test.YtdjhdnejeehgnaaGreatDoc16
import Derived.Deep.CutRange
import Derived.Test.YtdjhdnejeehgnaaGreatAlv16
import Derived.Test.YtdjhdnejeehgnaaGreatHand
import Derived.Test.YtdjhdnejeehgnaaGreatRsg16
namespace Go.Proofs.YtdjhdnejeehgnaaGreat
open Go.RowKit

theorem info_nd16 : (Tryz.prog.info? 39).map (fun i => (i.zero, i.size, i.bytes)) = some (some (.agg #[.int .i64 0, .int .i64 0, .int .i64 0, .bool false, .slice none 0 0, .slice none 0 0]), 6, 80) := by kernel_rfl
theorem slLit16 (w : World) (t : TypeId) (cs : Array Value) (xs : List Value) (H : Nat) (hH : H = w.heap.size) (hl : cs.toList = xs) : Sl (w.alloc (.cells cs t)) (H + 1) (some ⟨H, 0, none⟩) xs := by
 subst hH
 subst hl
 exact Sl.made w t cs
theorem nds_one16 (l : List Ndl) : ∀ u ∈ l.flatMap Ndl.cells, u.oneCell' = true := by
 intro u hu
 obtain ⟨t, _, h⟩ := List.mem_flatMap.1 hu
 simp [Ndl.cells] at h
 rcases h with rfl | rfl | rfl | rfl | rfl | rfl <;> rfl
theorem wp_nds16 {w : World} {o : Oper} {a : Act} {K : Act → World → Prop} {Q : Exit → Act → World → Prop} (s x : Operand) (d : Tmp) (hd : o.dst = some d)
  (ho : o.op = .call { callee := .builtin .append, args := #[s, x], argTypes := #[27, 27] })
  (base : Nat) (A : Option Addr) (n c : Nat) (xs : List Ndl) (hs : a.eval s = .slice A n c) (B : Nat) (A2 : Option Addr) (m c2 : Nat) (ys : List Ndl) (hx : a.eval x = .slice A2 m c2) (hm : ys.length = m) (hr : Sl w B A2 (ys.flatMap Ndl.cells))
  (hown : w.ownsRow base 39 6 (.slice A n c) n (xs.flatMap Ndl.cells)) (hlen : (n + m) * 80 ≤ 140737488355328) (hbase : base ≤ w.heap.size)
  (h : ∀ A' c' w', w'.ownsRow base 39 6 (.slice A' (n + m) c') (n + m) ((xs ++ ys).flatMap Ndl.cells) → Fr (fun k => (Value.slice A n c).ownBlock = some k) w w' → K (a.put (some d) (.slice A' (n + m) c')) w') :
  Oper.wp Tryz.prog o a w K Q := by
 rw [← hd] at h
 obtain ⟨i, hi, hz, hz1, hz2⟩ := info_parts info_nd16
 refine wp_append_src w s x _ ho base 39 i _ 6 80 Tryz.underlying27 hi hz hz1 hz2 rfl (by omega) (.slice A n c) n (xs.flatMap Ndl.cells) hs hown B A2 m c2 (ys.flatMap Ndl.cells) hx (by rw [show (ys.flatMap Ndl.cells).length = ys.length * 6 from flat_len _ 6 Ndl.cells_len ys, hm]) hr (nds_one16 ys) (by unfold maxLen; omega) hlen hbase ?_
 intro v' w' q1 q2 q3
 obtain ⟨A', c', rfl, -, -, -⟩ := own_shape q1
 rw [show xs.flatMap Ndl.cells ++ ys.flatMap Ndl.cells = (xs ++ ys).flatMap Ndl.cells from (List.flatMap_append).symm] at q1
 exact h A' c' w' q1 ((Fr.refl _ w).grown q2 (fun k hk => .inl hk))
theorem ld_nd16 {W : World} {p : Addr} {s c t : Int} {k : Bool} {v1 v2 : Value} (c0 : W.cell? p = some (.int .i64 s)) (c1 : W.cell? ⟨p.block, p.off + 1, none⟩ = some (.int .i64 c)) (c2 : W.cell? ⟨p.block, p.off + 2, none⟩ = some (.int .i64 t)) (c3 : W.cell? ⟨p.block, p.off + 3, none⟩ = some (.bool k)) (c4 : W.cell? ⟨p.block, p.off + 4, none⟩ = some v1) (c5 : W.cell? ⟨p.block, p.off + 5, none⟩ = some v2) :
  LdO W 39 p (.agg #[.int .i64 s, .int .i64 c, .int .i64 t, .bool k, v1, v2]) := by
 unfold LdO
 have hu := Tryz.underlying39
 go_simp
theorem next16 (hX : NextC16) (x : Ctl) (h : List Ndl) (y : Ndl) (A : Option Addr) (n c : Nat) (w : World) (hx : Clss w x.cA x.cls) (hs : Nds w A h) (hy : y.Ok w) (hn : h.length = n) (hnc : n ≤ c) (hg : great16 x.cls (h ++ [y]) = false) : ∀ W, Fr No w W → Calls Tryz.prog 20 #[x.agg, .slice A n c, y.agg] W (Has W (goodH x.p (ndsOf (h ++ [y])))) := fun W hW => by
 obtain ⟨h1, h2, h3⟩ := few_of_great16 hg
 rw [List.length_append, List.length_singleton, hn] at h2
 exact hX x h y A n c W ⟨hx.since hW, hs.since hW, hn, by omega, hnc, h1, ⟨fun a ha => h3.all a (List.mem_append_left _ ha)⟩⟩ (hy.since hW) h3 h2
end Go.Proofs.YtdjhdnejeehgnaaGreat
/- The law: whether a history with a node more is good is the document's. -/
namespace Go.Proofs.YtdjhdnejeehgnaaGreat
open Go.RowKit

set_option maxRecDepth 100000 in
set_option maxHeartbeats 8000000 in
theorem rsgNext16_any (x : Ctl) (h : List Ndl) (y : Ndl) (A : Option Addr) (n c : Nat) (w : World) (hx : Clss w x.cA x.cls) (hs : Nds w A h) (hy : y.Ok w) (hh : h.length = n) (hnb : n * 80 ≤ 140737488351232) (hnc : x.cls.length ≤ 9223372036854775807)
  (hal : ∀ W, Fr No w W → Calls Tryz.prog 8 #[] W (Has W true))
  (hnext : great16 x.cls (h ++ [y]) = false → ∀ W, Fr No w W → Calls Tryz.prog 20 #[x.agg, .slice A n c, y.agg] W (Has W (goodH x.p (ndsOf (h ++ [y]))))) :
  Calls Tryz.prog 5 #[x.agg, .slice A n c, y.agg] w (Has w true) := by
 have Hal := Lib.hid hal
 have HP := Lib.hid hnext
 have HIn := Lib.hid (fun (hg : great16 x.cls (h ++ [y]) = false) => show n ≤ 24 ∧ Nds.Few (h ++ [y]) ∧ Nds.Few h by
  obtain ⟨-, h1, h2⟩ := few_of_great16 hg
  rw [List.length_append, List.length_singleton] at h1
  exact ⟨by omega, h2, ⟨fun x hx => h2.all x (List.mem_append_left _ hx)⟩⟩)
 have HGr := Lib.hid (fun (Z : Option Addr) (zc : Nat) W (hW : Fr No w W) (hN : Nds W Z (h ++ [y])) => great16_any x (h ++ [y]) Z (n + 1) zc W (hx.since hW) hN (by simp [hh]) (by omega) hnc)
 have HD := Lib.hid (fun (hg : great16 x.cls (h ++ [y]) = false) (Z : Option Addr) (zc : Nat) W (hW : Fr No w W) (hN : Nds W Z (h ++ [y])) => goodD16 x (h ++ [y]) Z (n + 1) zc W (hx.since hW) hN (by simp [hh]) (by have := (HIn.out hg).1; omega) (HIn.out hg).2.1)
 clear hal hnext
 generalize great16 x.cls (h ++ [y]) = gr at *
 generalize goodH x.p (ndsOf (h ++ [y])) = q at *
 have HNZ := Lib.hid (fun W (Z : Option Addr) (zc B : Nat) (hW : Fr No w W) (hO : W.ownsRow B 39 6 (.slice Z (n + 1) zc) (n + 1) ((h ++ [y]).flatMap Ndl.cells)) => show Nds W Z (h ++ [y]) from ⟨Sl.ofOwn hO, fun x hx => by
  rcases List.mem_append.1 hx with hx | hx
  ·exact (hs.all x hx).since hW
  ·rw [List.mem_singleton.1 hx]; exact hy.since hW⟩)
 have hsl := Lib.hid hs.sl
 have hY : [y].flatMap Ndl.cells = [.int .i64 y.n.saga, .int .i64 y.n.cls, .int .i64 y.n.step, .bool y.n.back, .slice y.rA y.n.rd.length y.rc, .slice y.wA y.n.wt.length y.wc] := rfl
 have hh := Lib.hid hh
 unfold Ctl.agg Ndl.agg Ndl.arr at *
 obtain ⟨ZC, hZ⟩ : ∃ Z, Z = x.arr := ⟨_, rfl⟩
 rw [← hZ] at HP HGr HD ⊢
 rw [Ctl.arr_eq] at hZ
 clear hs hy hx
 generalize y.n.saga = sa at *
 generalize y.n.cls = ca at *
 generalize y.n.step = ta at *
 generalize y.n.back = ka at *
 generalize y.n.rd.length = na at *
 generalize y.n.wt.length = ma at *
 generalize y.rA = Ra at *
 generalize y.rc = rca at *
 generalize y.wA = Va at *
 generalize y.wc = wca at *
 obtain ⟨W0, hW0⟩ : ∃ W0, W0 = (w.alloc (.cells ZC 26)).alloc (.cells #[.int .i64 sa, .int .i64 ca, .int .i64 ta, .bool ka, .slice Ra na rca, .slice Va ma wca] 39) := ⟨_, rfl⟩
 have f0 : Fr No w W0 := by rw [hW0]; exact ((Fr.refl _ _).alloc _).alloc _
 have bZ : Bk W0 w.heap.size 26 ZC := by rw [hW0]; exact (Bk.made w _ _).alloc _
 have bN : Bk W0 (w.heap.size + 1) 39 #[.int .i64 sa, .int .i64 ca, .int .i64 ta, .bool ka, .slice Ra na rca, .slice Va ma wca] := by rw [hW0]; simpa using Bk.made (w.alloc (.cells ZC 26)) 39 #[.int .i64 sa, .int .i64 ca, .int .i64 ta, .bool ka, .slice Ra na rca, .slice Va ma wca]
 have HLc := Lib.hid (fun V (hV : Fr No W0 V) => show LdO V 26 ⟨w.heap.size, 0, none⟩ (.agg ZC) from ld_cat hZ (bZ.fr hV (fun e => e)))
 have HC := Lib.hid (fun V (hV : Fr No W0 V) => bN.fr hV (fun e => e))
 have HS := Lib.hid (fun V (hV : Fr No W0 V) => show LdO V 39 ⟨w.heap.size + 1, 0, none⟩ (.agg #[.int .i64 sa, .int .i64 ca, .int .i64 ta, .bool ka, .slice Ra na rca, .slice Va ma wca]) from ld_nd16 ((HC.out V hV).cell 0) ((HC.out V hV).cell 1) ((HC.out V hV).cell 2) ((HC.out V hV).cell 3) ((HC.out V hV).cell 4) ((HC.out V hV).cell 5))
 have HSB := Lib.hid (fun V (hV : Fr No W0 V) => show LdO V 26 ⟨w.heap.size, 0, none⟩ (.agg ZC) ∧ LdO V 39 ⟨w.heap.size + 1, 0, none⟩ (.agg #[.int .i64 sa, .int .i64 ca, .int .i64 ta, .bool ka, .slice Ra na rca, .slice Va ma wca]) from ⟨HLc.out V hV, HS.out V hV⟩)
 have hwe := hW0.symm
 have HF0 := Lib.hid f0
 clear bZ bN f0 hW0 hZ
 go_enter Tryz.func5, Tryz.ntmps5
 go_wp2_with fail
 refine (Hal.out _ HF0.out).mono ?_
 rintro e w1 ⟨rfl, f1⟩
 have FB0 := Lib.hid f1
 have F1 := Lib.hid (HF0.out.trans' f1 (fun _ _ e => e))
 clear f1 hwe Hal
 go_wp2_with fail
 go_cut [7] from 10 to 16 (fun s7 wx => ∃ (Z : Option Addr) (zc : Nat), s7 = .slice Z (n + 1) zc ∧ Hid (Nds wx Z (h ++ [y])) ∧ Hid (Fr No W0 wx))
 case first =>
  have FB0' := FB0.out
  have FB : Fr No w w1 := F1.out
  refine wp_region_held_drew (S := fun V => LdO V 39 ⟨w.heap.size + 1, 0, none⟩ (.agg #[.int .i64 sa, .int .i64 ca, .int .i64 ta, .bool ka, .slice Ra na rca, .slice Va ma wca])) (by kernel_rfl) (HS.out _ (FB0'.trans' ((Fr.refl No w1).drew) (fun _ _ e => e))) (fun hHeld => ?_)
  have fD : Fr No w1 w1.drew := (Fr.refl No w1).drew
  refine any_tk 11 (.slice A n c) (i := 1) rfl rfl (by kernel_rfl) (fun _ _ _ h => h) (by rfl) (by intro w hSw; (try dsimp only at hSw); go_simp; try with_reducible rfl) (by assumption) ?_
  simp only [Act.put, szA, szB, szC]
  refine any_tk 13 (.agg #[.int .i64 sa, .int .i64 ca, .int .i64 ta, .bool ka, .slice Ra na rca, .slice Va ma wca]) (i := 3) rfl rfl (by kernel_rfl) (fun _ _ _ h => h) (by rfl) (by intro w hSw; exact exec_ld rfl hSw) (by assumption) ?_
  simp only [Act.put, szA, szB, szC]
  refine wpAnyH_ready (rs := [0, 4]) (by kernel_rfl) (by simp) ?_
  refine AllReadyH.cons rfl (fun K' hK => ?_) (AllReadyH.cons rfl (fun K' hK => ?_) AllReadyH.nil)
  ·go_simp
   have FE1 : Fr No w1 (w1.drew.alloc (.cells #[] 39)) := fD.alloc _
   have OE1 : (w1.drew.alloc (.cells #[] 39)).ownsRow w1.heap.size 39 6 (.slice (some ⟨w1.heap.size, 0, none⟩) 0 0) 0 [] := by
    have h : (w1.drew.alloc (.cells #[] 39)).ownsRow w1.heap.size 39 6 (.slice (some ⟨w1.drew.heap.size, 0, none⟩) 0 0) 0 [] := own_base (World.ownsRow_lit w1.drew #[] 0 (Nat.le_refl _) (Nat.zero_le _) rfl) fD.size
    rw [show w1.drew.heap.size = w1.heap.size by simp] at h
    exact h
   refine hK.out _ _ (HS.out _ (FB0'.trans' FE1 (fun _ _ e => e))) (fun hHeld => ?_)
   clear hK
   try simp only [Act.put, szA, szB, szC]
   refine wpAnyH_ready (rs := [2, 4]) (by kernel_rfl) (by simp) ?_
   refine AllReadyH.cons rfl (fun K' hK => ?_) (AllReadyH.cons rfl (fun K' hK => ?_) AllReadyH.nil)
   ·refine wp_nds16 _ _ _ rfl rfl w1.heap.size (some ⟨w1.heap.size, 0, none⟩) 0 0 [] rfl w1.heap.size A n c h rfl hh.out ((hsl.out.since FB).fr FE1 (Nat.le_refl _) (fun _ _ _ e => e)) OE1 (by omega) FE1.size ?_
    intro X1 x1 v1 OX1 FX1
    rw [Nat.zero_add] at OX1 ⊢
    rw [List.nil_append] at OX1
    have FY1 : Fr No w1 v1 := FE1.trans' FX1 (fun i hi e => by have := ((OE1).lt _ e).1; omega)
    refine hK.out _ _ (HS.out _ (FB0'.trans' FY1 (fun _ _ e => e))) (fun hHeld => ?_)
    clear hK
    try simp only [Act.put, szA, szB, szC]
    refine wpAnyH_ready (rs := [4]) (by kernel_rfl) (by simp) ?_
    refine AllReadyH.cons rfl (fun K' hK => ?_) AllReadyH.nil
    have OW1 : (v1.alloc (.cells #[.int .i64 sa, .int .i64 ca, .int .i64 ta, .bool ka, .slice Ra na rca, .slice Va ma wca] 39)).ownsRow w1.heap.size 39 6 (.slice X1 n x1) n (h.flatMap Ndl.cells) := OX1.alloc _
    go_simp
    have FO1 : Fr No w1 (v1.alloc (.cells #[.int .i64 sa, .int .i64 ca, .int .i64 ta, .bool ka, .slice Ra na rca, .slice Va ma wca] 39)) := FY1.alloc _
    have SO1 : Sl (v1.alloc (.cells #[.int .i64 sa, .int .i64 ca, .int .i64 ta, .bool ka, .slice Ra na rca, .slice Va ma wca] 39)) (v1.heap.size + 1) (some ⟨v1.heap.size, 0, none⟩) ([y].flatMap Ndl.cells) := slLit16 _ _ _ _ _ (by simp) hY.symm
    refine hK.out _ _ (HS.out _ (FB0'.trans' FO1 (fun _ _ e => e))) (fun hHeld => ?_)
    clear hK
    try simp only [Act.put, szA, szB, szC]
    refine wpAnyH_ready (rs := [5]) (by kernel_rfl) (by simp) ?_
    refine AllReadyH.cons rfl (fun K' hK => ?_) AllReadyH.nil
    refine wp_nds16 _ _ _ rfl rfl w1.heap.size X1 n x1 h rfl _ (some ⟨v1.heap.size, 0, none⟩) 1 1 [y] rfl rfl SO1 OW1 (by omega) FO1.size ?_
    intro Z zc wz OZ FX2
    have FZ0 : Fr No w1 wz := FO1.trans' FX2 (fun i hi e => by have := ((OW1).lt _ e).1; omega)
    have FZ : Fr No w wz := FB.trans' FZ0 (fun _ _ e => e)
    have NZ : Nds wz Z (h ++ [y]) := HNZ.out wz Z zc _ FZ OZ
    refine hK.out _ _ (HS.out _ (FB0'.trans' FZ0 (fun _ _ e => e))) (fun hHeld => ?_)
    clear hK
    try simp only [Act.put, szA, szB, szC]
    refine any_tk 7 (.slice Z (n + 1) zc) (i := 6) rfl rfl (by kernel_rfl) (fun _ _ _ h => h) (by rfl) (by intro w hSw; (try dsimp only at hSw); go_simp; try with_reducible rfl) (by assumption) ?_
    simp only [Act.put, szA, szB, szC]
    refine wpAnyH_done (by kernel_rfl) ?_ _
    clear hHeld
    go_wp2
    go_meet
    exact ⟨Z, zc, rfl, Lib.hid NZ, Lib.hid (FB0'.trans' FZ0 (fun _ _ e => e))⟩
   ·go_simp
    have FO2 : Fr No w1 ((w1.drew.alloc (.cells #[] 39)).alloc (.cells #[.int .i64 sa, .int .i64 ca, .int .i64 ta, .bool ka, .slice Ra na rca, .slice Va ma wca] 39)) := FE1.alloc _
    have SO2 : Sl ((w1.drew.alloc (.cells #[] 39)).alloc (.cells #[.int .i64 sa, .int .i64 ca, .int .i64 ta, .bool ka, .slice Ra na rca, .slice Va ma wca] 39)) ((w1.heap.size + 1) + 1) (some ⟨(w1.heap.size + 1), 0, none⟩) ([y].flatMap Ndl.cells) := slLit16 _ _ _ _ _ (by simp) hY.symm
    refine hK.out _ _ (HS.out _ (FB0'.trans' FO2 (fun _ _ e => e))) (fun hHeld => ?_)
    clear hK
    try simp only [Act.put, szA, szB, szC]
    refine wpAnyH_ready (rs := [2]) (by kernel_rfl) (by simp) ?_
    refine AllReadyH.cons rfl (fun K' hK => ?_) AllReadyH.nil
    have OW2 : ((w1.drew.alloc (.cells #[] 39)).alloc (.cells #[.int .i64 sa, .int .i64 ca, .int .i64 ta, .bool ka, .slice Ra na rca, .slice Va ma wca] 39)).ownsRow w1.heap.size 39 6 (.slice (some ⟨w1.heap.size, 0, none⟩) 0 0) 0 [] := OE1.alloc _
    refine wp_nds16 _ _ _ rfl rfl w1.heap.size (some ⟨w1.heap.size, 0, none⟩) 0 0 [] rfl w1.heap.size A n c h rfl hh.out ((hsl.out.since FB).fr FO2 (Nat.le_refl _) (fun _ _ _ e => e)) OW2 (by omega) FO2.size ?_
    intro X3 x3 v3 OX3 FX3
    rw [Nat.zero_add] at OX3 ⊢
    rw [List.nil_append] at OX3
    have FY3 : Fr No w1 v3 := FO2.trans' FX3 (fun i hi e => by have := ((OW2).lt _ e).1; omega)
    refine hK.out _ _ (HS.out _ (FB0'.trans' FY3 (fun _ _ e => e))) (fun hHeld => ?_)
    clear hK
    try simp only [Act.put, szA, szB, szC]
    refine wpAnyH_ready (rs := [5]) (by kernel_rfl) (by simp) ?_
    refine AllReadyH.cons rfl (fun K' hK => ?_) AllReadyH.nil
    refine wp_nds16 _ _ _ rfl rfl w1.heap.size X3 n x3 h rfl _ (some ⟨(w1.heap.size + 1), 0, none⟩) 1 1 [y] rfl rfl (SO2.fr FX3 (by simp) (fun ad e _ h => by injection e with e; subst e; simp [Value.ownBlock] at h)) OX3 (by omega) FY3.size ?_
    intro Z zc wz OZ FX4
    have FZ0 : Fr No w1 wz := FY3.trans' FX4 (fun i hi e => by have := ((OX3).lt _ e).1; omega)
    have FZ : Fr No w wz := FB.trans' FZ0 (fun _ _ e => e)
    have NZ : Nds wz Z (h ++ [y]) := HNZ.out wz Z zc _ FZ OZ
    refine hK.out _ _ (HS.out _ (FB0'.trans' FZ0 (fun _ _ e => e))) (fun hHeld => ?_)
    clear hK
    try simp only [Act.put, szA, szB, szC]
    refine any_tk 7 (.slice Z (n + 1) zc) (i := 6) rfl rfl (by kernel_rfl) (fun _ _ _ h => h) (by rfl) (by intro w hSw; (try dsimp only at hSw); go_simp; try with_reducible rfl) (by assumption) ?_
    simp only [Act.put, szA, szB, szC]
    refine wpAnyH_done (by kernel_rfl) ?_ _
    clear hHeld
    go_wp2
    go_meet
    exact ⟨Z, zc, rfl, Lib.hid NZ, Lib.hid (FB0'.trans' FZ0 (fun _ _ e => e))⟩
  ·go_simp
   have FO3 : Fr No w1 (w1.drew.alloc (.cells #[.int .i64 sa, .int .i64 ca, .int .i64 ta, .bool ka, .slice Ra na rca, .slice Va ma wca] 39)) := fD.alloc _
   have SO3 : Sl (w1.drew.alloc (.cells #[.int .i64 sa, .int .i64 ca, .int .i64 ta, .bool ka, .slice Ra na rca, .slice Va ma wca] 39)) (w1.heap.size + 1) (some ⟨w1.heap.size, 0, none⟩) ([y].flatMap Ndl.cells) := slLit16 _ _ _ _ _ (by simp) hY.symm
   refine hK.out _ _ (HS.out _ (FB0'.trans' FO3 (fun _ _ e => e))) (fun hHeld => ?_)
   clear hK
   try simp only [Act.put, szA, szB, szC]
   refine wpAnyH_ready (rs := [0]) (by kernel_rfl) (by simp) ?_
   refine AllReadyH.cons rfl (fun K' hK => ?_) AllReadyH.nil
   go_simp
   have FE2 : Fr No w1 ((w1.drew.alloc (.cells #[.int .i64 sa, .int .i64 ca, .int .i64 ta, .bool ka, .slice Ra na rca, .slice Va ma wca] 39)).alloc (.cells #[] 39)) := FO3.alloc _
   have OE2 : ((w1.drew.alloc (.cells #[.int .i64 sa, .int .i64 ca, .int .i64 ta, .bool ka, .slice Ra na rca, .slice Va ma wca] 39)).alloc (.cells #[] 39)).ownsRow w1.heap.size 39 6 (.slice (some ⟨(w1.heap.size + 1), 0, none⟩) 0 0) 0 [] := by
    have h : ((w1.drew.alloc (.cells #[.int .i64 sa, .int .i64 ca, .int .i64 ta, .bool ka, .slice Ra na rca, .slice Va ma wca] 39)).alloc (.cells #[] 39)).ownsRow w1.heap.size 39 6 (.slice (some ⟨(w1.drew.alloc (.cells #[.int .i64 sa, .int .i64 ca, .int .i64 ta, .bool ka, .slice Ra na rca, .slice Va ma wca] 39)).heap.size, 0, none⟩) 0 0) 0 [] := own_base (World.ownsRow_lit (w1.drew.alloc (.cells #[.int .i64 sa, .int .i64 ca, .int .i64 ta, .bool ka, .slice Ra na rca, .slice Va ma wca] 39)) #[] 0 (Nat.le_refl _) (Nat.zero_le _) rfl) FO3.size
    rw [show (w1.drew.alloc (.cells #[.int .i64 sa, .int .i64 ca, .int .i64 ta, .bool ka, .slice Ra na rca, .slice Va ma wca] 39)).heap.size = (w1.heap.size + 1) by simp] at h
    exact h
   refine hK.out _ _ (HS.out _ (FB0'.trans' FE2 (fun _ _ e => e))) (fun hHeld => ?_)
   clear hK
   try simp only [Act.put, szA, szB, szC]
   refine wpAnyH_ready (rs := [2]) (by kernel_rfl) (by simp) ?_
   refine AllReadyH.cons rfl (fun K' hK => ?_) AllReadyH.nil
   refine wp_nds16 _ _ _ rfl rfl w1.heap.size (some ⟨(w1.heap.size + 1), 0, none⟩) 0 0 [] rfl w1.heap.size A n c h rfl hh.out ((hsl.out.since FB).fr FE2 (Nat.le_refl _) (fun _ _ _ e => e)) OE2 (by omega) FE2.size ?_
   intro X5 x5 v5 OX5 FX5
   rw [Nat.zero_add] at OX5 ⊢
   rw [List.nil_append] at OX5
   have FY5 : Fr No w1 v5 := FE2.trans' FX5 (fun i hi e => by have := ((OE2).lt _ e).1; omega)
   refine hK.out _ _ (HS.out _ (FB0'.trans' FY5 (fun _ _ e => e))) (fun hHeld => ?_)
   clear hK
   try simp only [Act.put, szA, szB, szC]
   refine wpAnyH_ready (rs := [5]) (by kernel_rfl) (by simp) ?_
   refine AllReadyH.cons rfl (fun K' hK => ?_) AllReadyH.nil
   refine wp_nds16 _ _ _ rfl rfl w1.heap.size X5 n x5 h rfl _ (some ⟨w1.heap.size, 0, none⟩) 1 1 [y] rfl rfl ((SO3.fr ((Fr.refl No _).alloc _) (by simp) (fun _ _ _ e => e)).fr FX5 (by simp) (fun ad e _ h => by injection e with e; subst e; simp [Value.ownBlock] at h)) OX5 (by omega) FY5.size ?_
   intro Z zc wz OZ FX6
   have FZ0 : Fr No w1 wz := FY5.trans' FX6 (fun i hi e => by have := ((OX5).lt _ e).1; omega)
   have FZ : Fr No w wz := FB.trans' FZ0 (fun _ _ e => e)
   have NZ : Nds wz Z (h ++ [y]) := HNZ.out wz Z zc _ FZ OZ
   refine hK.out _ _ (HS.out _ (FB0'.trans' FZ0 (fun _ _ e => e))) (fun hHeld => ?_)
   clear hK
   try simp only [Act.put, szA, szB, szC]
   refine any_tk 7 (.slice Z (n + 1) zc) (i := 6) rfl rfl (by kernel_rfl) (fun _ _ _ h => h) (by rfl) (by intro w hSw; (try dsimp only at hSw); go_simp; try with_reducible rfl) (by assumption) ?_
   simp only [Act.put, szA, szB, szC]
   refine wpAnyH_done (by kernel_rfl) ?_ _
   clear hHeld
   go_wp2
   go_meet
   exact ⟨Z, zc, rfl, Lib.hid NZ, Lib.hid (FB0'.trans' FZ0 (fun _ _ e => e))⟩
 case rest =>
  obtain ⟨Z, zc, rfl, NZ, F2⟩ := hcut
  clear FB0 F1 HNZ hsl hY
  go_wp2_with fail
  have FD := Lib.hid (F2.out.trans' ((Fr.refl No _).drew) (fun _ _ e => e))
  have ND := Lib.hid (NZ.out.since ((Fr.refl No _).drew))
  cases gr
  case false =>
   refine wp_region_held_drew (S := fun V => LdO V 26 ⟨w.heap.size, 0, none⟩ (.agg ZC) ∧ LdO V 39 ⟨w.heap.size + 1, 0, none⟩ (.agg #[.int .i64 sa, .int .i64 ca, .int .i64 ta, .bool ka, .slice Ra na rca, .slice Va ma wca])) (by kernel_rfl) (HSB.out _ FD.out) (fun hHeld => ?_)
   refine any_tk 16 (.agg ZC) (i := 0) rfl rfl (by kernel_rfl) (fun _ _ _ h => h) (by rfl) (by intro w hSw; exact exec_ld rfl hSw.1) (by assumption) ?_
   simp only [Act.put, szA, szB, szC]
   refine any_tk 17 (.slice Z (n + 1) zc) (i := 1) rfl rfl (by kernel_rfl) (fun _ _ _ h => h) (by rfl) (by intro w hSw; (try dsimp only at hSw); go_simp; try with_reducible rfl) (by assumption) ?_
   simp only [Act.put, szA, szB, szC]
   refine wpAnyH_ready (rs := [2]) (by kernel_rfl) (by simp) ?_
   refine AllReadyH.cons rfl (fun K' hK => ?_) AllReadyH.nil
   go_simp
   go_at_call 9
   refine (HGr.out Z zc _ (HF0.out.trans' FD.out (fun _ _ e => e)) ND.out).mono ?_
   rintro e' v2 ⟨rfl, g2⟩
   have F3 := Lib.hid (FD.out.trans' g2 (fun _ _ e => e))
   have N3 := Lib.hid (ND.out.since g2)
   clear g2
   dsimp only
   refine hK.out _ _ (HSB.out _ F3.out) (fun hHeld => ?_)
   clear hK
   try simp only [Act.put, szA, szB, szC]
   refine any_tk 19 (.bool false) (i := 3) rfl rfl (by kernel_rfl) (fun _ _ _ h => h) (by rfl) (by intro w hSw; (try dsimp only at hSw); go_simp; try with_reducible rfl) (by assumption) ?_
   simp only [Act.put, szA, szB, szC]
   refine any_tk 20 (.agg ZC) (i := 4) rfl rfl (by kernel_rfl) (fun _ _ _ h => h) (by rfl) (by intro w hSw; exact exec_ld rfl hSw.1) (by assumption) ?_
   simp only [Act.put, szA, szB, szC]
   refine any_tk 21 (.slice A n c) (i := 5) rfl rfl (by kernel_rfl) (fun _ _ _ h => h) (by rfl) (by intro w hSw; (try dsimp only at hSw); go_simp; try with_reducible rfl) (by assumption) ?_
   simp only [Act.put, szA, szB, szC]
   refine any_tk 22 (.agg #[.int .i64 sa, .int .i64 ca, .int .i64 ta, .bool ka, .slice Ra na rca, .slice Va ma wca]) (i := 6) rfl rfl (by kernel_rfl) (fun _ _ _ h => h) (by rfl) (by intro w hSw; exact exec_ld rfl hSw.2) (by assumption) ?_
   simp only [Act.put, szA, szB, szC]
   refine any_tk 24 (.agg ZC) (i := 8) rfl rfl (by kernel_rfl) (fun _ _ _ h => h) (by rfl) (by intro w hSw; exact exec_ld rfl hSw.1) (by assumption) ?_
   simp only [Act.put, szA, szB, szC]
   refine any_tk 25 (.slice Z (n + 1) zc) (i := 9) rfl rfl (by kernel_rfl) (fun _ _ _ h => h) (by rfl) (by intro w hSw; (try dsimp only at hSw); go_simp; try with_reducible rfl) (by assumption) ?_
   simp only [Act.put, szA, szB, szC]
   refine wpAnyH_ready (rs := [7]) (by kernel_rfl) (by simp) ?_
   refine AllReadyH.cons rfl (fun K' hK => ?_) AllReadyH.nil
   go_simp
   go_at_call 20
   refine (HP.out (by first | rfl | trivial) _ (HF0.out.trans' F3.out (fun _ _ e => e))).mono ?_
   rintro e' v3 ⟨rfl, g3⟩
   have F4 := Lib.hid (F3.out.trans' g3 (fun _ _ e => e))
   have N4 := Lib.hid (N3.out.since g3)
   clear g3
   dsimp only
   refine hK.out _ _ (HSB.out _ F4.out) (fun hHeld => ?_)
   clear hK
   try simp only [Act.put, szA, szB, szC]
   refine wpAnyH_ready (rs := [10]) (by kernel_rfl) (by simp) ?_
   refine AllReadyH.cons rfl (fun K' hK => ?_) AllReadyH.nil
   go_simp
   go_at_call 13
   refine (HD.out (by first | rfl | trivial) Z zc _ (HF0.out.trans' F4.out (fun _ _ e => e)) N4.out).mono ?_
   rintro e' v4 ⟨rfl, g4⟩
   have F5 := Lib.hid (F4.out.trans' g4 (fun _ _ e => e))
   clear g4
   dsimp only
   refine hK.out _ _ (HSB.out _ F5.out) (fun hHeld => ?_)
   clear hK
   try simp only [Act.put, szA, szB, szC]
   refine any_tk 27 (.bool true) (i := 11) rfl rfl (by kernel_rfl) (fun _ _ _ h => h) (by rfl) (by intro w hSw; (try dsimp only at hSw); go_simp; try (first | with_reducible rfl | (simp; done) | (cases q <;> rfl))) (by assumption) ?_
   simp only [Act.put, szA, szB, szC]
   refine any_tk 28 (.bool true) (i := 12) rfl rfl (by kernel_rfl) (fun _ _ _ h => h) (by rfl) (by intro w hSw; (try dsimp only at hSw); go_simp; try with_reducible rfl) (by assumption) ?_
   simp only [Act.put, szA, szB, szC]
   refine any_tk 6 (.bool true) (i := 13) rfl rfl (by kernel_rfl) (fun _ _ _ h => h) (by rfl) (by intro w hSw; (try dsimp only at hSw); go_simp; try with_reducible rfl) (by assumption) ?_
   simp only [Act.put, szA, szB, szC]
   refine wpAnyH_done (by kernel_rfl) ?_ _
   clear hHeld
   go_wp2
   go_ret
   exact ⟨rfl, HF0.out.trans' F5.out (fun _ _ e => e)⟩
  case true =>
   refine wp_region_held_drew (S := fun V => LdO V 26 ⟨w.heap.size, 0, none⟩ (.agg ZC) ∧ LdO V 39 ⟨w.heap.size + 1, 0, none⟩ (.agg #[.int .i64 sa, .int .i64 ca, .int .i64 ta, .bool ka, .slice Ra na rca, .slice Va ma wca])) (by kernel_rfl) (HSB.out _ FD.out) (fun hHeld => ?_)
   refine any_tk 16 (.agg ZC) (i := 0) rfl rfl (by kernel_rfl) (fun _ _ _ h => h) (by rfl) (by intro w hSw; exact exec_ld rfl hSw.1) (by assumption) ?_
   simp only [Act.put, szA, szB, szC]
   refine any_tk 17 (.slice Z (n + 1) zc) (i := 1) rfl rfl (by kernel_rfl) (fun _ _ _ h => h) (by rfl) (by intro w hSw; (try dsimp only at hSw); go_simp; try with_reducible rfl) (by assumption) ?_
   simp only [Act.put, szA, szB, szC]
   refine wpAnyH_ready (rs := [2]) (by kernel_rfl) (by simp) ?_
   refine AllReadyH.cons rfl (fun K' hK => ?_) AllReadyH.nil
   go_simp
   go_at_call 9
   refine (HGr.out Z zc _ (HF0.out.trans' FD.out (fun _ _ e => e)) ND.out).mono ?_
   rintro e' v2 ⟨rfl, g2⟩
   have F3 := Lib.hid (FD.out.trans' g2 (fun _ _ e => e))
   have N3 := Lib.hid (ND.out.since g2)
   clear g2
   dsimp only
   refine hK.out _ _ (HSB.out _ F3.out) (fun hHeld => ?_)
   clear hK
   try simp only [Act.put, szA, szB, szC]
   refine any_tk 19 (.bool true) (i := 3) rfl rfl (by kernel_rfl) (fun _ _ _ h => h) (by rfl) (by intro w hSw; (try dsimp only at hSw); go_simp; try with_reducible rfl) (by assumption) ?_
   simp only [Act.put, szA, szB, szC]
   refine any_sk 20 (i := 4) rfl rfl (by kernel_rfl) (fun _ _ _ h => h) (by rfl) (by assumption) ?_
   simp only [Act.put, szA, szB, szC]
   refine any_sk 21 (i := 5) rfl rfl (by kernel_rfl) (fun _ _ _ h => h) (by rfl) (by assumption) ?_
   simp only [Act.put, szA, szB, szC]
   refine any_sk 22 (i := 6) rfl rfl (by kernel_rfl) (fun _ _ _ h => h) (by rfl) (by assumption) ?_
   simp only [Act.put, szA, szB, szC]
   refine any_sk 23 (i := 7) rfl rfl (by kernel_rfl) (fun _ _ _ h => h) (by rfl) (by assumption) ?_
   simp only [Act.put, szA, szB, szC]
   refine any_sk 24 (i := 8) rfl rfl (by kernel_rfl) (fun _ _ _ h => h) (by rfl) (by assumption) ?_
   simp only [Act.put, szA, szB, szC]
   refine any_sk 25 (i := 9) rfl rfl (by kernel_rfl) (fun _ _ _ h => h) (by rfl) (by assumption) ?_
   simp only [Act.put, szA, szB, szC]
   refine any_sk 26 (i := 10) rfl rfl (by kernel_rfl) (fun _ _ _ h => h) (by rfl) (by assumption) ?_
   simp only [Act.put, szA, szB, szC]
   refine any_sk 27 (i := 11) rfl rfl (by kernel_rfl) (fun _ _ _ h => h) (by rfl) (by assumption) ?_
   simp only [Act.put, szA, szB, szC]
   refine any_tk 28 (.bool true) (i := 12) rfl rfl (by kernel_rfl) (fun _ _ _ h => h) (by rfl) (by intro w hSw; (try dsimp only at hSw); go_simp; try with_reducible rfl) (by assumption) ?_
   simp only [Act.put, szA, szB, szC]
   refine any_tk 6 (.bool true) (i := 13) rfl rfl (by kernel_rfl) (fun _ _ _ h => h) (by rfl) (by intro w hSw; (try dsimp only at hSw); go_simp; try with_reducible rfl) (by assumption) ?_
   simp only [Act.put, szA, szB, szC]
   refine wpAnyH_done (by kernel_rfl) ?_ _
   clear hHeld
   go_wp2
   go_ret
   exact ⟨rfl, HF0.out.trans' F3.out (fun _ _ e => e)⟩
theorem lawNext16 (hG : GoodC16) (hX : NextC16) (x : Ctl) (h : List Ndl) (y : Ndl) (A : Option Addr) (n c : Nat) (w : World) (hx : Clss w x.cA x.cls) (hs : Nds w A h) (hy : y.Ok w) (hn : h.length = n) (hnc : n ≤ c) (hnb : n * 80 ≤ 140737488351232) (hncl : x.cls.length ≤ 9223372036854775807) : Calls Tryz.prog 5 #[x.agg, .slice A n c, y.agg] w (Has w true) :=
 rsgNext16_any x h y A n c w hx hs hy hn hnb hncl (fun W _ => aliveG16 hG W) (fun hg => next16 hX x h y A n c w hx hs hy hn hnc hg)
end Go.Proofs.YtdjhdnejeehgnaaGreat
/- The law: with a node more that compensates a step, or a first step, a good graph stays good. -/
namespace Go.Proofs.YtdjhdnejeehgnaaGreat
open Go.RowKit

set_option maxRecDepth 100000 in
set_option maxHeartbeats 8000000 in
theorem rsgBack16_any (x : Ctl) (h : List Ndl) (y : Ndl) (A : Option Addr) (n c : Nat) (w : World) (hx : Clss w x.cA x.cls) (hs : Nds w A h) (hy : y.Ok w) (hh : h.length = n) (hnb : n * 80 ≤ 140737488351232) (hnc : x.cls.length ≤ 9223372036854775807)
  (hal : ∀ W, Fr No w W → Calls Tryz.prog 8 #[] W (Has W true))
  (hnext : great16 x.cls (h ++ [y]) = false → ∀ W, Fr No w W → Calls Tryz.prog 20 #[x.agg, .slice A n c, y.agg] W (Has W (goodH x.p (ndsOf (h ++ [y]))))) :
  Calls Tryz.prog 6 #[x.agg, .slice A n c, y.agg] w (Has w true) := by
 have Hal := Lib.hid hal
 have HP := Lib.hid hnext
 have HIn := Lib.hid (fun (hg : great16 x.cls (h ++ [y]) = false) => show n ≤ 24 ∧ Nds.Few (h ++ [y]) ∧ Nds.Few h by
  obtain ⟨-, h1, h2⟩ := few_of_great16 hg
  rw [List.length_append, List.length_singleton] at h1
  exact ⟨by omega, h2, ⟨fun x hx => h2.all x (List.mem_append_left _ hx)⟩⟩)
 have HGr := Lib.hid (fun (Z : Option Addr) (zc : Nat) W (hW : Fr No w W) (hN : Nds W Z (h ++ [y])) => great16_any x (h ++ [y]) Z (n + 1) zc W (hx.since hW) hN (by simp [hh]) (by omega) hnc)
 have HD := Lib.hid (fun (hg : great16 x.cls (h ++ [y]) = false) (Z : Option Addr) (zc : Nat) W (hW : Fr No w W) (hN : Nds W Z (h ++ [y])) => goodD16 x (h ++ [y]) Z (n + 1) zc W (hx.since hW) hN (by simp [hh]) (by have := (HIn.out hg).1; omega) (HIn.out hg).2.1)
 have HMy := Lib.hid (fun (hg : great16 x.cls (h ++ [y]) = false) (Z : Option Addr) (zc : Nat) W (hW : Fr No w W) (hN : Nds W Z (h ++ [y])) => mayD16 x (h ++ [y]) Z (n + 1) zc W (hx.since hW) hN (by simp [hh]) (by have := (HIn.out hg).1; omega) (HIn.out hg).2.1)
 have HG2 := Lib.hid (fun (hg : great16 x.cls (h ++ [y]) = false) W (hW : Fr No w W) => goodD16 x h A n c W (hx.since hW) (hs.since hW) hh (by have := (HIn.out hg).1; omega) (HIn.out hg).2.2)
 have HCf := Lib.hid (fun (hg : great16 x.cls (h ++ [y]) = false) (k : Nat) (hk : k < h.length) W (hW : Fr No w W) => refConflict14_any h[k] y W ((hs.all _ (List.getElem_mem hk)).since hW) (hy.since hW) ((HIn.out hg).2.2.all _ (List.getElem_mem hk)).1 ((HIn.out hg).2.2.all _ (List.getElem_mem hk)).2 ((HIn.out hg).2.1.all y (by simp)).1 ((HIn.out hg).2.1.all y (by simp)).2)
 have HSl := Lib.hid (fun (k : Nat) (hk : k < h.length) W (hW : Fr No w W) => (hs.since hW).sl.nd hk)
 have hn24 := Lib.hid (fun (hg : great16 x.cls (h ++ [y]) = false) => (HIn.out hg).1)
 have Hend := Lib.hid (fun (hm : mayH x.p (ndsOf (h ++ [y])) = true) (h1 : goodH x.p (ndsOf h) = true) (hb : y.n.back = true ∨ (y.n.back = false ∧ y.n.step = 0)) => show goodH x.p (ndsOf (h ++ [y])) = true by
  have e : ndsOf (h ++ [y]) = ndsOf h ++ [y.n] := by simp [ndsOf]
  rw [e] at hm ⊢
  unfold goodH at h1 ⊢
  rw [Bool.and_eq_true] at h1
  rw [hm, Bool.true_and]
  rcases hb with hb | ⟨hb, h0⟩
  ·exact free_new x.p (back_alone x.p (ndsOf h) hb) h1.2
  ·exact free_new x.p (first_alone x.p hm hb h0) h1.2)
 clear hal hnext HIn
 generalize great16 x.cls (h ++ [y]) = gr at *
 generalize goodH x.p (ndsOf (h ++ [y])) = q at *
 generalize goodH x.p (ndsOf h) = g1 at *
 generalize mayH x.p (ndsOf (h ++ [y])) = mh at *
 have HNZ := Lib.hid (fun W (Z : Option Addr) (zc B : Nat) (hW : Fr No w W) (hO : W.ownsRow B 39 6 (.slice Z (n + 1) zc) (n + 1) ((h ++ [y]).flatMap Ndl.cells)) => show Nds W Z (h ++ [y]) from ⟨Sl.ofOwn hO, fun x hx => by
  rcases List.mem_append.1 hx with hx | hx
  ·exact (hs.all x hx).since hW
  ·rw [List.mem_singleton.1 hx]; exact hy.since hW⟩)
 have hsl := Lib.hid hs.sl
 have hY : [y].flatMap Ndl.cells = [.int .i64 y.n.saga, .int .i64 y.n.cls, .int .i64 y.n.step, .bool y.n.back, .slice y.rA y.n.rd.length y.rc, .slice y.wA y.n.wt.length y.wc] := rfl
 have hh := Lib.hid hh
 unfold Ctl.agg Ndl.agg Ndl.arr at *
 obtain ⟨ZC, hZ⟩ : ∃ Z, Z = x.arr := ⟨_, rfl⟩
 rw [← hZ] at HP HGr HD HMy HG2 ⊢
 rw [Ctl.arr_eq] at hZ
 clear hs hy hx
 generalize y.n.saga = sa at *
 generalize y.n.cls = ca at *
 generalize y.n.step = ta at *
 generalize y.n.back = ka at *
 generalize y.n.rd.length = na at *
 generalize y.n.wt.length = ma at *
 generalize y.rA = Ra at *
 generalize y.rc = rca at *
 generalize y.wA = Va at *
 generalize y.wc = wca at *
 obtain ⟨W0, hW0⟩ : ∃ W0, W0 = (w.alloc (.cells ZC 26)).alloc (.cells #[.int .i64 sa, .int .i64 ca, .int .i64 ta, .bool ka, .slice Ra na rca, .slice Va ma wca] 39) := ⟨_, rfl⟩
 have f0 : Fr No w W0 := by rw [hW0]; exact ((Fr.refl _ _).alloc _).alloc _
 have bZ : Bk W0 w.heap.size 26 ZC := by rw [hW0]; exact (Bk.made w _ _).alloc _
 have bN : Bk W0 (w.heap.size + 1) 39 #[.int .i64 sa, .int .i64 ca, .int .i64 ta, .bool ka, .slice Ra na rca, .slice Va ma wca] := by rw [hW0]; simpa using Bk.made (w.alloc (.cells ZC 26)) 39 #[.int .i64 sa, .int .i64 ca, .int .i64 ta, .bool ka, .slice Ra na rca, .slice Va ma wca]
 have HLc := Lib.hid (fun V (hV : Fr No W0 V) => show LdO V 26 ⟨w.heap.size, 0, none⟩ (.agg ZC) from ld_cat hZ (bZ.fr hV (fun e => e)))
 have HC := Lib.hid (fun V (hV : Fr No W0 V) => bN.fr hV (fun e => e))
 have HS := Lib.hid (fun V (hV : Fr No W0 V) => show LdO V 39 ⟨w.heap.size + 1, 0, none⟩ (.agg #[.int .i64 sa, .int .i64 ca, .int .i64 ta, .bool ka, .slice Ra na rca, .slice Va ma wca]) from ld_nd16 ((HC.out V hV).cell 0) ((HC.out V hV).cell 1) ((HC.out V hV).cell 2) ((HC.out V hV).cell 3) ((HC.out V hV).cell 4) ((HC.out V hV).cell 5))
 have HSB := Lib.hid (fun V (hV : Fr No W0 V) => show LdO V 26 ⟨w.heap.size, 0, none⟩ (.agg ZC) ∧ LdO V 39 ⟨w.heap.size + 1, 0, none⟩ (.agg #[.int .i64 sa, .int .i64 ca, .int .i64 ta, .bool ka, .slice Ra na rca, .slice Va ma wca]) from ⟨HLc.out V hV, HS.out V hV⟩)
 have hwe := hW0.symm
 have HF0 := Lib.hid f0
 clear bZ bN f0 hW0 hZ
 go_enter Tryz.func6, Tryz.ntmps6
 go_wp2_with fail
 refine (Hal.out _ HF0.out).mono ?_
 rintro e w1 ⟨rfl, f1⟩
 have FB0 := Lib.hid f1
 have F1 := Lib.hid (HF0.out.trans' f1 (fun _ _ e => e))
 clear f1 hwe Hal
 go_wp2_with fail
 go_cut [7] from 12 to 18 (fun s7 wx => ∃ (Z : Option Addr) (zc : Nat), s7 = .slice Z (n + 1) zc ∧ Hid (Nds wx Z (h ++ [y])) ∧ Hid (Fr No W0 wx))
 case first =>
  have FB0' := FB0.out
  have FB : Fr No w w1 := F1.out
  refine wp_region_held_drew (S := fun V => LdO V 39 ⟨w.heap.size + 1, 0, none⟩ (.agg #[.int .i64 sa, .int .i64 ca, .int .i64 ta, .bool ka, .slice Ra na rca, .slice Va ma wca])) (by kernel_rfl) (HS.out _ (FB0'.trans' ((Fr.refl No w1).drew) (fun _ _ e => e))) (fun hHeld => ?_)
  have fD : Fr No w1 w1.drew := (Fr.refl No w1).drew
  refine any_tk 13 (.slice A n c) (i := 1) rfl rfl (by kernel_rfl) (fun _ _ _ h => h) (by rfl) (by intro w hSw; (try dsimp only at hSw); go_simp; try with_reducible rfl) (by assumption) ?_
  simp only [Act.put, szA, szB, szC]
  refine any_tk 15 (.agg #[.int .i64 sa, .int .i64 ca, .int .i64 ta, .bool ka, .slice Ra na rca, .slice Va ma wca]) (i := 3) rfl rfl (by kernel_rfl) (fun _ _ _ h => h) (by rfl) (by intro w hSw; exact exec_ld rfl hSw) (by assumption) ?_
  simp only [Act.put, szA, szB, szC]
  refine wpAnyH_ready (rs := [0, 4]) (by kernel_rfl) (by simp) ?_
  refine AllReadyH.cons rfl (fun K' hK => ?_) (AllReadyH.cons rfl (fun K' hK => ?_) AllReadyH.nil)
  ·go_simp
   have FE1 : Fr No w1 (w1.drew.alloc (.cells #[] 39)) := fD.alloc _
   have OE1 : (w1.drew.alloc (.cells #[] 39)).ownsRow w1.heap.size 39 6 (.slice (some ⟨w1.heap.size, 0, none⟩) 0 0) 0 [] := by
    have h : (w1.drew.alloc (.cells #[] 39)).ownsRow w1.heap.size 39 6 (.slice (some ⟨w1.drew.heap.size, 0, none⟩) 0 0) 0 [] := own_base (World.ownsRow_lit w1.drew #[] 0 (Nat.le_refl _) (Nat.zero_le _) rfl) fD.size
    rw [show w1.drew.heap.size = w1.heap.size by simp] at h
    exact h
   refine hK.out _ _ (HS.out _ (FB0'.trans' FE1 (fun _ _ e => e))) (fun hHeld => ?_)
   clear hK
   try simp only [Act.put, szA, szB, szC]
   refine wpAnyH_ready (rs := [2, 4]) (by kernel_rfl) (by simp) ?_
   refine AllReadyH.cons rfl (fun K' hK => ?_) (AllReadyH.cons rfl (fun K' hK => ?_) AllReadyH.nil)
   ·refine wp_nds16 _ _ _ rfl rfl w1.heap.size (some ⟨w1.heap.size, 0, none⟩) 0 0 [] rfl w1.heap.size A n c h rfl hh.out ((hsl.out.since FB).fr FE1 (Nat.le_refl _) (fun _ _ _ e => e)) OE1 (by omega) FE1.size ?_
    intro X1 x1 v1 OX1 FX1
    rw [Nat.zero_add] at OX1 ⊢
    rw [List.nil_append] at OX1
    have FY1 : Fr No w1 v1 := FE1.trans' FX1 (fun i hi e => by have := ((OE1).lt _ e).1; omega)
    refine hK.out _ _ (HS.out _ (FB0'.trans' FY1 (fun _ _ e => e))) (fun hHeld => ?_)
    clear hK
    try simp only [Act.put, szA, szB, szC]
    refine wpAnyH_ready (rs := [4]) (by kernel_rfl) (by simp) ?_
    refine AllReadyH.cons rfl (fun K' hK => ?_) AllReadyH.nil
    have OW1 : (v1.alloc (.cells #[.int .i64 sa, .int .i64 ca, .int .i64 ta, .bool ka, .slice Ra na rca, .slice Va ma wca] 39)).ownsRow w1.heap.size 39 6 (.slice X1 n x1) n (h.flatMap Ndl.cells) := OX1.alloc _
    go_simp
    have FO1 : Fr No w1 (v1.alloc (.cells #[.int .i64 sa, .int .i64 ca, .int .i64 ta, .bool ka, .slice Ra na rca, .slice Va ma wca] 39)) := FY1.alloc _
    have SO1 : Sl (v1.alloc (.cells #[.int .i64 sa, .int .i64 ca, .int .i64 ta, .bool ka, .slice Ra na rca, .slice Va ma wca] 39)) (v1.heap.size + 1) (some ⟨v1.heap.size, 0, none⟩) ([y].flatMap Ndl.cells) := slLit16 _ _ _ _ _ (by simp) hY.symm
    refine hK.out _ _ (HS.out _ (FB0'.trans' FO1 (fun _ _ e => e))) (fun hHeld => ?_)
    clear hK
    try simp only [Act.put, szA, szB, szC]
    refine wpAnyH_ready (rs := [5]) (by kernel_rfl) (by simp) ?_
    refine AllReadyH.cons rfl (fun K' hK => ?_) AllReadyH.nil
    refine wp_nds16 _ _ _ rfl rfl w1.heap.size X1 n x1 h rfl _ (some ⟨v1.heap.size, 0, none⟩) 1 1 [y] rfl rfl SO1 OW1 (by omega) FO1.size ?_
    intro Z zc wz OZ FX2
    have FZ0 : Fr No w1 wz := FO1.trans' FX2 (fun i hi e => by have := ((OW1).lt _ e).1; omega)
    have FZ : Fr No w wz := FB.trans' FZ0 (fun _ _ e => e)
    have NZ : Nds wz Z (h ++ [y]) := HNZ.out wz Z zc _ FZ OZ
    refine hK.out _ _ (HS.out _ (FB0'.trans' FZ0 (fun _ _ e => e))) (fun hHeld => ?_)
    clear hK
    try simp only [Act.put, szA, szB, szC]
    refine any_tk 7 (.slice Z (n + 1) zc) (i := 6) rfl rfl (by kernel_rfl) (fun _ _ _ h => h) (by rfl) (by intro w hSw; (try dsimp only at hSw); go_simp; try with_reducible rfl) (by assumption) ?_
    simp only [Act.put, szA, szB, szC]
    refine wpAnyH_done (by kernel_rfl) ?_ _
    clear hHeld
    go_wp2
    go_meet
    exact ⟨Z, zc, rfl, Lib.hid NZ, Lib.hid (FB0'.trans' FZ0 (fun _ _ e => e))⟩
   ·go_simp
    have FO2 : Fr No w1 ((w1.drew.alloc (.cells #[] 39)).alloc (.cells #[.int .i64 sa, .int .i64 ca, .int .i64 ta, .bool ka, .slice Ra na rca, .slice Va ma wca] 39)) := FE1.alloc _
    have SO2 : Sl ((w1.drew.alloc (.cells #[] 39)).alloc (.cells #[.int .i64 sa, .int .i64 ca, .int .i64 ta, .bool ka, .slice Ra na rca, .slice Va ma wca] 39)) ((w1.heap.size + 1) + 1) (some ⟨(w1.heap.size + 1), 0, none⟩) ([y].flatMap Ndl.cells) := slLit16 _ _ _ _ _ (by simp) hY.symm
    refine hK.out _ _ (HS.out _ (FB0'.trans' FO2 (fun _ _ e => e))) (fun hHeld => ?_)
    clear hK
    try simp only [Act.put, szA, szB, szC]
    refine wpAnyH_ready (rs := [2]) (by kernel_rfl) (by simp) ?_
    refine AllReadyH.cons rfl (fun K' hK => ?_) AllReadyH.nil
    have OW2 : ((w1.drew.alloc (.cells #[] 39)).alloc (.cells #[.int .i64 sa, .int .i64 ca, .int .i64 ta, .bool ka, .slice Ra na rca, .slice Va ma wca] 39)).ownsRow w1.heap.size 39 6 (.slice (some ⟨w1.heap.size, 0, none⟩) 0 0) 0 [] := OE1.alloc _
    refine wp_nds16 _ _ _ rfl rfl w1.heap.size (some ⟨w1.heap.size, 0, none⟩) 0 0 [] rfl w1.heap.size A n c h rfl hh.out ((hsl.out.since FB).fr FO2 (Nat.le_refl _) (fun _ _ _ e => e)) OW2 (by omega) FO2.size ?_
    intro X3 x3 v3 OX3 FX3
    rw [Nat.zero_add] at OX3 ⊢
    rw [List.nil_append] at OX3
    have FY3 : Fr No w1 v3 := FO2.trans' FX3 (fun i hi e => by have := ((OW2).lt _ e).1; omega)
    refine hK.out _ _ (HS.out _ (FB0'.trans' FY3 (fun _ _ e => e))) (fun hHeld => ?_)
    clear hK
    try simp only [Act.put, szA, szB, szC]
    refine wpAnyH_ready (rs := [5]) (by kernel_rfl) (by simp) ?_
    refine AllReadyH.cons rfl (fun K' hK => ?_) AllReadyH.nil
    refine wp_nds16 _ _ _ rfl rfl w1.heap.size X3 n x3 h rfl _ (some ⟨(w1.heap.size + 1), 0, none⟩) 1 1 [y] rfl rfl (SO2.fr FX3 (by simp) (fun ad e _ h => by injection e with e; subst e; simp [Value.ownBlock] at h)) OX3 (by omega) FY3.size ?_
    intro Z zc wz OZ FX4
    have FZ0 : Fr No w1 wz := FY3.trans' FX4 (fun i hi e => by have := ((OX3).lt _ e).1; omega)
    have FZ : Fr No w wz := FB.trans' FZ0 (fun _ _ e => e)
    have NZ : Nds wz Z (h ++ [y]) := HNZ.out wz Z zc _ FZ OZ
    refine hK.out _ _ (HS.out _ (FB0'.trans' FZ0 (fun _ _ e => e))) (fun hHeld => ?_)
    clear hK
    try simp only [Act.put, szA, szB, szC]
    refine any_tk 7 (.slice Z (n + 1) zc) (i := 6) rfl rfl (by kernel_rfl) (fun _ _ _ h => h) (by rfl) (by intro w hSw; (try dsimp only at hSw); go_simp; try with_reducible rfl) (by assumption) ?_
    simp only [Act.put, szA, szB, szC]
    refine wpAnyH_done (by kernel_rfl) ?_ _
    clear hHeld
    go_wp2
    go_meet
    exact ⟨Z, zc, rfl, Lib.hid NZ, Lib.hid (FB0'.trans' FZ0 (fun _ _ e => e))⟩
  ·go_simp
   have FO3 : Fr No w1 (w1.drew.alloc (.cells #[.int .i64 sa, .int .i64 ca, .int .i64 ta, .bool ka, .slice Ra na rca, .slice Va ma wca] 39)) := fD.alloc _
   have SO3 : Sl (w1.drew.alloc (.cells #[.int .i64 sa, .int .i64 ca, .int .i64 ta, .bool ka, .slice Ra na rca, .slice Va ma wca] 39)) (w1.heap.size + 1) (some ⟨w1.heap.size, 0, none⟩) ([y].flatMap Ndl.cells) := slLit16 _ _ _ _ _ (by simp) hY.symm
   refine hK.out _ _ (HS.out _ (FB0'.trans' FO3 (fun _ _ e => e))) (fun hHeld => ?_)
   clear hK
   try simp only [Act.put, szA, szB, szC]
   refine wpAnyH_ready (rs := [0]) (by kernel_rfl) (by simp) ?_
   refine AllReadyH.cons rfl (fun K' hK => ?_) AllReadyH.nil
   go_simp
   have FE2 : Fr No w1 ((w1.drew.alloc (.cells #[.int .i64 sa, .int .i64 ca, .int .i64 ta, .bool ka, .slice Ra na rca, .slice Va ma wca] 39)).alloc (.cells #[] 39)) := FO3.alloc _
   have OE2 : ((w1.drew.alloc (.cells #[.int .i64 sa, .int .i64 ca, .int .i64 ta, .bool ka, .slice Ra na rca, .slice Va ma wca] 39)).alloc (.cells #[] 39)).ownsRow w1.heap.size 39 6 (.slice (some ⟨(w1.heap.size + 1), 0, none⟩) 0 0) 0 [] := by
    have h : ((w1.drew.alloc (.cells #[.int .i64 sa, .int .i64 ca, .int .i64 ta, .bool ka, .slice Ra na rca, .slice Va ma wca] 39)).alloc (.cells #[] 39)).ownsRow w1.heap.size 39 6 (.slice (some ⟨(w1.drew.alloc (.cells #[.int .i64 sa, .int .i64 ca, .int .i64 ta, .bool ka, .slice Ra na rca, .slice Va ma wca] 39)).heap.size, 0, none⟩) 0 0) 0 [] := own_base (World.ownsRow_lit (w1.drew.alloc (.cells #[.int .i64 sa, .int .i64 ca, .int .i64 ta, .bool ka, .slice Ra na rca, .slice Va ma wca] 39)) #[] 0 (Nat.le_refl _) (Nat.zero_le _) rfl) FO3.size
    rw [show (w1.drew.alloc (.cells #[.int .i64 sa, .int .i64 ca, .int .i64 ta, .bool ka, .slice Ra na rca, .slice Va ma wca] 39)).heap.size = (w1.heap.size + 1) by simp] at h
    exact h
   refine hK.out _ _ (HS.out _ (FB0'.trans' FE2 (fun _ _ e => e))) (fun hHeld => ?_)
   clear hK
   try simp only [Act.put, szA, szB, szC]
   refine wpAnyH_ready (rs := [2]) (by kernel_rfl) (by simp) ?_
   refine AllReadyH.cons rfl (fun K' hK => ?_) AllReadyH.nil
   refine wp_nds16 _ _ _ rfl rfl w1.heap.size (some ⟨(w1.heap.size + 1), 0, none⟩) 0 0 [] rfl w1.heap.size A n c h rfl hh.out ((hsl.out.since FB).fr FE2 (Nat.le_refl _) (fun _ _ _ e => e)) OE2 (by omega) FE2.size ?_
   intro X5 x5 v5 OX5 FX5
   rw [Nat.zero_add] at OX5 ⊢
   rw [List.nil_append] at OX5
   have FY5 : Fr No w1 v5 := FE2.trans' FX5 (fun i hi e => by have := ((OE2).lt _ e).1; omega)
   refine hK.out _ _ (HS.out _ (FB0'.trans' FY5 (fun _ _ e => e))) (fun hHeld => ?_)
   clear hK
   try simp only [Act.put, szA, szB, szC]
   refine wpAnyH_ready (rs := [5]) (by kernel_rfl) (by simp) ?_
   refine AllReadyH.cons rfl (fun K' hK => ?_) AllReadyH.nil
   refine wp_nds16 _ _ _ rfl rfl w1.heap.size X5 n x5 h rfl _ (some ⟨w1.heap.size, 0, none⟩) 1 1 [y] rfl rfl ((SO3.fr ((Fr.refl No _).alloc _) (by simp) (fun _ _ _ e => e)).fr FX5 (by simp) (fun ad e _ h => by injection e with e; subst e; simp [Value.ownBlock] at h)) OX5 (by omega) FY5.size ?_
   intro Z zc wz OZ FX6
   have FZ0 : Fr No w1 wz := FY5.trans' FX6 (fun i hi e => by have := ((OX5).lt _ e).1; omega)
   have FZ : Fr No w wz := FB.trans' FZ0 (fun _ _ e => e)
   have NZ : Nds wz Z (h ++ [y]) := HNZ.out wz Z zc _ FZ OZ
   refine hK.out _ _ (HS.out _ (FB0'.trans' FZ0 (fun _ _ e => e))) (fun hHeld => ?_)
   clear hK
   try simp only [Act.put, szA, szB, szC]
   refine any_tk 7 (.slice Z (n + 1) zc) (i := 6) rfl rfl (by kernel_rfl) (fun _ _ _ h => h) (by rfl) (by intro w hSw; (try dsimp only at hSw); go_simp; try with_reducible rfl) (by assumption) ?_
   simp only [Act.put, szA, szB, szC]
   refine wpAnyH_done (by kernel_rfl) ?_ _
   clear hHeld
   go_wp2
   go_meet
   exact ⟨Z, zc, rfl, Lib.hid NZ, Lib.hid (FB0'.trans' FZ0 (fun _ _ e => e))⟩
 case rest =>
  obtain ⟨Z, zc, rfl, NZ, F2⟩ := hcut
  clear FB0 F1 HNZ hsl hY
  have HLw := Lib.hid (HLc.out _ F2.out)
  go_wp2_with (first
   | ((with_reducible refine wpl_ld ?_ ?_ HLw.out ?_); (· rfl); (· rfl); simp only [Act.put, szA, szB, szC])
   | ((with_reducible refine wpl_ldg ?_ ?_ HLw.out ?_); (· rfl); (· rfl); simp only [Act.put, szA, szB, szC]))
  refine (HGr.out Z zc _ (HF0.out.trans' F2.out (fun _ _ e => e)) NZ.out).mono ?_
  rintro e w3 ⟨rfl, f3⟩
  have F3 := Lib.hid (F2.out.trans' f3 (fun _ _ e => e))
  have N3 := Lib.hid (NZ.out.since f3)
  clear f3 HGr NZ HLw F2
  cases gr
  case true =>
   go_wp2
   go_ret
   exact ⟨rfl, HF0.out.trans' F3.out (fun _ _ e => e)⟩
  case false =>
   have HLw := Lib.hid (HLc.out _ F3.out)
   have h24 := hn24.out (by first | rfl | trivial)
   clear hn24
   go_wp2_with (first
    | ((with_reducible refine wpl_ld ?_ ?_ HLw.out ?_); (· rfl); (· rfl); simp only [Act.put, szA, szB, szC])
    | ((with_reducible refine wpl_ldg ?_ ?_ HLw.out ?_); (· rfl); (· rfl); simp only [Act.put, szA, szB, szC]))
   refine (HMy.out (by first | rfl | trivial) Z zc _ (HF0.out.trans' F3.out (fun _ _ e => e)) N3.out).mono ?_
   rintro e w4 ⟨rfl, f4⟩
   have F4 := Lib.hid (F3.out.trans' f4 (fun _ _ e => e))
   clear f4 HMy N3 HLw F3
   cases mh
   case false =>
    go_wp2
    go_ret
    exact ⟨rfl, HF0.out.trans' F4.out (fun _ _ e => e)⟩
   case true =>
    have HLw := Lib.hid (HLc.out _ F4.out)
    go_wp2_with (first
     | ((with_reducible refine wpl_ld ?_ ?_ HLw.out ?_); (· rfl); (· rfl); simp only [Act.put, szA, szB, szC])
     | ((with_reducible refine wpl_ldg ?_ ?_ HLw.out ?_); (· rfl); (· rfl); simp only [Act.put, szA, szB, szC]))
    refine (HG2.out (by first | rfl | trivial) _ (HF0.out.trans' F4.out (fun _ _ e => e))).mono ?_
    rintro e w5 ⟨rfl, f5⟩
    have F5 := Lib.hid (F4.out.trans' f5 (fun _ _ e => e))
    clear f5 HG2 HLw F4
    cases g1
    case false =>
     go_wp2
     go_ret
     exact ⟨rfl, HF0.out.trans' F5.out (fun _ _ e => e)⟩
    case true =>
     go_wp2
     go_loopw [8, 9] (fun bv iv wr => ∃ (b : Bool) (i : Nat), i ≤ n ∧ bv = .bool b ∧ iv = .int .i64 (i : Int) ∧ Hid (Fr No W0 wr)) (fun _ iv _ => n - (intOf iv).toNat)
     case atStart => exact ⟨true, 0, Nat.zero_le _, rfl, rfl, F5⟩
     case round =>
      obtain ⟨b, i, hi, rfl, rfl, F6⟩ := hrel
      clear F5
      by_cases hlt : i < n
      ·have hil : i < h.length := by rw [hh.out]; exact hlt
       have hin2 : ((i : Nat) : Int) < (n : Int) := by omega
       obtain ⟨ad, rfl, hab, a0, a1, a2, a3, a4, a5⟩ := HSl.out i hil w (Fr.refl _ _)
       have HNd := Lib.hid (fun V (hV : Fr No w V) => show LdO V 39 (ad.add (i * 6)) (.agg #[.int .i64 h[i].n.saga, .int .i64 h[i].n.cls, .int .i64 h[i].n.step, .bool h[i].n.back, .slice h[i].rA h[i].n.rd.length h[i].rc, .slice h[i].wA h[i].n.wt.length h[i].wc]) by
        obtain ⟨ad', e, _, a0, a1, a2, a3, a4, a5⟩ := HSl.out i hil V hV
        injection e with e
        subst e
        exact ld_nd16 a0 a1 a2 a3 a4 a5)
       have HCi := Lib.hid (HCf.out (by first | rfl | trivial) i hil)
       have HSC := Lib.hid (fun V (hV : Fr No W0 V) => show LdO V 39 ⟨w.heap.size + 1, 0, none⟩ (.agg #[.int .i64 sa, .int .i64 ca, .int .i64 ta, .bool ka, .slice Ra na rca, .slice Va ma wca]) ∧ LdO V 39 (ad.add (i * 6)) (.agg #[.int .i64 h[i].n.saga, .int .i64 h[i].n.cls, .int .i64 h[i].n.step, .bool h[i].n.back, .slice h[i].rA h[i].n.rd.length h[i].rc, .slice h[i].wA h[i].n.wt.length h[i].wc]) from ⟨HS.out V hV, HNd.out V (HF0.out.trans' hV (fun _ _ e => e))⟩)
       clear a0 a1 a2 a3 a4 a5 hab HCf HSl HNd
       generalize confN h[i].n y.n = cf at *
       generalize h[i].n.saga = sb at *
       generalize h[i].n.cls = cb at *
       generalize h[i].n.step = tb at *
       generalize h[i].n.back = kb at *
       generalize h[i].n.rd.length = nb at *
       generalize h[i].n.wt.length = mb at *
       generalize h[i].rA = Rb at *
       generalize h[i].rc = rcb at *
       generalize h[i].wA = Vb at *
       generalize h[i].wc = wcb at *
       go_wp2_with fail
       have FD := Lib.hid (F6.out.trans' ((Fr.refl No wr).drew) (fun _ _ e => e))
       cases b
       case false =>
        refine wp_region_held_drew (S := fun V => LdO V 39 ⟨w.heap.size + 1, 0, none⟩ (.agg #[.int .i64 sa, .int .i64 ca, .int .i64 ta, .bool ka, .slice Ra na rca, .slice Va ma wca]) ∧ LdO V 39 (ad.add (i * 6)) (.agg #[.int .i64 sb, .int .i64 cb, .int .i64 tb, .bool kb, .slice Rb nb rcb, .slice Vb mb wcb])) (by kernel_rfl) (HSC.out _ FD.out) (fun hHeld => ?_)
        refine any_tk 39 (.bool false) (i := 0) rfl rfl (by kernel_rfl) (fun _ _ _ h => h) (by rfl) (by intro w hSw; (try dsimp only at hSw); go_simp; try with_reducible rfl) (by assumption) ?_
        simp only [Act.put, szA, szB, szC]
        refine any_tk 40 (.bool false) (i := 1) rfl rfl (by kernel_rfl) (fun _ _ _ h => h) (by rfl) (by intro w hSw; (try dsimp only at hSw); go_simp; try with_reducible rfl) (by assumption) ?_
        simp only [Act.put, szA, szB, szC]
        refine any_sk 41 (i := 2) rfl rfl (by kernel_rfl) (fun _ _ _ h => h) (by rfl) (by assumption) ?_
        simp only [Act.put, szA, szB, szC]
        refine any_sk 42 (i := 3) rfl rfl (by kernel_rfl) (fun _ _ _ h => h) (by rfl) (by assumption) ?_
        simp only [Act.put, szA, szB, szC]
        refine any_sk 43 (i := 4) rfl rfl (by kernel_rfl) (fun _ _ _ h => h) (by rfl) (by assumption) ?_
        simp only [Act.put, szA, szB, szC]
        refine any_sk 44 (i := 5) rfl rfl (by kernel_rfl) (fun _ _ _ h => h) (by rfl) (by assumption) ?_
        simp only [Act.put, szA, szB, szC]
        refine any_sk 45 (i := 6) rfl rfl (by kernel_rfl) (fun _ _ _ h => h) (by rfl) (by assumption) ?_
        simp only [Act.put, szA, szB, szC]
        refine any_sk 46 (i := 7) rfl rfl (by kernel_rfl) (fun _ _ _ h => h) (by rfl) (by assumption) ?_
        simp only [Act.put, szA, szB, szC]
        refine any_sk 47 (i := 8) rfl rfl (by kernel_rfl) (fun _ _ _ h => h) (by rfl) (by assumption) ?_
        simp only [Act.put, szA, szB, szC]
        refine any_tk 48 (.bool false) (i := 9) rfl rfl (by kernel_rfl) (fun _ _ _ h => h) (by rfl) (by intro w hSw; (try dsimp only at hSw); go_simp; try with_reducible rfl) (by assumption) ?_
        simp only [Act.put, szA, szB, szC]
        refine any_tk 8 (.bool false) (i := 10) rfl rfl (by kernel_rfl) (fun _ _ _ h => h) (by rfl) (by intro w hSw; (try dsimp only at hSw); go_simp; try with_reducible rfl) (by assumption) ?_
        simp only [Act.put, szA, szB, szC]
        refine wpAnyH_done (by kernel_rfl) ?_ _
        clear hHeld
        go_wp2
        go_roundw
        case rel => exact ⟨false, i + 1, by omega, rfl, by go_num, FD⟩
        case measure => simp [intOf]; omega
       case true =>
        refine wp_region_held_drew (S := fun V => LdO V 39 ⟨w.heap.size + 1, 0, none⟩ (.agg #[.int .i64 sa, .int .i64 ca, .int .i64 ta, .bool ka, .slice Ra na rca, .slice Va ma wca]) ∧ LdO V 39 (ad.add (i * 6)) (.agg #[.int .i64 sb, .int .i64 cb, .int .i64 tb, .bool kb, .slice Rb nb rcb, .slice Vb mb wcb])) (by kernel_rfl) (HSC.out _ FD.out) (fun hHeld => ?_)
        refine any_tk 39 (.bool true) (i := 0) rfl rfl (by kernel_rfl) (fun _ _ _ h => h) (by rfl) (by intro w hSw; (try dsimp only at hSw); go_simp; try with_reducible rfl) (by assumption) ?_
        simp only [Act.put, szA, szB, szC]
        refine any_tk 40 (.bool true) (i := 1) rfl rfl (by kernel_rfl) (fun _ _ _ h => h) (by rfl) (by intro w hSw; (try dsimp only at hSw); go_simp; try with_reducible rfl) (by assumption) ?_
        simp only [Act.put, szA, szB, szC]
        refine any_tk 41 (.slice (some ad) n c) (i := 2) rfl rfl (by kernel_rfl) (fun _ _ _ h => h) (by rfl) (by intro w hSw; (try dsimp only at hSw); go_simp; try with_reducible rfl) (by assumption) ?_
        simp only [Act.put, szA, szB, szC]
        refine any_tk 42 (.int .i64 (i : Int)) (i := 3) rfl rfl (by kernel_rfl) (fun _ _ _ h => h) (by rfl) (by intro w hSw; (try dsimp only at hSw); go_simp; try with_reducible rfl) (by assumption) ?_
        simp only [Act.put, szA, szB, szC]
        refine any_tk 43 (.pointer (some (ad.add (i * 6)))) (i := 4) rfl rfl (by kernel_rfl) (fun _ _ _ h => h) (by rfl) (by intro w hSw; (try dsimp only at hSw); go_simp; try with_reducible rfl) (by assumption) ?_
        simp only [Act.put, szA, szB, szC]
        refine any_tk 44 (.agg #[.int .i64 sb, .int .i64 cb, .int .i64 tb, .bool kb, .slice Rb nb rcb, .slice Vb mb wcb]) (i := 5) rfl rfl (by kernel_rfl) (fun _ _ _ h => h) (by rfl) (by intro w hSw; exact exec_ld rfl hSw.2) (by assumption) ?_
        simp only [Act.put, szA, szB, szC]
        refine any_tk 45 (.agg #[.int .i64 sa, .int .i64 ca, .int .i64 ta, .bool ka, .slice Ra na rca, .slice Va ma wca]) (i := 6) rfl rfl (by kernel_rfl) (fun _ _ _ h => h) (by rfl) (by intro w hSw; exact exec_ld rfl hSw.1) (by assumption) ?_
        simp only [Act.put, szA, szB, szC]
        refine wpAnyH_ready (rs := [7]) (by kernel_rfl) (by simp) ?_
        refine AllReadyH.cons rfl (fun K' hK => ?_) AllReadyH.nil
        go_simp
        go_at_call 21
        refine (HCi.out _ (HF0.out.trans' FD.out (fun _ _ e => e))).mono ?_
        rintro e' v7 ⟨rfl, g7⟩
        have F7 := Lib.hid (FD.out.trans' g7 (fun _ _ e => e))
        clear g7
        dsimp only
        refine hK.out _ _ (HSC.out _ F7.out) (fun hHeld => ?_)
        clear hK
        try simp only [Act.put, szA, szB, szC]
        refine any_tk 47 (.bool !cf) (i := 8) rfl rfl (by kernel_rfl) (fun _ _ _ h => h) (by rfl) (by intro w hSw; (try dsimp only at hSw); go_simp; try with_reducible rfl) (by assumption) ?_
        simp only [Act.put, szA, szB, szC]
        refine any_tk 48 (.bool !cf) (i := 9) rfl rfl (by kernel_rfl) (fun _ _ _ h => h) (by rfl) (by intro w hSw; (try dsimp only at hSw); go_simp; try with_reducible rfl) (by assumption) ?_
        simp only [Act.put, szA, szB, szC]
        refine any_tk 8 (.bool !cf) (i := 10) rfl rfl (by kernel_rfl) (fun _ _ _ h => h) (by rfl) (by intro w hSw; (try dsimp only at hSw); go_simp; try with_reducible rfl) (by assumption) ?_
        simp only [Act.put, szA, szB, szC]
        refine wpAnyH_done (by kernel_rfl) ?_ _
        clear hHeld
        go_wp2
        go_roundw
        case rel => exact ⟨!cf, i + 1, by omega, rfl, by go_num, F7⟩
        case measure => simp [intOf]; omega
      ·obtain rfl : i = n := by omega
       have x2 := (HC.out wr F6.out).cell 2
       have x3 := (HC.out wr F6.out).cell 3
       have HLw := Lib.hid (HLc.out _ F6.out)
       have HNw := Lib.hid (HS.out _ F6.out)
       have HNx := Lib.hid (HP.out (by first | rfl | trivial) _ (HF0.out.trans' F6.out (fun _ _ e => e)))
       clear HCf HSl HP HC HSB HS HLc HD
       cases ka
       case true =>
        have hq : q = true := Hend.out (by first | rfl | trivial) (by first | rfl | trivial) (.inl rfl)
        subst hq
        go_wp2_with (first
         | ((with_reducible refine wpl_ld ?_ ?_ HLw.out ?_); (· rfl); (· rfl); simp only [Act.put, szA, szB, szC])
         | ((with_reducible refine wpl_ldg ?_ ?_ HLw.out ?_); (· rfl); (· rfl); simp only [Act.put, szA, szB, szC])
         | ((with_reducible refine wpl_ld ?_ ?_ HNw.out ?_); (· rfl); (· rfl); simp only [Act.put, szA, szB, szC])
         | ((with_reducible refine wpl_ldg ?_ ?_ HNw.out ?_); (· rfl); (· rfl); simp only [Act.put, szA, szB, szC]))
        refine (HNx.out).mono ?_
        rintro e w7 ⟨rfl, f7⟩
        go_wp2
        go_ret
        exact ⟨rfl, HF0.out.trans' (F6.out.trans' f7 (fun _ _ e => e)) (fun _ _ e => e)⟩
       case false =>
        cases b
        case false =>
         go_wp2
         go_ret
         exact ⟨rfl, HF0.out.trans' F6.out (fun _ _ e => e)⟩
        case true =>
         by_cases h0 : ta = 0
         ·have hq : q = true := Hend.out (by first | rfl | trivial) (by first | rfl | trivial) (.inr ⟨(by first | rfl | trivial), h0⟩)
          subst hq
          subst h0
          go_wp2_with (first
           | ((with_reducible refine wpl_ld ?_ ?_ HLw.out ?_); (· rfl); (· rfl); simp only [Act.put, szA, szB, szC])
           | ((with_reducible refine wpl_ldg ?_ ?_ HLw.out ?_); (· rfl); (· rfl); simp only [Act.put, szA, szB, szC])
           | ((with_reducible refine wpl_ld ?_ ?_ HNw.out ?_); (· rfl); (· rfl); simp only [Act.put, szA, szB, szC])
           | ((with_reducible refine wpl_ldg ?_ ?_ HNw.out ?_); (· rfl); (· rfl); simp only [Act.put, szA, szB, szC]))
          refine (HNx.out).mono ?_
          rintro e w7 ⟨rfl, f7⟩
          go_wp2
          go_ret
          exact ⟨rfl, HF0.out.trans' (F6.out.trans' f7 (fun _ _ e => e)) (fun _ _ e => e)⟩
         ·have d1 : (ta == 0) = false := by simpa using h0
          go_wp2
          go_ret
          exact ⟨rfl, HF0.out.trans' F6.out (fun _ _ e => e)⟩
theorem lawBack16 (hG : GoodC16) (hX : NextC16) (x : Ctl) (h : List Ndl) (y : Ndl) (A : Option Addr) (n c : Nat) (w : World) (hx : Clss w x.cA x.cls) (hs : Nds w A h) (hy : y.Ok w) (hn : h.length = n) (hnc : n ≤ c) (hnb : n * 80 ≤ 140737488351232) (hncl : x.cls.length ≤ 9223372036854775807) : Calls Tryz.prog 6 #[x.agg, .slice A n c, y.agg] w (Has w true) :=
 rsgBack16_any x h y A n c w hx hs hy hn hnb hncl (fun W _ => aliveG16 hG W) (fun hg => next16 hX x h y A n c w hx hs hy hn hnc hg)
end Go.Proofs.YtdjhdnejeehgnaaGreat
