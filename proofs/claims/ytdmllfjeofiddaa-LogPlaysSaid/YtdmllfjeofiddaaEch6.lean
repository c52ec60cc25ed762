/- Package frames: the frames of words as a stream, one by one. -/
import Derived.RangeFuncBox
import Derived.RangeFuncLeaves
import Derived.RangeFuncNested
import Derived.Shelf.Abstract
import Derived.WalkKit
import Derived.OwnWalkIn
import Derived.TacticsInMore
import Derived.LoopNIn
import Derived.LoopIn
import Derived.Maps.AppendAt
import Derived.Stop.RegionWithIn
import Derived.Sort.CutIn
import Derived.Test.YtdmllfjeofiddaaRng6
import Derived.Test.YtdmllfjeofiddaaGpk6
import Derived.Test.YtdmllfjeofiddaaLsf6
namespace Go.Proofs.Ytdmllfjeofiddaa
open Go.RowKit Go.Shelf

attribute [local go_sem] Oper.semAt_some

/-- What the loop's body keeps: what lay below B, blocks of words, boxes of lists of words, and boxes of numbers but its own. -/
def KpF (B T : Nat) (W W' : World) : Prop := Below B W W' ∧ ∀ g t cs, (t = 40 ∨ t = 36 ∨ (t = 3 ∧ g ≠ T)) → Bk W g t cs → Bk W' g t cs
section
variable {B T : Nat} {X Y Z : World}
theorem KpF.refl (B T : Nat) (W : World) : KpF B T W W := ⟨Below.refl _ _, fun _ _ _ _ h => h⟩
theorem KpF.trans (h : KpF B T X Y) (k : KpF B T Y Z) : KpF B T X Z := ⟨h.1.trans k.1, fun g t cs ht hb => k.2 g t cs ht (h.2 g t cs ht hb)⟩
theorem KpF.putObj {w : World} (hB : B ≤ w.heap.size) (W : World) (l : Nat) (o o' : Obj) (hl : w.heap.size ≤ l) (h : W.heap[l]? = some o) (hc : o.isCells = false) (hw : o.isWalk = false) : KpF B T W (W.putObj l o') :=
  ⟨belowK_b hB W l o o' hl h hc hw, fun g t cs _ hb => by
    refine (World.putObj_heap_other (fun e => ?_)).trans hb
    subst e
    have := (show W.heap[g]? = _ from hb).symm.trans h
    injection this with this
    rw [← this] at hc
    cases hc⟩
theorem KpF.fr0 (h : KpF B T X Y) (hf : Fr No Y Z) (hB : B ≤ Y.heap.size) : KpF B T X Z :=
  ⟨h.1.trans (hf.toBelow hB (fun _ e => e.elim)), fun g t cs ht hb => (h.2 g t cs ht hb).fr hf (fun e => e)⟩
theorem KpF.alloc (h : KpF B T X Y) (hB : B ≤ Y.heap.size) (o : Obj) : KpF B T X (Y.alloc o) := h.fr0 ((Fr.refl _ _).alloc o) hB
end
theorem FrV.Typed.kp {x : FrV} {W W' : World} (h : x.Typed W) (hk : ∀ g cs, Bk W g 40 cs → Bk W' g 40 cs) : x.Typed W' := fun ad e hn => by
  obtain ⟨cs, hcs⟩ := h ad e hn
  exact ⟨cs, hk _ _ hcs⟩
theorem FrV.Fit.kp {x : FrV} {W W' : World} (h : x.Fit W W.heap.size) (ht : x.Typed W) (hk : ∀ g cs, Bk W g 40 cs → Bk W' g 40 cs) : x.Fit W' W'.heap.size := by
  refine ⟨h.k1, h.k2, fun hne => ?_, h.lt, h.cap, h.cap2⟩
  obtain ⟨ad, e, -, hc⟩ := h.sl hne
  obtain ⟨cs, hcs⟩ := ht ad e (u64s_ne hne)
  have h2 := hk _ _ hcs
  refine ⟨ad, e, h2.lt, fun j u hu => ?_⟩
  have hb : W'.heap[ad.block]? = W.heap[ad.block]? := Eq.trans h2 (Eq.symm hcs)
  rw [← hc j u hu]
  exact World.cell?_of_block (w := W) (by rw [block_add]; exact hb)
theorem Fr.grownBy {W W' : World} (h : Fr No W W') : W.grownBy W' none := ⟨h.same.1, h.same.2.1, h.same.2.2, h.size, fun k hk _ => h.block k hk (fun e => e)⟩

/-- A frame that is handed over lies there. -/
def HasF (B : Nat) (x : FrV × Nat) (W : World) : Prop := x.1.Fit W W.heap.size ∧ x.1.Typed W ∧ x.2 ≤ 1073741824 ∧ (∀ ad, x.1.A = some ad → x.1.ws ≠ [] → B ≤ ad.block)
def NewW (n : Nat) (x : FrV) : Prop := ∀ ad, x.A = some ad → x.ws ≠ [] → n ≤ ad.block
theorem NewW.le {m n : Nat} {x : FrV} (h : ∀ ad, x.A = some ad → x.ws ≠ [] → m ≤ ad.block) (hn : n ≤ m) : ∀ ad, x.A = some ad → x.ws ≠ [] → n ≤ ad.block := fun ad e hne => Nat.le_trans hn (h ad e hne)
def encF (x : FrV × Nat) : Array Value := #[x.1.agg, .int .i64 (x.2 : Int)]
def lastE (xs : List (FrV × Nat)) : Nat := (xs.getLast?.map (·.2)).getD 0
theorem lastE_snoc (xs : List (FrV × Nat)) (x : FrV × Nat) : lastE (xs ++ [x]) = x.2 := by simp [lastE]
/-- All that was handed over. -/
def AllG (B : Nat) (ep : Int) (l : List Nat) (xs : List (FrV × Nat)) (W : World) : Prop := Told ep l (xs.map (·.1.f)) (lastE xs) ∧ ∀ x ∈ xs, HasF B x W

theorem HasF.kp {B : Nat} {x : FrV × Nat} {W W' : World} (h : HasF B x W) (hk : ∀ g cs, Bk W g 40 cs → Bk W' g 40 cs) : HasF B x W' := ⟨h.1.kp h.2.1 hk, h.2.1.kp hk, h.2.2⟩
/-- What stands there behind a round's call of Get. -/
def Got6 (wr : World) (r : Option (Frm × Nat)) (s6 s7 s8 : Value) (wx : World) : Prop :=
  ∃ (x : FrV) (q G : Nat), s6 = .pointer (some ⟨G, 0, none⟩) ∧ s7 = .int .i64 q ∧ s8 = .bool r.isSome ∧ Fr No wr wx ∧ Bk wx G 38 #[.int .i64 x.kind, .slice x.A x.ws.length x.c] ∧ x.Fit wx wx.heap.size ∧ x.Typed wx ∧ r.getD (⟨0, []⟩, 0) = (x.f, q) ∧ (∀ ad, x.A = some ad → x.ws ≠ [] → wr.heap.size ≤ ad.block)
theorem Got6.late {wr w1 : World} {r : Option (Frm × Nat)} {x : FrV} {q : Nat} (f1 : Fr No wr.drew w1) (hfit : x.Fit w1 w1.heap.size) (hty : x.Typed w1) (hr : r.getD (⟨0, []⟩, 0) = (x.f, q)) (hnw : ∀ ad, x.A = some ad → x.ws ≠ [] → wr.heap.size ≤ ad.block) :
    Got6 wr r (.pointer (some ⟨w1.heap.size, 0, none⟩)) (.int .i64 q) (.bool r.isSome) (w1.alloc (.cells #[.int .i64 x.kind, .slice x.A x.ws.length x.c] 38)) :=
  ⟨x, q, _, rfl, rfl, rfl, (((Fr.refl No wr).drew).trans' f1 (fun _ _ e => e)).alloc _, Bk.made w1 _ _, hfit.since ((Fr.refl _ _).alloc _), hty.kp (fun _ _ h => h.fr ((Fr.refl No _).alloc _) (fun e => e)), hr, hnw⟩
theorem Got6.early {wr w1 : World} {r : Option (Frm × Nat)} {x : FrV} {q : Nat} (f1 : Fr No (wr.alloc (.cells #[.int .i64 0, .slice none 0 0] 38)).drew w1) (hfit : x.Fit w1 w1.heap.size) (hty : x.Typed w1) (hr : r.getD (⟨0, []⟩, 0) = (x.f, q)) (hnw : ∀ ad, x.A = some ad → x.ws ≠ [] → wr.heap.size ≤ ad.block) :
    Got6 wr r (.pointer (some ⟨wr.heap.size, 0, none⟩)) (.int .i64 q) (.bool r.isSome) ((w1.setCell ⟨wr.heap.size, 0, none⟩ (.int .i64 x.kind)).setCell ⟨wr.heap.size, 1, none⟩ (.slice x.A x.ws.length x.c)) := by
  have bz : Bk w1 wr.heap.size 38 #[.int .i64 0, .slice none 0 0] := (Bk.made wr 38 #[.int .i64 0, .slice none 0 0]).fr (((Fr.refl No _).drew).trans' f1 (fun _ _ e => e)) (fun e => e)
  have fG : Fr (fun k => k = wr.heap.size) w1 ((w1.setCell ⟨wr.heap.size, 0, none⟩ (.int .i64 x.kind)).setCell ⟨wr.heap.size, 1, none⟩ (.slice x.A x.ws.length x.c)) :=
    ((Fr.refl (fun k => k = wr.heap.size) w1).setCell (p := ⟨wr.heap.size, 0, none⟩) (.inl rfl) _).setCell (p := ⟨wr.heap.size, 1, none⟩) (.inl rfl) _
  have hk : ∀ g cs, Bk w1 g 40 cs → Bk ((w1.setCell ⟨wr.heap.size, 0, none⟩ (.int .i64 x.kind)).setCell ⟨wr.heap.size, 1, none⟩ (.slice x.A x.ws.length x.c)) g 40 cs := fun _ _ h => h.fr fG (h.apart bz (by decide))
  refine ⟨x, q, _, rfl, rfl, rfl, ?_, ?_, hfit.kp hty hk, hty.kp hk, hr, hnw⟩
  · exact (((((Fr.refl No wr).alloc _).drew).trans' f1 (fun _ _ e => e)).setCell (p := ⟨wr.heap.size, 0, none⟩) (.inr (Nat.le_refl _)) _).setCell (p := ⟨wr.heap.size, 1, none⟩) (.inr (Nat.le_refl _)) _
  · have := (bz.put 0 (.int .i64 x.kind)).put 1 (.slice x.A x.ws.length x.c)
    simpa using this

set_option maxRecDepth 100000 in
set_option maxHeartbeats 4000000 in
theorem each1_in (n lp bl be T : Nat) (ep : Int) (he : -9223372036854775808 ≤ ep ∧ ep < 9223372036854775808) (l : List Nat) (h64 : ∀ u ∈ l, u < 18446744073709551616) (m : Nat) (A : Option Addr) (c : Nat) (w W : World) (h : Sl w w.heap.size A (u64s l)) (hw : Below w.heap.size w W) (hm : l.length = m) (hmc : m ≤ c) (hc : c ≤ maxLen) (hlen : m ≤ 1073741824)
    (J : List (FrV × Nat) → World → Prop) (hn : 1 ≤ n) (hJa : AbidesFrom W.heap.size J) (hT : be ≠ T)
    (hY : ∀ pre x V, J pre V → HasF w.heap.size x V → pre.length < 1073741824 → YieldAt Fence.wide (n - 1) Try.prog lp (encF x) V fun e V' => e = .returned (.bool true) ∧ J (pre ++ [x]) V' ∧ KpF w.heap.size T V V')
    (b1 : Bk W be 3 #[.int .i64 ep]) (b2 : Bk W bl 36 #[.slice A m c]) (h0 : J [] W) :
    CallsIn Fence.wide n Try.prog 62 #[.func (.yield lp) #[] #[], .pointer (some ⟨be, 0, none⟩), .pointer (some ⟨bl, 0, none⟩)] W fun e V => (∃ v, e = .returned v) ∧ ∃ xs, AllG w.heap.size ep l xs V ∧ J xs V := by
  have Hm := Lib.hid hm
  have H64 := Lib.hid h64
  have hcap : c ≤ 9223372036854775807 := hc
  have He := Lib.hid he
  have Hs := Lib.hid (fun V (hV : KpF w.heap.size T W V) => show Sl V V.heap.size A (u64s l) from
    (h.fr (S := fun _ => False) (Fr.ofBelow (hw.trans hV.1) _) (Nat.le_refl _) (fun _ _ _ e => e)).more (hw.trans hV.1).size)
  have Hb1 := Lib.hid (fun V (hV : KpF w.heap.size T W V) => hV.2 be _ _ (.inr (.inr ⟨rfl, hT⟩)) b1)
  have Hb2 := Lib.hid (fun V (hV : KpF w.heap.size T W V) => hV.2 bl _ _ (.inr (.inl rfl)) b2)
  have hwW := hw.size
  have HwW := Lib.hid hwW
  clear hm h64 hc h b1 b2 hT hw he hwW
  refine callsIn_of_wp Try.func62 rfl trivial ?_ rfl
  simp only [Try.ntmps62, List.size_toArray, List.length_cons, List.length_nil, Nat.reduceAdd, Nat.reduceSub, Array.replicate_succ, Array.replicate_zero, List.push_toArray, List.append_toArray, List.nil_append, List.cons_append]
  gi_wp2
  gi_loopw [4, 5] (fun ev nv wr => ∃ (xs : List (FrV × Nat)) (k z : Nat), Hid (z = xs.length) ∧ ev = .int .i64 k ∧ nv = .int .i64 z ∧ k ≤ m ∧ z ≤ k ∧ Hid (k = lastE xs) ∧ Hid (stepsF ep l z = some (xs.map (·.1.f), k)) ∧ Hid (∀ x ∈ xs, HasF w.heap.size x wr) ∧ Hid (J xs wr) ∧ Hid (KpF w.heap.size T W wr)) (fun ev _ _ => m - (intOf ev).toNat)
  case atStart => exact ⟨[], 0, 0, Lib.hid rfl, rfl, rfl, by omega, by omega, Lib.hid rfl, Lib.hid rfl, Lib.hid (by simp), Lib.hid h0, Lib.hid (KpF.refl _ _ _)⟩
  case round =>
    obtain ⟨xs, k, z, Hz, rfl, rfl, hk, hzk, Hk, Hst, Hx, HJ, HK⟩ := hrel
    have x0 := (Hb1.out wr HK.out).cell 0
    have x1 := (Hb2.out wr HK.out).cell 0
    simp at x0 x1
    have hdl : Hid ((l.drop k).length = m - k) := Lib.hid (by rw [List.length_drop, Hm.out])
    have Hl64 : Hid (∀ u ∈ l.drop k, u < 18446744073709551616) := Lib.hid (fun u hu => H64.out u (List.mem_of_mem_drop hu))
    have Hsl := Lib.hid (fun V (hV : Fr No wr V) => drop_sl ((Hs.out wr HK.out).since hV) Hm.out hmc hk)
    obtain ⟨r, Hr⟩ : ∃ r, Hid (getF ep z (l.drop k) = r) := ⟨_, Lib.hid rfl⟩
    obtain ⟨a2, Ha2⟩ : ∃ a2, Hid (a2 = if c = k then A else A.map (·.add k)) := ⟨_, Lib.hid rfl⟩
    have HgA : Hid (∀ V, Fr No wr V → Calls Try.prog 63 #[.int .i64 ep, .int .i64 (z : Int), .slice a2 (m - k) (c - k)] V (GotP V r)) := Lib.hid (by
      intro V hV
      have q := Hsl.out V hV
      rw [← Ha2.out] at q
      have := get_any ep z He.out (by omega) (l.drop k) Hl64.out (m - k) a2 (c - k) V q hdl.out (by omega) (by unfold maxLen; omega)
      rw [Hr.out] at this
      exact this)
    have bZ := Lib.hid (fun V (hV : Fr No (wr.drew.alloc (.cells #[.int .i64 0, .slice none 0 0] 38)) V) => (Bk.made wr.drew 38 #[.int .i64 0, .slice none 0 0]).fr hV (fun e => e))
    have HkA := Lib.hid hk
    clear Hsl
    by_cases hck : c = k
    all_goals
      gi_wp2_with fail
      gi_cut [6, 7, 8] from 11 (fun s6 s7 s8 wx => Got6 wr r s6 s7 s8 wx)
      case first =>
        first
          | (have Ha3 : a2 = A := by rw [Ha2.out, if_pos hck]
             have e0 : c - k = 0 := by omega
             rw [Ha3, e0] at HgA)
          | (have Ha3 : a2 = A.map (·.add k) := by rw [Ha2.out, if_neg hck]
             rw [Ha3] at HgA)
        clear Ha3
        have x2 : (wr.alloc (.cells #[.int .i64 0, .slice none 0 0] 38)).cell? ⟨be, 0, none⟩ = some (.int .i64 ep) := (Hb1.out _ (HK.out.alloc (Nat.le_trans HwW.out HK.out.1.size) _)).cell 0
        have x3 : (wr.alloc (.cells #[.int .i64 0, .slice none 0 0] 38)).cell? ⟨bl, 0, none⟩ = some (.slice A m c) := (Hb2.out _ (HK.out.alloc (Nat.le_trans HwW.out HK.out.1.size) _)).cell 0
        first | gi_region_with (first
          | (refine ⟨trivial, ?_⟩
             gi_at_call 63
             refine (callsIn_wide.2 (HgA.out _ (by first | exact Fr.refl _ _ | exact (Fr.refl _ _).drew | exact ((Fr.refl _ _).drew).alloc _))).mono ?_
             rintro e w1 ⟨⟨xk, xA, xw, xc⟩, q, rfl, f1, hfit, hnw, hty, hr⟩
             have hnw := NewW.le (n := wr.heap.size) hnw (Fr.size (S := No) (a := wr) (by first | exact Fr.refl _ _ | exact (Fr.refl _ _).drew | exact ((Fr.refl _ _).drew).alloc _))
             unfold FrV.agg
             try (have bz := bZ.out w1 f1
                  have z0 : w1.cell? ⟨wr.heap.size, 0, none⟩ = some (.int .i64 0) := bz.cell 0
                  have z1 : w1.cell? ⟨wr.heap.size, 1, none⟩ = some (.slice none 0 0) := bz.cell 1
                  have y0 : w1.frozen? ⟨wr.heap.size, 0, none⟩ = false := bz.frozen 0
                  have y1 : w1.frozen? ⟨wr.heap.size, 1, none⟩ = false := bz.frozen 1))) | fail
        all_goals
          gi_wp2
          gi_meet
          first
            | with_reducible exact Got6.late f1 hfit hty hr hnw
            | with_reducible exact Got6.early f1 hfit hty hr hnw
      case rest =>
        obtain ⟨⟨xk, xA, xw, xc⟩, q, G, rfl, rfl, rfl, hF, hB, hfit, hty, hr, hnw⟩ := hcut
        have hJ1 := hJa _ _ _ none HJ.out hF.grownBy (fun r e => by cases e)
        have hK1 := HK.out.fr0 hF (Nat.le_trans HwW.out HK.out.1.size)
        have hX1 : ∀ y ∈ xs, HasF w.heap.size y _ := fun y hy => (Hx.out y hy).kp (fun g cs h => h.fr hF (fun e => e))
        have HJ1 := Lib.hid hJ1
        have HK1 := Lib.hid hK1
        have HX1 := Lib.hid hX1
        have c0 := hB.cell 0
        have c1 := hB.cell 1
        simp at c0 c1
        have HBB := Lib.hid hB
        clear hJ1 hK1 hX1 hB x0 x1 bZ HgA
        cases r with
        | none =>
          simp only [Option.getD_none, Prod.mk.injEq] at hr
          obtain ⟨-, rfl⟩ := hr
          gi_wp2
          refine ⟨fun _ h => (by cases h), ?_⟩
          gi_wp2
          refine bodyPost_ret (results_none rfl _ _ _) rfl ?_
          exact ⟨⟨_, rfl⟩, xs, ⟨⟨by simp only [List.length_map]; rw [← Hz.out, ← Hk.out]; exact Hst.out, by simp only [List.length_map]; rw [← Hz.out, ← Hk.out]; exact Hr.out⟩, HX1.out⟩, HJ1.out⟩
        | some fq =>
          simp only [Option.getD_some] at hr
          subst hr
          have hgl := getF_len Hr.out
          have hq1 : 1 ≤ q := hgl.2.2.1
          have hq2 : k + q ≤ m := by have := hgl.2.1; rw [hdl.out] at this; have := HkA.out; omega
          have hx : HasF w.heap.size (⟨xk, xA, xw, xc⟩, k + q) _ := ⟨hfit, hty, by show k + q ≤ 1073741824; omega, fun ad e hn => Nat.le_trans (Nat.le_trans HwW.out HK.out.1.size) (hnw ad e hn)⟩
          obtain ⟨fn, tmps, assign, body, hy, hR⟩ := hY xs (⟨xk, xA, xw, xc⟩, k + q) _ HJ1.out hx (by rw [← Hz.out]; omega)
          have Hst1 : Hid (stepsF ep l (z + 1) = some ((xs ++ [((⟨xk, xA, xw, xc⟩ : FrV), k + q)]).map (fun x : FrV × Nat => x.1.f), k + q)) := Lib.hid (by
            have := stepsF_succ (e := ep) (l := l) (fs := xs.map (·.1.f)) (k := k) (by simp only [List.length_map]; rw [← Hz.out]; exact Hst.out) (f := FrV.f ⟨xk, xA, xw, xc⟩) (m := q) (by simp only [List.length_map]; rw [← Hz.out]; exact Hr.out)
            simp only [List.length_append, List.length_map, List.length_singleton] at this
            rw [← Hz.out] at this
            rw [List.map_append]
            exact this)
          have Hxx := Lib.hid hx
          unfold encF FrV.agg at hy
          dsimp only at hy
          push_cast at hy
          clear hgl hfit hty hx hnw
          gi_wp2
          refine hR.mono ?_
          rintro e W3 ⟨rfl, hJ3, hk3⟩
          have hK3 := HK1.out.trans hk3
          have hX3 : ∀ y ∈ xs ++ [((⟨xk, xA, xw, xc⟩ : FrV), k + q)], HasF w.heap.size y W3 := fun y hy => by
            have hkk : ∀ g cs, Bk _ g 40 cs → Bk W3 g 40 cs := fun g cs h => hk3.2 g _ cs (.inl rfl) h
            rcases List.mem_append.1 hy with hy | hy
            · exact (HX1.out y hy).kp hkk
            · rw [List.mem_singleton.1 hy]
              exact Hxx.out.kp hkk
          have HJ3 := Lib.hid hJ3
          have HX3 := Lib.hid hX3
          have HK3 := Lib.hid hK3
          clear hR hy hk3 hJ3 hX3 hK3 c0 c1
          gi_wp2
          go_roundw
          case rel => exact ⟨xs ++ [(⟨xk, xA, xw, xc⟩, k + q)], k + q, z + 1, Lib.hid (by simp [Hz.out]), by go_num, by go_num, hq2, by omega, Lib.hid (by rw [lastE_snoc]), Hst1, HX3, HJ3, HK3⟩
          case measure => simp [intOf]; omega
end Go.Proofs.Ytdmllfjeofiddaa
