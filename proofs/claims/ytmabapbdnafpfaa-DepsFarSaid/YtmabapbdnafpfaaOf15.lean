/- Package deps: what each node of a history depends on. -/
import Derived.Test.YtmabapbdnafpfaaNxt15
import Derived.Deep.RegionLaw
namespace Go.Proofs.Ytmabapbdnafpfaa
open Go.RowKit

theorem step_append_one15 {P : Program} {w : World} {ops : Array Oper} {o : Oper} {a : Act} {K : Act → World → Prop} {Q : Exit → Act → World → Prop} {E : Prop} (hgd : o.guard = none) (s x : Operand) (t : TypeId)
    (ho : o.op = .call { callee := .builtin .append, args := #[s, x], argTypes := #[t, t] })
    (base : Nat) (e : TypeId) (z : Value) (size bytes : Nat) (ht : P.underlying t = some (.slice e)) (hinfo : (P.info? e).map (fun i => (i.zero, i.size, i.bytes)) = some (some z, size, bytes)) (hzs : z.cells.size = size) (hsz : 0 < size)
    (v : Value) (n : Nat) (xs : List Value) (us : Array Value) (hus : us.size = size) (hu : ∀ u ∈ us.toList, u.oneCell' = true) (hs : a.eval s = v) (H : Nat) (hH : w.heap.size = H) (hx : a.eval x = .slice (some ⟨H, 0, none⟩) 1 1) (hown : w.ownsRow base e size v n xs)
    (h63 : n + 1 ≤ maxLen) (hbytes : (n + 1) * bytes ≤ 140737488355328) (hbase : base ≤ w.heap.size)
    (h : ∀ A' c' w', w'.ownsRow base e size (.slice A' (n + 1) c') (n + 1) (xs ++ us.toList) → Fr (fun k => v.ownBlock = some k) w w' → K (a.put o.dst (.slice A' (n + 1) c')) w') :
    if Region.wanted o (yielded ops a.tmps) = true then Oper.wp P o a (w.alloc (.cells us e)) K Q else E := by
  subst hH
  obtain ⟨i, hi, hz, hz1, hz2⟩ := info_parts hinfo
  refine step_append_src _ hgd s x t ho base e i z size bytes ht hi hz hz1 hz2 hzs hsz v n xs hs (hown.alloc _) (w.heap.size + 1) _ 1 1 us.toList hx (by simp [hus]) (Sl.made w e us) hu h63 hbytes (by simp; omega) ?_
  intro v' w' q1 q2 q3
  obtain ⟨A', c', rfl, -, -, -⟩ := own_shape q1
  exact h A' c' w' q1 (((Fr.refl _ w).alloc _).grown q2 (fun k hk => .inl hk))
theorem info_il15 : (Try.prog.info? 31).map (fun i => (i.zero, i.size, i.bytes)) = some (some (.slice none 0 0), 1, 24) := by kernel_rfl
/-- Lists of lists of numbers that lie in rows of the call's own. -/
structure Own15 (w : World) (B : Nat) (A : Option Addr) (c : Nat) (ls : List IL) : Prop where
  row : w.ownsRow B 31 1 (.slice A ls.length c) ls.length (ls.map IL.cell)
  all : ∀ x ∈ ls, w.ownsRow B 3 1 x.cell x.l.length (nums x.l)
theorem Own15.ils {w : World} {B : Nat} {A : Option Addr} {c : Nat} {ls : List IL} (h : Own15 w B A c ls) : Ils w A ls := ⟨Sl.ofOwn h.row, fun x hx => Sl.ofOwn (h.all x hx)⟩
theorem Own15.fr {w W : World} {B : Nat} {A : Option Addr} {c : Nat} {ls : List IL} (h : Own15 w B A c ls) (hf : Fr No w W) : Own15 W B A c ls := ⟨own_fr h.row hf (fun _ _ e => e), fun x hx => own_fr (h.all x hx) hf (fun _ _ e => e)⟩
theorem Own15.nil (w : World) (B : Nat) : Own15 w B none 0 [] := ⟨World.ownsRow_nil _ _ _ _, fun x hx => by cases hx⟩
theorem Own15.app {w W : World} {B : Nat} {A A' : Option Addr} {c c' : Nat} {ls : List IL} {x : IL} (h : Own15 w B A c ls) (hx : w.ownsRow B 3 1 x.cell x.l.length (nums x.l))
    (hr : W.ownsRow B 31 1 (.slice A' (ls.length + 1) c') (ls.length + 1) (ls.map IL.cell ++ [x.cell])) (hf : Fr (fun k => (Value.slice A ls.length c).ownBlock = some k) w W) : Own15 W B A' c' (ls ++ [x]) := by
  refine ⟨?_, fun y hy => ?_⟩
  · rw [List.length_append, List.length_singleton, List.map_append]
    exact hr
  · have hy2 : w.ownsRow B 3 1 y.cell y.l.length (nums y.l) := by
      rcases List.mem_append.1 hy with hy | hy
      · exact h.all y hy
      · rw [List.mem_singleton.1 hy]; exact hx
    exact own_fr hy2 hf (fun k hk e => own_types hy2 h.row (by decide) hk e)
theorem take_flat15 {α : Type} (f : α → List Value) (m : Nat) (hm : ∀ x, (f x).length = m) (l : List α) (j : Nat) : (l.take j).flatMap f = (l.flatMap f).take (j * m) := by
  induction l generalizing j with
  | nil => simp
  | cons x r ih =>
    cases j with
    | zero => simp
    | succ j =>
      have e : (j + 1) * m = m + j * m := by rw [Nat.succ_mul]; omega
      have h := hm x
      rw [List.take_succ_cons, List.flatMap_cons, List.flatMap_cons, ih, e]
      generalize f x = u at *
      generalize j * m = i
      subst h
      exact (List.take_length_add_append i).symm
theorem Nds.take15 {w : World} {A : Option Addr} {l : List Ndl} (h : Nds w A l) (j : Nat) : Nds w A (l.take j) :=
  ⟨by rw [take_flat15 Ndl.cells 6 Ndl.cells_len]; exact h.sl.take _, fun x hx => h.all x (List.mem_of_mem_take hx)⟩
/-- What next tells, of a beginning of a history and the node behind it. -/
theorem nextAt15 (h : List Ndl) (A : Option Addr) (c : Nat) (w : World) (hs : Nds w A h) (hnm : h.length ≤ 1048576)
    (hC : ∀ (a b : Nat) (ha : a < h.length) (hb : b < h.length) W, Fr No w W → Calls Try.prog 29 #[h[a].agg, h[b].agg] W (Has W (confN h[a].n h[b].n)))
    (i : Nat) (hi : i < h.length) (ls : List IL) (L : Option Addr) (lc B : Nat) (hO : OfL (ndsOf (h.take i)) ls) (W : World) (hW : Fr No w W) (hI : Own15 W B L lc ls) (hB : B ≤ W.heap.size) :
    Calls Try.prog 19 #[.slice L i lc, .slice A i c, h[i].agg] W fun e w' =>
      ∃ x : IL, e = .returned x.cell ∧ w'.ownsRow B 3 1 x.cell x.l.length (nums x.l) ∧ OfL (ndsOf (h.take (i + 1))) (ls ++ [x]) ∧ Fr No W w' := by
  have hl : (h.take i).length = i := by rw [List.length_take]; omega
  refine (next15 (h.take i) A i c h[i] ls L lc W ((hs.since hW).take15 i) hl (by omega) hI.ils hO (fun x V hV => ?_)).mono ?_
  · have hx : x.1 < i := by have := x.2; omega
    have hxh : x.1 < h.length := by omega
    have e : (h.take i)[x.1]'x.2 = h[x.1] := List.getElem_take
    rw [e]
    exact direct15 h[i] h[x.1] V (fun U hU => hC i x.1 hi hxh U ((hW.trans' (Fr.ofBelow hV No) (fun _ _ e => e)).trans' hU (fun _ _ e => e)))
  · rintro e w' ⟨A', c', rfl, hr, hf⟩
    refine ⟨⟨A', depL (ndsOf (h.take i) ++ [h[i].n]) i, c'⟩, rfl, own_base hr hB, ?_, hf⟩
    have e2 : (ndsOf (h.take i)).length = i := by rw [ndsOf_len, hl]
    rw [take_snoc_nd h hi]
    exact hO.more _ _ (by rw [e2])
set_option maxRecDepth 100000 in
set_option maxHeartbeats 8000000 in
theorem of15 (h : List Ndl) (A : Option Addr) (n c : Nat) (w : World) (hs : Nds w A h) (hn : h.length = n) (hnm : n ≤ 1048576) (hnc : n ≤ c)
    (hC : ∀ (a b : Nat) (ha : a < h.length) (hb : b < h.length) W, Fr No w W → Calls Try.prog 29 #[h[a].agg, h[b].agg] W (Has W (confN h[a].n h[b].n))) :
    Calls Try.prog 10 #[.slice A n c] w fun e w' => ∃ L ls lc, e = .returned (.slice L ls.length lc) ∧ Own15 w' w.heap.size L lc ls ∧ OfL (ndsOf h) ls ∧ Fr No w w' := by
  have Hnx := Lib.hid (fun i hi ls L lc hO W hW hI => nextAt15 h A c w hs (by omega) hC i hi ls L lc w.heap.size hO W hW hI hW.size)
  have Hnd := Lib.hid (fun (k : Nat) (hk : k < h.length) W (hW : Fr No w W) => (hs.since hW).sl.nd hk)
  have Hn := Lib.hid hn
  have Hfin := Lib.hid (fun (i : Nat) (hi : i = h.length) => show ndsOf (h.take i) = ndsOf h by rw [hi, List.take_length])
  have Hlen := Lib.hid (fun (i : Nat) (hi : i ≤ h.length) (ls : List IL) (hO : OfL (ndsOf (h.take i)) ls) => show ls.length = i by rw [hO.len, ndsOf_len, List.length_take]; omega)
  have Hagg := Lib.hid (fun (i : Nat) (hi : i < h.length) => show h[i].agg = .agg #[.int .i64 h[i].n.saga, .int .i64 h[i].n.cls, .int .i64 h[i].n.step, .bool h[i].n.back, .slice h[i].rA h[i].n.rd.length h[i].rc, .slice h[i].wA h[i].n.wt.length h[i].wc] from rfl)
  clear hs hn hC
  go_enter Try.func10, Try.ntmps10
  go_wp2
  go_loopw [3, 8] (fun lv iv wr => ∃ (i : Nat) (L : Option Addr) (lc : Nat) (ls : List IL), i ≤ n ∧ lv = .slice L i lc ∧ iv = .int .i64 (i : Int) ∧ ls.length = i ∧ Hid (Own15 wr w.heap.size L lc ls) ∧ Hid (OfL (ndsOf (h.take i)) ls) ∧ Hid (Fr No w wr)) (fun _ iv _ => n - (intOf iv).toNat)
  case atStart => exact ⟨0, none, 0, [], Nat.zero_le _, rfl, rfl, rfl, Lib.hid (Own15.nil _ _), Lib.hid OfL.nil, Lib.hid (Fr.refl _ _)⟩
  case round =>
    obtain ⟨i, L, lc, ls, hi, rfl, rfl, hls, hI, hO, hfr⟩ := hrel
    by_cases hlt : i < n
    · have hil : i < h.length := by rw [Hn.out]; exact hlt
      have hin : ((i : Nat) : Int) < (n : Int) := by omega
      have hic : ((i : Nat) : Int) ≤ (c : Int) := by omega
      obtain ⟨ad, rfl, hab, a0, a1, a2, a3, a4, a5⟩ := Hnd.out i hil wr hfr.out
      have hag := Hagg.out i hil
      obtain ⟨W1, hW1⟩ : ∃ W1, W1 = wr.alloc (.cells #[.int .i64 h[i].n.saga, .int .i64 h[i].n.cls, .int .i64 h[i].n.step, .bool h[i].n.back, .slice h[i].rA h[i].n.rd.length h[i].rc, .slice h[i].wA h[i].n.wt.length h[i].wc] 27) := ⟨_, rfl⟩
      have f1 : Fr No wr W1 := by rw [hW1]; exact (Fr.refl _ _).alloc _
      have f1d : Fr No wr W1.drew := f1.drew
      have D1 : Hid (Fr No w W1.drew) := Lib.hid (hfr.out.trans' f1d (fun _ _ e => e))
      have HI1 := Lib.hid (hI.out.fr f1d)
      have hC1 := Lib.hid (Hnx.out i hil ls L lc hO.out W1.drew D1.out HI1.out)
      rw [hag] at hC1
      have bx : Bk W1.drew wr.heap.size 27 #[.int .i64 h[i].n.saga, .int .i64 h[i].n.cls, .int .i64 h[i].n.step, .bool h[i].n.back, .slice h[i].rA h[i].n.rd.length h[i].rc, .slice h[i].wA h[i].n.wt.length h[i].wc] := by rw [hW1]; exact Bk.made _ _ _
      have y0 := bx.cell 0
      have y1 := bx.cell 1
      have y2 := bx.cell 2
      have y3 := bx.cell 3
      have y4 := bx.cell 4
      have y5 := bx.cell 5
      simp only [List.getElem?_toArray, List.getElem?_cons_zero, List.getElem?_cons_succ] at y0 y1 y2 y3 y4 y5
      have hwe := hW1.symm
      clear hW1 f1 f1d bx hI hO hfr hag Hnx Hnd Hfin Hagg
      generalize h[i] = y at *
      go_wp2_with fail
      go_region_law (first
        | (refine step_append_one15 rfl _ _ 29 rfl w.heap.size 31 (.slice none 0 0) 1 24 Try.underlying29 info_il15 rfl (by omega) (.slice L i lc) i (ls.map IL.cell) #[.slice xA xn xc] rfl (by intro u hu; simp at hu; subst hu; rfl) rfl w4.heap.size rfl rfl (by have q := K1.out.row; rw [hls] at q; exact q) (by unfold maxLen; omega) (by omega) (by exact hsz4) ?_
           intro A' c' w5 o5 f5
           have HI5 : Hid (Own15 w5 w.heap.size A' c' (ls ++ [⟨xA, xl, xc⟩])) := Lib.hid (K1.out.app HX.out (by rw [hls]; have e := HXn.out; unfold IL.cell; rw [e]; exact o5) (by rw [hls]; exact f5))
           have HF5 : Hid (Fr No w w5) := Lib.hid (F4.out.trans' f5 (fun k hk e => by have := K1.out.row.lt k (by rw [hls]; exact e); omega)))
        | (go_simp
           go_at_call 19
           refine (hC1.out).mono ?_
           rintro e w4 ⟨⟨xA, xl, xc⟩, rfl, hx, hox, f4⟩
           have F4 := Lib.hid (D1.out.trans' f4 (fun _ _ e => e))
           have hsz4 := F4.out.size
           have K1 := Lib.hid (HI1.out.fr f4)
           have HX := Lib.hid hx
           have HO5 := Lib.hid hox
           unfold IL.cell
           obtain ⟨xn, hxn⟩ : ∃ n, xl.length = n := ⟨_, rfl⟩
           dsimp only
           rw [hxn]
           have HXn := Lib.hid hxn
           clear hx hox f4 hxn))
      all_goals
        go_wp2
        go_roundw
        case rel => exact ⟨i + 1, A', c', ls ++ [⟨xA, xl, xc⟩], by omega, rfl, by go_num, by simp [hls], HI5, HO5, HF5⟩
        case measure => simp [intOf]; omega
    · obtain rfl : i = n := by omega
      have HF := Lib.hid (Hfin.out i Hn.out.symm)
      rw [HF.out] at hO
      clear Hnx Hnd Hfin Hlen Hagg HF
      subst hls
      go_wp2
      go_ret
      exact ⟨L, ls, lc, rfl, hI.out, hO.out, hfr.out⟩
end Go.Proofs.Ytmabapbdnafpfaa
