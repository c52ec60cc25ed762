/- Lists of frames: how they lie there, one more behind them; the document's All, Same. -/
import Derived.Test.YtinfeollcmfjeaaGet6
namespace Go.Proofs.Ytinfeollcmfjeaa
open Go.RowKit

/-- A list of frames that is new since w0; the frames' words lie in other blocks. -/
structure FrsO (w0 w : World) (A : Option Addr) (c : Nat) (xs : List FrV) : Prop where
  own : w.ownsRow w0.heap.size 24 2 (.slice A xs.length c) xs.length (xs.flatMap FrV.cells)
  fit : ∀ x ∈ xs, x.Fit w w.heap.size
  apart : ∀ x ∈ xs, ∀ ad, x.A = some ad → x.ws ≠ [] → (Value.slice A xs.length c).ownBlock ≠ some ad.block
  fr : Fr No w0 w
theorem FrsO.nil (w0 w : World) (h : Fr No w0 w) : FrsO w0 w none 0 [] := ⟨World.ownsRow_nil _ _ _ _, by simp, by simp, h⟩
theorem FrsO.since {w0 w W : World} {A : Option Addr} {c : Nat} {xs : List FrV} (h : FrsO w0 w A c xs) (hf : Fr No w W) : FrsO w0 W A c xs :=
  ⟨own_fr h.own hf (fun _ _ e => e), fun x hx => (h.fit x hx).since hf, h.apart, h.fr.trans' hf (fun _ _ e => e)⟩
theorem FrsO.frs {w0 w : World} {A : Option Addr} {c : Nat} {xs : List FrV} (h : FrsO w0 w A c xs) : Frs w A xs := ⟨Sl.ofOwn h.own, h.fit⟩
theorem FrsO.cap {w0 w : World} {A : Option Addr} {c : Nat} {xs : List FrV} (h : FrsO w0 w A c xs) : xs.length ≤ c ∧ c ≤ maxLen := by
  obtain ⟨A3, c3, hv3, hc3, hc4, -⟩ := own_shape h.own
  injection hv3 with _ _ h3
  omega
theorem info_frame : (Try.prog.info? 24).map (fun i => (i.zero, i.size, i.bytes)) = some (some (.agg #[.int .i64 0, .slice none 0 0]), 2, 32) := by kernel_rfl
theorem FrsO.snoc {w0 w w' : World} {A A' : Option Addr} {c c' : Nat} {xs : List FrV} {x : FrV} (h : FrsO w0 w A c xs) (hx : x.Fit w w.heap.size)
    (ha : ∀ ad, x.A = some ad → x.ws ≠ [] → (Value.slice A xs.length c).ownBlock ≠ some ad.block)
    (q1 : w'.ownsRow w0.heap.size 24 2 (.slice A' (xs.length + 1) c') (xs.length + 1) (xs.flatMap FrV.cells ++ x.cells)) (q2 : Fr (fun k => (Value.slice A xs.length c).ownBlock = some k) w w')
    (q3 : (Value.slice A' (xs.length + 1) c').ownBlock = (Value.slice A xs.length c).ownBlock ∨ ∃ k, (Value.slice A' (xs.length + 1) c').ownBlock = some k ∧ w.heap.size ≤ k) : FrsO w0 w' A' c' (xs ++ [x]) := by
  have e1 : (xs ++ [x]).length = xs.length + 1 := by simp
  have e2 : (xs ++ [x]).flatMap FrV.cells = xs.flatMap FrV.cells ++ x.cells := by simp
  have hfit : ∀ y : FrV, y.Fit w w.heap.size → (∀ ad, y.A = some ad → y.ws ≠ [] → (Value.slice A xs.length c).ownBlock ≠ some ad.block) → y.Fit w' w'.heap.size ∧
      (∀ ad, y.A = some ad → y.ws ≠ [] → (Value.slice A' (xs ++ [x]).length c').ownBlock ≠ some ad.block) := by
    intro y hy hya
    refine ⟨⟨hy.k1, hy.k2, (hy.sl.fr q2 (Nat.le_refl _) (fun ad e hn => hya ad e (u64s_ne hn))).more q2.size, hy.lt, hy.cap, hy.cap2⟩, fun ad e hn => ?_⟩
    rw [e1]
    rcases q3 with q3 | ⟨k, q3, hk⟩
    · rw [q3]
      exact hya ad e hn
    · rw [q3]
      intro e3
      injection e3 with e3
      obtain ⟨ad2, e4, hlt, -⟩ := hy.sl (by intro e5; apply hn; simpa [u64s] using e5)
      rw [e] at e4
      injection e4 with e4
      subst e4
      omega
  refine ⟨by rw [e1, e2]; exact q1, fun y hy => ?_, fun y hy => ?_, h.fr.trans' q2 (fun k hk e => by have := (h.own.lt k e).1; omega)⟩
  · rcases List.mem_append.1 hy with hy | hy
    · exact (hfit y (h.fit y hy) (h.apart y hy)).1
    · rw [List.mem_singleton.1 hy]
      exact (hfit x hx ha).1
  · rcases List.mem_append.1 hy with hy | hy
    · exact (hfit y (h.fit y hy) (h.apart y hy)).2
    · rw [List.mem_singleton.1 hy]
      exact (hfit x hx ha).2
/-- A new frame behind a list of frames, as one step of the walk. -/
theorem app_frame {w0 w : World} {ops : Array Oper} {rest : List Oper} {o : Oper} {a : Act} {Q : Exit → Act → World → Prop} (hgd : o.guard = none) (s x : Operand)
    (ho : o.op = .call { callee := .builtin .append, args := #[s, x], argTypes := #[27, 27] })
    (A : Option Addr) (c : Nat) (xs : List FrV) (y : FrV) (n : Nat) (hn : n = xs.length) (hs : a.eval s = .slice A n c) (H : Nat) (hH : w.heap.size = H) (hx : a.eval x = .slice (some ⟨H, 0, none⟩) 1 1) (h : FrsO w0 w A c xs) (hy : y.Fit w w.heap.size)
    (ha : ∀ ad, y.A = some ad → y.ws ≠ [] → (Value.slice A xs.length c).ownBlock ≠ some ad.block) (hlen : n ≤ 1099511627776)
    (hK : ∀ A' c' w', FrsO w0 w' A' c' (xs ++ [y]) → Fr No w0 w' → Fr (fun k => (Value.slice A n c).ownBlock = some k) w w' → wpList Try.prog ops Q rest (a.put o.dst (.slice A' (n + 1) c')) w') :
    wpList Try.prog ops Q (o :: rest) a (w.alloc (.cells #[.int .i64 y.kind, .slice y.A y.ws.length y.c] 24)) := by
  subst hn
  refine wpList_append_elem hgd s x _ ho w0.heap.size 24 _ 2 32 Try.underlying27 info_frame rfl (by omega) (.slice A xs.length c) xs.length (xs.flatMap FrV.cells) #[.int .i64 y.kind, .slice y.A y.ws.length y.c] rfl
    (by intro u hu; simp at hu; rcases hu with rfl | rfl <;> rfl) hs H hH hx h.own (by unfold maxLen; omega) (by omega) h.fr.size ?_
  intro A' c' w' q1 q2 q3
  have h1 := h.snoc (A' := A') (c' := c') hy ha q1 q2 q3
  exact hK A' c' w' h1 h1.fr q2

/-- What All answers. -/
def AllF (ep : Int) (l : List Nat) (w : World) (e : Ending) (w' : World) : Prop :=
  ∃ (xs : List FrV) (A : Option Addr) (c k : Nat), e = .returned (.tuple #[.slice A xs.length c, .int .i64 k]) ∧ Told ep l (xs.map FrV.f) k ∧ FrsO w w' A c xs
theorem drop_sl {w : World} {A : Option Addr} {l : List Nat} {m c k : Nat} (h : Sl w w.heap.size A (u64s l)) (hm : l.length = m) (hc : m ≤ c) (hk : k ≤ m) : Sl w w.heap.size (if c = k then A else A.map (·.add k)) (u64s (l.drop k)) := by
  have := h.drop (k := k) (n := m) (cap := c) (sz := 1) (by simp [u64s, hm]) hk hc
  rw [Nat.mul_one] at this
  have e : (u64s l).drop k = u64s (l.drop k) := by simp [u64s]
  rw [e] at this
  exact this

set_option maxRecDepth 100000 in
set_option maxHeartbeats 2000000 in
theorem refAll_any (ep : Int) (l : List Nat) (h64 : ∀ u ∈ l, u < 18446744073709551616) (m : Nat) (A : Option Addr) (c : Nat) (w : World) (h : Sl w w.heap.size A (u64s l)) (hm : l.length = m) (hmc : m ≤ c) (hc : c ≤ maxLen) (hlen : m ≤ 1073741824) :
    Calls Try.prog 19 #[.int .i64 ep, .slice A m c] w (AllF ep l w) := by
  have Hm := Lib.hid hm
  have H64 := Lib.hid h64
  have Hc := Lib.hid hc
  have Hs := Lib.hid (fun W (hW : Fr No w W) => h.since hW)
  have hcap : c ≤ 9223372036854775807 := hc
  clear hm h64 hc h
  go_enter Try.func19, Try.ntmps19
  go_wp2
  go_loopw [6, 7] (fun ov av wr => ∃ (xs : List FrV) (k : Nat) (B : Option Addr) (cb z : Nat), Hid (z = xs.length) ∧ ov = .slice B z cb ∧ av = .int .i64 k ∧ k ≤ m ∧ z ≤ k ∧ Hid (stepsF ep l xs.length = some (xs.map FrV.f, k)) ∧ Hid (FrsO w wr B cb xs)) (fun _ av _ => m - (intOf av).toNat)
  case atStart => exact ⟨[], 0, none, 0, 0, Lib.hid rfl, rfl, rfl, by omega, by omega, Lib.hid rfl, Lib.hid (FrsO.nil _ _ (Fr.refl _ _))⟩
  case round =>
    obtain ⟨xs, k, B, cb, z, Hz, rfl, rfl, hk, hzk, Hst, Hf⟩ := hrel
    have hsl := drop_sl (Hs.out wr Hf.out.fr) Hm.out hmc hk
    have hdl : (l.drop k).length = m - k := by rw [List.length_drop, Hm.out]
    have Hl64 : Hid (∀ u ∈ l.drop k, u < 18446744073709551616) := Lib.hid (fun u hu => H64.out u (List.mem_of_mem_drop hu))
    have HgA : Hid (c = k → l.drop k = [] ∧ Calls Try.prog 17 #[.int .i64 ep, .int .i64 (z : Int), .slice A (m - k) 0] wr (GotF wr (getF ep z (l.drop k)))) := Lib.hid (by
      intro e
      have h0 : l.drop k = [] := List.eq_nil_of_length_eq_zero (by omega)
      rw [h0] at hdl ⊢
      exact ⟨rfl, refGet_any ep z [] (by simp) (m - k) A 0 wr (Sl.nil _ _ _) hdl (by omega) (by unfold maxLen; omega)⟩)
    have HgB : Hid (¬ c = k → Calls Try.prog 17 #[.int .i64 ep, .int .i64 (z : Int), .slice (Option.map (fun x => x.add k) A) (m - k) (c - k)] wr (GotF wr (getF ep z (l.drop k)))) := Lib.hid (by
      intro e
      rw [if_neg e] at hsl
      exact refGet_any ep z (l.drop k) Hl64.out (m - k) _ (c - k) wr hsl hdl (by omega) (by unfold maxLen; omega))
    clear hsl hdl
    go_wp2_with fail
    · refine (HgA.out (by assumption)).2.mono ?_
      rintro e w1 ⟨⟨xk, xA, xw, xc⟩, q, rfl, f1, -, -, -⟩
      have h0 := (HgA.out (by assumption)).1
      rw [h0] at HgA HgB ⊢
      have hF := Lib.hid (Hf.out.since (f1.alloc (.cells #[.int .i64 xk, .slice xA xw.length xc] 24)))
      unfold FrV.agg
      dsimp only
      generalize xw.length = xm at *
      have hno : (getF ep z []).isSome = false := rfl
      have H0 := Lib.hid h0
      clear HgA HgB h0
      go_wp2
      go_ret2
      have hF2 := hF.out
      rw [Hz.out] at *
      exact ⟨xs, B, cb, k, rfl, ⟨by simp only [List.length_map]; exact Hst.out, by rw [H0.out]; rfl⟩, hF.out⟩
    · refine (HgB.out (by assumption)).mono ?_
      rintro e w1 ⟨⟨xk, xA, xw, xc⟩, q, rfl, f1, hfit, hnew, hr⟩
      have f2 := f1.alloc (.cells #[.int .i64 xk, .slice xA xw.length xc] 24)
      have Hfit := Lib.hid (hfit.since ((Fr.refl _ w1).alloc (.cells #[.int .i64 xk, .slice xA xw.length xc] 24)))
      have Hnew := Lib.hid hnew
      clear hfit hnew HgA HgB
      unfold FrV.agg
      dsimp only
      cases hgr : getF ep z (l.drop k) with
      | none =>
        have Hgr := Lib.hid hgr
        have hF := Lib.hid (Hf.out.since f2)
        clear hgr hr f2 Hfit Hnew
        generalize xw.length = xm at *
        go_wp2
        go_ret2
        rw [Hz.out] at *
        exact ⟨xs, B, cb, k, rfl, ⟨by simp only [List.length_map]; exact Hst.out, by simp only [List.length_map]; exact Hgr.out⟩, hF.out⟩
      | some fq =>
        rw [hgr] at hr
        simp only [Option.getD_some] at hr
        subst hr
        have hgl := getF_len hgr
        have hq1 : 1 ≤ q := hgl.2.2.1
        have hq2 : k + q ≤ m := by have := hgl.2.1; rw [List.length_drop, Hm.out] at this; omega
        have Hgr := Lib.hid hgr
        have hF := Lib.hid (Hf.out.since f2)
        have hby : Hid (∀ ad, xA = some ad → xw ≠ [] → (Value.slice B xs.length cb).ownBlock ≠ some ad.block) := Lib.hid (fun ad e hn e2 => by
          have h1 := (Hf.out.own.lt _ e2).2
          have h2 := Hnew.out ad e hn
          omega)
        clear hgr hgl f2 Hnew f1
        have hsz : (w1.alloc (.cells #[.int .i64 xk, .slice xA xw.length xc] 24)).heap.size = w1.heap.size + 1 := by simp
        have c0 : (w1.alloc (.cells #[.int .i64 xk, .slice xA xw.length xc] 24)).cell? ⟨w1.heap.size, 0, none⟩ = some (.int .i64 xk) := (Bk.made w1 _ _).cell 0
        have c1 : (w1.alloc (.cells #[.int .i64 xk, .slice xA xw.length xc] 24)).cell? ⟨w1.heap.size, 1, none⟩ = some (.slice xA xw.length xc) := (Bk.made w1 _ _).cell 1
        go_wp2_with (
          at_builtin
          refine app_frame (w0 := w) rfl _ _ rfl B cb xs ⟨xk, xA, xw, xc⟩ z Hz.out rfl (w1.heap.size + 1) hsz rfl hF.out Hfit.out hby.out (by omega) ?_
          intro A' c' w2 q1 q2 q3
          have Q1 := Lib.hid q1
          clear q1 q2 q3 c0 c1 hsz)
        go_roundw
        case rel =>
          refine ⟨xs ++ [⟨xk, xA, xw, xc⟩], k + q, A', c', z + 1, Lib.hid (by simp [Hz.out]), rfl, by go_num, hq2, by omega, Lib.hid ?_, Q1⟩
          rw [List.map_append, List.map_singleton]
          have := stepsF_succ (e := ep) (l := l) (fs := xs.map FrV.f) (k := k) (by simp only [List.length_map]; exact Hst.out) (f := FrV.f ⟨xk, xA, xw, xc⟩) (m := q) (by simp only [List.length_map]; rw [← Hz.out]; exact Hgr.out)
          simp only [List.length_append, List.length_map, List.length_singleton] at this ⊢
          exact this
        case measure => simp [intOf]; omega
end Go.Proofs.Ytinfeollcmfjeaa
