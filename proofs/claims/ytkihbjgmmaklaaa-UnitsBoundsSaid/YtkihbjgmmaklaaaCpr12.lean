/- Package cat: what is copied shares no memory. -/
import Derived.Test.YtkihbjgmmaklaaaRgt10
import Derived.Test.YtkihbjgmmaklaaaPrs11
import Derived.Test.YtkihbjgmmaklaaaCat12
import Derived.Test.YtkihbjgmmaklaaaWls12
import Derived.Deep.RegionWith
import Derived.Test.YtkihbjgmmaklaaaQct12
import Derived.Test.YtkihbjgmmaklaaaRsm11
import Derived.Deep.CutRange
namespace Go.Proofs.Ytkihbjgmmaklaaa
open Go.RowKit

theorem flat_one12 {α : Type} (f : α → List Value) (h : ∀ a, ∀ u ∈ f a, u.oneCell' = true) (l : List α) : ∀ u ∈ l.flatMap f, u.oneCell' = true := by
  intro u hu
  obtain ⟨a, -, ha⟩ := List.mem_flatMap.1 hu
  exact h a u ha
theorem insF_one (l : List Ins) : ∀ u ∈ l.flatMap Ins.cells, u.oneCell' = true := flat_one12 _ (fun i u hu => by
  simp [Ins.cells] at hu
  rcases hu with rfl | rfl | rfl | rfl | rfl | rfl | rfl | rfl | rfl <;> rfl) l
theorem fspF_one (l : List Fsp) : ∀ u ∈ l.flatMap Fsp.cells, u.oneCell' = true := flat_one12 _ (fun i u hu => by
  simp [Fsp.cells] at hu
  rcases hu with rfl | rfl | rfl | rfl | rfl <;> rfl) l

set_option maxRecDepth 100000 in
set_option maxHeartbeats 2000000 in
theorem cloneI (l : List Ins) (A : Option Addr) (n c : Nat) (w : World) (h : Sl w w.heap.size A (l.flatMap Ins.cells)) (hn : l.length = n) (hm : n ≤ 1099511627776) :
    Calls Try.prog 88 #[.slice A n c] w fun e w' => ∃ A' c', e = .returned (.slice A' n c') ∧ w'.ownsRow w.heap.size 50 9 (.slice A' n c') n (l.flatMap Ins.cells) ∧ Fr No w w' := by
  have hne := fun w (a : Option Addr) k k' k2 k3 => Lib.run_eql_slice_nil (P := Try.prog) w 51 50 a k k' k2 k3 Try.underlying51
  have hl : (l.flatMap Ins.cells).length = n * 9 := by
    subst hn
    clear h hm hne
    induction l with
    | nil => rfl
    | cons a r ih => rw [List.flatMap_cons, List.length_append, ih, Ins.cells_len, List.length_cons]; omega
  have h1 := insF_one l
  generalize l.flatMap Ins.cells = xs at *
  cases A with
  | none =>
    have hx : xs = [] := Classical.byContradiction fun e => by
      obtain ⟨_, e', _⟩ := h e
      cases e'
    subst hx
    obtain rfl : n = 0 := by simp at hl; omega
    go_enter Try.func88, Try.ntmps88
    go_wp2
    go_ret
    exact ⟨none, 0, rfl, World.ownsRow_nil _ _ _ _, Fr.refl _ _⟩
  | some ad =>
    obtain ⟨i0, hi, hz0, hz1, hz2⟩ := info_parts info_ins
    go_enter Try.func88, Try.ntmps88
    go_wp2_with (at_builtin; refine wpList_append_src _ rfl _ _ 51 rfl w.heap.size 50 i0 _ 9 72 Try.underlying51 hi hz0 hz1 hz2 rfl (by decide) _ _ _ rfl (World.ownsRow_made w #[] 0 (Nat.le_refl _) (Nat.zero_le _) (by simp)) w.heap.size (some ad) n c xs rfl ?q1 ?q2 ?q3 ?q4 ?q5 ?q6 ?_)
    case q1 => exact hl
    case q2 => exact h.fr ((Fr.refl No w).alloc _) (Nat.le_refl _) (fun _ _ _ e => e)
    case q3 => exact h1
    case q4 => unfold maxLen; omega
    case q5 => omega
    case q6 => simp
    intro v' w1 hown hgrow hnil
    have hown' : w1.ownsRow w.heap.size 50 9 v' n xs := by simpa using hown
    obtain ⟨A', c', rfl, -, -, -⟩ := own_shape hown'
    have hfr : Fr No w w1 := (((Fr.refl No w).alloc (.cells #[] 50))).grown hgrow (fun k e => by simp [Value.ownBlock] at e; exact .inr (by omega))
    have Hfr := Lib.hid hfr
    have Hown := Lib.hid hown'
    clear hown hgrow hnil hown' hfr h
    go_wp2
    go_ret
    exact ⟨A', c', rfl, Hown.out, Hfr.out⟩

set_option maxRecDepth 100000 in
set_option maxHeartbeats 2000000 in
theorem cloneF (l : List Fsp) (A : Option Addr) (n c : Nat) (w : World) (h : Sl w w.heap.size A (l.flatMap Fsp.cells)) (hn : l.length = n) (hm : n ≤ 1099511627776) :
    Calls Try.prog 89 #[.slice A n c] w fun e w' => ∃ A' c', e = .returned (.slice A' n c') ∧ w'.ownsRow w.heap.size 94 5 (.slice A' n c') n (l.flatMap Fsp.cells) ∧ Fr No w w' := by
  have hne := fun w (a : Option Addr) k k' k2 k3 => Lib.run_eql_slice_nil (P := Try.prog) w 52 94 a k k' k2 k3 Try.underlying52
  have hl : (l.flatMap Fsp.cells).length = n * 5 := by
    subst hn
    clear h hm hne
    induction l with
    | nil => rfl
    | cons a r ih => rw [List.flatMap_cons, List.length_append, ih, Fsp.cells_len, List.length_cons]; omega
  have h1 := fspF_one l
  generalize l.flatMap Fsp.cells = xs at *
  cases A with
  | none =>
    have hx : xs = [] := Classical.byContradiction fun e => by
      obtain ⟨_, e', _⟩ := h e
      cases e'
    subst hx
    obtain rfl : n = 0 := by simp at hl; omega
    go_enter Try.func89, Try.ntmps89
    go_wp2
    go_ret
    exact ⟨none, 0, rfl, World.ownsRow_nil _ _ _ _, Fr.refl _ _⟩
  | some ad =>
    obtain ⟨i0, hi, hz0, hz1, hz2⟩ := info_parts info_fsp
    go_enter Try.func89, Try.ntmps89
    go_wp2_with (at_builtin; refine wpList_append_src _ rfl _ _ 52 rfl w.heap.size 94 i0 _ 5 40 Try.underlying52 hi hz0 hz1 hz2 rfl (by decide) _ _ _ rfl (World.ownsRow_made w #[] 0 (Nat.le_refl _) (Nat.zero_le _) (by simp)) w.heap.size (some ad) n c xs rfl ?q1 ?q2 ?q3 ?q4 ?q5 ?q6 ?_)
    case q1 => exact hl
    case q2 => exact h.fr ((Fr.refl No w).alloc _) (Nat.le_refl _) (fun _ _ _ e => e)
    case q3 => exact h1
    case q4 => unfold maxLen; omega
    case q5 => omega
    case q6 => simp
    intro v' w1 hown hgrow hnil
    have hown' : w1.ownsRow w.heap.size 94 5 v' n xs := by simpa using hown
    obtain ⟨A', c', rfl, -, -, -⟩ := own_shape hown'
    have hfr : Fr No w w1 := (((Fr.refl No w).alloc (.cells #[] 94))).grown hgrow (fun k e => by simp [Value.ownBlock] at e; exact .inr (by omega))
    have Hfr := Lib.hid hfr
    have Hown := Lib.hid hown'
    clear hown hgrow hnil hown' hfr h
    go_wp2
    go_ret
    exact ⟨A', c', rfl, Hown.out, Hfr.out⟩

/-- A step copied. -/
def CopS (w : World) (s : Stp) (e : Ending) (w' : World) : Prop := ∃ s' : Stp, e = .returned s'.agg ∧ s'.p = s.p ∧ s'.Own w' w.heap.size ∧ Fr No w w'
set_option maxRecDepth 100000 in
set_option maxHeartbeats 4000000 in
theorem copyStep_any (s : Stp) (w : World) (h : s.Ok w w.heap.size) (hc : s.code.length ≤ 1099511627776) (hf : s.foot.length ≤ 1099511627776) : Calls Try.prog 75 #[s.agg] w (CopS w s) := by
  obtain ⟨cA, code, cc, fA, foot, fc⟩ := s
  unfold Stp.agg
  simp only at hc hf ⊢
  have CI := Lib.hid (fun W (hW : Fr No w W) => cloneI code cA code.length cc W ((h.code.below hW.below0).more hW.size) rfl hc)
  have CF := Lib.hid (fun W (hW : Fr No w W) => cloneF foot fA foot.length fc W ((h.foot.below hW.below0).more hW.size) rfl hf)
  have Hp : Hid (Stp.p ⟨cA, code, cc, fA, foot, fc⟩ = (code, foot)) := Lib.hid rfl
  obtain ⟨n, hn⟩ : ∃ n, n = code.length := ⟨_, rfl⟩
  obtain ⟨m, hm⟩ : ∃ m, m = foot.length := ⟨_, rfl⟩
  rw [← hn] at CI
  rw [← hm] at CF
  rw [← hn, ← hm]
  have Hn := Lib.hid (And.intro hn hm)
  have f0 : Fr No w ((w.alloc (.cells #[.slice cA n cc, .slice fA m fc] 54)).alloc (.cells #[.slice none 0 0, .slice none 0 0] 54)) := ((Fr.refl _ _).alloc _).alloc _
  have bS : Bk ((w.alloc (.cells #[.slice cA n cc, .slice fA m fc] 54)).alloc (.cells #[.slice none 0 0, .slice none 0 0] 54)) w.heap.size 54 #[.slice cA n cc, .slice fA m fc] := (Bk.made w _ _).fr ((Fr.refl No _).alloc _) (fun e => e)
  have bR : Bk ((w.alloc (.cells #[.slice cA n cc, .slice fA m fc] 54)).alloc (.cells #[.slice none 0 0, .slice none 0 0] 54)) (w.heap.size + 1) 54 #[.slice none 0 0, .slice none 0 0] := by
    have h := Bk.made (w.alloc (.cells #[.slice cA n cc, .slice fA m fc] 54)) 54 #[.slice none 0 0, .slice none 0 0]
    rwa [World.size_alloc] at h
  obtain ⟨W0, hW0⟩ : ∃ W0, W0 = (w.alloc (.cells #[.slice cA n cc, .slice fA m fc] 54)).alloc (.cells #[.slice none 0 0, .slice none 0 0] 54) := ⟨_, rfl⟩
  rw [← hW0] at f0 bS bR
  have hwe := hW0.symm
  have x0 := bS.cell 0
  have x1 := bS.cell 1
  simp at x0 x1
  have HF := Lib.hid f0
  have HS := Lib.hid bS
  have HR := Lib.hid bR
  clear h hc hf hn hm f0 bS bR hW0
  go_enter Try.func75, Try.ntmps75
  go_wp2_with fail
  first | go_region_with (first
    | (go_at_call 88
       refine (CI.out _ (HF.out.drew)).mono ?_
       rintro e w1 ⟨A1, c1, rfl, o1, f1⟩
       have F1 := (Fr.refl No W0).drew.trans' f1 (fun _ _ e => e)
       have y1 := (HS.out.fr F1 (fun e => e)).cell 1
       simp at y1)
    | (go_at_call 89
       refine (CF.out _ (HF.out.trans' F1 (fun _ _ e => e))).mono ?_
       rintro e w2 ⟨A2, c2, rfl, o2, f2⟩
       have F2 := F1.trans' f2 (fun _ _ e => e)
       have bR2 := HR.out.fr F2 (fun e => e)
       have z0 := bR2.cell 0
       have z1 := bR2.cell 1
       have z2 := bR2.frozen 0
       have z3 := bR2.frozen 1
       have z4 := bR2.lt
       simp at z0 z1)) | fail
  all_goals
    have fX : Fr (Only (w.heap.size + 1)) w2 ((w2.setCell ⟨w.heap.size + 1, 0, none⟩ (.slice A1 n c1)).setCell ⟨w.heap.size + 1, 1, none⟩ (.slice A2 m c2)) := ((Fr.refl (Only (w.heap.size + 1)) w2).setCell (p := ⟨w.heap.size + 1, 0, none⟩) (.inl rfl) _).setCell (p := ⟨w.heap.size + 1, 1, none⟩) (.inl rfl) _
    have b3 : Bk ((w2.setCell ⟨w.heap.size + 1, 0, none⟩ (.slice A1 n c1)).setCell ⟨w.heap.size + 1, 1, none⟩ (.slice A2 m c2)) (w.heap.size + 1) 54 #[.slice A1 n c1, .slice A2 m c2] := (bR2.put 0 _).put 1 _
    have hW0s : w.heap.size ≤ W0.heap.size := HF.out.size
    have hO : (⟨A1, code, c1, A2, foot, c2⟩ : Stp).Own w2 w.heap.size := ⟨by have o3 := own_fr (own_weak o1 (show w.heap.size ≤ W0.drew.heap.size from hW0s)) f2 (fun _ _ e => e); simp only; rw [← Hn.out.1]; exact o3, by simp only; rw [← Hn.out.2]; exact own_weak o2 (by have := F1.size; omega)⟩
    have HFin : Hid (CopS w ⟨cA, code, cc, fA, foot, fc⟩ (.returned (.agg #[.slice A1 n c1, .slice A2 m c2])) ((w2.setCell ⟨w.heap.size + 1, 0, none⟩ (.slice A1 n c1)).setCell ⟨w.heap.size + 1, 1, none⟩ (.slice A2 m c2))) := Lib.hid ⟨⟨A1, code, c1, A2, foot, c2⟩, by unfold Stp.agg; simp only; rw [← Hn.out.1, ← Hn.out.2], rfl, hO.var fX bR2, (HF.out.trans' F2 (fun _ _ e => e)).trans' fX (fun i hi e => by have e : i = w.heap.size + 1 := e; omega)⟩
    have HB3 := Lib.hid b3
    clear fX b3 bR2 hO o1 o2 f1 f2 F1 F2
    go_wp2
    have m0 := HB3.out.cell 0
    have m1 := HB3.out.cell 1
    simp at m0 m1
    exact bodyPost_ret (v := .agg #[.slice A1 n c1, .slice A2 m c2]) (by simp [results, Try.results75, go_sem, m0, m1]) rfl HFin.out
end Go.Proofs.Ytkihbjgmmaklaaa
/- Package cat: steps, a class, classes copied; a catalogue with other breakpoints. -/
namespace Go.Proofs.Ytkihbjgmmaklaaa
open Go.RowKit

theorem stp_one12 (s : Stp) : ∀ u ∈ (#[.slice s.cA s.code.length s.cc, .slice s.fA s.foot.length s.fc] : Array Value).toList, u.oneCell' = true := by
  intro u hu
  simp at hu
  rcases hu with rfl | rfl <;> rfl
/-- Steps that were copied, so far. -/
structure K12 (b0 : Nat) (w0 w : World) (A : Option Addr) (c k : Nat) (ss : List Stp) : Prop where
  own : w.ownsRow b0 54 2 (.slice A k c) k (ss.flatMap Stp.cells)
  all : ∀ s ∈ ss, s.Own w b0
  fr : Fr No w0 w
theorem K12.quiet {b0 : Nat} {w0 w w' : World} {A : Option Addr} {c k : Nat} {ss : List Stp} (h : K12 b0 w0 w A c k ss) (hf : Fr No w w') : K12 b0 w0 w' A c k ss :=
  ⟨own_fr h.own hf (fun _ _ e => e), fun s hs => (h.all s hs).quiet hf, h.fr.trans' hf (fun _ _ e => e)⟩
theorem K12.app {b0 : Nat} {w0 w w' : World} {A B : Option Addr} {c c2 k : Nat} {ss : List Stp} {x : Stp} (h : K12 b0 w0 w A c k ss) (hb : w0.heap.size ≤ b0) (hx : x.Own w b0) (ho : w'.ownsRow b0 54 2 (.slice B (k + 1) c2) (k + 1) (ss.flatMap Stp.cells ++ x.cells)) (hf : Fr (fun i => (Value.slice A k c).ownBlock = some i) w w') : K12 b0 w0 w' B c2 (k + 1) (ss ++ [x]) := by
  refine ⟨by simpa using ho, fun s hs => ?_, h.fr.trans' hf (fun i hi e => by have := (h.own.lt _ e).1; omega)⟩
  rw [List.mem_append, List.mem_singleton] at hs
  rcases hs with hs | rfl
  · exact (h.all s hs).row hf h.own
  · exact hx.row hf h.own
theorem K12.sts {b0 : Nat} {w0 w : World} {A : Option Addr} {c k : Nat} {ss : List Stp} (h : K12 b0 w0 w A c k ss) {V : World} (hV : Fr (fun i => i < b0) w V) : Sts V A ss := by
  refine ⟨Sl.ofOwn (own_fr h.own hV (fun i hi e => ?_)), fun s hs => ?_⟩
  · have e : i < b0 := e
    have := (h.own.lt i hi).1
    omega
  · exact ((h.all s hs).fr hV (fun i hi e => by have e : i < b0 := e; have := ((h.all s hs).code.lt i hi).1; omega) (fun i hi e => by have e : i < b0 := e; have := ((h.all s hs).foot.lt i hi).1; omega)).ok
/-- A list of steps that was copied. -/
def CopL (w : World) (n : Nat) (l : List Stp) (e : Ending) (w' : World) : Prop := ∃ A' c' ss, e = .returned (.slice A' n c') ∧ ss.map Stp.p = l.map Stp.p ∧ (∀ V, Fr (fun i => i < w.heap.size) w' V → Sts V A' ss) ∧ Fr No w w'
set_option maxRecDepth 100000 in
set_option maxHeartbeats 4000000 in
theorem copSteps_any (l : List Stp) (A : Option Addr) (n c : Nat) (w : World) (h : Sts w A l) (hn : l.length = n) (hm : n ≤ 1099511627776) (hfew : ∀ s ∈ l, s.code.length ≤ 1099511627776 ∧ s.foot.length ≤ 1099511627776) :
    Calls Try.prog 74 #[.slice A n c, .func (.func 75) #[] #[]] w (CopL w n l) := by
  have Hs := Lib.hid (fun W (hW : Fr No w W) => h.since hW)
  have Hn := Lib.hid hn
  have HC := Lib.hid (fun W (hW : Fr No w W) (k : Nat) (hk : k < l.length) => copyStep_any l[k] W ((h.since hW).all _ (List.getElem_mem hk)) (hfew _ (List.getElem_mem hk)).1 (hfew _ (List.getElem_mem hk)).2)
  have HK : Hid (K12 w.heap.size w w none 0 0 []) := Lib.hid ⟨World.ownsRow_nil _ _ _ _, fun s h => by simp at h, Fr.refl _ _⟩
  clear h hn hfew
  go_enter Try.func74, Try.ntmps74
  go_wp2
  go_loopw [5, 10] (fun v iv wr => ∃ (k : Nat) (B : Option Addr) (c2 : Nat) (ss : List Stp), k ≤ n ∧ iv = .int .i64 (k : Int) ∧ v = .slice B k c2 ∧ Hid (ss.map Stp.p = (l.take k).map Stp.p) ∧ Hid (K12 w.heap.size w wr B c2 k ss)) (fun _ i _ => n - (intOf i).toNat)
  case atStart => exact ⟨0, none, 0, [], Nat.zero_le _, rfl, rfl, Lib.hid rfl, HK⟩
  case round =>
    obtain ⟨k, B, c2, ss, hk, rfl, rfl, hls, hK⟩ := hrel
    by_cases hlt : k < n
    · have hkl : k < l.length := by rw [Hn.out]; exact hlt
      obtain ⟨ad, rfl, hab, x0, x1⟩ := (Hs.out _ hK.out.fr).sl.stp (k := k) hkl
      have Hnx : Hid ((l.take (k + 1)).map Stp.p = (l.take k).map Stp.p ++ [l[k].p]) := Lib.hid (by rw [List.take_succ_eq_append_getElem hkl, List.map_append]; rfl)
      have hC := Lib.hid (fun W (hW : Fr No w W) => HC.out W hW k hkl)
      generalize l[k] = x at x0 x1 Hnx hC
      obtain ⟨cA, code, cc, fA, foot, fc⟩ := x
      unfold Stp.agg at hC
      simp only at x0 x1 hC
      generalize code.length = m at *
      generalize foot.length = p at *
      have f1 : Fr No wr (wr.alloc (.cells #[.slice cA m cc, .slice fA p fc] 54)) := (Fr.refl _ _).alloc _
      have HK1 := Lib.hid (hK.out.quiet f1)
      have CC := Lib.hid (hC.out _ HK1.out.fr)
      have Hgr := Lib.hid (HK1.out.fr.size)
      clear hK f1 HC hC
      go_wp2_with fail
      refine (CC.out).mono ?_
      rintro e w4 ⟨y, rfl, hy, hyo, f4⟩
      have HK4 := Lib.hid (HK1.out.quiet f4)
      have HY : Hid (y.Own w4 w.heap.size) := Lib.hid ⟨own_weak hyo.code Hgr.out, own_weak hyo.foot Hgr.out⟩
      have Hy := Lib.hid hy
      have hu1 := stp_one12 y
      have HB : Hid (w.heap.size ≤ w4.heap.size) := Lib.hid HK4.out.fr.size
      unfold Stp.agg
      clear hyo f4 CC hy
      go_wp2_with (first
        | (at_builtin
           refine wpList_append_elem rfl _ _ _ rfl w.heap.size 54 _ 2 48 Try.underlying33 info_stp rfl (by omega) (.slice B k c2) k (ss.flatMap Stp.cells) #[.slice y.cA y.code.length y.cc, .slice y.fA y.foot.length y.fc] rfl hu1 rfl w4.heap.size rfl rfl HK4.out.own (by unfold maxLen; omega) (by omega) HB.out ?_
           intro A6 c6 v6 o6 f6 g6
           have h6 := HK4.out.app (Nat.le_refl _) HY.out o6 f6
           have H6 := Lib.hid h6
           clear h6 o6 f6 g6))
      go_roundw
      case rel => exact ⟨k + 1, A6, c6, ss ++ [y], by omega, by go_num, rfl, Lib.hid (by rw [List.map_append, hls.out, Hnx.out, ← Hy.out]; rfl), H6⟩
      case measure => simp [intOf]; omega
    · obtain rfl : k = n := by omega
      have hl : ss.map Stp.p = l.map Stp.p := by rw [hls.out, List.take_of_length_le (by rw [Hn.out]; exact Nat.le_refl _)]
      have Hl := Lib.hid hl
      go_wp2
      go_ret
      exact ⟨B, c2, ss, rfl, Hl.out, fun V hV => hK.out.sts hV, hK.out.fr⟩
end Go.Proofs.Ytkihbjgmmaklaaa
/- Package cat: a class copied. -/
namespace Go.Proofs.Ytkihbjgmmaklaaa
open Go.RowKit

/-- A class that was copied. -/
def CopC (w : World) (c : Cls) (e : Ending) (w' : World) : Prop := ∃ c' : Cls, e = .returned c'.agg ∧ c'.p = c.p ∧ (∀ V, Fr (fun i => i < w.heap.size) w' V → c'.Ok V) ∧ Fr No w w'
theorem len_p12 {l m : List Stp} (h : l.map Stp.p = m.map Stp.p) : l.length = m.length := by
  have := congrArg List.length h
  simpa using this
set_option maxRecDepth 100000 in
set_option maxHeartbeats 4000000 in
theorem copyClass_any (c : Cls) (w : World) (h : c.Ok w) (hf : c.Few) : Calls Try.prog 53 #[c.agg] w (CopC w c) := by
  obtain ⟨nm, a, A, ss, sc, U, us, uc, res⟩ := c
  obtain ⟨hS, hU⟩ := h
  obtain ⟨f1, f2, f3, f4⟩ := hf
  unfold Cls.agg
  simp only at *
  have C1 := Lib.hid (fun W (hW : Fr No w W) => copSteps_any ss A ss.length sc W (hS.since hW) rfl f1 f3)
  have C2 := Lib.hid (fun W (hW : Fr No w W) => copSteps_any us U us.length uc W (hU.since hW) rfl f2 f4)
  obtain ⟨n, hn⟩ : ∃ n, n = ss.length := ⟨_, rfl⟩
  obtain ⟨m, hm⟩ : ∃ m, m = us.length := ⟨_, rfl⟩
  rw [← hn] at C1 ⊢
  rw [← hm] at C2 ⊢
  have Hn := Lib.hid (And.intro hn hm)
  obtain ⟨W0, hW0⟩ : ∃ W0, W0 = (w.alloc (.cells #[.string nm, .int .i64 a, .slice A n sc, .slice U m uc, .bool res] 35)).alloc (.cells #[.string ⟨#[]⟩, .int .i64 0, .slice none 0 0, .slice none 0 0, .bool false] 35) := ⟨_, rfl⟩
  have f0 : Fr No w W0 := by rw [hW0]; exact ((Fr.refl _ _).alloc _).alloc _
  have bC : Bk W0 w.heap.size 35 #[.string nm, .int .i64 a, .slice A n sc, .slice U m uc, .bool res] := by rw [hW0]; exact (Bk.made w _ _).fr ((Fr.refl No _).alloc _) (fun e => e)
  have bR : Bk W0 (w.heap.size + 1) 35 #[.string ⟨#[]⟩, .int .i64 0, .slice none 0 0, .slice none 0 0, .bool false] := by
    have h := Bk.made (w.alloc (.cells #[.string nm, .int .i64 a, .slice A n sc, .slice U m uc, .bool res] 35)) 35 #[.string ⟨#[]⟩, .int .i64 0, .slice none 0 0, .slice none 0 0, .bool false]
    rw [World.size_alloc] at h
    rw [hW0]
    exact h
  have hwe := hW0.symm
  have x2 := bC.cell 2
  have x3 := bC.cell 3
  simp at x2 x3
  have HF := Lib.hid f0
  have HS := Lib.hid bC
  have HR := Lib.hid bR
  clear hS hU f1 f2 f3 f4 hn hm f0 bC bR hW0
  go_enter Try.func53, Try.ntmps53
  go_wp2_with fail
  go_cut [] from 3 to 10 (fun wx => ∃ (A1 : Option Addr) (c1 : Nat) (ss1 : List Stp) (A2 : Option Addr) (c2 : Nat) (ss2 : List Stp), Hid (ss1.map Stp.p = ss.map Stp.p) ∧ Hid (ss2.map Stp.p = us.map Stp.p) ∧ Hid (∀ V, Fr (fun i => i < w.heap.size ∨ i = w.heap.size ∨ i = w.heap.size + 1) wx V → Sts V A1 ss1 ∧ Sts V A2 ss2) ∧ Hid (Fr No w wx) ∧
    Hid (Bk wx w.heap.size 35 #[.string nm, .int .i64 a, .slice A1 n c1, .slice A2 m c2, .bool res]) ∧ Hid (Bk wx (w.heap.size + 1) 35 #[.string ⟨#[]⟩, .int .i64 0, .slice none 0 0, .slice none 0 0, .bool false]))
  case first =>
    first | go_region_with (first
      | (have hq := x2
         go_at_call 74
         refine (C1.out _ (HF.out.drew)).mono ?_
         rintro e w1 ⟨A1, c1, ss1, rfl, p1, o1, g1⟩
         have F1 := (Fr.refl No W0).drew.trans' g1 (fun _ _ e => e)
         have y3 := (HS.out.fr F1 (fun e => e)).cell 3
         simp at y3
         clear x2)
      | (go_at_call 74
         refine (C2.out _ (HF.out.trans' F1 (fun _ _ e => e))).mono ?_
         rintro e w2 ⟨A2, c2, ss2, rfl, p2, o2, g2⟩
         have F2 := F1.trans' g2 (fun _ _ e => e)
         have bC2 := HS.out.fr F2 (fun e => e)
         have z2 := bC2.cell 2
         have z3 := bC2.cell 3
         have z4 := bC2.frozen 2
         have z5 := bC2.frozen 3
         have z6 := bC2.lt
         simp at z2 z3)) | fail
    all_goals
      have fX : Fr (Only w.heap.size) w2 ((w2.setCell ⟨w.heap.size, 2, none⟩ (.slice A1 n c1)).setCell ⟨w.heap.size, 3, none⟩ (.slice A2 m c2)) := ((Fr.refl (Only w.heap.size) w2).setCell (p := ⟨w.heap.size, 2, none⟩) (.inl rfl) _).setCell (p := ⟨w.heap.size, 3, none⟩) (.inl rfl) _
      have b3 : Bk ((w2.setCell ⟨w.heap.size, 2, none⟩ (.slice A1 n c1)).setCell ⟨w.heap.size, 3, none⟩ (.slice A2 m c2)) w.heap.size 35 #[.string nm, .int .i64 a, .slice A1 n c1, .slice A2 m c2, .bool res] := (bC2.put 2 _).put 3 _
      have r3 := (HR.out.fr F2 (fun e => e)).fr fX (fun e => by have e : w.heap.size + 1 = w.heap.size := e; omega)
      have hW0s : w.heap.size ≤ W0.heap.size := HF.out.size
      have hW2s : w.heap.size + 2 ≤ W0.heap.size := by have := HR.out.lt; omega
      have hw1s : W0.heap.size ≤ w1.heap.size := F1.size
      have F3 : Fr No w ((w2.setCell ⟨w.heap.size, 2, none⟩ (.slice A1 n c1)).setCell ⟨w.heap.size, 3, none⟩ (.slice A2 m c2)) := (HF.out.trans' F2 (fun _ _ e => e)).trans' fX (fun i hi e => by have e : i = w.heap.size := e; omega)
      have HO : Hid (∀ V, Fr (fun i => i < w.heap.size ∨ i = w.heap.size ∨ i = w.heap.size + 1) ((w2.setCell ⟨w.heap.size, 2, none⟩ (.slice A1 n c1)).setCell ⟨w.heap.size, 3, none⟩ (.slice A2 m c2)) V → Sts V A1 ss1 ∧ Sts V A2 ss2) := Lib.hid (fun V hV => by
        have g3 : Fr (fun i => i < W0.heap.size) w2 V := (fX.weak (fun i _ e => by have e : i = w.heap.size := e; omega)).trans' hV (fun i _ e => by omega)
        exact ⟨o1 V ((g2.weak (fun _ _ e => e.elim)).trans' g3 (fun i _ e => e)), o2 V (g3.weak (fun i _ e => by have e : i < W0.heap.size := e; omega))⟩)
      have HP1 := Lib.hid p1
      have HP2 := Lib.hid p2
      have HF3 := Lib.hid F3
      have HB3 := Lib.hid b3
      have HR3 := Lib.hid r3
      clear fX b3 r3 F3 o1 o2 g1 g2 p1 p2 F1 F2
      go_wp2
      go_meet
      exact ⟨A1, c1, ss1, A2, c2, ss2, HP1, HP2, HO, HF3, HB3, HR3⟩
  case rest =>
    obtain ⟨A1, c1, ss1, A2, c2, ss2, HP1, HP2, HO, HF3, HB3, HR3⟩ := hcut
    rename_i wb wc
    have l0 := HB3.out.lt
    have l1 := HR3.out.lt
    have y0 := HB3.out.cell 0
    have y1 := HB3.out.cell 1
    have y2 := HB3.out.cell 2
    have y3 := HB3.out.cell 3
    have y4 := HB3.out.cell 4
    have z0 := HR3.out.cell 0
    have z1 := HR3.out.cell 1
    have z2 := HR3.out.cell 2
    have z3 := HR3.out.cell 3
    have z4 := HR3.out.cell 4
    have v0 := HR3.out.frozen 0
    have v1 := HR3.out.frozen 1
    have v2 := HR3.out.frozen 2
    have v3 := HR3.out.frozen 3
    have v4 := HR3.out.frozen 4
    simp at y0 y1 y2 y3 y4 z0 z1 z2 z3 z4
    obtain ⟨WF, hWF⟩ : ∃ WF, Hid (WF = ((((wc.setCell ⟨w.heap.size + 1, 0, none⟩ (.string nm)).setCell ⟨w.heap.size + 1, 1, none⟩ (.int .i64 a)).setCell ⟨w.heap.size + 1, 2, none⟩ (.slice A1 n c1)).setCell ⟨w.heap.size + 1, 3, none⟩ (.slice A2 m c2)).setCell ⟨w.heap.size + 1, 4, none⟩ (.bool res)) := ⟨_, Lib.hid rfl⟩
    have bF : Hid (Bk WF (w.heap.size + 1) 35 #[.string nm, .int .i64 a, .slice A1 n c1, .slice A2 m c2, .bool res]) := Lib.hid (by
      rw [hWF.out]
      exact ((((HR3.out.put 0 (.string nm)).put 1 (.int .i64 a)).put 2 (.slice A1 n c1)).put 3 (.slice A2 m c2)).put 4 (.bool res))
    have hFX : Fr (Only (w.heap.size + 1)) wc WF := by
      rw [hWF.out]
      exact (((((Fr.refl (Only (w.heap.size + 1)) wc).setCell (p := ⟨w.heap.size + 1, 0, none⟩) (.inl rfl) _).setCell (p := ⟨w.heap.size + 1, 1, none⟩) (.inl rfl) _).setCell (p := ⟨w.heap.size + 1, 2, none⟩) (.inl rfl) _).setCell (p := ⟨w.heap.size + 1, 3, none⟩) (.inl rfl) _).setCell (p := ⟨w.heap.size + 1, 4, none⟩) (.inl rfl) _
    have e1 : ss1.length = n := by rw [Hn.out.1]; exact len_p12 HP1.out
    have e2 : ss2.length = m := by rw [Hn.out.2]; exact len_p12 HP2.out
    have HFin : Hid (CopC w ⟨nm, a, A, ss, sc, U, us, uc, res⟩ (.returned (.agg #[.string nm, .int .i64 a, .slice A1 n c1, .slice A2 m c2, .bool res])) WF) := Lib.hid ⟨⟨nm, a, A1, ss1, c1, A2, ss2, c2, res⟩, by unfold Cls.agg; simp only; rw [e1, e2], by unfold Cls.p; simp only; rw [HP1.out, HP2.out], fun V hV => by
      have g := HO.out V ((hFX.weak (fun i _ e => by have e : i = w.heap.size + 1 := e; omega)).trans' hV (fun i _ e => by have e : i < w.heap.size := e; omega))
      exact ⟨g.1, g.2⟩, HF3.out.trans' hFX (fun i hi e => by have e : i = w.heap.size + 1 := e; omega)⟩
    clear hFX e1 e2
    go_wp2
    rw [← hWF.out]
    have m0 := bF.out.cell 0
    have m1 := bF.out.cell 1
    have m2 := bF.out.cell 2
    have m3 := bF.out.cell 3
    have m4 := bF.out.cell 4
    simp at m0 m1 m2 m3 m4
    exact bodyPost_ret (v := .agg #[.string nm, .int .i64 a, .slice A1 n c1, .slice A2 m c2, .bool res]) (by simp [results, Try.results53, go_sem, m0, m1, m2, m3, m4]) rfl HFin.out

/-- A class whose lists lie between two marks. -/
structure J12 (b0 : Nat) (w0 w : World) (A : Option Addr) (c k : Nat) (cls : List Cls) : Prop where
  own : w.ownsRow b0 35 5 (.slice A k c) k (cls.flatMap Cls.cells)
  all : ∀ x ∈ cls, ∃ lo hi, b0 ≤ lo ∧ RobC x lo hi w ∧ ∀ i, (Value.slice A k c).ownBlock = some i → i < lo ∨ hi ≤ i
  fr : Fr No w0 w
theorem J12.quiet {b0 : Nat} {w0 w w' : World} {A : Option Addr} {c k : Nat} {cls : List Cls} (h : J12 b0 w0 w A c k cls) (hf : Fr No w w') : J12 b0 w0 w' A c k cls := by
  refine ⟨own_fr h.own hf (fun _ _ e => e), fun x hx => ?_, h.fr.trans' hf (fun _ _ e => e)⟩
  obtain ⟨lo, hi, h1, h2, h3⟩ := h.all x hx
  exact ⟨lo, hi, h1, h2.fr hf (fun i e _ => e.elim), h3⟩
theorem J12.app {b0 lo : Nat} {w0 w w' : World} {A B : Option Addr} {c c2 k : Nat} {cls : List Cls} {x : Cls} (h : J12 b0 w0 w A c k cls) (hb : w0.heap.size ≤ b0) (hc : ∀ V, Fr (fun i => i < lo) w V → x.Ok V) (hlo : b0 ≤ lo) (hlt : ∀ i, (Value.slice A k c).ownBlock = some i → i < lo)
    (ho : w'.ownsRow b0 35 5 (.slice B (k + 1) c2) (k + 1) (cls.flatMap Cls.cells ++ x.cells)) (hf : Fr (fun i => (Value.slice A k c).ownBlock = some i) w w')
    (hg : (Value.slice B (k + 1) c2).ownBlock = (Value.slice A k c).ownBlock ∨ ∃ i, (Value.slice B (k + 1) c2).ownBlock = some i ∧ w.heap.size ≤ i) : J12 b0 w0 w' B c2 (k + 1) (cls ++ [x]) := by
  refine ⟨by simpa using ho, fun y hy => ?_, h.fr.trans' hf (fun i hi e => by have := (h.own.lt _ e).1; omega)⟩
  rw [List.mem_append, List.mem_singleton] at hy
  rcases hy with hy | rfl
  · obtain ⟨l1, h1, a1, a3, a4⟩ := h.all y hy
    refine ⟨l1, h1, a1, a3.fr hf (fun i e _ => a4 i e), fun i hi => ?_⟩
    rcases hg with hg | ⟨j, hg, hj⟩
    · rw [hg] at hi
      exact a4 i hi
    · rw [hg] at hi
      injection hi with hi
      have := a3.1
      omega
  · refine ⟨lo, w.heap.size, hlo, ?_, fun i hi => ?_⟩
    · have h0 : RobC y lo w.heap.size w := ⟨Nat.le_refl _, fun V hV => hc V (hV.weak (fun i hi e => by rcases e with e | e <;> omega))⟩
      exact h0.fr hf (fun i e _ => .inl (hlt i e))
    · rcases hg with hg | ⟨j, hg, hj⟩
      · rw [hg] at hi
        exact .inl (hlt i hi)
      · rw [hg] at hi
        injection hi with hi
        omega
theorem J12.clss {b0 : Nat} {w0 w : World} {A : Option Addr} {c k : Nat} {cls : List Cls} (h : J12 b0 w0 w A c k cls) {V : World} (hV : Fr (fun i => i < b0) w V) : Clss V A cls := by
  refine ⟨Sl.ofOwn (own_fr h.own hV (fun i hi e => ?_)), fun x hx => ?_⟩
  · have e : i < b0 := e
    have := (h.own.lt i hi).1
    omega
  · obtain ⟨lo, hi, h1, h2, h3⟩ := h.all x hx
    exact h2.2 V (hV.weak (fun i _ e => by have e : i < b0 := e; omega))
theorem cls_one12 (c : Cls) : ∀ u ∈ c.cells.toArray.toList, u.oneCell' = true := by
  intro u hu
  simp [Cls.cells] at hu
  rcases hu with rfl | rfl | rfl | rfl | rfl <;> rfl
theorem info_cls12 : (Try.prog.info? 35).map (fun i => (i.zero, i.size, i.bytes)) = some (some (.agg #[.string ⟨#[]⟩, .int .i64 0, .slice none 0 0, .slice none 0 0, .bool false]), 5, 80) := by kernel_rfl
/-- A list of classes that was copied. -/
def CopQ (w : World) (n : Nat) (l : List Cls) (e : Ending) (w' : World) : Prop := ∃ A' c' cls, e = .returned (.slice A' n c') ∧ cls.map Cls.p = l.map Cls.p ∧ (∀ V, Fr (fun i => i < w.heap.size) w' V → Clss V A' cls) ∧ Fr No w w'
set_option maxRecDepth 100000 in
set_option maxHeartbeats 4000000 in
theorem copClasses_any (l : List Cls) (A : Option Addr) (n c : Nat) (w : World) (h : Clss w A l) (hn : l.length = n) (hm : n ≤ 1099511627776) (hfew : ∀ s ∈ l, s.Few) :
    Calls Try.prog 52 #[.slice A n c, .func (.func 53) #[] #[]] w (CopQ w n l) := by
  have Hs := Lib.hid (fun W (hW : Fr No w W) => h.since hW)
  have Hn := Lib.hid hn
  have HC := Lib.hid (fun W (hW : Fr No w W) (k : Nat) (hk : k < l.length) => copyClass_any l[k] W ((h.since hW).all _ (List.getElem_mem hk)) (hfew _ (List.getElem_mem hk)))
  have HK : Hid (J12 w.heap.size w w none 0 0 []) := Lib.hid ⟨World.ownsRow_nil _ _ _ _, fun s h => by simp at h, Fr.refl _ _⟩
  clear h hn hfew
  go_enter Try.func52, Try.ntmps52
  go_wp2
  go_loopw [5, 10] (fun v iv wr => ∃ (k : Nat) (B : Option Addr) (c2 : Nat) (cls : List Cls), k ≤ n ∧ iv = .int .i64 (k : Int) ∧ v = .slice B k c2 ∧ Hid (cls.map Cls.p = (l.take k).map Cls.p) ∧ Hid (J12 w.heap.size w wr B c2 k cls)) (fun _ i _ => n - (intOf i).toNat)
  case atStart => exact ⟨0, none, 0, [], Nat.zero_le _, rfl, rfl, Lib.hid rfl, HK⟩
  case round =>
    obtain ⟨k, B, c2, cls, hk, rfl, rfl, hls, hK⟩ := hrel
    by_cases hlt : k < n
    · have hkl : k < l.length := by rw [Hn.out]; exact hlt
      obtain ⟨ad, rfl, hab, x0, x1, x2, x3, x4⟩ := (Hs.out _ hK.out.fr).sl.cls (k := k) hkl
      have Hnx : Hid ((l.take (k + 1)).map Cls.p = (l.take k).map Cls.p ++ [l[k].p]) := Lib.hid (by rw [List.take_succ_eq_append_getElem hkl, List.map_append]; rfl)
      have hC := Lib.hid (fun W (hW : Fr No w W) => HC.out W hW k hkl)
      generalize l[k] = x at x0 x1 x2 x3 x4 Hnx hC
      obtain ⟨nm, a, sA, ss, sc, uA, us, uc, res⟩ := x
      unfold Cls.agg at hC
      simp only at x0 x1 x2 x3 x4 hC
      generalize ss.length = m at *
      generalize us.length = p at *
      have f1 : Fr No wr (wr.alloc (.cells #[.string nm, .int .i64 a, .slice sA m sc, .slice uA p uc, .bool res] 35)) := (Fr.refl _ _).alloc _
      have Hol := Lib.hid (fun i hi => (hK.out.own.lt i hi).2)
      have HK1 := Lib.hid (hK.out.quiet f1)
      have CC := Lib.hid (hC.out _ HK1.out.fr)
      have Hgr := Lib.hid (HK1.out.fr.size)
      have Hgw := Lib.hid f1.size
      clear hK f1 HC hC
      go_wp2_with fail
      refine (CC.out).mono ?_
      rintro e w4 ⟨y, rfl, hy, hyo, f4⟩
      have HK4 := Lib.hid (HK1.out.quiet f4)
      have HY := Lib.hid hyo
      have Hy := Lib.hid hy
      have hu1 := cls_one12 y
      have HB : Hid (w.heap.size ≤ w4.heap.size) := Lib.hid HK4.out.fr.size
      unfold Cls.agg
      clear hyo f4 CC hy
      go_wp2_with (first
        | (at_builtin
           refine wpList_append_elem rfl _ _ _ rfl w.heap.size 35 _ 5 80 Try.underlying22 info_cls12 rfl (by omega) (.slice B k c2) k (cls.flatMap Cls.cells) #[.string y.name, .int .i64 y.args, .slice y.sA y.steps.length y.sc, .slice y.uA y.comps.length y.uc, .bool y.res] rfl hu1 rfl w4.heap.size rfl rfl HK4.out.own (by unfold maxLen; omega) (by omega) HB.out ?_
           intro A6 c6 v6 o6 f6 g6
           have h6 := HK4.out.app (Nat.le_refl _) HY.out Hgr.out (fun i hi => by have := Hol.out i hi; have := Hgw.out; omega) o6 f6 g6
           have H6 := Lib.hid h6
           clear h6 o6 f6 g6))
      go_roundw
      case rel => exact ⟨k + 1, A6, c6, cls ++ [y], by omega, by go_num, rfl, Lib.hid (by rw [List.map_append, hls.out, Hnx.out, ← Hy.out]; rfl), H6⟩
      case measure => simp [intOf]; omega
    · obtain rfl : k = n := by omega
      have hl : cls.map Cls.p = l.map Cls.p := by rw [hls.out, List.take_of_length_le (by rw [Hn.out]; exact Nat.le_refl _)]
      have Hl := Lib.hid hl
      go_wp2
      go_ret
      exact ⟨B, c2, cls, rfl, Hl.out, fun V hV => hK.out.clss hV, hK.out.fr⟩
end Go.Proofs.Ytkihbjgmmaklaaa
