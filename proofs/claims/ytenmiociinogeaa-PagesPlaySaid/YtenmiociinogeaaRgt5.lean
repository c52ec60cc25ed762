/- The document's store: a value put into none, and got; the pairs of some keys; lists that are the same. -/
import Derived.Test.YtenmiociinogeaaRpt5
import Derived.BigQuiet
namespace Go.Proofs.Ytenmiociinogeaa
open Go.RowKit

set_option maxRecDepth 100000 in
set_option maxHeartbeats 4000000 in
theorem rPut_nil (R : Nat → Prop) (p k : Nat) (hk : k < 1000) (v : Int) (w : World) (h : RS w R p []) :
    Calls Try.prog 15 #[.pointer (some ⟨p, 0, none⟩), .int .i64 k, .int .i64 v] w fun e w' => e = .returned (.int .i64 0) ∧ ∃ R', RS w' R' p (putP [] k v) ∧ Fr (fun x => x = p) w w' ∧ ∀ x, R' x → R x ∨ w.heap.size ≤ x := by
  have qf := rFind_any R p k [] w h (fun q hq => by cases hq) (fun q hq => by cases hq)
  have hat : atP [] k = 0 := rfl
  have hix : idxP [] k = -1 := rfl
  rw [hat, hix] at qf
  obtain ⟨hv, hs, hd, hll, hpg, hR1, hR2, hR3, hR4⟩ := h
  obtain rfl : hs = [] := List.eq_nil_of_length_eq_zero hll
  obtain ⟨A, c0, rfl, hc0⟩ := hd.shape
  have hcl : ∀ W, Fr No w W → W.cell? ⟨p, 0, none⟩ = some (.slice A 0 c0) ∧ W.frozen? ⟨p, 0, none⟩ = false ∧ Bk W p 32 #[.slice A 0 c0] := fun W hW => by
    have h1 := (hd.fr hW (fun e => e) (fun _ _ e => e)).self
    have h2 := h1.cell 0
    simp at h2
    exact ⟨h2, h1.frozen 0, h1⟩
  clear hat hix hd
  go_enter Try.func15, Try.ntmps15
  go_wp2_with fail
  refine qf.mono ?_
  rintro e w1 ⟨rfl, hf1⟩
  have fA := (hf1.alloc (.cells #[.int .i64 (k : Int), .int .i64 v] 50)).alloc (.cells #[.slice (some ⟨w1.heap.size, 0, none⟩) 1 1] 47)
  obtain ⟨p0, -, -⟩ := hcl _ hf1
  obtain ⟨p1, pz, pb⟩ := hcl _ fA
  have hsz := hf1.size
  have hp := hR4 p hR1
  have HR : Hid (∃ R', RS (((w1.alloc (.cells #[.int .i64 (k : Int), .int .i64 v] 50)).alloc (.cells #[.slice (some ⟨w1.heap.size, 0, none⟩) 1 1] 47)).setCell ⟨p, 0, none⟩ (.slice (some ⟨w1.heap.size + 1, 0, none⟩) 1 1)) R' p (putP [] k v) ∧
      Fr (fun x => x = p) w (((w1.alloc (.cells #[.int .i64 (k : Int), .int .i64 v] 50)).alloc (.cells #[.slice (some ⟨w1.heap.size, 0, none⟩) 1 1] 47)).setCell ⟨p, 0, none⟩ (.slice (some ⟨w1.heap.size + 1, 0, none⟩) 1 1)) ∧ ∀ x, R' x → R x ∨ w.heap.size ≤ x) := Lib.hid (by
    have o1 := own_made w1 50 2 1 #[.int .i64 (k : Int), .int .i64 v] rfl (by unfold maxLen; omega)
    have o2 := own_made (w1.alloc (.cells #[.int .i64 (k : Int), .int .i64 v] 50)) 47 1 1 #[.slice (some ⟨w1.heap.size, 0, none⟩) 1 1] rfl (by unfold maxLen; omega)
    simp only [World.size_alloc] at o2
    have o1' := o1.alloc (.cells #[.slice (some ⟨w1.heap.size, 0, none⟩) 1 1] 47)
    have hfs := Fr.setCell (S := fun k => k = p) (Fr.refl (fun k => k = p) ((w1.alloc (.cells #[.int .i64 (k : Int), .int .i64 v] 50)).alloc (.cells #[.slice (some ⟨w1.heap.size, 0, none⟩) 1 1] 47))) (p := ⟨p, 0, none⟩) (.inl rfl) (.slice (some ⟨w1.heap.size + 1, 0, none⟩) 1 1)
    refine ⟨fun x => R x ∨ w.heap.size ≤ x ∧ x < w1.heap.size + 2, ⟨_, [.slice (some ⟨w1.heap.size, 0, none⟩) 1 1], ⟨pb.put 0 _, ?_, ?_, by simp⟩, rfl, ?_, .inl hR1, ?_, ?_, ?_⟩, ?_, fun x hx => hx.imp_right (fun h => h.1)⟩
    · exact own_base (own_fr o2 hfs (fun x e1 e2 => by simp [Value.ownBlock] at e1; omega)) (Nat.zero_le _)
    · intro u hu
      simp at hu
      subst hu
      rfl
    · intro i c1 c2
      obtain rfl : i = 0 := by simp at c1; omega
      exact own_base (own_fr o1' hfs (fun x e1 e2 => by simp [Value.ownBlock] at e1; omega)) (Nat.zero_le _)
    · intro x e
      simp [Value.ownBlock] at e
      exact .inr (by omega)
    · intro u hu x e
      simp at hu
      subst hu
      simp [Value.ownBlock] at e
      exact .inr (by omega)
    · intro x hx
      simp [World.setCell]
      rcases hx with hx | hx
      · have := hR4 x hx; omega
      · omega
    · exact Fr.setCell (S := fun k => k = p) (fA.weak (fun _ _ e => e.elim)) (p := ⟨p, 0, none⟩) (.inl rfl) _)
  clear qf hcl fA pb
  go_wp2
  go_ret
  exact ⟨rfl, HR.out⟩
theorem rPut_any (R : Nat → Prop) (p k : Nat) (hk : k < 1000) (v : Int) (P : List Pg) (hi : InvP P) (w : World) (h : RS w R p P) :
    Calls Try.prog 15 #[.pointer (some ⟨p, 0, none⟩), .int .i64 k, .int .i64 v] w fun e w' => e = .returned (.int .i64 0) ∧ ∃ R', RS w' R' p (putP P k v) ∧ Fr (fun x => x = p) w w' ∧ ∀ x, R' x → R x ∨ w.heap.size ≤ x := by
  by_cases hP : P = []
  · subst hP
    exact rPut_nil R p k hk v w h
  · exact rPut_some R p k hk v P hP hi w h
set_option maxHeartbeats 1000000 in
theorem rPut_no (k v : Int) (P : Option Addr) (hk : k < 0 ∨ 999 < k) (w : World) :
    Calls Try.prog 15 #[.pointer P, .int .i64 k, .int .i64 v] w fun e w' => e = .returned (.int .i64 3) ∧ w' = w := by
  rcases hk with hk | hk
  · go_enter Try.func15, Try.ntmps15
    go_wp2
    go_ret
    exact ⟨rfl, rfl⟩
  · have h0 : ¬ k < 0 := by omega
    go_enter Try.func15, Try.ntmps15
    go_wp2
    go_ret
    exact ⟨rfl, rfl⟩
set_option maxHeartbeats 1000000 in
theorem rGet_no (k : Int) (P : Option Addr) (hk : k < 0 ∨ 999 < k) (w : World) :
    Calls Try.prog 12 #[.pointer P, .int .i64 k] w fun e w' => e = .returned (.tuple #[.int .i64 0, .int .i64 3]) ∧ w' = w := by
  rcases hk with hk | hk
  · go_enter Try.func12, Try.ntmps12
    go_wp2
    go_ret2
    exact ⟨rfl, rfl⟩
  · have h0 : ¬ k < 0 := by omega
    go_enter Try.func12, Try.ntmps12
    go_wp2
    go_ret2
    exact ⟨rfl, rfl⟩
set_option maxHeartbeats 1000000 in
theorem rDel_no (k : Int) (P : Option Addr) (hk : k < 0 ∨ 999 < k) (w : World) :
    Calls Try.prog 10 #[.pointer P, .int .i64 k] w fun e w' => e = .returned (.int .i64 3) ∧ w' = w := by
  rcases hk with hk | hk
  · go_enter Try.func10, Try.ntmps10
    go_wp2
    go_ret
    exact ⟨rfl, rfl⟩
  · have h0 : ¬ k < 0 := by omega
    go_enter Try.func10, Try.ntmps10
    go_wp2
    go_ret
    exact ⟨rfl, rfl⟩

theorem val_idx (q : Pg) (hr : Rise q) (k i : Nat) (hi : (i : Int) = idxI q k) (hl : i < q.length) : valP q k = some q[i].2 := by
  have hk := (idxI_iff q hr k i hl).1 hi
  have hm := List.getElem_mem hl
  clear hi
  generalize q[i] = x at *
  obtain ⟨xk, xv⟩ := x
  simp only at hk
  subst hk
  clear hl
  induction q with
  | nil => cases hm
  | cons y r ih =>
    obtain ⟨h1, h2⟩ := List.pairwise_cons.1 hr
    rcases List.mem_cons.1 hm with e | hm
    · subst e; simp [valP]
    · have := h1 _ hm
      rw [valP, if_neg (by simp only at this; omega)]
      exact ih h2 hm
theorem val_none (q : Pg) (k : Nat) (h : idxI q k < 0) : valP q k = none := by
  have h1 := (idxI_neg q k).1 h
  refine valP_none fun x hx e => ?_
  have : hasK q k = true := List.any_eq_true.2 ⟨x, hx, by simpa using e⟩
  rw [h1] at this
  cases this
/-- What Get answers: the value, and an error's number. -/
def getA (P : List Pg) (k : Nat) : Int × Int := match valP P.flatten k with
  | some v => (v, 0)
  | none => (0, 5)
set_option maxRecDepth 100000 in
set_option maxHeartbeats 2000000 in
theorem rGet_any (R : Nat → Prop) (p k : Nat) (hk : k < 1000) (P : List Pg) (hi : InvP P) (w : World) (h : RS w R p P) :
    Calls Try.prog 12 #[.pointer (some ⟨p, 0, none⟩), .int .i64 k] w fun e w' => e = .returned (.tuple #[.int .i64 (getA P k).1, .int .i64 (getA P k).2]) ∧ Fr No w w' := by
  have qf := rFind_any R p k P w h (fun q hq => (hi.one q hq).1) (fun q hq => by have := (hi.one q hq).2; omega)
  have hval := hi.val k
  obtain ⟨i, Hi⟩ : ∃ i, Hid (i = idxP P k) := ⟨_, Lib.hid rfl⟩
  rw [← Hi.out] at qf
  by_cases hneg : i < 0
  · have hg : getA P k = (0, 5) := by
      unfold getA
      rw [hval, val_none _ k (by rw [Hi.out] at hneg; exact hneg)]
    rw [hg]
    clear hval hg h
    generalize atP P k = a at qf
    go_enter Try.func12, Try.ntmps12
    go_wp2_with fail
    refine qf.mono ?_
    rintro e w1 ⟨rfl, hf1⟩
    clear qf
    go_wp2
    go_ret2
    exact ⟨rfl, hf1⟩
  · have hP : P ≠ [] := by
      rintro rfl
      have : idxP [] k = -1 := rfl
      rw [Hi.out, this] at hneg
      omega
    have hat := atP_lt P k hP
    have hgd : P.getD (atP P k) [] = P[atP P k] := by simp [List.getD, hat]
    obtain ⟨hv, hs, hd, hll, hpg, -⟩ := h
    have hats : atP P k < hs.length := by omega
    have hp0 := hpg _ hats hat
    obtain ⟨C, cc, hhv, hcc⟩ := hp0.shape
    have hrise : Rise P[atP P k] := by
      obtain ⟨X, Y, hXY⟩ := List.append_of_mem (List.getElem_mem hat)
      have hr := hi.rise
      rw [hXY, List.flatten_append, List.flatten_cons] at hr
      exact (Rise.app (Rise.app hr).2.1).1
    have hii : i = idxI P[atP P k] k := by rw [Hi.out]; unfold idxP; rw [hgd]
    have hlt := (idxI_lt P[atP P k] k).1
    obtain ⟨j, rfl⟩ : ∃ j : Nat, i = j := ⟨i.toNat, by omega⟩
    have hj : j < P[atP P k].length := by omega
    have hg : getA P k = (P[atP P k][j].2, 0) := by
      unfold getA
      rw [hval, hgd, val_idx _ hrise k j hii hj]
    rw [hg]
    obtain ⟨A, c0, rfl, hc0⟩ := hd.shape
    have hcl : ∀ W, Fr No w W → W.cell? ⟨p, 0, none⟩ = some (.slice A hs.length c0) ∧ ∃ g gg, A = some ⟨g, 0, none⟩ ∧ C = some ⟨gg, 0, none⟩ ∧ W.cell? ⟨g, atP P k, none⟩ = some (.slice C P[atP P k].length cc) ∧ W.cell? ⟨gg, j * 2 + 1, none⟩ = some (.int .i64 P[atP P k][j].2) := fun W hW => by
      have h1 := hd.fr hW (fun e => e) (fun _ _ e => e)
      obtain ⟨g, e, -, -, hc⟩ := h1.cells hats
      have h2 := h1.self.cell 0
      simp at h2
      rw [hhv] at hc
      have hp1 := hp0.since hW
      rw [hhv] at hp1
      obtain ⟨gg, e2, -, -, -, x1⟩ := PgO.cells hp1 hj
      exact ⟨h2, g, gg, e, e2, hc, x1⟩
    clear hval hg hii hrise hpg hp0 hhv hgd hd
    generalize P[atP P k][j].2 = val at *
    generalize P[atP P k].length = ql at *
    generalize atP P k = a at *
    go_enter Try.func12, Try.ntmps12
    go_wp2_with fail
    refine qf.mono ?_
    rintro e w1 ⟨rfl, hf1⟩
    obtain ⟨p0, g, gg, rfl, rfl, x0, x1⟩ := hcl _ hf1
    clear qf hcl
    go_wp2
    go_ret2
    exact ⟨rfl, hf1⟩

set_option maxRecDepth 100000 in
set_option maxHeartbeats 2000000 in
theorem rScan_any (R : Nat → Prop) (p : Nat) (P : List Pg) (hi : InvP P) (lo hi' : Int) (w : World) (h : RS w R p P) :
    Calls Try.prog 20 #[.pointer (some ⟨p, 0, none⟩), .int .i64 lo, .int .i64 hi'] w (NewP w (scanP P.flatten lo hi')) := by
  have q := rPairs_any R p P w h (by have := hi.len.1; omega)
  have hl := hi.len.1
  clear h hi
  generalize P.flatten = l at *
  go_enter Try.func20, Try.ntmps20
  go_wp2_with fail
  refine q.mono ?_
  rintro e w1 ⟨A1, c1, rfl, hown, hf1⟩
  have hpo : PgO w1 (.slice A1 l.length c1) l := own_base hown (Nat.zero_le _)
  obtain ⟨z, hz⟩ : ∃ z, Hid (z = l.length) := ⟨_, Lib.hid rfl⟩
  have hz1 : z ≤ 1000 := by rw [hz.out]; exact hl
  clear q hown
  rw [← hz.out]
  go_wp2
  go_loopw [7, 9] (fun lv iv wr => ∃ (j n : Nat) (B : Option Addr) (cb : Nat), j ≤ z ∧ iv = .int .i64 j ∧ lv = .slice B n cb ∧ Hid (n = (scanP (l.take j) lo hi').length) ∧ wr.ownsRow w1.heap.size 50 2 (.slice B n cb) n (prs (scanP (l.take j) lo hi')) ∧ Fr No w1 wr) (fun _ i _ => z - (intOf i).toNat)
  case atStart => exact ⟨0, 0, none, 0, by omega, rfl, rfl, Lib.hid rfl, World.ownsRow_nil _ _ _ _, Fr.refl _ _⟩
  case round =>
    obtain ⟨j, n, B, cb, hj, rfl, rfl, Hn, hown, hfr⟩ := hrel
    have hn9 : n ≤ 1000 := by
      have : (scanP (l.take j) lo hi').length ≤ (l.take j).length := List.length_filter_le _ _
      rw [List.length_take] at this
      rw [Hn.out]; omega
    by_cases hlt : j < z
    · have hjl : j < l.length := by rw [← hz.out]; exact hlt
      obtain ⟨gg, rfl, -, -, x0, x1⟩ := PgO.cells (hpo.since hfr) hjl
      have Hs : Hid (scanP (l.take (j + 1)) lo hi' = scanP (l.take j) lo hi' ++ (if lo ≤ (l[j].1 : Int) ∧ (l[j].1 : Int) ≤ hi' then [l[j]] else [])) := Lib.hid (by
        rw [List.take_succ_eq_append_getElem hjl]
        unfold scanP
        rw [List.filter_append]
        congr 1
        simp only [List.filter_cons, List.filter_nil]
        by_cases h1 : lo ≤ (l[j].1 : Int) <;> by_cases h2 : (l[j].1 : Int) ≤ hi' <;> simp [h1, h2])
      generalize l[j] = x at *
      obtain ⟨xk, xv⟩ := x
      simp only at x0 x1
      by_cases h1 : lo ≤ (xk : Int)
      · by_cases h2 : (xk : Int) ≤ hi'
        · have HS : Hid (scanP (l.take (j + 1)) lo hi' = scanP (l.take j) lo hi' ++ [(xk, xv)]) := Lib.hid (by rw [Hs.out, if_pos ⟨h1, h2⟩])
          clear hpo Hs
          go_wp2_with (at_builtin; refine wpList_app1 (w0 := w1) rfl _ _ _ rfl 50 (.agg #[.int .i64 0, .int .i64 0]) 2 16 Try.underlying47 info_pair rfl (by omega) (.slice B n cb) n _ #[.int .i64 (xk : Int), .int .i64 xv] rfl (by intro u hu; simp at hu; rcases hu with rfl | rfl <;> rfl) rfl wr.heap.size (by simp) rfl hown hfr (by unfold maxLen; omega) (by omega) ?r1)
          case r1 =>
            intro A2 c2 w2 own2 f2 g2
            clear g2 hown hfr x0 x1
            go_wp2
            go_roundw
            case rel => exact ⟨j + 1, n + 1, A2, c2, by omega, by go_num, rfl, Lib.hid (by rw [HS.out, List.length_append, ← Hn.out]; rfl), by rw [HS.out, prs_app]; exact own2, f2⟩
            case measure => simp [intOf]; omega
        · have HS : Hid (scanP (l.take (j + 1)) lo hi' = scanP (l.take j) lo hi') := Lib.hid (by rw [Hs.out, if_neg (fun h => h2 h.2), List.append_nil])
          clear hpo Hs
          go_wp2
          go_roundw
          case rel => exact ⟨j + 1, n, B, cb, by omega, by go_num, rfl, by rw [HS.out]; exact Hn, by rw [HS.out]; exact hown, hfr⟩
          case measure => simp [intOf]; omega
      · have HS : Hid (scanP (l.take (j + 1)) lo hi' = scanP (l.take j) lo hi') := Lib.hid (by rw [Hs.out, if_neg (fun h => h1 h.1), List.append_nil])
        clear hpo Hs
        go_wp2
        go_roundw
        case rel => exact ⟨j + 1, n, B, cb, by omega, by go_num, rfl, by rw [HS.out]; exact Hn, by rw [HS.out]; exact hown, hfr⟩
        case measure => simp [intOf]; omega
    · have hall : l.take j = l := List.take_of_length_le (by rw [← hz.out]; omega)
      rw [hall] at hown Hn
      have Hn' := Lib.hid Hn.out
      clear hall Hn hpo
      go_wp2
      go_ret
      exact ⟨B, cb, by rw [← Hn'.out]; rfl, by rw [← Hn'.out]; exact own_base hown hf1.size, hf1.trans' hfr (fun _ _ e => e)⟩
end Go.Proofs.Ytenmiociinogeaa
