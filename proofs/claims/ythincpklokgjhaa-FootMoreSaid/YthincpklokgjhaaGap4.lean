/- Package keys: the keys that a plain list hasn't. -/
import Derived.Test.YthincpklokgjhaaMay4
namespace Go.Proofs.Ythincpklokgjhaa
open Go.RowKit

/-- Under way: the list so far lies behind block O, the next key in block N. -/
structure GapSt (w0 w : World) (O N B : Nat) (A : Option Addr) (m c : Nat) (next : Int) (out : List Span) : Prop where
  box : Bk w O 25 #[.slice A m c]
  own : w.ownsRow B 63 2 (.slice A m c) m (sps out)
  len : out.length = m
  nx : Bk w N 3 #[.int .i64 next]
  fr : Fr No w0 w
  sz : B ≤ w.heap.size
  o : w0.heap.size ≤ O ∧ O < B
  n : w0.heap.size ≤ N ∧ N < B
  ne : O ≠ N
def addL (out : List Span) (next hi : Int) : List Span := if mayB next hi = true then out ++ [(next, hi)] else out
set_option maxRecDepth 100000 in
set_option maxHeartbeats 4000000 in
theorem kAdd_any (w0 w : World) (O N B : Nat) (A : Option Addr) (m c : Nat) (next hi : Int) (out : List Span) (h : GapSt w0 w O N B A m c next out) (hlen : out.length ≤ 4194304) :
    Calls Try.prog 81 #[.int .i64 hi, .pointer (some ⟨N, 0, none⟩), .pointer (some ⟨O, 0, none⟩)] w fun e w' => e = .returned (.tuple #[]) ∧ ∃ A' m' c', GapSt w0 w' O N B A' m' c' next (addL out next hi) ∧ Fr (fun k => k = O ∨ (Value.slice A m c).ownBlock = some k) w w' := by
  obtain ⟨hO, hown, hm, hN, hfr, hsz, ⟨hO1, hO2⟩, ⟨hN1, hN2⟩, hne⟩ := h
  have n0 := hN.cell 0
  simp at n0
  have v1 := Bk.made w 63 #[.int .i64 next, .int .i64 hi]
  have q1 := (Fr.refl (fun k => k = O ∨ (Value.slice A m c).ownBlock = some k) w).alloc (.cells #[.int .i64 next, .int .i64 hi] 63)
  have g1 := hfr.alloc (.cells #[.int .i64 next, .int .i64 hi] 63)
  have hown1 := hown.alloc (.cells #[.int .i64 next, .int .i64 hi] 63)
  have hO' := hO.alloc (.cells #[.int .i64 next, .int .i64 hi] 63)
  have hN' := hN.alloc (.cells #[.int .i64 next, .int .i64 hi] 63)
  cases hmay : mayB next hi with
  | true =>
    have HMt : ∀ W, Calls Try.prog 80 #[.agg #[.int .i64 next, .int .i64 hi]] W fun e w' => e = .returned (.bool true) ∧ Fr No W w' := fun W => by rw [← hmay]; exact kMay_any next hi W
    have Ho : Hid (addL out next hi = out ++ [(next, hi)]) := Lib.hid (by unfold addL; rw [if_pos hmay])
    clear hmay hO hN hown hfr
    go_enter Try.func81, Try.ntmps81
    go_wp2_with fail
    refine (HMt _).mono ?_
    rintro e w2 ⟨rfl, hf2⟩
    have hsz2 := hf2.size
    simp only [World.size_alloc] at hsz2
    have v2 := v1.fr hf2 (fun e => e)
    have hO2' := hO'.fr hf2 (fun e => e)
    have hN2' := hN'.fr hf2 (fun e => e)
    have x0 := v2.cell 0
    have x1 := v2.cell 1
    have o0 := hO2'.cell 0
    simp at x0 x1 o0
    have hown2 := own_fr hown1 hf2 (fun _ _ e => e)
    have g2 := g1.trans' hf2 (fun _ _ e => e)
    have q2 := q1.trans' hf2 (fun _ _ e => e.elim)
    clear hf2 hown1 HMt v1 v2 hO' hN' g1
    go_wp2_with (at_builtin; refine wpList_append_elem rfl _ _ _ rfl B 63 (.agg #[.int .i64 0, .int .i64 0]) 2 16 Try.underlying25 info_span rfl (by omega) (.slice A m c) m (sps out) #[.int .i64 next, .int .i64 hi] rfl (by intro u hu; simp at hu; rcases hu with rfl | rfl <;> rfl) rfl w2.heap.size rfl rfl hown2 (by unfold maxLen; omega) (by omega) (by omega) ?r1)
    case r1 =>
      intro A1 c1 w3 hown3 hf3 hg3
      have hnO : ¬ (Value.slice A m c).ownBlock = some O := fun e => by have := (hown2.lt O e).1; omega
      have hnN : ¬ (Value.slice A m c).ownBlock = some N := fun e => by have := (hown2.lt N e).1; omega
      have hO3 := hO2'.fr hf3 hnO
      have hN3 := hN2'.fr hf3 hnN
      have hz := hO3.frozen 0
      have o3 := hO3.cell 0
      simp at o3
      have g3 := g2.trans' hf3 (fun k hk e => by have := (hown2.lt k e).1; omega)
      have hsz3 := hf3.size
      have hown4 : w3.ownsRow B 63 2 (.slice A1 (m + 1) c1) (m + 1) (sps (out ++ [(next, hi)])) := by
        rw [sps_app out]
        exact hown3
      have HG : Hid (GapSt w0 (w3.setCell ⟨O, 0, none⟩ (.slice A1 (m + 1) c1)) O N B A1 (m + 1) c1 next (addL out next hi)) := Lib.hid (by
        rw [Ho.out]
        have hfs : Fr (fun k => k = O) w3 (w3.setCell ⟨O, 0, none⟩ (.slice A1 (m + 1) c1)) := (Fr.refl (fun k => k = O) w3).setCell (p := ⟨O, 0, none⟩) (.inl rfl) _
        refine ⟨hO3.put 0 _, own_fr hown4 hfs (fun k e1 e2 => by have := (hown4.lt k e1).1; omega), by simp [hm], hN3.fr hfs (fun e => hne e.symm), g3.setCell (p := ⟨O, 0, none⟩) (.inr hO1) _, by have := hfs.size; omega, ⟨hO1, hO2⟩, ⟨hN1, hN2⟩, hne⟩)
      have HQ : Hid (Fr (fun k => k = O ∨ (Value.slice A m c).ownBlock = some k) w (w3.setCell ⟨O, 0, none⟩ (.slice A1 (m + 1) c1))) := Lib.hid ((q2.trans' hf3 (fun _ _ e => .inr e)).setCell (p := ⟨O, 0, none⟩) (.inl (.inl rfl)) _)
      clear q2
      clear hf3 hg3 hown3 hown2 hO3 hN3 hO2' hN2' g2 g3 hown4
      go_wp2
      go_end0
      exact ⟨rfl, _, _, _, HG.out, HQ.out⟩
  | false =>
    have HMt : ∀ W, Calls Try.prog 80 #[.agg #[.int .i64 next, .int .i64 hi]] W fun e w' => e = .returned (.bool false) ∧ Fr No W w' := fun W => by rw [← hmay]; exact kMay_any next hi W
    have Ho : Hid (addL out next hi = out) := Lib.hid (by unfold addL; rw [if_neg (by rw [hmay]; simp)])
    clear hmay hO hN hown hfr
    go_enter Try.func81, Try.ntmps81
    go_wp2_with fail
    refine (HMt _).mono ?_
    rintro e w2 ⟨rfl, hf2⟩
    have hsz2 := hf2.size
    simp only [World.size_alloc] at hsz2
    have HG : Hid (GapSt w0 w2 O N B A m c next (addL out next hi)) := Lib.hid (by
      rw [Ho.out]
      exact ⟨hO'.fr hf2 (fun e => e), own_fr hown1 hf2 (fun _ _ e => e), hm, hN'.fr hf2 (fun e => e), g1.trans' hf2 (fun _ _ e => e), by omega, ⟨hO1, hO2⟩, ⟨hN1, hN2⟩, hne⟩)
    have HQ := Lib.hid (q1.trans' hf2 (fun _ _ e => e.elim))
    clear hf2 hown1 HMt v1 hO' hN' g1 q1
    go_wp2
    go_end0
    exact ⟨rfl, _, _, _, HG.out, HQ.out⟩

theorem addL_len (out : List Span) (next hi : Int) : (addL out next hi).length ≤ out.length + 1 := by
  unfold addL
  split
  · simp
  · omega
theorem mayB_gap {next hi : Int} (h0 : 0 ≤ next) (h1 : hi ≤ 999) : mayB next hi = true ↔ next ≤ hi := by
  simp only [mayB, decide_eq_true_eq]
  omega
theorem Gaps.round {p rest out : List Span} {s : Span} {next : Int} (h : Gaps p (s :: rest) next out) : Gaps (p ++ [s]) rest (s.2 + 1) (addL out next (s.1 - 1)) := by
  have h0 := h.lo
  have h1 := (h.tl.cons.1)
  unfold okSp at h1
  unfold addL
  by_cases hc : next ≤ s.1 - 1
  · rw [if_pos ((mayB_gap h0 (by omega)).2 hc)]
    exact h.step.1 hc
  · rw [if_neg (fun e => hc ((mayB_gap h0 (by omega)).1 e))]
    exact h.step.2 hc
theorem Gaps.end_ {p out : List Span} {next : Int} (h : Gaps p [] next out) : addL out next 999 = plainOf fun k => !keysOf p k := by
  have h0 := h.lo
  unfold addL
  by_cases hc : next ≤ 999
  · rw [if_pos ((mayB_gap h0 (by omega)).2 hc)]
    exact h.done.1 hc
  · rw [if_neg (fun e => hc ((mayB_gap h0 (by omega)).1 e))]
    exact h.done.2 hc
set_option maxRecDepth 100000 in
set_option maxHeartbeats 4000000 in
theorem kGaps_any (l : List Span) (A : Option Addr) (n c : Nat) (w : World) (hl : Sl w w.heap.size A (sps l)) (hn : l.length = n) (pl : IsPl l) (hle : n ≤ 1048576) :
    Calls Try.prog 69 #[.slice A n c] w (NewO w (plainOf fun k => !keysOf l k)) := by
  obtain ⟨O, HO⟩ : ∃ O, Hid (O = w.heap.size) := ⟨_, Lib.hid rfl⟩
  have b0 := Bk.made w 25 #[.slice none 0 0]
  have b1 := Bk.made (w.alloc (.cells #[.slice none 0 0] 25)) 3 #[.int .i64 0]
  have hst : Hid (GapSt w ((w.alloc (.cells #[.slice none 0 0] 25)).alloc (.cells #[.int .i64 0] 3)) w.heap.size (w.heap.size + 1) (w.heap.size + 2) none 0 0 0 []) := Lib.hid (by
    simp only [World.size_alloc] at b1
    exact ⟨b0.alloc _, World.ownsRow_nil _ _ _ _, rfl, b1, ((Fr.refl No w).alloc _).alloc _, by simp, ⟨Nat.le_refl _, by omega⟩, ⟨by omega, by omega⟩, by omega⟩)
  have Hg := Lib.hid (Gaps.start pl)
  have Hn := Lib.hid hn
  clear b0 b1 hn pl
  go_enter Try.func69, Try.ntmps69
  go_wp2
  go_loopw [11] (fun iv wr => ∃ (j : Nat) (A : Option Addr) (m c : Nat) (next : Int) (out : List Span), j ≤ n ∧ iv = .int .i64 j ∧ Hid (Gaps (l.take j) (l.drop j) next out) ∧ Hid (GapSt w wr w.heap.size (w.heap.size + 1) (w.heap.size + 2) A m c next out)) (fun i _ => n - (intOf i).toNat)
  case atStart => exact ⟨0, none, 0, 0, 0, [], by omega, rfl, Hg, hst⟩
  case round =>
    clear Hg hst
    obtain ⟨j, A', m, cm, next, out, hj, rfl, HG, HS⟩ := hrel
    have hlen := HG.out.le
    rw [List.length_take] at hlen
    by_cases hlt : j < n
    · have hjl : j < l.length := by rw [Hn.out]; exact hlt
      obtain ⟨ad, rfl, hadB, d0, d1⟩ := hl.span hjl
      have c0 := (HS.out.fr.cell (p := ad.add (j * 2)) (by rw [block_add]; exact hadB) (fun e => e)).trans d0
      have c1 := (HS.out.fr.cell (p := ⟨(ad.add (j * 2)).block, (ad.add (j * 2)).off + 1, none⟩) (by rw [block_add]; exact hadB) (fun e => e)).trans d1
      have HG2 : Hid (Gaps (l.take (j + 1)) (l.drop (j + 1)) (l[j].2 + 1) (addL out next (l[j].1 - 1))) := Lib.hid (by
        have h1 := HG.out
        rw [List.drop_eq_getElem_cons hjl] at h1
        rw [List.take_succ_eq_append_getElem hjl]
        exact h1.round)
      have hok : okSp l[j] := HG.out.tl.ok _ (by rw [List.drop_eq_getElem_cons hjl]; exact List.mem_cons_self)
      clear d0 d1
      generalize l[j] = p at *
      obtain ⟨lo, hi⟩ := p
      obtain ⟨o1, o2, o3⟩ := hok
      simp only at o1 o2 o3
      have hw1 : wrap64 (lo - 1) = lo - 1 := by unfold wrap64; omega
      have hw2 : wrap64 (hi + 1) = hi + 1 := by unfold wrap64; omega
      have v1 := Bk.made wr 63 #[.int .i64 lo, .int .i64 hi]
      have hsto : ∀ o, GapSt w (wr.alloc o) w.heap.size (w.heap.size + 1) (w.heap.size + 2) A' m cm next out := fun o => by
        have h := HS.out
        exact ⟨h.box.alloc _, h.own.alloc _, h.len, h.nx.alloc _, h.fr.alloc _, by have := h.sz; simp; omega, h.o, h.n, h.ne⟩
      have qa := kAdd_any w _ _ _ _ _ _ _ next (lo - 1) out (hsto (.cells #[.int .i64 lo, .int .i64 hi] 63)) (by omega)
      have hob : ∀ k, (Value.slice A' m cm).ownBlock = some k → k < wr.heap.size := fun k e => (HS.out.own.lt k e).2
      have hzo := HS.out.sz
      clear hsto
      go_wp2_with fail
      refine qa.mono ?_
      rintro e w2 ⟨rfl, A2, m2, c2, hS2, hf2⟩
      have v2 := v1.fr hf2 (fun e => by rcases e with e | e; (omega); (have := hob _ e; omega))
      have x1 := v2.cell 1
      simp at x1
      have n0 := hS2.nx.cell 0
      have nz := hS2.nx.frozen 0
      simp at n0
      have HS3 : Hid (GapSt w (w2.setCell ⟨w.heap.size + 1, 0, none⟩ (.int .i64 (hi + 1))) w.heap.size (w.heap.size + 1) (w.heap.size + 2) A2 m2 c2 (hi + 1) (addL out next (lo - 1))) := Lib.hid (by
        have hfs : Fr (fun k => k = w.heap.size + 1) w2 (w2.setCell ⟨w.heap.size + 1, 0, none⟩ (.int .i64 (hi + 1))) := (Fr.refl (fun k => k = w.heap.size + 1) w2).setCell (p := ⟨w.heap.size + 1, 0, none⟩) (.inl rfl) _
        exact ⟨hS2.box.fr hfs (by omega), own_fr hS2.own hfs (fun k e1 e2 => by have := (hS2.own.lt k e1).1; omega), hS2.len, hS2.nx.put 0 _, hS2.fr.setCell (p := ⟨w.heap.size + 1, 0, none⟩) (.inr (by show w.heap.size ≤ w.heap.size + 1; omega)) _, by have := hS2.sz; have := hfs.size; omega, hS2.o, hS2.n, hS2.ne⟩)
      clear hf2 hS2 v1 v2 HS c0 c1 qa hob
      go_wp2
      go_roundw
      case rel => exact ⟨j + 1, A2, m2, c2, hi + 1, _, by omega, by go_num, HG2, HS3⟩
      case measure => simp [intOf]; omega
    · have hq := HG.out
      rw [List.drop_eq_nil_of_le (by rw [Hn.out]; omega), List.take_of_length_le (by rw [Hn.out]; omega)] at hq
      have He := Lib.hid hq.end_
      have qa := kAdd_any w wr _ _ _ _ _ _ next 999 out HS.out (by omega)
      clear hq
      go_wp2_with fail
      refine qa.mono ?_
      rintro e w2 ⟨rfl, A2, m2, c2, hS2, hf2⟩
      have n0 := hS2.box.cell 0
      simp at n0
      rw [He.out] at hS2
      have hl2 := hS2.len
      subst hl2
      have HS2 := Lib.hid hS2
      clear hS2 hf2 qa HS
      go_wp2
      go_ret
      exact ⟨A2, c2, rfl, own_base HS2.out.own (by omega), HS2.out.fr⟩
end Go.Proofs.Ythincpklokgjhaa
