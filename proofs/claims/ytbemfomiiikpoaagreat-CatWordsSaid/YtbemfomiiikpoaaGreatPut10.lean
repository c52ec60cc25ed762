/- A reader whose words lie in blocks of which G is told: flags; a flag that is written. -/
import Derived.Test.YtbemfomiiikpoaaGreatRgt10
import Derived.Test.YtbemfomiiikpoaaGreatRrd9
import Derived.Test.YtbemfomiiikpoaaGreatMay9
namespace Go.Proofs.YtbemfomiiikpoaaGreat
open Go.RowKit

section
variable {G : Nat → Prop}
set_option maxHeartbeats 2000000 in
theorem wrongBool_q (p q : Nat) (A : Option Addr) (n c : Nat) (b : Bool) (w : World) (hb : Bk w p 72 #[.slice A n c, .bool b]) (hq : w.cell? ⟨q, 0, none⟩ = some (.pointer (some ⟨p, 0, none⟩))) :
    Calls Tryz.prog 128 #[.pointer (some ⟨q, 0, none⟩)] w (Rdd G w p none (.bool false)) := by
  have hc0 := hb.cell 0
  have hc1 := hb.cell 1
  have hf0 := hb.frozen 0
  have hf1 := hb.frozen 1
  have hqp : q ≠ p := by
    rintro rfl
    rw [hc0] at hq
    simp at hq
  simp at hc0 hc1
  go_enter Tryz.func128, Tryz.ntmps128
  go_wp2
  go_region
  go_wp2
  go_ret
  have h1 := (hb.put 0 (.slice none 0 0)).put 1 (.bool true)
  have hf : Fr (Only p) w ((w.setCell ⟨p, 0, none⟩ (.slice none 0 0)).setCell ⟨p, 1, none⟩ (.bool true)) := ((Fr.refl (Only p) w).setCell (p := ⟨p, 0, none⟩) (.inl rfl) _).setCell (p := ⟨p, 1, none⟩) (.inl rfl) _
  exact ⟨by simp, ⟨none, 0, h1, Sl.nil _ _ _, by simp, by simp, by simp, by simp, by simp⟩, hf.drew⟩
set_option maxHeartbeats 2000000 in
theorem nextBool_q (p : Nat) (st : Option (List Nat)) (n : Nat) (x : Bool) (ok : Bool) (w : World) (hr : Rdq G w p st) (ht : st.isSome = true → n ≤ (st.getD []).length → Tells 115 (fun s => #[s]) w (st.getD []) n (.bool x) ok) (hn : n ≤ 1099511627776) :
    Calls Tryz.prog 114 #[.pointer (some ⟨p, 0, none⟩), .int .i64 n, .func (.func 115) #[] #[]] w (Rdd G w p (after st n ok) (told st n ok (.bool x) (.bool false))) := by
  have Ht := Lib.hid ht
  clear ht
  have hmf : ∀ (fn : Fn) (first cap : Array Value) (w : World), (Instr.makeFunc fn first cap).run Tryz.prog w = .ok (.func fn first cap) w := fun _ _ _ _ => rfl
  obtain ⟨A, c, hb, hsl, hap, hlc, hcm, hnil, h64⟩ := hr
  have hpl := hb.lt
  have hf0 : Fr No w (w.alloc (.cells #[.pointer (some ⟨p, 0, none⟩)] 34)) := (Fr.refl No w).alloc _
  have hq : (w.alloc (.cells #[.pointer (some ⟨p, 0, none⟩)] 34)).cell? ⟨w.heap.size, 0, none⟩ = some (.pointer (some ⟨p, 0, none⟩)) := (Bk.made w 34 #[.pointer (some ⟨p, 0, none⟩)]).cell 0
  cases st with
  | none =>
    simp only [Option.getD_none, Option.isNone_none, List.length_nil] at *
    have Hb := Lib.hid (hb.fr hf0 id)
    have hc0 := Hb.out.cell 0
    have hc1 := Hb.out.cell 1
    simp at hc0 hc1
    have Hq := Lib.hid hq
    clear hsl hap hlc hcm hnil h64 hb hq Ht
    go_enter Tryz.func114, Tryz.ntmps114
    go_wp2_with fail
    refine (wrongBool_q (G := G) p w.heap.size A 0 c true _ Hb.out Hq.out).mono ?_
    rintro e w1 ⟨rfl, h1, h2⟩
    go_wp2
    go_ret
    exact ⟨rfl, h1, (hf0.weak (fun _ _ h => h.elim)).trans' h2 (fun _ _ h => h)⟩
  | some xs =>
    simp only [Option.getD_some, Option.isNone_some] at *
    have Hb := Lib.hid (hb.fr hf0 id)
    have hc0 := Hb.out.cell 0
    have hc1 := Hb.out.cell 1
    simp at hc0 hc1
    have Hq := Lib.hid hq
    have Hsl := Lib.hid hsl
    have Hap := Lib.hid hap
    have Hnil := Lib.hid hnil
    have H64 := Lib.hid h64
    clear hsl hap hnil h64 hb hq
    by_cases hnl : n ≤ xs.length
    · have hnc : n ≤ c := by omega
      cases ok with
      | true =>
        have Ha : Hid (after (some xs) n true = some (xs.drop n)) := Lib.hid (by simp [after, hnl])
        have Hto : Hid (told (some xs) n true (.bool x) (.bool false) = .bool x) := Lib.hid (by simp [told, after, hnl])
        go_enter Tryz.func114, Tryz.ntmps114
        go_wp2_with fail
        refine (Ht.out rfl hnl _ A c hf0 (sl_take Hsl.out hf0 n) hnc hcm (fun e => (Hnil.out e).2)).mono ?_
        rintro e w1 ⟨rfl, hf1⟩
        have Hb1 := Lib.hid (Hb.out.fr hf1 id)
        have hd0 := Hb1.out.cell 0
        have hd1 := Hb1.out.cell 1
        have hz0 := Hb1.out.frozen 0
        have hq1 : w1.cell? ⟨w.heap.size, 0, none⟩ = some (.pointer (some ⟨p, 0, none⟩)) := (hf1.cell (by simp) id).trans Hq.out
        simp at hd0 hd1
        have hfd : ∀ u, Fr (Only p) w (w1.setCell ⟨p, 0, none⟩ u).drew := fun u => (((hf0.then0 hf1 (fun _ h => h.elim)).weak (S' := Only p) (fun _ _ h => h.elim)).setCell (p := ⟨p, 0, none⟩) (.inl rfl) u).drew
        have hrd := rdq_drop (n := n) Hb1.out (sl_take Hsl.out (hf0.then0 hf1 (fun _ h => h.elim)) xs.length) Hap.out hlc hcm Hnil.out H64.out hnl
        have Hfd := Lib.hid hfd
        have Hrd := Lib.hid hrd
        clear hfd hrd
        by_cases hcn : c = n
        · subst hcn
          go_wp2
          go_region
          go_wp2
          go_ret
          refine ⟨by rw [Hto.out]; rfl, ?_, Hfd.out _⟩
          have h9 := Hrd.out
          rw [if_pos trivial, show xs.length - c = 0 by omega, Nat.sub_self] at h9
          rw [Ha.out]
          exact h9
        · obtain ⟨ad, rfl⟩ : ∃ ad, A = some ad := by
            cases A with
            | none => have := (Hnil.out rfl).2; omega
            | some ad => exact ⟨ad, rfl⟩
          go_wp2
          go_region
          go_wp2
          go_ret
          refine ⟨by rw [Hto.out]; rfl, ?_, Hfd.out _⟩
          have h9 := Hrd.out
          rw [if_neg hcn] at h9
          rw [Ha.out]
          exact h9
      | false =>
        have Ha : Hid (after (some xs) n false = none) := Lib.hid (by simp [after])
        have Hto : Hid (told (some xs) n false (.bool x) (.bool false) = .bool false) := Lib.hid (by simp [told, after])
        go_enter Tryz.func114, Tryz.ntmps114
        go_wp2_with fail
        refine (Ht.out rfl hnl _ A c hf0 (sl_take Hsl.out hf0 n) hnc hcm (fun e => (Hnil.out e).2)).mono ?_
        rintro e w1 ⟨rfl, hf1⟩
        have Hb1 := Lib.hid (Hb.out.fr hf1 id)
        have Hq1 : Hid (w1.cell? ⟨w.heap.size, 0, none⟩ = some (.pointer (some ⟨p, 0, none⟩))) := Lib.hid ((hf1.cell (by simp) id).trans Hq.out)
        go_wp2_with fail
        refine (wrongBool_q (G := G) p w.heap.size A _ c false _ Hb1.out Hq1.out).mono ?_
        rintro e w2 ⟨rfl, h1, h2⟩
        go_wp2
        go_ret
        exact ⟨by rw [Hto.out]; rfl, by rw [Ha.out]; exact h1, ((hf0.then0 hf1 (fun _ h => h.elim)).weak (fun _ _ h => h.elim)).trans' h2 (fun _ _ h => h)⟩
    · have Ha : Hid (after (some xs) n ok = none) := Lib.hid (by simp [after, hnl])
      have Hto : Hid (told (some xs) n ok (.bool x) (.bool false) = .bool false) := Lib.hid (by simp [told, after, hnl])
      clear Ht
      go_enter Tryz.func114, Tryz.ntmps114
      go_wp2_with fail
      refine (wrongBool_q (G := G) p w.heap.size A _ c false _ Hb.out Hq.out).mono ?_
      rintro e w1 ⟨rfl, h1, h2⟩
      go_wp2
      go_ret
      exact ⟨by rw [Hto.out]; rfl, by rw [Ha.out]; exact h1, (hf0.weak (fun _ _ h => h.elim)).trans' h2 (fun _ _ h => h)⟩
set_option maxHeartbeats 2000000 in
theorem qflag_any (p : Nat) (st : Option (List Nat)) (w : World) (hr : Rdq G w p st) :
    Calls Tryz.prog 98 #[.pointer (some ⟨p, 0, none⟩)] w (RdqAs G w p (flagR st) false fun b => .bool b) := by
  have hmf : ∀ (fn : Fn) (first cap : Array Value) (w : World), (Instr.makeFunc fn first cap).run Tryz.prog w = .ok (.func fn first cap) w := fun _ _ _ _ => rfl
  obtain ⟨x, ok, h1, h2, h3⟩ := flag_spec st
  have H2 := Lib.hid h2
  have H3 := Lib.hid h3
  have ht : st.isSome = true → 1 ≤ (st.getD []).length → Tells 115 (fun s => #[s]) w (st.getD []) 1 (.bool x) ok := by
    intro _ hl
    match st, hl, h1 with
    | some (u :: r), _, h1 =>
      obtain ⟨rfl, rfl⟩ := h1 u r rfl
      exact flagTell_any u r w
  have Ht := Lib.hid ht
  clear h1 h2 h3 ht
  go_enter Tryz.func98, Tryz.ntmps98
  go_wp2_with fail
  refine (nextBool_q p st 1 x ok _ hr Ht.out (by omega)).mono ?_
  rw [H2.out, H3.out]
  rintro e w1 ⟨rfl, q1, q2⟩
  go_wp2
  go_ret
  exact ⟨by simp, q1, q2⟩
end
theorem flag10 {G : Nat → Prop} (p : Nat) (st : Option (List Nat)) (w : World) (hr : Rdq G w p st) :
    Calls Tryz.prog 98 #[.pointer (some ⟨p, 0, none⟩)] w (Rdd G w p (fS st) (.bool (fV st))) := qflag_any p st w hr
/-- A flag that is written, behind some calls. -/
theorem Wrt.flag {w0 w1 : World} {p : Nat} {g : Option Nat} {xs : List Nat} (h : Wrt w0 p g xs w1) (b : Bool) (hl : xs.length + 1 ≤ 1099511627776) :
    Calls Tryz.prog 49 #[.pointer (some ⟨p, 0, none⟩), .bool b] w1 fun e w2 => e = .returned (.tuple #[]) ∧ Wrt w0 p g (xs ++ [flagW b]) w2 := h.step fun g1 h1 => by
  have e : flagW b = b.toNat := by cases b <;> rfl
  rw [e]
  exact flag_any p g1 xs b w1 h1 hl
end Go.Proofs.YtbemfomiiikpoaaGreat
/- What package foot writes of a footprint. -/
namespace Go.Proofs.YtbemfomiiikpoaaGreat
open Go.RowKit

def wordsK (k : Int × Int) : List Nat := [sgn k.1, k.2.toNat]
theorem wordsK_flat (l : List (Int × Int)) : (l.flatMap wordsK).length = l.length * 2 := by
  induction l with
  | nil => simp
  | cons x r ih => rw [List.flatMap_cons, List.length_append, ih, List.length_cons]; simp [wordsK]; omega

set_option maxHeartbeats 2000000 in
theorem putKeys_any (p : Nat) (g : Option Nat) (xs : List Nat) (ks : List (Int × Int)) (B : Option Addr) (m d : Nat) (w : World) (hwr : Wr w p g xs) (hsl : Sl w w.heap.size B (ks.flatMap kflat)) (hap : ∀ ad, B = some ad → ks ≠ [] → ¬ Of p g ad.block) (hm : ks.length = m) (hmm : m ≤ 100) (hi : ∀ k ∈ ks, I64 k.1 ∧ I64 k.2) (hlen : xs.length + 1000 ≤ 1099511627776) :
    Calls Tryz.prog 95 #[.pointer (some ⟨p, 0, none⟩), .slice B m d] w (Wrote w p g (xs ++ ks.flatMap wordsK)) := by
  have Hn := Lib.hid hm
  have Hsl := Lib.hid hsl
  have Hap := Lib.hid hap
  have Hi := Lib.hid hi
  have hs0 := Lib.hid (Wrt.start hwr)
  clear hsl hap hm hi hwr
  go_enter Tryz.func95, Tryz.ntmps95
  go_wp2
  go_loopw [8] (fun iv wr => ∃ k : Nat, k ≤ m ∧ iv = .int .i64 k ∧ Hid (Wrt w p g (xs ++ (ks.take k).flatMap wordsK) wr)) (fun iv _ => m - (intOf iv).toNat)
  case atStart => exact ⟨0, Nat.zero_le _, rfl, Lib.hid (by simpa using hs0.out)⟩
  case round =>
    obtain ⟨k, hk, rfl, hst⟩ := hrel
    by_cases hlt : k < m
    · have hkl : k < ks.length := by rw [Hn.out]; exact hlt
      have hne : ks ≠ [] := by rintro rfl; simp at hkl
      have hs1 : Sl wr w.heap.size B (ks.flatMap kflat) := Hsl.out.fr hst.out.fr (Nat.le_refl _) (fun ad e _ hof => Hap.out ad e hne hof)
      obtain ⟨ad, rfl, hab, c0, c1⟩ := hs1.key9 (k := k) hkl
      have Hs : Hid (ks.take (k + 1) = ks.take k ++ [ks[k]]) := Lib.hid (List.take_succ_eq_append_getElem hkl)
      have hik := Lib.hid (Hi.out _ (List.getElem_mem hkl))
      have Hlen : Hid ((xs ++ (ks.take k).flatMap wordsK).length = xs.length + k * 2) := Lib.hid (by rw [List.length_append, wordsK_flat, List.length_take, Nat.min_eq_left (by omega)])
      generalize ks[k] = i at *
      obtain ⟨x, y⟩ := i
      dsimp only at c0 c1 hik
      obtain ⟨g1, q1, q2, q3⟩ := hst.out
      have hnot : ¬ Of p g1 wr.heap.size := q1.not_of (Nat.le_refl _)
      have W0 := Wrt.start (q1.fr ((Fr.refl No wr).alloc (.cells #[.int .i64 x, .int .i64 y] 50)) (fun _ _ e => e))
      have C1 := Lib.hid (W0.sgn x hik.out.1 (by rw [Hlen.out]; omega))
      have Hnot := Lib.hid hnot
      have Q1 := Lib.hid (And.intro q2 q3)
      clear q1 q2 q3 hs1 W0 hnot
      go_wp2_with fail
      refine (C1.out).mono ?_
      rintro e w1 ⟨rfl, h1⟩
      have hb1 : Bk w1 wr.heap.size 50 #[.int .i64 x, .int .i64 y] := (Bk.made wr _ _).fr h1.fr Hnot.out
      have hl1 := hb1.lt
      have g0 := hb1.cell 0
      have g1' := hb1.cell 1
      simp at g0 g1'
      have C2 := Lib.hid (h1.count y hik.out.2 (by rw [List.length_append, Hlen.out]; simp; omega))
      clear h1
      go_wp2_with fail
      refine (C2.out).mono ?_
      rintro e w2 ⟨rfl, h2⟩
      have H2 := Lib.hid h2
      clear h2 g0 g1' hb1 hl1
      go_wp2
      go_roundw
      case rel =>
        refine ⟨k + 1, by omega, by go_num, Lib.hid ?_⟩
        have h3 : Wrt wr p g1 _ w2 := Wrt.since ((Fr.refl No wr).alloc _) H2.out
        obtain ⟨he, g', b1, b2, b3⟩ := Wrote.then Q1.out.1 Q1.out.2 h3.wrote
        refine ⟨g', ?_, b2, b3⟩
        rw [Hs.out, List.flatMap_append]
        simpa [wordsK, List.append_assoc] using b1
      case measure => simp [intOf]; omega
    · obtain rfl : k = m := by omega
      have Hf : Hid (Wrt w p g (xs ++ ks.flatMap wordsK) wr) := Lib.hid (by
        have h1 := hst.out
        rw [List.take_of_length_le (by rw [Hn.out]; exact Nat.le_refl _)] at h1
        exact h1)
      go_wp2
      go_end0
      exact Hf.out.wrote

set_option maxHeartbeats 2000000 in
theorem put10_any (p : Nat) (g : Option Nat) (xs : List Nat) (l : List Fsp) (A : Option Addr) (n c : Nat) (w : World) (hwr : Wr w p g xs) (hsl : Sl w w.heap.size A (l.flatMap Fsp.cells)) (hap : ∀ ad, A = some ad → l ≠ [] → ¬ Of p g ad.block) (hn : l.length = n) (hnm : n ≤ 1000) (hi : ∀ f ∈ l, f.I) (hlen : xs.length + 10000 ≤ 1099511627776) :
    Calls Tryz.prog 78 #[.pointer (some ⟨p, 0, none⟩), .slice A n c] w (Wrote w p g (xs ++ wordsF l)) := by
  have Hn := Lib.hid hn
  have Hsl := Lib.hid hsl
  have Hap := Lib.hid hap
  have Hi := Lib.hid hi
  have hs0 := Lib.hid (Wrt.start hwr)
  clear hsl hap hn hi hwr
  go_enter Tryz.func78, Tryz.ntmps78
  go_wp2_with fail
  refine (hs0.out.count (n : Int) ⟨by omega, by omega⟩ (by omega)).mono ?_
  rintro e w1 ⟨rfl, h1⟩
  have H1 := Lib.hid h1
  clear h1
  go_wp2
  go_loopw [14] (fun iv wr => ∃ k : Nat, k ≤ n ∧ iv = .int .i64 k ∧ Hid (Wrt w p g (xs ++ n :: (l.take k).flatMap wordsF1) wr)) (fun iv _ => n - (intOf iv).toNat)
  case atStart => exact ⟨0, Nat.zero_le _, rfl, Lib.hid (by simpa using H1.out)⟩
  case round =>
    obtain ⟨k, hk, rfl, hst⟩ := hrel
    by_cases hlt : k < n
    · have hkl : k < l.length := by rw [Hn.out]; exact hlt
      have hne : l ≠ [] := by rintro rfl; simp at hkl
      have hs1 : Sl wr w.heap.size A (l.flatMap Fsp.cells) := Hsl.out.fr hst.out.fr (Nat.le_refl _) (fun ad e _ hof => Hap.out ad e hne hof)
      obtain ⟨ad, rfl, hab, c0, c1, c2, c3, c4⟩ := hs1.fsp (k := k) hkl
      have Hs : Hid (l.take (k + 1) = l.take k ++ [l[k]]) := Lib.hid (List.take_succ_eq_append_getElem hkl)
      have hik := Lib.hid (Hi.out _ (List.getElem_mem hkl))
      have Hlen : Hid ((xs ++ n :: (l.take k).flatMap wordsF1).length = xs.length + (1 + k * 5)) := Lib.hid (by rw [List.length_append, List.length_cons, wordsF1_flat, List.length_take, Nat.min_eq_left (by omega)]; omega)
      generalize l[k] = i at *
      obtain ⟨la, lb, ha, hb, wt⟩ := i
      have Hw : Hid (wordsF1 ⟨la, lb, ha, hb, wt⟩ = [(la, lb), (ha, hb)].flatMap wordsK ++ [flagW wt]) := Lib.hid rfl
      dsimp only at c0 c1 c2 c3 c4
      obtain ⟨g1, q1, q2, q3⟩ := hst.out
      have hfa : Fr No wr ((wr.alloc (.cells #[.int .i64 la, .int .i64 lb, .int .i64 ha, .int .i64 hb, .bool wt] 125)).alloc (.cells #[.int .i64 la, .int .i64 lb, .int .i64 ha, .int .i64 hb] 50)) := ((Fr.refl No wr).alloc _).alloc _
      have hnot : ¬ Of p g1 wr.heap.size := q1.not_of (Nat.le_refl _)
      have hnot2 : ¬ Of p g1 (wr.heap.size + 1) := q1.not_of (Nat.le_succ _)
      have C1 := Lib.hid (putKeys_any p g1 _ [(la, lb), (ha, hb)] (some ⟨wr.heap.size + 1, 0, none⟩) 2 2 _ (q1.fr hfa (fun _ _ e => e)) (slMade _ _ _ _ _ (by simp) rfl) (fun ad e _ => by
        injection e with e
        subst e
        exact hnot2) rfl (by omega) (fun q hq => by
        simp only [List.mem_cons, List.not_mem_nil, or_false] at hq
        rcases hq with rfl | rfl
        · exact ⟨hik.out.la, hik.out.lb⟩
        · exact ⟨hik.out.ha, hik.out.hb⟩) (by rw [Hlen.out]; omega))
      have Hnot := Lib.hid hnot
      have Hfa := Lib.hid hfa
      have Q1 := Lib.hid (And.intro q2 q3)
      clear q1 q2 q3 hs1 hnot hnot2 hfa
      go_wp2_with fail
      refine (C1.out).mono ?_
      rintro e w1 ⟨rfl, h1⟩
      have h1 : Wrt _ p g1 _ w1 := h1
      have hb1 : Bk w1 wr.heap.size 125 #[.int .i64 la, .int .i64 lb, .int .i64 ha, .int .i64 hb, .bool wt] := ((Bk.made wr _ _).fr ((Fr.refl No _).alloc _) (fun e => e)).fr h1.fr Hnot.out
      have hl1 := hb1.lt
      have g4 := hb1.cell 4
      simp at g4
      have C2 := Lib.hid (h1.flag wt (by rw [List.length_append, Hlen.out]; simp [wordsK]; omega))
      clear h1 C1
      go_wp2_with fail
      refine (C2.out).mono ?_
      rintro e w2 ⟨rfl, h2⟩
      have H2 := Lib.hid h2
      clear h2 g4 hb1 hl1 C2
      go_wp2
      go_roundw
      case rel =>
        refine ⟨k + 1, by omega, by go_num, Lib.hid ?_⟩
        have h3 : Wrt wr p g1 _ w2 := Wrt.since Hfa.out H2.out
        obtain ⟨he, g', b1, b2, b3⟩ := Wrote.then Q1.out.1 Q1.out.2 h3.wrote
        refine ⟨g', ?_, b2, b3⟩
        rw [Hs.out, List.flatMap_append]
        simpa [Hw.out, List.append_assoc] using b1
      case measure => simp [intOf]; omega
    · obtain rfl : k = n := by omega
      have Hf : Hid (Wrt w p g (xs ++ wordsF l) wr) := Lib.hid (by
        have h1 := hst.out
        rw [List.take_of_length_le (by rw [Hn.out]; exact Nat.le_refl _)] at h1
        rw [wordsF, Hn.out]
        exact h1)
      go_wp2
      go_end0
      exact Hf.out.wrote
end Go.Proofs.YtbemfomiiikpoaaGreat
/- A reader whose words lie in blocks of which G is told: texts; a text that is written. -/
namespace Go.Proofs.YtbemfomiiikpoaaGreat
open Go.RowKit

section
variable {G : Nat → Prop}
set_option maxHeartbeats 2000000 in
theorem wrongString_q (p q : Nat) (A : Option Addr) (n c : Nat) (b : Bool) (w : World) (hb : Bk w p 72 #[.slice A n c, .bool b]) (hq : w.cell? ⟨q, 0, none⟩ = some (.pointer (some ⟨p, 0, none⟩))) :
    Calls Tryz.prog 125 #[.pointer (some ⟨q, 0, none⟩)] w (Rdd G w p none (.string ⟨#[]⟩)) := by
  have hc0 := hb.cell 0
  have hc1 := hb.cell 1
  have hf0 := hb.frozen 0
  have hf1 := hb.frozen 1
  have hqp : q ≠ p := by
    rintro rfl
    rw [hc0] at hq
    simp at hq
  simp at hc0 hc1
  go_enter Tryz.func125, Tryz.ntmps125
  go_wp2
  go_region
  go_wp2
  go_ret
  have h1 := (hb.put 0 (.slice none 0 0)).put 1 (.bool true)
  have hf : Fr (Only p) w ((w.setCell ⟨p, 0, none⟩ (.slice none 0 0)).setCell ⟨p, 1, none⟩ (.bool true)) := ((Fr.refl (Only p) w).setCell (p := ⟨p, 0, none⟩) (.inl rfl) _).setCell (p := ⟨p, 1, none⟩) (.inl rfl) _
  exact ⟨by simp, ⟨none, 0, h1, Sl.nil _ _ _, by simp, by simp, by simp, by simp, by simp⟩, hf.drew⟩
set_option maxHeartbeats 2000000 in
theorem nextString_q (p : Nat) (st : Option (List Nat)) (n : Nat) (x : ByteArray) (ok : Bool) (v : Value) (w : World) (hr : Rdq G w p st) (ht : st.isSome = true → n ≤ (st.getD []).length → Tells 110 (fun s => #[s, v]) w (st.getD []) n (.string x) ok) (hn : n ≤ 1099511627776) :
    Calls Tryz.prog 109 #[.pointer (some ⟨p, 0, none⟩), .int .i64 n, .func (.func 110) #[] #[v]] w (Rdd G w p (after st n ok) (told st n ok (.string x) (.string ⟨#[]⟩))) := by
  have Ht := Lib.hid ht
  clear ht
  have hmf : ∀ (fn : Fn) (first cap : Array Value) (w : World), (Instr.makeFunc fn first cap).run Tryz.prog w = .ok (.func fn first cap) w := fun _ _ _ _ => rfl
  obtain ⟨A, c, hb, hsl, hap, hlc, hcm, hnil, h64⟩ := hr
  have hpl := hb.lt
  have hf0 : Fr No w (w.alloc (.cells #[.pointer (some ⟨p, 0, none⟩)] 34)) := (Fr.refl No w).alloc _
  have hq : (w.alloc (.cells #[.pointer (some ⟨p, 0, none⟩)] 34)).cell? ⟨w.heap.size, 0, none⟩ = some (.pointer (some ⟨p, 0, none⟩)) := (Bk.made w 34 #[.pointer (some ⟨p, 0, none⟩)]).cell 0
  cases st with
  | none =>
    simp only [Option.getD_none, Option.isNone_none, List.length_nil] at *
    have Hb := Lib.hid (hb.fr hf0 id)
    have hc0 := Hb.out.cell 0
    have hc1 := Hb.out.cell 1
    simp at hc0 hc1
    have Hq := Lib.hid hq
    clear hsl hap hlc hcm hnil h64 hb hq Ht
    go_enter Tryz.func109, Tryz.ntmps109
    go_wp2_with fail
    refine (wrongString_q (G := G) p w.heap.size A 0 c true _ Hb.out Hq.out).mono ?_
    rintro e w1 ⟨rfl, h1, h2⟩
    go_wp2
    go_ret
    exact ⟨rfl, h1, (hf0.weak (fun _ _ h => h.elim)).trans' h2 (fun _ _ h => h)⟩
  | some xs =>
    simp only [Option.getD_some, Option.isNone_some] at *
    have Hb := Lib.hid (hb.fr hf0 id)
    have hc0 := Hb.out.cell 0
    have hc1 := Hb.out.cell 1
    simp at hc0 hc1
    have Hq := Lib.hid hq
    have Hsl := Lib.hid hsl
    have Hap := Lib.hid hap
    have Hnil := Lib.hid hnil
    have H64 := Lib.hid h64
    clear hsl hap hnil h64 hb hq
    by_cases hnl : n ≤ xs.length
    · have hnc : n ≤ c := by omega
      cases ok with
      | true =>
        have Ha : Hid (after (some xs) n true = some (xs.drop n)) := Lib.hid (by simp [after, hnl])
        have Hto : Hid (told (some xs) n true (.string x) (.string ⟨#[]⟩) = .string x) := Lib.hid (by simp [told, after, hnl])
        go_enter Tryz.func109, Tryz.ntmps109
        go_wp2_with fail
        refine (Ht.out rfl hnl _ A c hf0 (sl_take Hsl.out hf0 n) hnc hcm (fun e => (Hnil.out e).2)).mono ?_
        rintro e w1 ⟨rfl, hf1⟩
        have Hb1 := Lib.hid (Hb.out.fr hf1 id)
        have hd0 := Hb1.out.cell 0
        have hd1 := Hb1.out.cell 1
        have hz0 := Hb1.out.frozen 0
        have hq1 : w1.cell? ⟨w.heap.size, 0, none⟩ = some (.pointer (some ⟨p, 0, none⟩)) := (hf1.cell (by simp) id).trans Hq.out
        simp at hd0 hd1
        have hfd : ∀ u, Fr (Only p) w (w1.setCell ⟨p, 0, none⟩ u).drew := fun u => (((hf0.then0 hf1 (fun _ h => h.elim)).weak (S' := Only p) (fun _ _ h => h.elim)).setCell (p := ⟨p, 0, none⟩) (.inl rfl) u).drew
        have hrd := rdq_drop (n := n) Hb1.out (sl_take Hsl.out (hf0.then0 hf1 (fun _ h => h.elim)) xs.length) Hap.out hlc hcm Hnil.out H64.out hnl
        have Hfd := Lib.hid hfd
        have Hrd := Lib.hid hrd
        clear hfd hrd
        by_cases hcn : c = n
        · subst hcn
          go_wp2
          go_region
          go_wp2
          go_ret
          refine ⟨by rw [Hto.out]; rfl, ?_, Hfd.out _⟩
          have h9 := Hrd.out
          rw [if_pos trivial, show xs.length - c = 0 by omega, Nat.sub_self] at h9
          rw [Ha.out]
          exact h9
        · obtain ⟨ad, rfl⟩ : ∃ ad, A = some ad := by
            cases A with
            | none => have := (Hnil.out rfl).2; omega
            | some ad => exact ⟨ad, rfl⟩
          go_wp2
          go_region
          go_wp2
          go_ret
          refine ⟨by rw [Hto.out]; rfl, ?_, Hfd.out _⟩
          have h9 := Hrd.out
          rw [if_neg hcn] at h9
          rw [Ha.out]
          exact h9
      | false =>
        have Ha : Hid (after (some xs) n false = none) := Lib.hid (by simp [after])
        have Hto : Hid (told (some xs) n false (.string x) (.string ⟨#[]⟩) = .string ⟨#[]⟩) := Lib.hid (by simp [told, after])
        go_enter Tryz.func109, Tryz.ntmps109
        go_wp2_with fail
        refine (Ht.out rfl hnl _ A c hf0 (sl_take Hsl.out hf0 n) hnc hcm (fun e => (Hnil.out e).2)).mono ?_
        rintro e w1 ⟨rfl, hf1⟩
        have Hb1 := Lib.hid (Hb.out.fr hf1 id)
        have Hq1 : Hid (w1.cell? ⟨w.heap.size, 0, none⟩ = some (.pointer (some ⟨p, 0, none⟩))) := Lib.hid ((hf1.cell (by simp) id).trans Hq.out)
        go_wp2_with fail
        refine (wrongString_q (G := G) p w.heap.size A _ c false _ Hb1.out Hq1.out).mono ?_
        rintro e w2 ⟨rfl, h1, h2⟩
        go_wp2
        go_ret
        exact ⟨by rw [Hto.out]; rfl, by rw [Ha.out]; exact h1, ((hf0.then0 hf1 (fun _ h => h.elim)).weak (fun _ _ h => h.elim)).trans' h2 (fun _ _ h => h)⟩
    · have Ha : Hid (after (some xs) n ok = none) := Lib.hid (by simp [after, hnl])
      have Hto : Hid (told (some xs) n ok (.string x) (.string ⟨#[]⟩) = .string ⟨#[]⟩) := Lib.hid (by simp [told, after, hnl])
      clear Ht
      go_enter Tryz.func109, Tryz.ntmps109
      go_wp2_with fail
      refine (wrongString_q (G := G) p w.heap.size A _ c false _ Hb.out Hq.out).mono ?_
      rintro e w1 ⟨rfl, h1, h2⟩
      go_wp2
      go_ret
      exact ⟨by rw [Hto.out]; rfl, by rw [Ha.out]; exact h1, (hf0.weak (fun _ _ h => h.elim)).trans' h2 (fun _ _ h => h)⟩
set_option maxHeartbeats 2000000 in
theorem qtext_any (p : Nat) (st : Option (List Nat)) (w : World) (hr : Rdq G w p st) :
    Calls Tryz.prog 96 #[.pointer (some ⟨p, 0, none⟩)] w (RdqAs G w p (textR st) ⟨#[]⟩ fun s => .string s) := by
  have hmf : ∀ (fn : Fn) (first cap : Array Value) (w : World), (Instr.makeFunc fn first cap).run Tryz.prog w = .ok (.func fn first cap) w := fun _ _ _ _ => rfl
  obtain ⟨x, ok, h1⟩ := text_spec st
  have H1 := Lib.hid h1
  clear h1
  go_enter Tryz.func96, Tryz.ntmps96
  go_wp2_with fail
  refine (qcount_any p 64 st w hr (by omega)).mono ?_
  rintro e w1 ⟨rfl, hr1, hf1⟩
  have hn64 : ((cntR 64 st).map (·.1)).getD 0 ≤ 64 := by
    cases h : cntR 64 st with
    | none => simp
    | some y => have := cntR_le (n := y.1) (r := y.2) h; simp; omega
  obtain ⟨n, hn⟩ : ∃ n, n = ((cntR 64 st).map (·.1)).getD 0 := ⟨_, rfl⟩
  obtain ⟨st1, hst⟩ : ∃ st1, st1 = (cntR 64 st).map (·.2) := ⟨_, rfl⟩
  obtain ⟨h2, h3, h4⟩ := H1.out st1 n hst hn
  rw [← hn] at hn64 ⊢
  rw [← hst] at hr1
  have H2 := Lib.hid h2
  have H3 := Lib.hid h3
  have H4 := Lib.hid h4
  have hf2 : Fr No w1 (w1.alloc (.cells #[.int .i64 n] 3)) := (Fr.refl _ _).alloc _
  have hr2 := hr1.fr hf2 id (fun _ h => h.elim)
  obtain ⟨m, hm⟩ : ∃ m, m = (n + 7) / 8 := ⟨_, rfl⟩
  have ht : st1.isSome = true → m ≤ (st1.getD []).length → Tells 110 (fun s => #[s, .pointer (some ⟨w1.heap.size, 0, none⟩)]) (w1.alloc (.cells #[.int .i64 n] 3)) (st1.getD []) m (.string x) ok := by
    intro hs hl
    subst hm
    cases st1 with
    | none => cases hs
    | some r =>
      obtain ⟨rfl, rfl⟩ := H2.out r rfl hl
      exact textTell_any w1.heap.size n r _ ((Bk.made w1 3 #[.int .i64 n]).cell 0) (rdq_words hr1) hn64 hl
  have Ht := Lib.hid ht
  have Hm := Lib.hid hm
  have hmn : m ≤ 8 := by omega
  clear hn hst h2 h3 h4 ht hm
  go_wp2_with (go_at_call 92; refine (textWords_any n m (by omega) Hm.out _).mono ?_; rintro e w' ⟨rfl, rfl⟩)
  refine (nextString_q p st1 m x ok _ _ hr2 Ht.out (by omega)).mono ?_
  rw [Hm.out, H3.out, H4.out]
  rintro e w3 ⟨rfl, q1, q2⟩
  go_wp2
  go_ret
  exact ⟨by simp, q1, (hf1.trans' hf2 (fun _ _ h => h.elim)).trans' q2 (fun _ _ h => h)⟩
end
/-- A text that is read. -/
theorem text11 {G : Nat → Prop} (p : Nat) (st : Option (List Nat)) (w : World) (hr : Rdq G w p st) :
    Calls Tryz.prog 96 #[.pointer (some ⟨p, 0, none⟩)] w (Rdd G w p (txS st) (.string (txV st))) := qtext_any p st w hr
/-- A text that is written, behind some calls. -/
theorem Wrt.text {w0 w1 : World} {p : Nat} {g : Option Nat} {xs : List Nat} (h : Wrt w0 p g xs w1) (s : ByteArray) (hs : s.size ≤ 1099511627776) (hl : xs.length + 100 ≤ 1099511627776) :
    Calls Tryz.prog 46 #[.pointer (some ⟨p, 0, none⟩), .string s] w1 fun e w2 => e = .returned (.tuple #[]) ∧ Wrt w0 p g (xs ++ ((byts s).take 64).length :: packed ((byts s).take 64)) w2 := h.step fun g1 h1 => text_any p g1 xs s w1 h1 hs hl
end Go.Proofs.YtbemfomiiikpoaaGreat
