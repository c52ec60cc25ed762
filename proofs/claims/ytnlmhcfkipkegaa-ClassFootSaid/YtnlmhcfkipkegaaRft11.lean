/- What all steps of a class read, or write, as the document has it. -/
import Derived.Test.YtnlmhcfkipkegaaCls11
import Derived.Test.YtnlmhcfkipkegaaRse10
namespace Go.Proofs.Ytnlmhcfkipkegaa
open Go.RowKit

/-- Is a key among what some step reads, or writes? -/
def footsOf (fl : Bool) (gs : List Int) (l : List Stp) (k : Nat) : Bool := l.any fun s => keysOf (chosen fl gs s.foot) k
theorem footsOf_snoc (fl : Bool) (gs : List Int) (l : List Stp) (s : Stp) : footsOf fl gs (l ++ [s]) = fun k => footsOf fl gs l k || keysOf (chosen fl gs s.foot) k := by
  funext k
  simp [footsOf]
/-- Two sets together, up to a key. -/
def mixU (f s : Nat → Bool) (j : Nat) : Nat → Bool := fun i => if i < j then f i || s i else f i
theorem mixU_step (f s : Nat → Bool) (j : Nat) : upd (mixU f s j) j (f j || s j) = mixU f s (j + 1) := by
  funext i
  unfold upd mixU
  by_cases h : i = j
  · subst h
    simp
  · by_cases h2 : i < j
    · simp [h, h2, Nat.lt_succ_of_lt h2]
    · have : ¬ i < j + 1 := by omega
      simp [h, h2, this]

theorem mixU_0 (f s : Nat → Bool) : mixU f s 0 = f := by
  funext i
  simp [mixU]
theorem footsOf_nil (fl : Bool) (gs : List Int) (l : List Stp) : footsOf fl gs (l.take 0) = fun _ => false := by
  funext i
  simp [footsOf]

set_option maxRecDepth 100000 in
set_option maxHeartbeats 4000000 in
theorem refFoot11_any (fl : Bool) (c : Cls) (gs : List Int) (A2 : Option Addr) (n c2 : Nat) (w : World) (hc : c.Ok w) (hl : c.steps.length ≤ 4) (hs2 : Sl w w.heap.size A2 (ints gs)) (hn : gs.length = n) (hr : ∀ s ∈ c.steps, footRight s.foot gs = true) :
    Calls Try.prog 19 #[c.agg, .slice A2 n c2, .bool fl] w fun e w' => ∃ g, e = .returned (.pointer (some ⟨g, 0, none⟩)) ∧ Bk w' g 79 (flags 1000 (footsOf fl gs c.steps)) ∧ w.heap.size ≤ g ∧ Fr No w w' := by
  have Hst := Lib.hid (fun (W : World) (h : Fr No w W) => hc.steps.since h)
  have Hall := Lib.hid (fun s hs => hc.steps.all s hs)
  have Hr := Lib.hid hr
  have Hs2 := Lib.hid hs2
  have Hn := Lib.hid hn
  obtain ⟨an, a, sA, ss, sc, uA, us, uc, res⟩ := c
  simp only [Cls.agg]
  dsimp only at Hst Hall Hr hl ⊢
  obtain ⟨m, hm⟩ : ∃ m, ss.length = m := ⟨_, rfl⟩
  obtain ⟨m2, hm2⟩ : ∃ m2, us.length = m2 := ⟨_, rfl⟩
  rw [hm] at hl
  simp only [hm, hm2]
  have Hm := Lib.hid hm
  clear hc hs2 hn hr hm hm2
  have hz := zero_set
  have hB := Bk.made w 31 #[.string an, .int .i64 a, .slice sA m sc, .slice uA m2 uc, .bool res]
  obtain ⟨W0, hW0⟩ : ∃ W0, (w.alloc (.cells #[.string an, .int .i64 a, .slice sA m sc, .slice uA m2 uc, .bool res] 31)).alloc (.cells (flags 1000 fun _ => false) 79) = W0 := ⟨_, rfl⟩
  have hfW : Fr No w W0 := by rw [← hW0]; exact ((Fr.refl _ _).alloc _).alloc _
  have hbW : Bk W0 w.heap.size 31 #[.string an, .int .i64 a, .slice sA m sc, .slice uA m2 uc, .bool res] := by rw [← hW0]; exact hB.fr ((Fr.refl No _).alloc _) (fun e => e)
  have hgW : Bk W0 (w.heap.size + 1) 79 (flags 1000 fun _ => false) := by
    have h := Bk.made (w.alloc (.cells #[.string an, .int .i64 a, .slice sA m sc, .slice uA m2 uc, .bool res] 31)) 79 (flags 1000 fun _ => false)
    rw [hW0] at h
    simpa using h
  have HfW := Lib.hid hfW
  have HbW := Lib.hid hbW
  have HgW := Lib.hid hgW
  clear hB hfW hbW hgW
  go_enter Try.func19, Try.ntmps19
  go_wp2
  go_loopw [8] (fun i wr => ∃ k : Nat, k ≤ m ∧ i = .int .i64 k ∧ Hid (Bk wr (w.heap.size + 1) 79 (flags 1000 (footsOf fl gs (ss.take k)))) ∧ Fr No w wr ∧ Fr (fun i => w.heap.size + 1 ≤ i) W0 wr) (fun i _ => m - (intOf i).toNat)
  case atStart => exact ⟨0, Nat.zero_le _, rfl, Lib.hid (by rw [footsOf_nil]; exact HgW.out), HfW.out, Fr.refl _ _⟩
  case round =>
    obtain ⟨k, hk, rfl, hset, hfr, hgr⟩ := hrel
    have hb := HbW.out.fr hgr (fun e => absurd e (Nat.not_succ_le_self _))
    have hbl := hb.lt
    have f2 := hb.cell 2
    simp at f2
    by_cases hlt : k < m
    · have hkl : k < ss.length := by rw [Hm.out]; exact hlt
      obtain ⟨ad, rfl, hab, c0, c1⟩ := (Hst.out wr hfr).sl.stp (k := k) hkl
      have HX := Lib.hid (Hall.out _ (List.getElem_mem hkl))
      have HR := Lib.hid (Hr.out _ (List.getElem_mem hkl))
      have Hs : Hid (ss.take (k + 1) = ss.take k ++ [ss[k]]) := Lib.hid (List.take_succ_eq_append_getElem hkl)
      have Hf : Hid (footsOf fl gs (ss.take (k + 1)) = fun i => footsOf fl gs (ss.take k) i || keysOf (chosen fl gs ss[k].foot) i) := Lib.hid (by rw [Hs.out, footsOf_snoc])
      generalize ss[k] = x at *
      obtain ⟨xc, xl, xd, xf, xm, xe⟩ := x
      dsimp only at c0 c1 Hf
      have C := Lib.hid (refSet10_any fl xm gs xf A2 xm.length xe n c2 wr (HX.out.foot.since hfr) rfl (Hs2.out.since hfr) Hn.out HR.out)
      obtain ⟨f, hf⟩ : ∃ f, Hid (f = footsOf fl gs (ss.take k)) := ⟨_, Lib.hid rfl⟩
      obtain ⟨s, hs⟩ : ∃ s, Hid (s = keysOf (chosen fl gs xm)) := ⟨_, Lib.hid rfl⟩
      rw [← hs.out] at C Hf
      rw [← hf.out] at hset Hf
      generalize xm.length = p at *
      clear HX HR Hs hb
      go_wp2_with fail
      refine (C.out).mono ?_
      rintro e w1 ⟨g, rfl, hg, hgB, hf1⟩
      have hset1 := Lib.hid (hset.out.fr hf1 (fun e => e))
      have hfr1 := Lib.hid (hfr.then0 hf1 (fun _ h => h.elim))
      have hgr1 := Lib.hid (hgr.trans' hf1 (fun _ _ h => h.elim))
      have hgne : Hid (g ≠ w.heap.size + 1) := Lib.hid (by have := hset.out.lt; omega)
      have Hg := Lib.hid hg
      clear hg hf1 C hgB f2 c0 c1
      go_wp2
      go_loopw [10] (fun jv wq => ∃ j : Nat, j ≤ 1000 ∧ jv = .int .i64 j ∧ Hid (Bk wq (w.heap.size + 1) 79 (flags 1000 (mixU f s j))) ∧ Hid (Fr (Only (w.heap.size + 1)) w1 wq)) (fun jv _ => 1000 - (intOf jv).toNat)
      case atStart => exact ⟨0, by omega, rfl, Lib.hid (by rw [mixU_0]; exact hset1.out), Lib.hid (Fr.refl _ _)⟩
      case round =>
        obtain ⟨j, hj, rfl, hq, hfq⟩ := hrel
        by_cases hjl : j < 1000
        · have b1 := hq.out.cell j
          have b2 := (Hg.out.fr hfq.out hgne.out).cell j
          have z1 := hq.out.frozen j
          have ql := hq.out.lt
          rw [flags_at _ _ _ hjl] at b1 b2
          have em : mixU f s j j = f j := by simp [mixU]
          rw [em] at b1
          have hput := hq.out.put j (.bool (f j || s j))
          rw [flags_put, mixU_step] at hput
          have Hput := Lib.hid hput
          have HFq := Lib.hid (hfq.out.setCell (p := ⟨w.heap.size + 1, j, none⟩) (.inl rfl) (.bool (f j || s j)))
          clear hput em
          cases hfj : f j
          · rw [hfj] at b1 Hput HFq
            rw [Bool.false_or] at Hput HFq
            go_wp2
            go_roundw
            case rel => exact ⟨j + 1, by omega, by go_num, Hput, HFq⟩
            case measure => simp [intOf]; omega
          · rw [hfj] at b1 Hput HFq
            rw [Bool.true_or] at Hput HFq
            go_wp2
            go_roundw
            case rel => exact ⟨j + 1, by omega, by go_num, Hput, HFq⟩
            case measure => simp [intOf]; omega
        · obtain rfl : j = 1000 := by omega
          have hq2 : Hid (Bk wr (w.heap.size + 1) 79 (flags 1000 (footsOf fl gs (ss.take (k + 1))))) := Lib.hid (by
            rw [Hf.out, flags_congr 1000 _ (mixU f s 1000) (fun i hi => by simp [mixU, hi])]
            exact hq.out)
          go_wp2
          go_roundw
          case rel => exact ⟨k + 1, by omega, by go_num, hq2, hfr1.out.trans' hfq.out (fun i hi e => by have e : i = w.heap.size + 1 := e; omega), hgr1.out.trans' hfq.out (fun i hi e => by have e : i = w.heap.size + 1 := e; omega)⟩
          case measure => simp [intOf]; omega
    · obtain rfl : k = m := by omega
      have Ht : Hid (ss.take k = ss) := Lib.hid (List.take_of_length_le (by rw [Hm.out]; exact Nat.le_refl _))
      rw [Ht.out] at hset
      go_wp2
      go_ret
      exact ⟨w.heap.size + 1, rfl, hset.out, Nat.le_succ _, hfr⟩
end Go.Proofs.Ytnlmhcfkipkegaa
