/- A catalogue as the document's items. -/
import Derived.Test.YtbemfomiiikpoaaGreatCat12
import Derived.Test.YtbemfomiiikpoaaGreatRit11
namespace Go.Proofs.YtbemfomiiikpoaaGreat
open Go.RowKit

/-- The items of the breakpoints of the first j pairs. -/
def itB (x : PCt) (j : Nat) : List It := (List.range j).map fun i => itN (x.b (i / x.cs.length * 4 + i % x.cs.length)) 255
/-- The items of a catalogue. -/
def itQ (x : PCt) : List It := ([itN x.cs.length 4] ++ x.cs.flatMap itC) ++ itB x (x.cs.length * x.cs.length)
theorem itB_len (x : PCt) (j : Nat) : (itB x j).length = j := by simp [itB]
theorem itB_next {x : PCt} {n c d : Nat} (hx : x.cs.length = n) (hd : d < n) : itB x (c * n + (d + 1)) = itB x (c * n + d) ++ [itN (x.b (c * 4 + d)) 255] := by
  have e1 : (c * n + d) / n = c := by
    rw [Nat.add_comm, Nat.add_mul_div_right _ _ (by omega), Nat.div_eq_of_lt hd, Nat.zero_add]
  have e2 : (c * n + d) % n = d := by
    rw [Nat.add_comm, Nat.add_mul_mod_self_right, Nat.mod_eq_of_lt hd]
  unfold itB
  rw [← Nat.add_assoc, List.range_succ, List.map_append, List.map_singleton, hx, e1, e2]
structure Cls.Small (c : Cls) : Prop where
  n : c.steps.length ≤ 4
  m : c.comps.length = c.steps.length
  s1 : ∀ s ∈ c.steps, s.Small
  s2 : ∀ s ∈ c.comps, s.Small
theorem flat_le12 {α β : Type} (f : α → List β) (m : Nat) : ∀ l : List α, (∀ a ∈ l, (f a).length ≤ m) → (l.flatMap f).length ≤ l.length * m
  | [], _ => by simp
  | a :: r, h => by
    have h1 := h a (by simp)
    have h2 := flat_le12 f m r (fun b hb => h b (by simp [hb]))
    rw [List.flatMap_cons, List.length_append, List.length_cons, Nat.succ_mul]
    omega
theorem itC_len12 (c : Cls) (h : c.Small) : (itC c.p).length ≤ 800 := by
  have h1 : ∀ q ∈ c.p.steps.zip c.p.comps, (itPr q).length ≤ 188 := by
    intro q hq
    obtain ⟨hq1, hq2⟩ := List.of_mem_zip hq
    obtain ⟨s, hs, e1⟩ := List.mem_map.1 hq1
    obtain ⟨u, hu, e2⟩ := List.mem_map.1 hq2
    have a1 := h.s1 s hs
    have a2 := h.s2 u hu
    rw [itPr_len, ← e1, ← e2]
    have b1 := a1.code
    have b2 := a1.foot
    have b3 := a2.code
    have b4 := a2.foot
    simp only [Stp.p]
    omega
  have h2 := flat_le12 itPr 188 _ h1
  have h3 : (c.p.steps.zip c.p.comps).length ≤ 4 := by
    rw [List.length_zip]
    have : c.p.steps.length = c.steps.length := by simp [Cls.p]
    have := h.n
    omega
  have h4 : (c.p.steps.zip c.p.comps).length * 188 ≤ 4 * 188 := Nat.mul_le_mul_right _ h3
  unfold itC
  simp only [List.length_append, List.length_cons, List.length_nil]
  omega

set_option maxRecDepth 100000 in
set_option maxHeartbeats 8000000 in
theorem refItems12_any (x : Ctl) (w : World) (hx : Clss w x.cA x.cls) (hn : x.cls.length ≤ 4) (hs : ∀ c ∈ x.cls, c.Small) : Calls Tryz.prog 13 #[x.agg] w (Items9 w (itQ x.p)) := by
  have Hx := Lib.hid (fun (W : World) (h : Fr No w W) => hx.since h)
  have Hs := Lib.hid hs
  obtain ⟨p, hp⟩ : ∃ p, Hid (p = x.p) := ⟨_, Lib.hid rfl⟩
  have Hi : Hid (itQ x.p = ([itN x.cls.length 4] ++ x.cls.flatMap fun c => itC c.p) ++ itB p (x.cls.length * x.cls.length)) := Lib.hid (by
    rw [hp.out]
    have e1 : x.p.cs.length = x.cls.length := by simp [Ctl.p]
    unfold itQ
    rw [e1]
    simp [Ctl.p, List.flatMap_map])
  have Hpl : Hid (p.cs.length = x.cls.length) := Lib.hid (by rw [hp.out]; simp [Ctl.p])
  have Hpb : Hid (p.b = x.b) := Lib.hid (by rw [hp.out]; rfl)
  generalize itQ x.p = its at *
  clear hp
  obtain ⟨cA, cls, cc, b⟩ := x
  unfold Ctl.agg Ctl.arr brA
  simp only at *
  obtain ⟨n, hn0⟩ : ∃ n, cls.length = n := ⟨_, rfl⟩
  rw [hn0] at Hi Hpl hn ⊢
  have Hn := Lib.hid hn0
  clear hx hs hn0
  obtain ⟨W0, hW0⟩ : ∃ W0, Hid (W0 = (w.alloc (.cells (brA (.slice cA n cc) b) 26)).alloc (.cells (([itN n 4] : List It).flatMap It.cells).toArray 77)) := ⟨_, Lib.hid rfl⟩
  have hfW : Hid (Fr No w W0) := Lib.hid (by rw [hW0.out]; exact ((Fr.refl _ _).alloc _).alloc _)
  have hbW : Hid (Bk W0 w.heap.size 26 (brA (.slice cA n cc) b)) := Lib.hid (by rw [hW0.out]; exact (Bk.made w _ _).fr ((Fr.refl No _).alloc _) (fun e => e))
  have hown0 : Hid (W0.ownsRow (w.heap.size + 1) 77 6 (.slice (some ⟨w.heap.size + 1, 0, none⟩) 1 1) 1 (([itN n 4] : List It).flatMap It.cells)) := Lib.hid (by
    have h := World.ownsRow_lit (base := w.heap.size + 1) (e := 77) (size := 6) (w.alloc (.cells (brA (.slice cA n cc) b) 26)) (([itN n 4] : List It).flatMap It.cells).toArray 1 (by simp) (by decide) rfl
    rw [hW0.out]
    simpa using h)
  have hwe : (w.alloc (.cells #[.slice cA n cc, .int .i64 (b 0), .int .i64 (b 1), .int .i64 (b 2), .int .i64 (b 3), .int .i64 (b 4), .int .i64 (b 5), .int .i64 (b 6), .int .i64 (b 7), .int .i64 (b 8), .int .i64 (b 9), .int .i64 (b 10), .int .i64 (b 11), .int .i64 (b 12), .int .i64 (b 13), .int .i64 (b 14), .int .i64 (b 15)] 26)).alloc (.cells #[.int .i64 0, .int .i64 n, .int .i64 4, .int .i64 0, .string ⟨#[]⟩, .slice none 0 0] 77) = W0 := by rw [hW0.out]; rfl
  go_enter Tryz.func13, Tryz.ntmps13
  go_wp2
  clear hwe
  go_loopw [3, 4] (fun out i wr => ∃ (k : Nat) (B : Option Addr) (d : Nat), k ≤ n ∧ i = .int .i64 k ∧ out = .slice B ([itN n 4] ++ (cls.take k).flatMap fun c => itC c.p).length d ∧ Hid (([itN n 4] ++ (cls.take k).flatMap fun c => itC c.p).length ≤ 1 + k * 800) ∧ Hid (wr.ownsRow (w.heap.size + 1) 77 6 (.slice B ([itN n 4] ++ (cls.take k).flatMap fun c => itC c.p).length d) ([itN n 4] ++ (cls.take k).flatMap fun c => itC c.p).length (([itN n 4] ++ (cls.take k).flatMap fun c => itC c.p).flatMap It.cells)) ∧ Hid (Fr No w wr) ∧ Hid (Fr (fun i => w.heap.size + 1 ≤ i) W0 wr)) (fun _ i _ => n - (intOf i).toNat)
  case atStart => exact ⟨0, some ⟨w.heap.size + 1, 0, none⟩, 1, Nat.zero_le _, rfl, by simp, Lib.hid (by simp), Lib.hid (by simpa using hown0.out), hfW, Lib.hid (Fr.refl _ _)⟩
  case round =>
    obtain ⟨k, B, d, hk, rfl, rfl, hlen, hown, hfr, hgr⟩ := hrel
    have hb := hbW.out.fr hgr.out (fun e => by omega)
    have hbl := hb.lt
    have f0 : wr.cell? ⟨w.heap.size, 0, none⟩ = some (.slice cA n cc) := hb.cell 0
    by_cases hlt : k < n
    · have hkl : k < cls.length := by rw [Hn.out]; exact hlt
      obtain ⟨ad, e3, hab, c0, c1, c2, c3, c4⟩ := (Hx.out wr hfr.out).sl.cls (k := k) hkl
      have hSm := Hs.out _ (List.getElem_mem hkl)
      have C1 := Lib.hid (refItems11_any cls[k] wr ((Hx.out wr hfr.out).all _ (List.getElem_mem hkl)) hSm.n hSm.m hSm.s1 hSm.s2)
      have L1 := Lib.hid (itC_len12 _ hSm)
      have Hs1 : Hid (cls.take (k + 1) = cls.take k ++ [cls[k]]) := Lib.hid (List.take_succ_eq_append_getElem hkl)
      have HQ : Hid ([itN n 4] ++ (cls.take (k + 1)).flatMap (fun c => itC c.p) = ([itN n 4] ++ (cls.take k).flatMap fun c => itC c.p) ++ itC cls[k].p) := Lib.hid (by
        rw [Hs1.out, List.flatMap_append]
        simp)
      obtain ⟨cur2, hcur2⟩ : ∃ z, Hid ([itN n 4] ++ (cls.take (k + 1)).flatMap (fun c => itC c.p) = z) := ⟨_, Lib.hid rfl⟩
      rw [hcur2.out] at HQ
      clear Hs1 hSm
      unfold Cls.agg at C1
      generalize cls[k].p = pc at *
      generalize cls[k].name = a0 at *
      generalize cls[k].args = a1 at *
      generalize cls[k].sA = a2 at *
      generalize cls[k].steps.length = a3 at *
      generalize cls[k].sc = a4 at *
      generalize cls[k].uA = a5 at *
      generalize cls[k].comps.length = a6 at *
      generalize cls[k].uc = a7 at *
      generalize cls[k].res = a8 at *
      generalize [itN n 4] ++ (cls.take k).flatMap (fun c => itC c.p) = cur at *
      generalize itC pc = t1 at *
      subst e3
      have hab1 : (ad.add (k * 5)).block < wr.heap.size := by rw [block_add]; exact hab
      clear hb
      go_wp2_with fail
      refine (C1.out).mono ?_
      rintro e' v1 ⟨D1, d1, rfl, hsl1, -, g1⟩
      have HSl1 := Lib.hid hsl1
      have HFm : Hid (Fr No w v1) := Lib.hid (hfr.out.trans' g1 (fun _ _ h => h.elim))
      have HGm : Hid (Fr (fun i => w.heap.size + 1 ≤ i) W0 v1) := Lib.hid (hgr.out.trans' g1 (fun _ _ h => h.elim))
      have HOm := Lib.hid (own_fr hown.out g1 (fun _ _ e => e))
      have hbv := g1.size
      clear hsl1 g1 c0 c1 c2 c3 c4 f0
      go_wp2_with (
        at_builtin
        refine append_items rfl _ _ rfl (w.heap.size + 1) B _ d cur rfl v1.heap.size D1 _ d1 t1 rfl rfl HSl1.out HOm.out (by have := hlen.out; have := L1.out; omega) (by omega) ?_
        intro B1 b1 w1 o1 fr1 gr1
        rw [← List.length_append] at o1 ⊢
        rw [← HQ.out] at o1 ⊢
        have HO1 := Lib.hid o1
        have HF1 : Hid (Fr No w w1) := Lib.hid (HFm.out.trans' fr1 (fun i hi e => by have := (HOm.out.lt _ e).1; omega))
        have HG1 : Hid (Fr (fun i => w.heap.size + 1 ≤ i) W0 w1) := Lib.hid (HGm.out.trans' fr1 (fun i hi e => (HOm.out.lt _ e).1))
        have HLen1 : Hid (cur2.length ≤ 1 + (k + 1) * 800) := Lib.hid (by have := hlen.out; have := L1.out; rw [HQ.out, List.length_append]; omega)
        clear o1 fr1 gr1)
      go_roundw
      case rel =>
        refine ⟨k + 1, B1, b1, by omega, by go_num, by rw [hcur2.out], by rw [hcur2.out]; exact HLen1, by rw [hcur2.out]; exact HO1, HF1, HG1⟩
      case measure => simp [intOf]; omega
    · obtain rfl : k = n := by omega
      have Hz : Hid (cls.take k = cls) := Lib.hid (List.take_of_length_le (by rw [Hn.out]; exact Nat.le_refl _))
      rw [Hz.out] at hown hlen ⊢
      generalize [itN k 4] ++ cls.flatMap (fun c => itC c.p) = cur at *
      have HL : Hid (cur.length ≤ 3201) := Lib.hid (by have := hlen.out; omega)
      have hown1 : Hid (wr.ownsRow (w.heap.size + 1) 77 6 (.slice B (cur ++ itB p (0 * k)).length d) (cur ++ itB p (0 * k)).length ((cur ++ itB p (0 * k)).flatMap It.cells)) := Lib.hid (by
        have e : itB p (0 * k) = [] := by rw [Nat.zero_mul]; rfl
        rw [e, List.append_nil]
        exact hown.out)
      have he : cur.length = (cur ++ itB p (0 * k)).length := by
        have e : itB p (0 * k) = [] := by rw [Nat.zero_mul]; rfl
        rw [e, List.append_nil]
      clear hlen hown hb
      go_wp2
      clear f0
      go_loopw [3, 5] (fun out i wz => ∃ (c : Nat) (B : Option Addr) (d : Nat), c ≤ k ∧ i = .int .i64 c ∧ out = .slice B (cur ++ itB p (c * k)).length d ∧ Hid (wz.ownsRow (w.heap.size + 1) 77 6 (.slice B (cur ++ itB p (c * k)).length d) (cur ++ itB p (c * k)).length ((cur ++ itB p (c * k)).flatMap It.cells)) ∧ Hid (Fr No w wz) ∧ Hid (Fr (fun i => w.heap.size + 1 ≤ i) W0 wz)) (fun _ i _ => k - (intOf i).toNat)
      case atStart => exact ⟨0, B, d, Nat.zero_le _, rfl, by rw [← he], hown1, hfr, hgr⟩
      case round =>
        clear hown1 hfr hgr he
        obtain ⟨c, B, d, hc, rfl, rfl, hown, hfr, hgr⟩ := hrel
        have hb := hbW.out.fr hgr.out (fun e => by omega)
        have hbl := hb.lt
        have f0 : wr.cell? ⟨w.heap.size, 0, none⟩ = some (.slice cA k cc) := hb.cell 0
        by_cases hlc : c < k
        · clear hb
          go_wp2
          clear f0 hbl
          go_loopw [3, 6] (fun out i wz => ∃ (j : Nat) (B : Option Addr) (d : Nat), j ≤ k ∧ i = .int .i64 j ∧ out = .slice B (cur ++ itB p (c * k + j)).length d ∧ Hid (wz.ownsRow (w.heap.size + 1) 77 6 (.slice B (cur ++ itB p (c * k + j)).length d) (cur ++ itB p (c * k + j)).length ((cur ++ itB p (c * k + j)).flatMap It.cells)) ∧ Hid (Fr No w wz) ∧ Hid (Fr (fun i => w.heap.size + 1 ≤ i) W0 wz)) (fun _ i _ => k - (intOf i).toNat)
          case atStart => exact ⟨0, B, d, Nat.zero_le _, rfl, rfl, hown, hfr, hgr⟩
          case round =>
            clear hown hfr hgr
            obtain ⟨j, B, d, hj, rfl, rfl, hown, hfr, hgr⟩ := hrel
            have hb := hbW.out.fr hgr.out (fun e => by omega)
            have hbl := hb.lt
            have f0 : wr.cell? ⟨w.heap.size, 0, none⟩ = some (.slice cA k cc) := hb.cell 0
            by_cases hlj : j < k
            · obtain ⟨v, hv⟩ : ∃ v, Hid (v = b (c * 4 + j)) := ⟨_, Lib.hid rfl⟩
              have y1 : wr.cell? ⟨w.heap.size, 1 + c * 4 + j, none⟩ = some (.int .i64 v) := by rw [hv.out]; exact bk_br2 hb (by omega) (by omega)
              have HQ : Hid (cur ++ itB p (c * k + (j + 1)) = (cur ++ itB p (c * k + j)) ++ [itN v 255]) := Lib.hid (by rw [itB_next Hpl.out hlj, Hpb.out, ← hv.out, List.append_assoc])
              have HLn : Hid ((cur ++ itB p (c * k + j)).length ≤ 3300) := Lib.hid (by
                have h1 : c * k ≤ 4 * 4 := Nat.mul_le_mul (by omega) (by omega)
                have h2 := HL.out
                rw [List.length_append, itB_len]
                omega)
              obtain ⟨cu2, hcu2⟩ : ∃ z, Hid (cur ++ itB p (c * k + (j + 1)) = z) := ⟨_, Lib.hid rfl⟩
              rw [hcu2.out] at HQ
              have ic4 : ((c : Nat) : Int) < 4 := by omega
              have ij4 : ((j : Nat) : Int) < 4 := by omega
              clear hb
              generalize cur ++ itB p (c * k + j) = cu at *
              go_wp2_with (
                at_builtin
                refine append_items rfl _ _ rfl (w.heap.size + 1) B _ d cu rfl (wr.heap.size + 1) (some ⟨wr.heap.size, 0, none⟩) 1 _ [itN v 255] rfl rfl (slLit _ _ _ _ _ rfl rfl) (hown.out.alloc _) (by have := HLn.out; omega) (by simp; omega) ?_
                intro B3 b3 w3 o3 fr3 gr3
                have HO3 : Hid (w3.ownsRow (w.heap.size + 1) 77 6 (.slice B3 cu2.length b3) cu2.length (cu2.flatMap It.cells)) := Lib.hid (by rw [HQ.out, List.length_append]; exact o3)
                have HF3 : Hid (Fr No w w3) := Lib.hid ((hfr.out.alloc _).trans' fr3 (fun i hi e => by have := (hown.out.lt _ e).1; omega))
                have HG3 : Hid (Fr (fun i => w.heap.size + 1 ≤ i) W0 w3) := Lib.hid ((hgr.out.alloc _).trans' fr3 (fun i hi e => (hown.out.lt _ e).1))
                have hl3 : cu2.length = cu.length + 1 := by rw [HQ.out, List.length_append]; rfl
                clear o3 fr3 gr3)
              go_roundw
              case rel => exact ⟨j + 1, B3, b3, by omega, by go_num, by rw [hcu2.out, hl3], by rw [hcu2.out]; exact HO3, HF3, HG3⟩
              case measure => simp [intOf]; omega
            · obtain rfl : j = k := by omega
              have hown2 := hown
              rw [← Nat.succ_mul] at hown2
              clear hb
              go_wp2
              go_roundw
              case rel => exact ⟨c + 1, B, d, by omega, by go_num, by rw [Nat.succ_mul], hown2, hfr, hgr⟩
              case measure => simp [intOf]; omega
        · obtain rfl : c = k := by omega
          clear hb
          go_wp2
          go_ret
          refine ⟨B, d, by rw [Hi.out]; rfl, by rw [Hi.out]; exact Sl.ofOwn hown.out, fun ad e => ?_, hfr.out⟩
          subst e
          have h := (hown.out.lt ad.block (by obtain ⟨A9, c9, e9, -, -, -⟩ := own_shape hown.out; rfl)).1
          omega
end Go.Proofs.YtbemfomiiikpoaaGreat
