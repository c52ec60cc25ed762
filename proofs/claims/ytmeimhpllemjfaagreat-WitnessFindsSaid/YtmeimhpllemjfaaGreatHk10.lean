/- Whether a list has an element that a function tells: slices.ContainsFunc, as package foot calls it. -/
import Derived.Test.YtmeimhpllemjfaaGreatIdx9
import Derived.Test.YtmeimhpllemjfaaGreatRgt10
import Derived.Test.YtmeimhpllemjfaaGreatMay9
namespace Go.Proofs.YtmeimhpllemjfaaGreat
open Go.RowKit

set_option maxHeartbeats 1000000 in
theorem idxKeyF (l : List (Int × Int)) (A : Option Addr) (n c : Nat) (q0 : Addr) (p : Int × Int → Bool) (w : World) (hsl : Sl w w.heap.size A (l.flatMap kflat)) (hn : l.length = n) (hnm : n ≤ 1099511627776)
  (hf : ∀ x ∈ l, ∀ W, Fr No w W → Calls Tryz.prog 183 #[kcell x, .pointer (some q0)] W (Has W (p x))) :
  Calls Tryz.prog 191 #[.slice A n c, .func (.func 183) #[] #[.pointer (some q0)]] w (At w (l.any p)) := by
 have Hf := Lib.hid hf
 have Hn := Lib.hid hn
 have Hsl := Lib.hid hsl
 clear hf hn hsl
 go_enter Tryz.func191, Tryz.ntmps191
 go_wp2
 go_loopw [8] (fun i wr => ∃ k : Nat, k ≤ n ∧ i = .int .i64 k ∧ Hid ((l.take k).any p = false) ∧ Fr No w wr) (fun i _ => n - (intOf i).toNat)
 case atStart => exact ⟨0, Nat.zero_le _, rfl, Lib.hid (by simp), Fr.refl _ _⟩
 case round =>
  obtain ⟨k, hk, rfl, hpre, hfr⟩ := hrel
  by_cases hlt : k < n
  ·have hkl : k < l.length := by rw [Hn.out]; exact hlt
   obtain ⟨ad, rfl, hab, c0, c1⟩ := (Hsl.out.since hfr).key9 (k := k) hkl
   have hx := Lib.hid (Hf.out l[k] (List.getElem_mem hkl) wr hfr)
   have Hst := Lib.hid (any_step p l k hkl hpre.out)
   have Hfd := Lib.hid (any_found p l k hkl)
   generalize l[k] = x at *
   by_cases hpx : p x = true
   ·rw [hpx] at hx Hst
    obtain ⟨xa, xb⟩ := x
    simp only [kcell] at hx
    go_wp2_with fail
    refine (hx.out).mono ?_
    rintro e w1 ⟨rfl, hf1⟩
    go_wp2
    go_ret
    exact ⟨hfr.trans' hf1 (fun _ _ h => h), k, rfl, by rw [Hfd.out hpx]; simp⟩
   ·rw [Bool.not_eq_true] at hpx
    rw [hpx] at hx Hst
    obtain ⟨xa, xb⟩ := x
    simp only [kcell] at hx
    go_wp2_with fail
    refine (hx.out).mono ?_
    rintro e w1 ⟨rfl, hf1⟩
    go_wp2
    go_roundw
    case rel => exact ⟨k + 1, by omega, by go_num, Lib.hid Hst.out, hfr.trans' hf1 (fun _ _ h => h)⟩
    case measure => simp [intOf]; omega
  ·obtain rfl : k = n := by omega
   go_wp2
   go_ret
   refine ⟨hfr, -1, rfl, ?_⟩
   have h1 := hpre.out
   rw [List.take_of_length_le (by rw [Hn.out]; exact Nat.le_refl _)] at h1
   rw [h1]
   rfl
set_option maxHeartbeats 1000000 in
theorem hasKeyF (l : List (Int × Int)) (A : Option Addr) (n c : Nat) (q0 : Addr) (p : Int × Int → Bool) (w : World) (hsl : Sl w w.heap.size A (l.flatMap kflat)) (hn : l.length = n) (hnm : n ≤ 1099511627776)
  (hf : ∀ x ∈ l, ∀ W, Fr No w W → Calls Tryz.prog 183 #[kcell x, .pointer (some q0)] W (Has W (p x))) :
  Calls Tryz.prog 181 #[.slice A n c, .func (.func 183) #[] #[.pointer (some q0)]] w (Has w (l.any p)) := by
 have Hc := Lib.hid (idxKeyF l A n c q0 p w hsl hn hnm hf)
 generalize l.any p = b at *
 clear hf hn hsl
 go_enter Tryz.func181, Tryz.ntmps181
 go_wp2_with fail
 refine (Hc.out).mono ?_
 rintro e w1 ⟨hf1, r, rfl, hr⟩
 go_wp2
 go_ret
 exact ⟨by rw [← hr]; rfl, hf1⟩
set_option maxHeartbeats 1000000 in
theorem idxFsp (l : List (Fsp)) (A : Option Addr) (n c : Nat) (q0 : Addr) (p : Fsp → Bool) (w : World) (hsl : Sl w w.heap.size A (l.flatMap Fsp.cells)) (hn : l.length = n) (hnm : n ≤ 1099511627776)
  (hf : ∀ x ∈ l, ∀ W, Fr No w W → Calls Tryz.prog 168 #[x.agg, .pointer (some q0)] W (Has W (p x))) :
  Calls Tryz.prog 185 #[.slice A n c, .func (.func 168) #[] #[.pointer (some q0)]] w (At w (l.any p)) := by
 have Hf := Lib.hid hf
 have Hn := Lib.hid hn
 have Hsl := Lib.hid hsl
 clear hf hn hsl
 go_enter Tryz.func185, Tryz.ntmps185
 go_wp2
 go_loopw [8] (fun i wr => ∃ k : Nat, k ≤ n ∧ i = .int .i64 k ∧ Hid ((l.take k).any p = false) ∧ Fr No w wr) (fun i _ => n - (intOf i).toNat)
 case atStart => exact ⟨0, Nat.zero_le _, rfl, Lib.hid (by simp), Fr.refl _ _⟩
 case round =>
  obtain ⟨k, hk, rfl, hpre, hfr⟩ := hrel
  by_cases hlt : k < n
  ·have hkl : k < l.length := by rw [Hn.out]; exact hlt
   obtain ⟨ad, rfl, hab, c0, c1, c2, c3, c4⟩ := (Hsl.out.since hfr).fsp (k := k) hkl
   have hx := Lib.hid (Hf.out l[k] (List.getElem_mem hkl) wr hfr)
   have Hst := Lib.hid (any_step p l k hkl hpre.out)
   have Hfd := Lib.hid (any_found p l k hkl)
   generalize l[k] = x at *
   by_cases hpx : p x = true
   ·rw [hpx] at hx Hst
    obtain ⟨xa, xb, xc, xd, xe⟩ := x
    simp only [Fsp.agg] at hx
    go_wp2_with fail
    refine (hx.out).mono ?_
    rintro e w1 ⟨rfl, hf1⟩
    go_wp2
    go_ret
    exact ⟨hfr.trans' hf1 (fun _ _ h => h), k, rfl, by rw [Hfd.out hpx]; simp⟩
   ·rw [Bool.not_eq_true] at hpx
    rw [hpx] at hx Hst
    obtain ⟨xa, xb, xc, xd, xe⟩ := x
    simp only [Fsp.agg] at hx
    go_wp2_with fail
    refine (hx.out).mono ?_
    rintro e w1 ⟨rfl, hf1⟩
    go_wp2
    go_roundw
    case rel => exact ⟨k + 1, by omega, by go_num, Lib.hid Hst.out, hfr.trans' hf1 (fun _ _ h => h)⟩
    case measure => simp [intOf]; omega
  ·obtain rfl : k = n := by omega
   go_wp2
   go_ret
   refine ⟨hfr, -1, rfl, ?_⟩
   have h1 := hpre.out
   rw [List.take_of_length_le (by rw [Hn.out]; exact Nat.le_refl _)] at h1
   rw [h1]
   rfl
set_option maxHeartbeats 1000000 in
theorem hasFsp (l : List (Fsp)) (A : Option Addr) (n c : Nat) (q0 : Addr) (p : Fsp → Bool) (w : World) (hsl : Sl w w.heap.size A (l.flatMap Fsp.cells)) (hn : l.length = n) (hnm : n ≤ 1099511627776)
  (hf : ∀ x ∈ l, ∀ W, Fr No w W → Calls Tryz.prog 168 #[x.agg, .pointer (some q0)] W (Has W (p x))) :
  Calls Tryz.prog 167 #[.slice A n c, .func (.func 168) #[] #[.pointer (some q0)]] w (Has w (l.any p)) := by
 have Hc := Lib.hid (idxFsp l A n c q0 p w hsl hn hnm hf)
 generalize l.any p = b at *
 clear hf hn hsl
 go_enter Tryz.func167, Tryz.ntmps167
 go_wp2_with fail
 refine (Hc.out).mono ?_
 rintro e w1 ⟨hf1, r, rfl, hr⟩
 go_wp2
 go_ret
 exact ⟨by rw [← hr]; rfl, hf1⟩
end Go.Proofs.YtmeimhpllemjfaaGreat
/- Which footprints package foot says may be. -/
namespace Go.Proofs.YtmeimhpllemjfaaGreat
open Go.RowKit

def keyHas (gs : List Int) (k : Int × Int) : Bool := argsOk gs && keyOk k.1 k.2 gs.length
theorem keyV_has (gs : List Int) (x y : Int) : (keyV x y gs).2 = keyHas gs (x, y) := by
 unfold keyV keyHas
 cases argsOk gs && keyOk x y gs.length <;> rfl

set_option maxHeartbeats 1000000 in
theorem hk1_any (k : Int × Int) (gs : List Int) (A : Option Addr) (n c : Nat) (p : Addr) (w : World) (hp : w.cell? p = some (.slice A n c)) (hpb : p.block < w.heap.size) (hsl : Sl w w.heap.size A (ints gs)) (hn : gs.length = n) (hnm : n ≤ 1099511627776) :
  Calls Tryz.prog 183 #[kcell k, .pointer (some p)] w (Has w (!keyHas gs k)) := by
 obtain ⟨x, y⟩ := k
 have hp1 : (w.alloc (.cells #[.int .i64 x, .int .i64 y] 40)).cell? p = some (.slice A n c) := (World.cell?_alloc_lt w _ p hpb).trans hp
 have hf0 : Fr No w (w.alloc (.cells #[.int .i64 x, .int .i64 y] 40)) := (Fr.refl _ _).alloc _
 have C := key_any x y gs A n c _ (hsl.since hf0) hn hnm
 have Hv : Hid ((keyV x y gs).2 = keyHas gs (x, y)) := Lib.hid (keyV_has gs x y)
 generalize keyV x y gs = r at *
 obtain ⟨r1, r2⟩ := r
 simp only [kcell] at *
 clear hsl hn
 go_enter Tryz.func183, Tryz.ntmps183
 go_wp2_with fail
 refine C.mono ?_
 rintro e w1 ⟨rfl, hf1⟩
 go_wp2
 go_ret
 exact ⟨by rw [← Hv.out]; rfl, hf0.then0 hf1 (fun _ h => h.elim)⟩

set_option maxHeartbeats 1000000 in
theorem haveKeys_any (gs : List Int) (A : Option Addr) (n c : Nat) (ks : List (Int × Int)) (B : Option Addr) (m d : Nat) (w : World) (hsl : Sl w w.heap.size A (ints gs)) (hn : gs.length = n) (hnm : n ≤ 1099511627776) (hks : Sl w w.heap.size B (ks.flatMap kflat)) (hm : ks.length = m) (hmm : m ≤ 1099511627776) :
  Calls Tryz.prog 166 #[.slice A n c, .slice B m d] w (Has w (ks.all (keyHas gs))) := by
 have Hb : Hid ((!ks.any fun k => !keyHas gs k) = ks.all (keyHas gs)) := Lib.hid (by
  rw [List.not_any_eq_all_not]
  congr 1
  funext x
  simp)
 have hf2 : Fr No w (w.alloc (.cells #[.slice A n c] 28)) := (Fr.refl _ _).alloc _
 have Hc := Lib.hid (hasKeyF ks B m d ⟨w.heap.size, 0, none⟩ (fun k => !keyHas gs k) _ (hks.since hf2) hm hmm (fun x _ W hW => (hk1_any x gs A n c _ W ((hW.cell (by simp) (fun e => e)).trans (by simp)) (by have := hW.size; simp at this; simp; omega) (hsl.since (hf2.trans' hW (fun _ _ h => h))) hn hnm)))
 generalize (ks.any fun k => !keyHas gs k) = b at *
 clear hsl hn hks hm
 go_enter Tryz.func166, Tryz.ntmps166
 go_wp2_with fail
 refine (Hc.out).mono ?_
 rintro e w1 ⟨rfl, hf1⟩
 go_wp2
 go_ret
 exact ⟨by rw [← Hb.out]; rfl, hf2.then0 hf1 (fun _ h => h.elim)⟩

def fspHas (gs : List Int) (f : Fsp) : Bool := keyHas gs (f.la, f.lb) && keyHas gs (f.ha, f.hb)
set_option maxHeartbeats 1000000 in
theorem mf1_any (f : Fsp) (gs : List Int) (A : Option Addr) (n c : Nat) (p : Addr) (w : World) (hp : w.cell? p = some (.slice A n c)) (hpb : p.block < w.heap.size) (hsl : Sl w w.heap.size A (ints gs)) (hn : gs.length = n) (hnm : n ≤ 1099511627776) :
  Calls Tryz.prog 168 #[f.agg, .pointer (some p)] w (Has w (!fspHas gs f)) := by
 obtain ⟨la, lb, ha, hb, wr⟩ := f
 have hp1 : (w.alloc (.cells #[.int .i64 la, .int .i64 lb, .int .i64 ha, .int .i64 hb, .bool wr] 128)).cell? p = some (.slice A n c) := (World.cell?_alloc_lt w _ p hpb).trans hp
 have hf0 : Fr No w (w.alloc (.cells #[.int .i64 la, .int .i64 lb, .int .i64 ha, .int .i64 hb, .bool wr] 128)) := (Fr.refl _ _).alloc _
 have C := fun (W : World) (B : Option Addr) (hW : Fr No w W) (hB : Sl W W.heap.size B _) => haveKeys_any gs A n c [(la, lb), (ha, hb)] B 2 2 W (hsl.since hW) hn hnm hB rfl (by omega)
 have Hv : Hid ([(la, lb), (ha, hb)].all (keyHas gs) = fspHas gs ⟨la, lb, ha, hb, wr⟩) := Lib.hid (by simp [fspHas])
 generalize [(la, lb), (ha, hb)].all (keyHas gs) = b at *
 simp only [Fsp.agg] at *
 have HC := Lib.hid C
 clear hsl hn C
 go_enter Tryz.func168, Tryz.ntmps168
 go_wp2_with fail
 refine (HC.out _ _ (hf0.alloc _) (slMade _ _ _ _ _ (by simp) rfl)).mono ?_
 rintro e w1 ⟨rfl, hf1⟩
 go_wp2
 go_ret
 exact ⟨by rw [← Hv.out]; rfl, (hf0.alloc _).then0 hf1 (fun _ h => h.elim)⟩

theorem footRight_has (l : List Fsp) (gs : List Int) : footRight l gs = (decide (l.length ≤ 4) && (keyHas gs (-1, 0) && l.all (fspHas gs))) := by
 unfold footRight footOk
 cases ha : argsOk gs
 ·have : keyHas gs (-1, 0) = false := by unfold keyHas; rw [ha]; rfl
  rw [this]
  simp
 ·have h3 : gs.length ≤ 3 := by
   unfold argsOk at ha
   simp only [Bool.and_eq_true, decide_eq_true_eq] at ha
   omega
  have e0 : keyHas gs (-1, 0) = true := by
   unfold keyHas
   rw [ha]
   simp [keyOk]
   omega
  have e1 : decide (0 ≤ (gs.length : Int) ∧ (gs.length : Int) ≤ 3) = true := by simp; omega
  have e2 : (fun f => fspOk f gs.length) = fspHas gs := by
   funext f
   unfold fspOk fspHas keyHas
   rw [ha]
   simp
  rw [e0, e1, e2]
  simp

set_option maxHeartbeats 1000000 in
theorem mayFor_any (l : List Fsp) (gs : List Int) (A A2 : Option Addr) (m c n c2 : Nat) (w : World) (hsl : Sl w w.heap.size A (l.flatMap Fsp.cells)) (hm : l.length = m) (hmm : m ≤ 1099511627776) (hs2 : Sl w w.heap.size A2 (ints gs)) (hn : gs.length = n) (hnm : n ≤ 1099511627776) :
  Calls Tryz.prog 143 #[.slice A m c, .slice A2 n c2] w (Has w (footRight l gs)) := by
 have Hr : Hid (footRight l gs = (decide (m ≤ 4) && (keyHas gs (-1, 0) && l.all (fspHas gs)))) := Lib.hid (by rw [footRight_has, hm])
 generalize footRight l gs = r at *
 have hf2 : Fr No w (w.alloc (.cells #[.slice A2 n c2] 28)) := (Fr.refl _ _).alloc _
 by_cases h4 : m ≤ 4
 ·have d4 : decide (4 < (m : Int)) = false := by simp; omega
  have e4 : decide (m ≤ 4) = true := by simpa using h4
  have Hb : Hid ((!l.any fun f => !fspHas gs f) = l.all (fspHas gs)) := Lib.hid (by
   rw [List.not_any_eq_all_not]
   congr 1
   funext x
   simp)
  have C1 := fun (W : World) (B : Option Addr) (hW : Fr No w W) (hB : Sl W W.heap.size B _) => haveKeys_any gs A2 n c2 [(-1, 0)] B 1 1 W (hs2.since hW) hn hnm hB rfl (by omega)
  have hk1 : ([((-1 : Int), (0 : Int))].all (keyHas gs)) = keyHas gs (-1, 0) := by simp
  rw [hk1] at C1
  have C2 := fun (W : World) (hW : Fr No (w.alloc (.cells #[.slice A2 n c2] 28)) W) => hasFsp l A m c ⟨w.heap.size, 0, none⟩ (fun f => !fspHas gs f) W (hsl.since (hf2.trans' hW (fun _ _ h => h))) hm hmm (fun x _ W2 hW2 => (mf1_any x gs A2 n c2 _ W2 (((hW.trans' hW2 (fun _ _ h => h)).cell (by simp) (fun e => e)).trans (by simp)) (by have := (hW.trans' hW2 (fun _ _ h => h)).size; simp at this; simp; omega) (hs2.since (hf2.trans' (hW.trans' hW2 (fun _ _ h => h)) (fun _ _ h => h))) hn hnm))
  generalize (l.any fun f => !fspHas gs f) = b at *
  generalize keyHas gs (-1, 0) = k at *
  have HC1 := Lib.hid C1
  have HC2 := Lib.hid C2
  clear hsl hs2 hm hn C1 C2 hk1
  cases k
  ·have Hf : Hid (r = false) := Lib.hid (by rw [Hr.out]; simp)
   go_enter Tryz.func143, Tryz.ntmps143
   go_wp2_with fail
   refine (HC1.out _ _ (hf2.alloc _) (slMade _ _ _ _ _ (by simp) rfl)).mono ?_
   rintro e w1 ⟨rfl, hf1⟩
   go_wp2
   go_ret
   exact ⟨by rw [Hf.out]; rfl, (hf2.alloc _).then0 hf1 (fun _ h => h.elim)⟩
  ·have Hf : Hid (r = !b) := Lib.hid (by rw [Hr.out, e4, Hb.out]; rfl)
   go_enter Tryz.func143, Tryz.ntmps143
   go_wp2_with fail
   refine (HC1.out _ _ (hf2.alloc _) (slMade _ _ _ _ _ (by simp) rfl)).mono ?_
   rintro e w1 ⟨rfl, hf1⟩
   have hf3 := ((Fr.refl No (w.alloc (.cells #[.slice A2 n c2] 28))).alloc _).then0 hf1 (fun _ h => h.elim)
   go_wp2_with fail
   refine (HC2.out _ hf3).mono ?_
   rintro e w2 ⟨rfl, hf4⟩
   go_wp2
   go_ret
   exact ⟨by rw [Hf.out]; rfl, (hf2.trans' hf3 (fun _ _ h => h)).then0 hf4 (fun _ h => h.elim)⟩
 ·have d4 : decide (4 < (m : Int)) = true := by simp; omega
  have Hf : Hid (r = false) := Lib.hid (by rw [Hr.out]; simp; omega)
  clear hsl hs2 hm hn
  go_enter Tryz.func143, Tryz.ntmps143
  go_wp2
  go_ret
  exact ⟨by rw [Hf.out]; rfl, hf2⟩
end Go.Proofs.YtmeimhpllemjfaaGreat
/- A footprint's span for arguments, as package foot has it; may it be, for so many? -/
namespace Go.Proofs.YtmeimhpllemjfaaGreat
open Go.RowKit

theorem zeros_ok (n : Nat) (h : n ≤ 3) : argsOk (List.replicate n 0) = true := by
 unfold argsOk
 simp only [Bool.and_eq_true, decide_eq_true_eq, List.length_replicate, List.all_eq_true]
 refine ⟨?_, ?_⟩ <;> first | exact h | (intro a ha; rw [List.mem_replicate] at ha; simp [ha.2])
end Go.Proofs.YtmeimhpllemjfaaGreat
/- May a footprint be, for so many arguments, as package foot has it. -/
namespace Go.Proofs.YtmeimhpllemjfaaGreat
open Go.RowKit

theorem info_int10 : (Tryz.prog.info? 3).map (fun i => (i.zero, i.size, i.bytes)) = some (some (.int .i64 0), 1, 8) := by kernel_rfl
set_option maxHeartbeats 1000000 in
theorem fMay_any (l : List Fsp) (n : Int) (A : Option Addr) (m c : Nat) (w : World) (hsl : Sl w w.heap.size A (l.flatMap Fsp.cells)) (hm : l.length = m) (hmm : m ≤ 1099511627776) :
  Calls Tryz.prog 113 #[.slice A m c, .int .i64 n] w (Has w (footOk l n)) := by
 by_cases h0 : n < 0
 ·have d0 : decide (n < 0) = true := by simpa using h0
  have Hb : Hid (footOk l n = false) := Lib.hid (by
   rw [Bool.eq_false_iff]
   intro e
   unfold footOk at e
   simp only [Bool.and_eq_true, decide_eq_true_eq] at e
   omega)
  clear hsl hm
  go_enter Tryz.func113, Tryz.ntmps113
  go_wp2
  go_ret
  exact ⟨by rw [Hb.out]; rfl, Fr.refl _ _⟩
 by_cases h3 : 3 < n
 ·have d0 : decide (n < 0) = false := by simpa using h0
  have d3 : decide (3 < n) = true := by simpa using h3
  have Hb : Hid (footOk l n = false) := Lib.hid (by
   rw [Bool.eq_false_iff]
   intro e
   unfold footOk at e
   simp only [Bool.and_eq_true, decide_eq_true_eq] at e
   omega)
  clear hsl hm
  go_enter Tryz.func113, Tryz.ntmps113
  go_wp2
  go_ret
  exact ⟨by rw [Hb.out]; rfl, Fr.refl _ _⟩
 obtain ⟨j, rfl⟩ : ∃ j : Nat, n = j := ⟨n.toNat, by omega⟩
 have hj : j ≤ 3 := by omega
 have hr : footRight l (List.replicate j 0) = footOk l j := by
  unfold footRight
  rw [zeros_ok j hj, List.length_replicate]
  rfl
 have hmk : ∀ W, (Instr.makeSlice 28 (.int .i64 j) (.int .i64 j)).run Tryz.prog W = .ok (.slice (some ⟨W.heap.size, 0, none⟩) j j) (W.alloc (.cells (madeCells #[.int .i64 0] j) 3)) := fun W => run_make_row' (P := Tryz.prog) 28 3 (.int .i64 0) 8 Tryz.underlying28 info_int10 rfl .i64 .i64 j (by omega) (by omega) W
 have hz : (madeCells #[.int .i64 0] j).toList = ints (List.replicate j 0) := by
  refine List.ext_getElem (by rw [Array.length_toList, size_madeCells]; simp [ints]) fun i h1 h2 => ?_
  simp [madeCells, ints, Nat.mod_one]
 have C := fun (W : World) (hW : Fr No w W) (B : Option Addr) (hB : Sl W W.heap.size B _) => mayFor_any l (List.replicate j 0) A B m c j j W (hsl.since hW) hm hmm hB (by simp) (by omega)
 rw [hr] at C
 have Hr := Lib.hid hr
 have HC := Lib.hid C
 generalize footOk l j = r at *
 generalize madeCells #[Value.int .i64 0] j = zc at *
 have Hz := Lib.hid hz
 clear hsl hm C hr hz
 have hf1 : Fr No w (w.alloc (.cells zc 3)) := (Fr.refl _ _).alloc _
 have d0 : decide ((j : Int) < 0) = false := by simp <;> omega
 have d3 : decide (3 < (j : Int)) = false := by simp <;> omega
 go_enter Tryz.func113, Tryz.ntmps113
 go_wp2_with fail
 refine (HC.out _ hf1 _ (slMade _ _ _ _ _ rfl Hz.out)).mono ?_
 rintro e w1 ⟨rfl, hf2⟩
 go_wp2
 go_ret
 exact ⟨rfl, hf1.then0 hf2 (fun _ h => h.elim)⟩
end Go.Proofs.YtmeimhpllemjfaaGreat
