/- Package keys: what two plain lists have in common. -/
import Derived.Test.YtmeimhpllemjfaaGreatMay4
import Derived.BigRegion
import Derived.Deep.CutRange
namespace Go.Proofs.YtmeimhpllemjfaaGreat
open Go.RowKit

structure Cap4 (w : World) (B : Nat) (A : Option Addr) (n c : Nat) (l : List Span) : Prop where
 sl : Sl w B A (sps l)
 len : l.length = n
 cap : n ≤ c
theorem Cap4.fr {S : Nat → Prop} {w W : World} {B n c : Nat} {A : Option Addr} {l : List Span} (h : Cap4 w B A n c l) (hf : Fr S w W) (hB : B ≤ w.heap.size) (hS : ∀ k, k < B → ¬ S k) : Cap4 W B A n c l := by
 refine ⟨fun hn => ?_, h.len, h.cap⟩
 obtain ⟨ad, e, hb, hc⟩ := h.sl hn
 refine ⟨ad, e, hb, fun j u hu => ?_⟩
 rw [hf.cell (by rw [block_add]; omega) (by rw [block_add]; exact hS _ hb)]
 exact hc j u hu
theorem Cap4.first {w : World} {B n c : Nat} {A : Option Addr} {x : Span} {l : List Span} (h : Cap4 w B A n c (x :: l)) : ∃ ad, A = some ad ∧ ad.block < B ∧ w.cell? ad = some (.int .i64 x.1) ∧ w.cell? ⟨ad.block, ad.off + 1, none⟩ = some (.int .i64 x.2) := by
 obtain ⟨ad, e, hb, h0, h1⟩ := h.sl.span (k := 0) (by simp)
 simp only [Nat.zero_mul, List.getElem_cons_zero] at h0 h1
 exact ⟨ad, e, hb, h0, h1⟩
theorem Cap4.tail {w : World} {B n c : Nat} {A : Option Addr} {x : Span} {l : List Span} (h : Cap4 w B A n c (x :: l)) : Cap4 w B (if c = 1 then A else A.map (·.add 2)) (n - 1) (c - 1) l := by
 have hl := h.len
 have hc := h.cap
 simp at hl
 have h1 := h.sl.drop (k := 1) (n := n) (cap := c) (sz := 2) (by rw [sps_len, h.len]) (by omega) hc
 exact ⟨h1, by omega, by omega⟩

set_option maxRecDepth 100000 in
set_option maxHeartbeats 8000000 in
theorem kCommon_any (a b : List Span) (A B : Option Addr) (n c n2 c2 : Nat) (w : World) (ha : Cap4 w w.heap.size A n c a) (hb : Cap4 w w.heap.size B n2 c2 b) (pa : IsPl a) (pb : IsPl b) (hn : n ≤ 1048576) (hn2 : n2 ≤ 1048576) :
  Calls Tryz.prog 152 #[.slice A n c, .slice B n2 c2] w (NewS w (plainOf fun k => keysOf a k && keysOf b k)) := by
 have HM : ∀ W a b, Calls Tryz.prog 102 #[.agg #[.int .i64 a, .int .i64 b]] W fun e w' => e = .returned (.bool (mayB a b)) ∧ Fr No W w' := fun W a b => kMay_any a b W
 obtain ⟨HB, hHB⟩ : ∃ HB, HB = w.heap.size := ⟨_, rfl⟩
 rw [← hHB] at ha hb
 have Hc0 := Lib.hid (Comm.start pa pb)
 have Ha := Lib.hid ha
 have Hb := Lib.hid hb
 clear pa pb ha hb
 go_enter Tryz.func152, Tryz.ntmps152
 go_wp2
 go_loopw [0, 1, 5] (fun av bv lv wr => ∃ (n' c' n2' c2' m cm : Nat) (A' B' O : Option Addr) (a' b' l : List Span), av = .slice A' n' c' ∧ bv = .slice B' n2' c2' ∧ lv = .slice O m cm ∧ n' ≤ n ∧ n2' ≤ n2 ∧ m + (n' + n2') ≤ n + n2 ∧ l.length = m ∧ Hid (Comm a b a' b' l) ∧
   Hid (Cap4 wr HB A' n' c' a') ∧ Hid (Cap4 wr HB B' n2' c2' b') ∧ wr.ownsRow HB 51 2 (.slice O m cm) m (sps l) ∧ Fr No w wr)
  (fun av bv _ _ => match av, bv with | .slice _ n' _, .slice _ n2' _ => n' + n2' | _, _ => 0)
 case atStart => exact ⟨n, c, n2, c2, 0, 0, A, B, none, a, b, [], rfl, rfl, rfl, by omega, by omega, by omega, rfl, Hc0, Ha, Hb, World.ownsRow_nil _ _ _ _, Fr.refl _ _⟩
 case round =>
  clear Ha Hb Hc0
  obtain ⟨n', c', n2', c2', m, cm, A', B', O, a', b', l, rfl, rfl, rfl, hn1, hn3, hm, hlm, HC, HA, HBb, hown, hfr⟩ := hrel
  cases a' with
  | nil =>
   have hlen := hlm
   have Hl := Lib.hid (HC.out.done (.inl rfl))
   have hn0 := HA.out.len
   obtain rfl : n' = 0 := by simp at hn0; omega
   subst hlm
   clear HC HA HBb HM
   go_wp2
   go_ret
   refine ⟨O, cm, ?_, ?_, hfr⟩
   ·rw [← Hl.out]; rfl
   ·rw [← Hl.out]; exact Sl.ofOwn hown
  | cons x a' =>
   cases b' with
   | nil =>
    have hlen := hlm
    have Hl := Lib.hid (HC.out.done (.inr rfl))
    have hn0 := HBb.out.len
    obtain rfl : n2' = 0 := by simp at hn0; omega
    have hn00 := HA.out.len
    have hpos : 0 < n' := by simp at hn00; omega
    subst hlm
    clear HC HA HBb HM
    go_wp2
    go_ret
    refine ⟨O, cm, ?_, ?_, hfr⟩
    ·rw [← Hl.out]; rfl
    ·rw [← Hl.out]; exact Sl.ofOwn hown
   | cons y b' =>
    obtain ⟨ad, rfl, hadB, x0, x1⟩ := HA.out.first
    obtain ⟨bd, rfl, hbdB, y0, y1⟩ := HBb.out.first
    have hna := HA.out.len
    have hnb := HBb.out.len
    simp at hna hnb
    have ca := HA.out.cap
    have cb := HBb.out.cap
    obtain ⟨xa, xb⟩ := x
    obtain ⟨ya, yb⟩ := y
    simp only at x0 x1 y0 y1
    have hszr := hfr.size
    have x0' := fun o => (((Fr.refl No wr).alloc o).cell (p := ad) (by omega) (fun e => e)).trans x0
    have x1' := fun o => (((Fr.refl No wr).alloc o).cell (p := ⟨ad.block, ad.off + 1, none⟩) (by show ad.block < _; omega) (fun e => e)).trans x1
    have y0' := fun o => (((Fr.refl No wr).alloc o).cell (p := bd) (by omega) (fun e => e)).trans y0
    have y1' := fun o => (((Fr.refl No wr).alloc o).cell (p := ⟨bd.block, bd.off + 1, none⟩) (by show bd.block < _; omega) (fun e => e)).trans y1
    have hp1 : 0 < n' := by omega
    have hp2 : 0 < n2' := by omega
    obtain ⟨mlo, hmlo⟩ : ∃ v, v = max xa ya := ⟨_, rfl⟩
    obtain ⟨mhi, hmhi⟩ : ∃ v, v = min xb yb := ⟨_, rfl⟩
    have Hcut : Hid (cutSp (xa, xb) (ya, yb) = (mlo, mhi)) := Lib.hid (by rw [hmlo, hmhi]; rfl)
    have e1 : ∀ u, u = max xa ya → u = mlo := fun u h => h.trans hmlo.symm
    have e2 : ∀ u, u = min xb yb → u = mhi := fun u h => h.trans hmhi.symm
    clear hmlo hmhi
    go_wp2_with fail
    go_cut [6] from 7 to 52 (fun s6 wx => s6 = .pointer (some ⟨wr.heap.size, 0, none⟩) ∧ Hid (Bk wx wr.heap.size 51 #[.int .i64 mlo, .int .i64 mhi]) ∧ Hid (Fr No wr wx))
    case first =>
     go_region
     all_goals
      go_wp2
      all_goals
       go_meet
       refine ⟨rfl, Lib.hid ?_, Lib.hid ((Fr.refl No wr).alloc _).drew⟩
       first | rw [← e1 ya (by omega)] | rw [← e1 xa (by omega)]
       first | rw [← e2 yb (by omega)] | rw [← e2 xb (by omega)]
       exact Bk.made wr _ _
    case rest =>
     obtain ⟨rfl, hbk, hfx⟩ := hcut
     clear e1 e2 x0' x1' y0' y1'
     have b0 := hbk.out.cell 0
     have b1 := hbk.out.cell 1
     simp at b0 b1
     have x1c := (hfx.out.cell (p := ⟨ad.block, ad.off + 1, none⟩) (by show ad.block < _; omega) (fun e => e)).trans x1
     have y1c := (hfx.out.cell (p := ⟨bd.block, bd.off + 1, none⟩) (by show bd.block < _; omega) (fun e => e)).trans y1
     have hownc := own_fr hown hfx.out (fun _ _ e => e)
     have hfc := hfr.trans' hfx.out (fun _ _ e => e)
     have HAc := Lib.hid (HA.out.fr hfx.out (by omega) (fun _ _ e => e))
     have HBc := Lib.hid (HBb.out.fr hfx.out (by omega) (fun _ _ e => e))
     have hszc := hfx.out.size
     clear x0 x1 y0 y1 hown HA HBb
     cases hmay : mayB mlo mhi with
     | true =>
      have HMt : ∀ W, Calls Tryz.prog 102 #[.agg #[.int .i64 mlo, .int .i64 mhi]] W fun e w' => e = .returned (.bool true) ∧ Fr No W w' := fun W => by rw [← hmay]; exact HM W mlo mhi
      have hok := (mayB_ok (mlo, mhi)).1 hmay
      clear hmay HM
      go_wp2_with fail
      refine (HMt _).mono ?_
      rintro e w2 ⟨rfl, hf2⟩
      have x1d := (hf2.cell (p := ⟨ad.block, ad.off + 1, none⟩) (by show ad.block < _; omega) (fun e => e)).trans x1c
      have y1d := (hf2.cell (p := ⟨bd.block, bd.off + 1, none⟩) (by show bd.block < _; omega) (fun e => e)).trans y1c
      have v2 := hbk.out.fr hf2 (fun e => e)
      have d0 := v2.cell 0
      have d1 := v2.cell 1
      simp at d0 d1
      have hown2 := own_fr hownc hf2 (fun _ _ e => e)
      have hfd := hfc.trans' hf2 (fun _ _ e => e)
      have hsz2 := hf2.size
      have HAd := Lib.hid (HAc.out.fr hf2 (by omega) (fun _ _ e => e))
      have HBd := Lib.hid (HBc.out.fr hf2 (by omega) (fun _ _ e => e))
      clear x1c y1c hownc hfc HAc HBc v2 b0 b1 hbk HMt hfx
      go_wp2_with (at_builtin; refine wpList_append_elem rfl _ _ _ rfl HB 51 (.agg #[.int .i64 0, .int .i64 0]) 2 16 Tryz.underlying35 info_span rfl (by omega) (.slice O m cm) m (sps l) #[.int .i64 mlo, .int .i64 mhi] rfl (by intro u hu; simp at hu; rcases hu with rfl | rfl <;> rfl) rfl w2.heap.size rfl rfl hown2 (by unfold maxLen; omega) (by omega) (by omega) ?r1)
      case r1 =>
       intro A1 c1 w3 hown3 hf3 hg3
       have hlt3 : ∀ k, k < HB → (Value.slice O m cm).ownBlock ≠ some k := fun k hk e => by have := (hown2.lt k e).1; omega
       have x1e := (hf3.cell (p := ⟨ad.block, ad.off + 1, none⟩) (by show ad.block < _; omega) (hlt3 _ hadB)).trans x1d
       have y1e := (hf3.cell (p := ⟨bd.block, bd.off + 1, none⟩) (by show bd.block < _; omega) (hlt3 _ hbdB)).trans y1d
       have HAe := HAd.out.fr hf3 (by omega) (fun k hk => hlt3 k hk)
       have HBe := HBd.out.fr hf3 (by omega) (fun k hk => hlt3 k hk)
       have hsz3 := hf3.size
       have hfe := hfd.trans' hf3 (fun k hk e => by have := (hown2.lt k e).1; omega)
       have hown4 : w3.ownsRow HB 51 2 (.slice A1 (m + 1) c1) (m + 1) (sps (l ++ [(mlo, mhi)])) := by
        rw [sps_app l, hHB]
        exact hown3
       clear hf3 hg3 hown3 hown2 hfd HAd HBd x1d y1d d0 d1 hlt3
       by_cases hlt : xb < yb
       ·have HC2 := Lib.hid (by have h5 := (HC.out.stepA hlt).1; rw [Hcut.out] at h5; exact h5 hok)
        have HA2 := fun q => Lib.hid (HAe.tail.fr ((Fr.refl No w3).drewN q) (by omega) (fun _ _ e => e))
        have HB2 := fun q => Lib.hid (HBe.fr ((Fr.refl No w3).drewN q) (by omega) (fun _ _ e => e))
        have hown5 : ∀ q, (w3.drewN q).ownsRow HB 51 2 (.slice A1 (m + 1) c1) (m + 1) (sps (l ++ [(mlo, mhi)])) := fun _ => hown4
        clear HC
        go_wp2
        go_quiet (fail)
        go_wp2
        exact ⟨⟨n' - 1, c' - 1, n2', c2', m + 1, c1, _, _, A1, a', _, _, rfl, rfl, rfl, by omega, by omega, by omega, by simp [hlm], HC2, HA2 _, HB2 _, hown5 _, hfe.drewN _⟩, by simp only; omega⟩
       ·have HC2 := Lib.hid (by have h5 := (HC.out.stepB hlt).1; rw [Hcut.out] at h5; exact h5 hok)
        have HA2 := fun q => Lib.hid (HAe.fr ((Fr.refl No w3).drewN q) (by omega) (fun _ _ e => e))
        have HB2 := fun q => Lib.hid (HBe.tail.fr ((Fr.refl No w3).drewN q) (by omega) (fun _ _ e => e))
        have hown5 : ∀ q, (w3.drewN q).ownsRow HB 51 2 (.slice A1 (m + 1) c1) (m + 1) (sps (l ++ [(mlo, mhi)])) := fun _ => hown4
        clear HC
        go_wp2
        go_quiet (fail)
        go_wp2
        exact ⟨⟨n', c', n2' - 1, c2' - 1, m + 1, c1, _, _, A1, _, b', _, rfl, rfl, rfl, by omega, by omega, by omega, by simp [hlm], HC2, HA2 _, HB2 _, hown5 _, hfe.drewN _⟩, by simp only; omega⟩
     | false =>
      have HMt : ∀ W, Calls Tryz.prog 102 #[.agg #[.int .i64 mlo, .int .i64 mhi]] W fun e w' => e = .returned (.bool false) ∧ Fr No W w' := fun W => by rw [← hmay]; exact HM W mlo mhi
      have hok : ¬ okSp (mlo, mhi) := fun h => by rw [(mayB_ok (mlo, mhi)).2 h] at hmay; cases hmay
      clear hmay HM
      go_wp2_with fail
      refine (HMt _).mono ?_
      rintro e w2 ⟨rfl, hf2⟩
      have x1d := (hf2.cell (p := ⟨ad.block, ad.off + 1, none⟩) (by show ad.block < _; omega) (fun e => e)).trans x1c
      have y1d := (hf2.cell (p := ⟨bd.block, bd.off + 1, none⟩) (by show bd.block < _; omega) (fun e => e)).trans y1c
      have hown2 := own_fr hownc hf2 (fun _ _ e => e)
      have hfd := hfc.trans' hf2 (fun _ _ e => e)
      have hsz2 := hf2.size
      have HAd := HAc.out.fr hf2 (by omega) (fun _ _ e => e)
      have HBd := HBc.out.fr hf2 (by omega) (fun _ _ e => e)
      clear x1c y1c hownc hfc HAc HBc b0 b1 hbk HMt hfx
      by_cases hlt : xb < yb
      ·have HC2 := Lib.hid (by have h5 := (HC.out.stepA hlt).2; rw [Hcut.out] at h5; exact h5 hok)
       have HA2 := fun q => Lib.hid (HAd.tail.fr ((Fr.refl No w2).drewN q) (by omega) (fun _ _ e => e))
       have HB2 := fun q => Lib.hid (HBd.fr ((Fr.refl No w2).drewN q) (by omega) (fun _ _ e => e))
       have hown5 : ∀ q, (w2.drewN q).ownsRow HB 51 2 (.slice O (m) cm) (m) (sps (l)) := fun _ => hown2
       clear HC
       go_wp2
       go_quiet (fail)
       go_wp2
       exact ⟨⟨n' - 1, c' - 1, n2', c2', m, cm, _, _, O, a', _, _, rfl, rfl, rfl, by omega, by omega, by omega, by simp [hlm], HC2, HA2 _, HB2 _, hown5 _, hfd.drewN _⟩, by simp only; omega⟩
      ·have HC2 := Lib.hid (by have h5 := (HC.out.stepB hlt).2; rw [Hcut.out] at h5; exact h5 hok)
       have HA2 := fun q => Lib.hid (HAd.fr ((Fr.refl No w2).drewN q) (by omega) (fun _ _ e => e))
       have HB2 := fun q => Lib.hid (HBd.tail.fr ((Fr.refl No w2).drewN q) (by omega) (fun _ _ e => e))
       have hown5 : ∀ q, (w2.drewN q).ownsRow HB 51 2 (.slice O (m) cm) (m) (sps (l)) := fun _ => hown2
       clear HC
       go_wp2
       go_quiet (fail)
       go_wp2
       exact ⟨⟨n', c', n2' - 1, c2' - 1, m, cm, _, _, O, _, b', _, rfl, rfl, rfl, by omega, by omega, by omega, by simp [hlm], HC2, HA2 _, HB2 _, hown5 _, hfd.drewN _⟩, by simp only; omega⟩
end Go.Proofs.YtmeimhpllemjfaaGreat
