/- The document's own: are lists those of a relation? The law's own Great. -/
import Derived.Test.YtmabapbdnafpfaaMat15
import Derived.Test.YtmabapbdnafpfaaIls15
namespace Go.Proofs.Ytmabapbdnafpfaa
open Go.RowKit

theorem cntB_lt {p : Nat → Bool} {k n : Nat} (hk : k < n) (hp : p k = true) : cntB p k < cntB p n := cntB_more (p := p) (Nat.le_refl k) hk hp
set_option maxRecDepth 100000 in
set_option maxHeartbeats 4000000 in
theorem refSame15_any (ls : List IL) (A : Option Addr) (n c : Nat) (B G : Nat) (g : Nat → Nat) (f : Nat → Nat → Bool) (w : World) (hs : Ils w A ls) (hn : ls.length = n) (hnm : n ≤ 1048576) (hM : MatB w B 36 4 G n n g f)
    (hl : ∀ i (hi : i < ls.length), ls[i].l = (List.range n).filter (f i)) :
    Calls Try.prog 11 #[.slice A n c, .slice (some ⟨G, 0, none⟩) n n] w (Has w true) := by
  have Hn := Lib.hid hn
  have Hsl := Lib.hid (fun (k : Nat) (hk : k < ls.length) W (h : Fr No w W) => (hs.since h).sl.il hk)
  have Hnum := Lib.hid (fun (k : Nat) (hk : k < ls.length) W (h : Fr No w W) => (hs.since h).all _ (List.getElem_mem hk))
  have HR := Lib.hid (fun (j : Nat) (hj : j < n) W (h : Fr No w W) => (hM.since h).cellR hj (Nat.le_refl n))
  have HB := Lib.hid (fun (j k : Nat) (hj : j < n) (hk : k < n) W (h : Fr No w W) => (hM.since h).cellB hj hk)
  have Hl := Lib.hid hl
  clear hs hn hM hl
  go_enter Try.func11, Try.ntmps11
  go_wp2
  go_loopw [5] (fun iv wr => ∃ i : Nat, i ≤ n ∧ iv = .int .i64 (i : Int) ∧ Hid (Fr No w wr)) (fun iv _ => n - (intOf iv).toNat)
  case atStart => exact ⟨0, Nat.zero_le _, rfl, Lib.hid (Fr.refl _ _)⟩
  case round =>
    obtain ⟨i, hi, rfl, hfr⟩ := hrel
    by_cases hlt : i < n
    · have hil : i < ls.length := by rw [Hn.out]; exact hlt
      have hC := Lib.hid (fun W (h : Fr No w W) => Hsl.out i hil W h)
      obtain ⟨ad, rfl, hab, c0⟩ := hC.out _ hfr.out
      have hC2 := Lib.hid (fun W (h : Fr No w W) => show W.cell? (ad.add i) = some (.slice ls[i].A ls[i].l.length ls[i].c) by
        obtain ⟨a2, e, -, c1⟩ := hC.out W h
        injection e with e
        rw [e]
        exact c1)
      have hnum := Lib.hid (fun W (h : Fr No w W) => Hnum.out i hil W h)
      have hR2 := Lib.hid (fun W (h : Fr No w W) => HR.out i hlt W h)
      have hB2 := Lib.hid (fun k hk W (h : Fr No w W) => HB.out i k hlt hk W h)
      have hfl := Hl.out i hil
      have HLn : Hid (ls[i].l.length = cntB (f i) n) := Lib.hid (by rw [hfl, filt_cnt])
      have HLa := Lib.hid (fun k (hk : k < n) (hp : f i k = true) => show ls[i].l[cntB (f i) k]? = some k by rw [hfl]; exact filt_at (f i) hk hp)
      have hin : ((i : Nat) : Int) < (n : Int) := by omega
      generalize ls[i].A = A2 at *
      generalize ls[i].c = c2 at *
      generalize ls[i].l = l at *
      generalize f i = p at *
      generalize g i = gi at *
      clear hfl Hsl Hnum HR HB Hl hC c0 hab
      have HLe := Lib.hid (fun k (hk : k < n) (hp : p k = true) => cntB_lt hk hp)
      obtain ⟨ll, hll⟩ : ∃ m, l.length = m := ⟨_, rfl⟩
      rw [hll] at HLn
      have Hll := Lib.hid hll
      rw [hll] at hC2
      clear hll
      go_wp2
      go_loopw [6, 7] (fun nv kv wx => ∃ k m : Nat, k ≤ n ∧ kv = .int .i64 (k : Int) ∧ nv = .int .i64 (m : Int) ∧ Hid (m = cntB p k) ∧ m ≤ k ∧ Hid (Fr No w wx)) (fun _ kv _ => n - (intOf kv).toNat)
      case atStart => exact ⟨0, 0, Nat.zero_le _, rfl, rfl, Lib.hid rfl, Nat.zero_le _, hfr⟩
      case round =>
        obtain ⟨k, m, hk, rfl, rfl, hm, hmk, hfx⟩ := hrel
        have r0 := hR2.out _ hfx.out
        have c0 := hC2.out _ hfx.out
        by_cases hkn : k < n
        · have hki : ((k : Nat) : Int) < (n : Int) := by omega
          have b0 := hB2.out k hkn _ hfx.out
          have hst : Hid (cntB p (k + 1) = m + (if p k = true then 1 else 0)) := Lib.hid (by rw [hm.out]; rfl)
          have hlt2 := Lib.hid (HLe.out k hkn)
          have hla2 := Lib.hid (HLa.out k hkn)
          rw [← hm.out] at hlt2 hla2
          rw [← HLn.out] at hlt2
          generalize p k = z at *
          cases z
          · clear hm hlt2 hla2 hnum
            go_wp2
            go_roundw
            case rel => exact ⟨k + 1, m, by omega, by go_num, rfl, Lib.hid (by rw [hst.out]; rfl), by omega, hfx⟩
            case measure => simp [intOf]; omega
          · have hml : m < ll := hlt2.out (by first | rfl | trivial)
            have hml2 : m < l.length := by rw [Hll.out]; exact hml
            have hmi : ((m : Nat) : Int) < (ll : Int) := by omega
            have hmi2 : decide (ll ≤ m) = false := decide_eq_false (by omega)
            have hmi3 : decide ((ll : Int) ≤ (m : Int)) = false := decide_eq_false (by omega)
            obtain ⟨ae, rfl, hae, n0⟩ := (hnum.out _ hfx.out).num hml2
            have hv := hla2.out (by first | rfl | trivial)
            rw [List.getElem?_eq_getElem hml2] at hv
            injection hv with hv
            rw [hv] at n0
            clear hm hlt2 hla2 hv
            go_wp2
            go_roundw
            case rel => exact ⟨k + 1, m + 1, by omega, by go_num, by go_num, Lib.hid (by rw [hst.out]; rfl), by omega, hfx⟩
            case measure => simp [intOf]; omega
        · obtain rfl : k = n := by omega
          have hml : m = ll := by rw [hm.out, HLn.out]
          subst hml
          clear hm HLn HLa HLe hnum Hll
          go_wp2
          go_roundw
          case rel => exact ⟨i + 1, by omega, by go_num, hfx⟩
          case measure => simp [intOf]; omega
    · obtain rfl : i = n := by omega
      go_wp2
      go_ret
      exact ⟨rfl, hfr.out⟩
end Go.Proofs.Ytmabapbdnafpfaa
