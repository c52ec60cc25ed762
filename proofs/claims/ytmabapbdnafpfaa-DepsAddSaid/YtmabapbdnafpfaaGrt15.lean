/- The law's own: is a list of nodes more than it looks at? -/
import Derived.Test.YtmabapbdnafpfaaUnt14
namespace Go.Proofs.Ytmabapbdnafpfaa
open Go.RowKit

def bigN15 (a : Ndl) : Bool := decide (40 < a.n.rd.length) || decide (40 < a.n.wt.length)
def great15 (h : List Ndl) : Bool := h.any bigN15 || decide (40 < h.length)
theorem any_step16 {α : Type} (p : α → Bool) (l : List α) (k : Nat) (hk : k < l.length) (h : (l.take k).any p = false) : (l.take (k + 1)).any p = p l[k] := by
  rw [List.take_succ_eq_append_getElem hk, List.any_append, h]
  simp
set_option maxRecDepth 100000 in
set_option maxHeartbeats 4000000 in
theorem great15_any (h : List Ndl) (A : Option Addr) (N c : Nat) (w : World) (hh : Nds w A h) (hN : h.length = N) (hNm : N ≤ 9223372036854775807) : Calls Try.prog 8 #[.slice A N c] w (Has w (great15 h)) := by
  have Hnd := Lib.hid (fun (k : Nat) (hk : k < h.length) W (hW : Fr No w W) => (hh.since hW).sl.nd hk)
  have Hst := Lib.hid (fun (k : Nat) (hk : k < h.length) (hp : (h.take k).any bigN15 = false) => any_step16 bigN15 h k hk hp)
  have Hfd := Lib.hid (fun (k : Nat) (hk : k < h.length) (hp : bigN15 h[k] = true) => show great15 h = true by unfold great15; rw [show h.any bigN15 = true from List.any_eq_true.2 ⟨_, List.getElem_mem hk, hp⟩]; rfl)
  have Hend := Lib.hid (fun (hp : h.any bigN15 = false) => show great15 h = decide (40 < (N : Int)) by unfold great15; rw [hp, Bool.false_or]; exact decide_eq_decide.2 (by omega))
  have Htk := Lib.hid (fun (k : Nat) (hk : k = h.length) (hp : (h.take k).any bigN15 = false) => show h.any bigN15 = false by rwa [hk, List.take_length] at hp)
  have Hb := Lib.hid (fun (k : Nat) (hk : k < h.length) => show bigN15 h[k] = (decide (40 < h[k].n.rd.length) || decide (40 < h[k].n.wt.length)) from rfl)
  generalize great15 h = r at *
  have Hn := Lib.hid hN
  clear hh hN
  go_enter Try.func8, Try.ntmps8
  go_wp2
  go_loopw [3] (fun iv wr => ∃ k : Nat, k ≤ N ∧ iv = .int .i64 (k : Int) ∧ Hid ((h.take k).any bigN15 = false) ∧ Hid (Fr No w wr)) (fun iv _ => N - (intOf iv).toNat)
  case atStart => exact ⟨0, Nat.zero_le _, rfl, Lib.hid (by simp), Lib.hid (Fr.refl _ _)⟩
  case round =>
    obtain ⟨k, hk, rfl, hpre, hfr⟩ := hrel
    by_cases hlt : k < N
    · have hkl : k < h.length := by rw [Hn.out]; exact hlt
      have hkn : ((k : Nat) : Int) < (N : Int) := by omega
      obtain ⟨ad, rfl, hab, a0, a1, a2, a3, a4, a5⟩ := Hnd.out k hkl wr hfr.out
      have hs := Lib.hid (Hst.out k hkl hpre.out)
      have hf := Lib.hid (Hfd.out k hkl)
      have hb := Lib.hid (Hb.out k hkl)
      generalize bigN15 h[k] = bb at *
      generalize h[k].n.rd.length = m1 at *
      generalize h[k].n.wt.length = m2 at *
      generalize h[k].rA = R1 at *
      generalize h[k].rc = C1 at *
      generalize h[k].wA = R2 at *
      generalize h[k].wc = C2 at *
      clear hpre Hnd Hst Hfd Hend Htk Hb a0 a1 a2 a3
      by_cases g1 : 40 < m1
      · have d1 : decide (40 < (m1 : Int)) = true := decide_eq_true (by omega)
        have HT : Hid (r = true) := Lib.hid (hf.out (by rw [hb.out]; simp [g1]))
        clear hs hf hb g1
        go_wp2
        go_ret
        exact ⟨by rw [HT.out]; rfl, hfr.out⟩
      have d1 : decide (40 < (m1 : Int)) = false := decide_eq_false (by omega)
      by_cases g2 : 40 < m2
      · have d2 : decide (40 < (m2 : Int)) = true := decide_eq_true (by omega)
        have HT : Hid (r = true) := Lib.hid (hf.out (by rw [hb.out]; simp [g2]))
        clear hs hf hb g1 g2
        go_wp2
        go_ret
        exact ⟨by rw [HT.out]; rfl, hfr.out⟩
      have d2 : decide (40 < (m2 : Int)) = false := decide_eq_false (by omega)
      have hs2 : Hid ((h.take (k + 1)).any bigN15 = false) := Lib.hid (by rw [hs.out, hb.out]; simp [g1, g2])
      clear hs hf hb g1 g2
      go_wp2
      go_roundw
      case rel => exact ⟨k + 1, by omega, by go_num, hs2, hfr⟩
      case measure => simp [intOf]; omega
    · obtain rfl : k = N := by omega
      have HE := Lib.hid (Hend.out (Htk.out k Hn.out.symm hpre.out))
      clear hpre Hnd Hst Hfd Hend Htk Hb
      go_wp2
      go_ret
      exact ⟨by rw [HE.out]; rfl, hfr.out⟩
theorem few_of_great15 {h : List Ndl} (hg : great15 h = false) : h.length ≤ 40 ∧ ∀ a ∈ h, a.n.rd.length ≤ 40 ∧ a.n.wt.length ≤ 40 := by
  unfold great15 at hg
  simp only [Bool.or_eq_false_iff, decide_eq_false_iff_not, List.any_eq_false] at hg
  refine ⟨by omega, fun a ha => ?_⟩
  have := hg.1 a ha
  unfold bigN15 at this
  simp only [Bool.or_eq_true, decide_eq_true_eq, not_or] at this
  omega
end Go.Proofs.Ytmabapbdnafpfaa
