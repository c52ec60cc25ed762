/- What the laws look at; what changes of an outcome are. -/
import Derived.Test.YthenadijiepmnaaGreatLap13
namespace Go.Proofs.YthenadijiepmnaaGreat
open Go.RowKit

set_option maxHeartbeats 2000000 in
theorem great13 (w : World) (x : StI w) (A : Option Addr) (n c : Nat) (gr : Bool) (hgr : (decide (20 < x.code.length) || (decide (20 < x.foot.length) || (decide (10 < x.gs.length) || decide (100 < n)))) = gr) :
    Calls Tryz.prog 9 #[x.agg, x.args, .slice A n c] w (Has w gr) := by
  have f0 : Fr No w (w.alloc (.cells #[.slice x.cA x.code.length x.cc, .slice x.fA x.foot.length x.fc] 25)) := (Fr.refl _ _).alloc _
  have HF := Lib.hid f0
  obtain ⟨q, hq⟩ : ∃ q, w.heap.size = q := ⟨_, rfl⟩
  unfold StI.agg StI.args
  generalize x.code.length = n1 at *
  generalize x.foot.length = n2 at *
  generalize x.gs.length = n3 at *
  clear f0
  by_cases h1 : 20 < n1
  · have g1 : decide ((n1 : Int) > 20) = true := decide_eq_true (by omega)
    have e1 : gr = true := by rw [← hgr, decide_eq_true h1]; rfl
    subst e1
    clear h1 hgr
    go_enter Tryz.func9, Tryz.ntmps9
    go_wp2
    go_ret
    exact ⟨rfl, HF.out⟩
  · have g1 : decide ((n1 : Int) > 20) = false := decide_eq_false (by omega)
    rw [decide_eq_false h1, Bool.false_or] at hgr
    clear h1
    by_cases h2 : 20 < n2
    · have g2 : decide ((n2 : Int) > 20) = true := decide_eq_true (by omega)
      have e1 : gr = true := by rw [← hgr, decide_eq_true h2]; rfl
      subst e1
      clear h2 hgr
      go_enter Tryz.func9, Tryz.ntmps9
      go_wp2
      go_ret
      exact ⟨rfl, HF.out⟩
    · have g2 : decide ((n2 : Int) > 20) = false := decide_eq_false (by omega)
      rw [decide_eq_false h2, Bool.false_or] at hgr
      clear h2
      by_cases h3 : 10 < n3
      · have g3 : decide ((n3 : Int) > 10) = true := decide_eq_true (by omega)
        have e1 : gr = true := by rw [← hgr, decide_eq_true h3]; rfl
        subst e1
        clear h3 hgr
        go_enter Tryz.func9, Tryz.ntmps9
        go_wp2
        go_ret
        exact ⟨rfl, HF.out⟩
      · have g3 : decide ((n3 : Int) > 10) = false := decide_eq_false (by omega)
        rw [decide_eq_false h3, Bool.false_or] at hgr
        clear h3
        have g4 : decide ((n : Int) > 100) = gr := by rw [← hgr]; exact decide_eq_decide.2 (by omega)
        clear hgr
        go_enter Tryz.func9, Tryz.ntmps9
        go_wp2
        go_ret
        exact ⟨rfl, HF.out⟩
theorem great_not {n1 n2 n3 n : Nat} (h : (decide (20 < n1) || (decide (20 < n2) || (decide (10 < n3) || decide (100 < n)))) = false) : n1 ≤ 20 ∧ n2 ≤ 20 ∧ n3 ≤ 10 ∧ n ≤ 100 := by
  simp only [Bool.or_eq_false_iff, decide_eq_false_iff_not] at h
  omega
/-- What stands at a key came of a pair. -/
theorem mapOf_vals (l : List (Int × Int)) : ∀ (m : Mp) (k : Nat) (v : Int), l.foldl putM m k = some v → m k = some v ∨ ∃ x ∈ l, x.2 = v := by
  induction l with
  | nil => intro m k v h; exact .inl h
  | cons x l ih =>
    intro m k v h
    rcases ih (putM m x) k v h with h1 | ⟨y, hy, e⟩
    · unfold putM at h1
      split at h1
      · unfold upd at h1
        split at h1
        · injection h1 with h1
          exact .inr ⟨x, List.mem_cons_self, h1⟩
        · exact .inl h1
      · exact .inl h1
    · exact .inr ⟨y, List.mem_cons_of_mem _ hy, e⟩
theorem ofP_vals {l : List (Int × Int)} (hv : ∀ x ∈ l, -9223372036854775808 ≤ x.2 ∧ x.2 < 9223372036854775808) : ∀ k v, valP (ofP l).flatten k = some v → I64 v := by
  intro k v h
  rw [(ofP_all l).2] at h
  rcases mapOf_vals l _ k v h with h1 | ⟨x, hx, e⟩
  · cases h1
  · rw [← e]; exact hv x hx
/-- What changes of an outcome are. -/
structure ChOk (ch : List Chg) : Prop where
  rise : ch.Pairwise fun a b => a.key < b.key
  key : ∀ c ∈ ch, ∃ k : Nat, k < 1000 ∧ c.key = k ∧ ∀ m0 : Mp, applyM m0 ch k = if c.gone = true then none else some c.value
  len : ch.length ≤ 1000
  again : ∀ (m0 : Mp) k, k < 1000 → applyM (applyM m0 ch) ch k = applyM m0 ch k
theorem ChOk.nil : ChOk [] := ⟨List.Pairwise.nil, fun c h => (by cases h), Nat.zero_le _, fun _ _ _ => rfl⟩
theorem ChOk.of (wt : Nat → Bool) (m : Mp) : ChOk (chgsOf wt m) := ⟨chgsOf_rise wt m, fun c hc => by
  obtain ⟨k, h1, h2, h3, h4, h5⟩ := chgsOf_mem hc
  refine ⟨k, h1, h3, fun m0 => ?_⟩
  rw [apply_chgsOf m0 wt m h1, if_pos h2, h4, h5]
  unfold isM valM
  cases m k <;> rfl, chgsOf_len wt m, fun m0 k hk => apply_again m0 wt m hk⟩
theorem runS_ch (right asked : Bool) (mr mw : Nat → Bool) (gs : List Int) (l : List Ins) (r : Nat → Int) (m : Mp) : ChOk (runS right asked mr mw gs l r m).ch := by
  unfold runS
  split
  · split
    · exact ChOk.nil
    · exact ChOk.of _ _
  · exact ChOk.nil
theorem runS_few (right asked : Bool) (mr mw : Nat → Bool) (gs : List Int) (l : List Ins) (r : Nat → Int) (m : Mp) : (runS right asked mr mw gs l r m).rd.length ≤ 1000 ∧ (runS right asked mr mw gs l r m).wt.length ≤ 1000 ∧ (runS right asked mr mw gs l r m).ch.length ≤ 1000 := by
  unfold runS
  split
  · split
    · exact ⟨Nat.zero_le _, Nat.zero_le _, Nat.zero_le _⟩
    · exact ⟨plainTo_len _ 1000, plainTo_len _ 1000, chgsOf_len _ _⟩
  · exact ⟨Nat.zero_le _, Nat.zero_le _, Nat.zero_le _⟩
/-- A row lies apart from blocks that it can't reach. -/
theorem sl_keepS {w w' : World} {S : Nat → Prop} {A : Option Addr} {xs : List Value} (h : Sl w w.heap.size A xs) (hf : Fr S w w') (hap : ∀ ad, A = some ad → ¬ S ad.block) : Sl w' w'.heap.size A xs := (h.fr hf (Nat.le_refl _) (fun ad e _ => hap ad e)).more hf.size
end Go.Proofs.YthenadijiepmnaaGreat
