/- Anchors of rising numbers, written and synced, purely: what a device tells then, and behind a crash. -/
import Derived.Test.YtcjbdoppphjpjaaLs7
namespace Go.Proofs.Ytcjbdoppphjpjaa
open Go.RowKit

/-- What the sector i tells as its own. -/
def tellD (D : Dv) (i : Nat) : Option Anc := ownP (i : Int) (readA (D.rd i))
theorem tellD_par {D : Dv} {i : Nat} {y : Anc} (h : tellD D i = some y) : y.n % 2 = (i : Int) := by
  unfold tellD ownP at h
  simpa using (Option.filter_eq_some_iff.1 h).2
theorem findA_tell (D : Dv) : findA (D.rd 0) (D.rd 1) = pickP (tellD D 0) (tellD D 1) := rfl
/-- The greatest number that is told. -/
theorem told_of {D : Dv} {x : Anc} (hx : tellD D (parN x.n) = some x) (h : ∀ i, i < 2 → ∀ y, tellD D i = some y → y.n ≤ x.n) : findA (D.rd 0) (D.rd 1) = some x := by
  rw [findA_tell]
  rcases (show x.n % 2 = 0 ∨ x.n % 2 = 1 by omega) with h1 | h1
  · rw [parN, h1] at hx
    have hx : tellD D 0 = some x := hx
    rw [hx]
    cases h2 : tellD D 1 with
    | none => rfl
    | some y =>
      have h3 := h 1 (by omega) y h2
      have h4 := tellD_par h2
      exact pick_l (by omega)
  · rw [parN, h1] at hx
    have hx : tellD D 1 = some x := hx
    rw [hx]
    cases h2 : tellD D 0 with
    | none => rfl
    | some y =>
      have h3 := h 0 (by omega) y h2
      exact pick_r (by omega)
/-- The anchor of round j. -/
def lastA (xs : List Nat) : Nat → Anc
  | 0 => anc0
  | j + 1 => ⟨(j : Int) + 1, (xs.getD j 0 : Nat), (j : Int) % 2, j⟩
theorem lastA_n (xs : List Nat) (j : Nat) : (lastA xs j).n = (j : Int) := by cases j <;> simp [lastA, anc0]
theorem lastA_ok (xs : List Nat) (h : ∀ u ∈ xs, u < 256) {j : Nat} (h1 : 1 ≤ j) (h2 : j ≤ 40) : ancOk (lastA xs j) = true := by
  cases j with
  | zero => omega
  | succ j =>
    have hu : xs.getD j 0 < 256 := by
      rcases Nat.lt_or_ge j xs.length with h3 | h3
      · simp only [List.getD, List.getElem?_eq_getElem h3, Option.getD_some]
        exact h _ (List.getElem_mem h3)
      · simp only [List.getD, List.getElem?_eq_none h3, Option.getD_none]
        omega
    rw [ancOk_iff]
    simp only [lastA]
    omega
/-- The device behind j rounds. -/
def lD (xs : List Nat) : Nat → Dv
  | 0 => Dv.new 2
  | j + 1 => ((lD xs j).write (parN ((j : Int) + 1)) (ancS (lastA xs (j + 1)))).sync
theorem lD_n (xs : List Nat) (j : Nat) : (lD xs j).n = 2 := by
  induction j with
  | zero => rfl
  | succ j ih => exact ih
theorem lD_la (xs : List Nat) (j : Nat) : (lD xs j).la = (lD xs j).rd := by cases j <;> rfl
theorem lD_di (xs : List Nat) (j i : Nat) : (lD xs j).di i = false := by cases j <;> rfl
theorem tell_write {D : Dv} {x : Anc} (h : ancOk x = true) : tellD (D.write (parN x.n) (ancS x)) (parN x.n) = some x := by
  unfold tellD Dv.write
  simp only [upd_same]
  exact own_sec h (by unfold parN; omega)
theorem tell_other {D : Dv} {p i : Nat} {s : List Nat} (h : i ≠ p) : tellD (D.write p s) i = tellD D i := by
  unfold tellD Dv.write
  simp only [upd_other _ _ _ _ h]
/-- What is told behind j rounds: numbers up to j, and j itself. -/
theorem lD_tell (xs : List Nat) (hx : ∀ u ∈ xs, u < 256) (j : Nat) (hj : j ≤ 40) : (∀ i, i < 2 → ∀ y, tellD (lD xs j) i = some y → 1 ≤ y.n ∧ y.n ≤ (j : Int)) ∧ (1 ≤ j → tellD (lD xs j) (parN (j : Int)) = some (lastA xs j)) := by
  induction j with
  | zero =>
    refine ⟨fun i _ y h => ?_, fun h => by omega⟩
    have : tellD (lD xs 0) i = none := by
      unfold tellD
      have e : (lD xs 0).rd i = zSec := rfl
      rw [e, readA_z]
      rfl
    rw [this] at h
    cases h
  | succ j ih =>
    obtain ⟨ih1, _⟩ := ih (by omega)
    have hok := lastA_ok xs hx (j := j + 1) (by omega) hj
    have hn := lastA_n xs (j + 1)
    have hp : parN ((j : Int) + 1) = parN (lastA xs (j + 1)).n := by rw [hn]; rfl
    have e1 : ∀ i, tellD (lD xs (j + 1)) i = tellD ((lD xs j).write (parN (lastA xs (j + 1)).n) (ancS (lastA xs (j + 1)))) i := fun i => by rw [← hp]; rfl
    constructor
    · intro i hi y hy
      rw [e1] at hy
      by_cases h : i = parN (lastA xs (j + 1)).n
      · rw [h, tell_write hok] at hy
        injection hy with hy
        rw [← hy, hn]
        omega
      · rw [tell_other h] at hy
        have := ih1 i hi y hy
        omega
    · intro _
      have h2 := tell_write (D := lD xs j) hok
      rw [← e1, hn] at h2
      exact h2
/-- One sector is dirty: it is asked for first. -/
theorem cnt_none {d : Nat → Bool} (n : Nat) (h : ∀ i, i < n → d i = false) : cnt d n = 0 := by
  induction n with
  | zero => rfl
  | succ n ih => simp [cnt, ih (fun i hi => h i (by omega)), h n (by omega)]
theorem crash_rd {D : Dv} (hd : ∀ i, D.di i = false) (hl : D.la = D.rd) (p : Nat) (s : List Nat) (keep : Bool) (i : Nat) : ((D.write p s).crash [keep]).rd i = if keep = true then (D.write p s).rd i else D.rd i := by
  show (D.write p s).after [keep] i = _
  unfold Dv.after kept
  by_cases h : i = p
  · subst h
    have h1 : (D.write i s).di i = true := by unfold Dv.write; simp only [upd_same]
    have h2 : cnt (D.write i s).di i = 0 := cnt_none i (fun k hk => by
      unfold Dv.write
      simp only [upd_other _ _ _ _ (show k ≠ i by omega)]
      exact hd k)
    rw [h1, h2]
    cases keep
    · show (D.write i s).la i = _
      rw [if_neg (by simp)]
      show D.la i = _
      rw [hl]
    · rfl
  · have h1 : (D.write p s).di i = false := by unfold Dv.write; simp only [upd_other _ _ _ _ h]; exact hd i
    have h3 : (D.write p s).rd i = D.rd i := by unfold Dv.write; simp only [upd_other _ _ _ _ h]
    rw [h1, h3]
    rw [if_neg (by simp)]
    show D.la i = _
    rw [hl]
    split <;> rfl
/-- The crash that keeps what was written last, or not. -/
def nextA (m : Nat) (e : Nat) : Anc := ⟨(m : Int) + 1, e, 0, 0⟩
def afterD (xs : List Nat) (m e : Nat) (keep : Bool) : Dv := ((lD xs m).write (parN ((m : Int) + 1)) (ancS (nextA m e))).crash [keep]
theorem nextA_ok {m e : Nat} (hm : m ≤ 40) (he : e < 65536) : ancOk (nextA m e) = true := by rw [ancOk_iff]; simp [nextA]; omega
theorem findV_some {D : Dv} {x : Anc} (hn : D.n = 2) (h : findA (D.rd 0) (D.rd 1) = some x) : findV D = .tuple #[x.val, .int .i64 0] := by
  unfold findV
  rw [if_pos (by omega), h]
  rfl
theorem after_yes (xs : List Nat) (hx : ∀ u ∈ xs, u < 256) (m e : Nat) (hm : m ≤ 40) (he : e < 65536) : findV (afterD xs m e true) = .tuple #[(nextA m e).val, .int .i64 0] := by
  have hn : (afterD xs m e true).n = 2 := lD_n xs m
  have hr : ∀ i, tellD (afterD xs m e true) i = tellD ((lD xs m).write (parN (nextA m e).n) (ancS (nextA m e))) i := fun i => by
    unfold tellD
    rw [show (afterD xs m e true).rd i = _ from crash_rd (lD_di xs m) (lD_la xs m) _ _ true i, if_pos rfl]
    rfl
  refine findV_some hn (told_of ?_ fun i hi y hy => ?_)
  · rw [hr, tell_write (nextA_ok hm he)]
  · rw [hr] at hy
    by_cases h : i = parN (nextA m e).n
    · rw [h, tell_write (nextA_ok hm he)] at hy
      injection hy with hy
      rw [hy]
      exact Int.le_refl _
    · rw [tell_other h] at hy
      have := (lD_tell xs hx m hm).1 i hi y hy
      simp only [nextA]
      omega
theorem after_no (xs : List Nat) (hx : ∀ u ∈ xs, u < 256) (m e : Nat) (hm : m ≤ 40) : findV (afterD xs m e false) = if m = 0 then .tuple #[anc0.val, .int .i64 5] else .tuple #[(lastA xs m).val, .int .i64 0] := by
  have hn : (afterD xs m e false).n = 2 := lD_n xs m
  have hr : ∀ i, (afterD xs m e false).rd i = (lD xs m).rd i := fun i => by
    rw [show (afterD xs m e false).rd i = _ from crash_rd (lD_di xs m) (lD_la xs m) _ _ false i, if_neg (by simp)]
  have ht : ∀ i, tellD (afterD xs m e false) i = tellD (lD xs m) i := fun i => by unfold tellD; rw [hr]
  by_cases h : m = 0
  · subst h
    rw [if_pos rfl]
    have e0 : findA ((afterD xs 0 e false).rd 0) ((afterD xs 0 e false).rd 1) = none := by
      rw [hr, hr]
      have z0 : (lD xs 0).rd 0 = zSec := rfl
      have z1 : (lD xs 0).rd 1 = zSec := rfl
      rw [z0, z1, findA_pick, readA_z]
      rfl
    unfold findV
    rw [if_pos (by omega), e0]
    rfl
  · rw [if_neg h]
    refine findV_some hn (told_of ?_ fun i hi y hy => ?_)
    · rw [ht, lastA_n]
      exact (lD_tell xs hx m hm).2 (by omega)
    · rw [ht] at hy
      rw [lastA_n]
      exact ((lD_tell xs hx m hm).1 i hi y hy).2
end Go.Proofs.Ytcjbdoppphjpjaa
