/- What a step does, as plain mathematics: over a map of keys. No program is spoken of. -/
import Derived.Test.YthenadijiepmnaaGreatIdx9
import Derived.Test.YthenadijiepmnaaGreatRef4
import Derived.Test.YthenadijiepmnaaGreatPag5
namespace Go.Proofs.YthenadijiepmnaaGreat
open Go.RowKit

/-- What stands at the keys. -/
abbrev Mp := Nat → Option Int
def isM (m : Mp) (k : Nat) : Bool := (m k).isSome
def valM (m : Mp) (k : Nat) : Int := (m k).getD 0
/-- Of pairs (those of no key aside): the last one of each key. -/
def putM (m : Mp) (p : Int × Int) : Mp := if 0 ≤ p.1 ∧ p.1 ≤ 999 then upd m p.1.toNat (some p.2) else m
def mapOf (l : List (Int × Int)) : Mp := l.foldl putM fun _ => none
theorem mapOf_nil : mapOf [] = fun _ => none := rfl
theorem mapOf_snoc (l : List (Int × Int)) (p : Int × Int) : mapOf (l ++ [p]) = putM (mapOf l) p := by simp [mapOf]
/-- The pairs, rising. -/
def pairsTo (m : Mp) : Nat → List (Nat × Int)
  | 0 => []
  | n + 1 => pairsTo m n ++ (if isM m n = true then [(n, valM m n)] else [])
theorem pairsTo_len (m : Mp) (n : Nat) : (pairsTo m n).length ≤ n := by
  induction n with
  | zero => exact Nat.le_refl _
  | succ n ih =>
    rw [pairsTo, List.length_append]
    split <;> simp <;> omega
theorem pairsTo_congr {m m' : Mp} (n : Nat) (h : ∀ k, k < n → m k = m' k) : pairsTo m n = pairsTo m' n := by
  induction n with
  | zero => rfl
  | succ n ih =>
    have h1 := h n (by omega)
    rw [pairsTo, pairsTo, ih (fun k hk => h k (by omega)), isM, isM, valM, valM, h1]
theorem pairsTo_lt (m : Mp) (n : Nat) : ∀ x ∈ pairsTo m n, x.1 < n := by
  induction n with
  | zero => intro x hx; simp [pairsTo] at hx
  | succ n ih =>
    intro x hx
    rw [pairsTo, List.mem_append] at hx
    rcases hx with hx | hx
    · have := ih x hx; omega
    · split at hx
      · have : x = (n, valM m n) := by simpa using hx
        rw [this]; exact Nat.lt_succ_self n
      · simp at hx
theorem pairsTo_rise (m : Mp) (n : Nat) : Rise (pairsTo m n) := by
  induction n with
  | zero => exact Rise.nil
  | succ n ih =>
    rw [pairsTo]
    refine List.pairwise_append.2 ⟨ih, ?_, ?_⟩
    · split
      · exact List.pairwise_singleton _ _
      · exact List.Pairwise.nil
    · intro x hx y hy
      split at hy
      · have e : y = (n, valM m n) := by simpa using hy
        rw [e]; exact pairsTo_lt m n x hx
      · simp at hy
theorem valP_one (m : Mp) (n k : Nat) (h : n ≠ k) : valP (if isM m n = true then [(n, valM m n)] else []) k = none := by
  split
  · exact valP_none fun x hx => by
      have e : x = (n, valM m n) := by simpa using hx
      rw [e]; exact h
  · rfl
theorem valP_pairsTo (m : Mp) (n k : Nat) : valP (pairsTo m n) k = if k < n then m k else none := by
  induction n with
  | zero => simp [pairsTo, valP]
  | succ n ih =>
    rw [pairsTo, valP_app, ih]
    by_cases hk : k < n
    · rw [if_pos hk, if_pos (show k < n + 1 by omega), valP_one m n k (by omega), Option.or_none]
    · rw [if_neg hk]
      by_cases hn : k = n
      · subst hn
        rw [if_pos (Nat.lt_succ_self k)]
        unfold isM valM
        cases hm : m k with
        | some v => simp [valP]
        | none => simp [valP]
      · rw [if_neg (show ¬ k < n + 1 by omega), valP_one m n k (fun e => hn e.symm)]
        rfl
/-- A rising list of keys below 1000 is the pairs of what it says. -/
theorem pairsTo_eq {l : List (Nat × Int)} (h : Rise l) (hk : ∀ x ∈ l, x.1 < 1000) {m : Mp} (hm : ∀ k, k < 1000 → m k = valP l k) : pairsTo m 1000 = l := by
  refine rise_ext (pairsTo_rise m 1000) h fun k => ?_
  rw [valP_pairsTo]
  split
  · next hlt => exact hm k hlt
  · next hlt =>
    refine (valP_none fun x hx => ?_).symm
    have := hk x hx
    omega

/-- A change. -/
structure Chg where
  key : Int
  gone : Bool
  value : Int
deriving DecidableEq
def Chg.cells (c : Chg) : List Value := [.int .i64 c.key, .bool c.gone, .int .i64 c.value]
theorem Chg.cells_len (c : Chg) : c.cells.length = 3 := rfl
/-- Made. -/
def chgM (m : Mp) (c : Chg) : Mp := if 0 ≤ c.key ∧ c.key ≤ 999 then upd m c.key.toNat (if c.gone = true then none else some c.value) else m
def applyM (m : Mp) (l : List Chg) : Mp := l.foldl chgM m
theorem applyM_snoc (m : Mp) (l : List Chg) (c : Chg) : applyM m (l ++ [c]) = chgM (applyM m l) c := by simp [applyM]
theorem applyM_congr {m m' : Mp} (l : List Chg) (h : ∀ k, k < 1000 → m k = m' k) : ∀ k, k < 1000 → applyM m l k = applyM m' l k := by
  induction l generalizing m m' with
  | nil => exact h
  | cons c l ih =>
    refine ih (m := chgM m c) (m' := chgM m' c) fun k hk => ?_
    unfold chgM
    split
    · unfold upd
      split
      · rfl
      · exact h k hk
    · exact h k hk

/-- Where a step stands: what it sees, its registers, what it has read and written. -/
structure Sst where
  m : Mp
  r : Nat → Int
  rd : Nat → Bool
  wt : Nat → Bool
def fitI (v : Int) : Bool := decide (-9223372036854775808 ≤ v ∧ v ≤ 9223372036854775807)
/-- How many keys there are, of n from lo on. -/
def cntM (m : Mp) (lo : Nat) : Nat → Nat
  | 0 => 0
  | n + 1 => cntM m lo n + (if isM m (lo + n) = true then 1 else 0)
theorem cntM_le (m : Mp) (lo n : Nat) : cntM m lo n ≤ n := by
  induction n with
  | zero => exact Nat.le_refl _
  | succ n ih =>
    rw [cntM]
    split <;> omega
theorem cntM_congr {m m' : Mp} (lo n : Nat) (h : ∀ k, lo ≤ k → k < lo + n → m k = m' k) : cntM m lo n = cntM m' lo n := by
  induction n with
  | zero => rfl
  | succ n ih => rw [cntM, cntM, ih (fun k h1 h2 => h k h1 (by omega)), isM, isM, h (lo + n) (by omega) (by omega)]
/-- Have all of n keys from lo on a mark? -/
def allIn (s : Nat → Bool) (lo : Nat) : Nat → Bool
  | 0 => true
  | n + 1 => allIn s lo n && s (lo + n)
theorem allIn_iff (s : Nat → Bool) (lo n : Nat) : allIn s lo n = true ↔ ∀ k, lo ≤ k → k < lo + n → s k = true := by
  induction n with
  | zero => exact ⟨fun _ k h1 h2 => by omega, fun _ => rfl⟩
  | succ n ih =>
    rw [allIn, Bool.and_eq_true, ih]
    constructor
    · intro h k h1 h2
      by_cases he : k = lo + n
      · rw [he]; exact h.2
      · exact h.1 k h1 (by omega)
    · intro h
      exact ⟨fun k h1 h2 => h k h1 (by omega), h (lo + n) (by omega) (by omega)⟩
/-- How many keys a Scan goes over. -/
def span (i : Ins) (gs : List Int) : Nat := (keyOf i.la i.lb gs + 1 - keyOf i.ka i.kb gs).toNat
def keyN (i : Ins) (gs : List Int) : Nat := (keyOf i.ka i.kb gs).toNat
def between (lo n : Nat) (k : Nat) : Bool := decide (lo ≤ k ∧ k < lo + n)
/-- An instruction: the error's number, or where the step stands behind it. -/
def stepI (asked : Bool) (mr mw : Nat → Bool) (gs : List Int) (i : Ins) (s : Sst) : Except Nat Sst :=
  if i.op = 1 then
    if (asked && !mr (keyN i gs)) = true then .error 9 else .ok { s with rd := upd s.rd (keyN i gs) true, r := upd s.r i.a.toNat (valM s.m (keyN i gs)) }
  else if i.op = 2 then
    if (asked && !mw (keyN i gs)) = true then .error 9 else .ok { s with wt := upd s.wt (keyN i gs) true, m := upd s.m (keyN i gs) (some (s.r i.a.toNat)) }
  else if i.op = 3 then
    if (asked && !mw (keyN i gs)) = true then .error 9 else .ok { s with wt := upd s.wt (keyN i gs) true, m := upd s.m (keyN i gs) none }
  else if i.op = 4 then
    if (asked && !allIn mr (keyN i gs) (span i gs)) = true then .error 9 else .ok { s with rd := fun k => s.rd k || between (keyN i gs) (span i gs) k, r := upd s.r i.a.toNat (cntM s.m (keyN i gs) (span i gs) : Nat) }
  else if i.op = 5 then .ok { s with r := upd s.r i.a.toNat i.x }
  else if i.op = 6 then
    if fitI (s.r i.b.toNat + s.r i.c.toNat) = true then .ok { s with r := upd s.r i.a.toNat (s.r i.b.toNat + s.r i.c.toNat) } else .error 8
  else if i.op = 7 then
    if fitI (s.r i.b.toNat - s.r i.c.toNat) = true then .ok { s with r := upd s.r i.a.toNat (s.r i.b.toNat - s.r i.c.toNat) } else .error 8
  else if s.r i.a.toNat < i.x then .error 7 else .ok s
/-- Instructions one behind the other: the error's number and which one, or where the step stands behind them. -/
def runI (asked : Bool) (mr mw : Nat → Bool) (gs : List Int) : List Ins → Nat → Sst → Except (Nat × Nat) Sst
  | [], _, s => .ok s
  | i :: l, n, s => match stepI asked mr mw gs i s with
    | .error e => .error (e, n)
    | .ok s' => runI asked mr mw gs l (n + 1) s'
variable {asked : Bool} {mr mw : Nat → Bool} {gs : List Int}
theorem runI_app (l1 l2 : List Ins) (n : Nat) (s : Sst) : runI asked mr mw gs (l1 ++ l2) n s = match runI asked mr mw gs l1 n s with
    | .error e => .error e
    | .ok s' => runI asked mr mw gs l2 (n + l1.length) s' := by
  induction l1 generalizing n s with
  | nil => rfl
  | cons i l1 ih =>
    rw [List.cons_append, runI, runI]
    cases h : stepI asked mr mw gs i s with
    | error e => rfl
    | ok s' =>
      show runI asked mr mw gs (l1 ++ l2) (n + 1) s' = _
      rw [ih, List.length_cons, show n + 1 + l1.length = n + (l1.length + 1) by omega]
/-- Behind k instructions: the next one. -/
theorem runI_next {l : List Ins} {k : Nat} {s s1 : Sst} (hk : k < l.length) (h : runI asked mr mw gs (l.take k) 0 s = .ok s1) {s2 : Sst} (h2 : stepI asked mr mw gs l[k] s1 = .ok s2) : runI asked mr mw gs (l.take (k + 1)) 0 s = .ok s2 := by
  rw [List.take_succ_eq_append_getElem hk, runI_app, h]
  show runI asked mr mw gs [l[k]] (0 + (l.take k).length) s1 = _
  rw [runI, h2]
  rfl
theorem runI_fails {l : List Ins} {k e : Nat} {s s1 : Sst} (hk : k < l.length) (h : runI asked mr mw gs (l.take k) 0 s = .ok s1) (h2 : stepI asked mr mw gs l[k] s1 = .error e) : runI asked mr mw gs l 0 s = .error (e, k) := by
  rw [show l = l.take k ++ (l[k] :: l.drop (k + 1)) by rw [← List.drop_eq_getElem_cons hk, List.take_append_drop], runI_app, h]
  show runI asked mr mw gs (l[k] :: l.drop (k + 1)) (0 + (l.take k).length) s1 = _
  rw [runI, h2, List.length_take, Nat.min_eq_left (Nat.le_of_lt hk), Nat.zero_add]

/-- The changes, rising: of each key that was written what stands there. -/
def chgAt (m : Mp) (k : Nat) : Chg := ⟨k, !isM m k, valM m k⟩
def chgsTo (wt : Nat → Bool) (m : Mp) : Nat → List Chg
  | 0 => []
  | n + 1 => chgsTo wt m n ++ (if wt n = true then [chgAt m n] else [])
def chgsOf (wt : Nat → Bool) (m : Mp) : List Chg := chgsTo wt m 1000
theorem chgsTo_len (wt : Nat → Bool) (m : Mp) (n : Nat) : (chgsTo wt m n).length ≤ n := by
  induction n with
  | zero => exact Nat.le_refl _
  | succ n ih =>
    rw [chgsTo, List.length_append]
    split <;> simp <;> omega
theorem chgsTo_congr {wt wt' : Nat → Bool} {m m' : Mp} (n : Nat) (hw : ∀ k, k < n → wt k = wt' k) (h : ∀ k, k < n → wt k = true → m k = m' k) : chgsTo wt m n = chgsTo wt' m' n := by
  induction n with
  | zero => rfl
  | succ n ih =>
    rw [chgsTo, chgsTo, ih (fun k hk => hw k (by omega)) (fun k hk => h k (by omega)), ← hw n (by omega)]
    by_cases hn : wt n = true
    · rw [if_pos hn, if_pos hn, chgAt, chgAt, isM, isM, valM, valM, h n (by omega) hn]
    · rw [if_neg hn, if_neg hn]
theorem chgsTo_mem {wt : Nat → Bool} {m : Mp} {n : Nat} {c : Chg} (hc : c ∈ chgsTo wt m n) : ∃ k, k < n ∧ wt k = true ∧ c = chgAt m k := by
  induction n with
  | zero => simp [chgsTo] at hc
  | succ n ih =>
    rw [chgsTo, List.mem_append] at hc
    rcases hc with hc | hc
    · obtain ⟨k, h1, h2, h3⟩ := ih hc
      exact ⟨k, by omega, h2, h3⟩
    · split at hc
      · next hn => exact ⟨n, Nat.lt_succ_self n, hn, by simpa using hc⟩
      · simp at hc
theorem chgsTo_rise (wt : Nat → Bool) (m : Mp) (n : Nat) : (chgsTo wt m n).Pairwise fun a b => a.key < b.key := by
  induction n with
  | zero => exact List.Pairwise.nil
  | succ n ih =>
    rw [chgsTo]
    refine List.pairwise_append.2 ⟨ih, ?_, ?_⟩
    · split
      · exact List.pairwise_singleton _ _
      · exact List.Pairwise.nil
    · intro x hx y hy
      obtain ⟨k, h1, -, h3⟩ := chgsTo_mem hx
      split at hy
      · have e : y = chgAt m n := by simpa using hy
        rw [e, h3]
        show (k : Int) < (n : Int)
        omega
      · simp at hy
theorem chgM_at (m0 m : Mp) {n : Nat} (hn : n < 1000) : chgM m0 (chgAt m n) = upd m0 n (m n) := by
  unfold chgM
  rw [if_pos (show 0 ≤ (chgAt m n).key ∧ (chgAt m n).key ≤ 999 from ⟨Int.natCast_nonneg n, by show (n : Int) ≤ 999; omega⟩)]
  have e : (chgAt m n).key.toNat = n := Int.toNat_natCast n
  rw [e]
  congr 1
  show (if (!isM m n) = true then none else some (valM m n)) = m n
  unfold isM valM
  cases m n <;> rfl
/-- Made, the changes leave what was seen at the keys that were written. -/
theorem apply_chgs (m0 : Mp) (wt : Nat → Bool) (m : Mp) (n : Nat) (hn : n ≤ 1000) (k : Nat) : applyM m0 (chgsTo wt m n) k = if k < n ∧ wt k = true then m k else m0 k := by
  induction n with
  | zero => simp [chgsTo, applyM]
  | succ n ih =>
    have ih := ih (by omega)
    rw [chgsTo]
    by_cases hw : wt n = true
    · rw [if_pos hw, applyM_snoc, chgM_at _ _ (by omega)]
      unfold upd
      by_cases hk : k = n
      · subst hk
        rw [if_pos rfl, if_pos ⟨Nat.lt_succ_self k, hw⟩]
      · rw [if_neg hk, ih]
        by_cases h1 : k < n ∧ wt k = true
        · rw [if_pos h1, if_pos ⟨by omega, h1.2⟩]
        · rw [if_neg h1, if_neg (fun h2 => h1 ⟨by omega, h2.2⟩)]
    · rw [if_neg hw, List.append_nil, ih]
      by_cases h1 : k < n ∧ wt k = true
      · rw [if_pos h1, if_pos ⟨by omega, h1.2⟩]
      · rw [if_neg h1, if_neg (fun h2 => h1 ⟨by
          by_cases hk : k = n
          · exact absurd (hk ▸ h2.2) hw
          · omega, h2.2⟩)]

/-- An outcome. -/
structure Po where
  code : Int
  at_ : Int
  r : Nat → Int
  rd : List (Int × Int)
  wt : List (Int × Int)
  ch : List Chg
def Po.fail (code at_ : Int) (r : Nat → Int) : Po := ⟨code, at_, r, [], [], []⟩
/-- A step's outcome. -/
def runS (right asked : Bool) (mr mw : Nat → Bool) (gs : List Int) (l : List Ins) (r : Nat → Int) (m : Mp) : Po :=
  if right = true then
    match runI asked mr mw gs l 0 ⟨m, r, fun _ => false, fun _ => false⟩ with
    | .error (e, k) => .fail e k r
    | .ok s => ⟨0, 0, s.r, plainOf s.rd, plainOf s.wt, chgsOf s.wt s.m⟩
  else .fail 1 0 r

/-- What is read and written grows, and is covered, if that is asked. -/
structure Grow (asked : Bool) (mr mw : Nat → Bool) (s s' : Sst) : Prop where
  rd : ∀ k, s.rd k = true → s'.rd k = true
  wt : ∀ k, s.wt k = true → s'.wt k = true
  cr : asked = true → ∀ k, s'.rd k = true → s.rd k = true ∨ mr k = true
  cw : asked = true → ∀ k, s'.wt k = true → s.wt k = true ∨ mw k = true
  un : ∀ k, s'.wt k = false → s'.m k = s.m k
theorem Grow.refl (s : Sst) : Grow asked mr mw s s := ⟨fun _ h => h, fun _ h => h, fun _ _ h => .inl h, fun _ _ h => .inl h, fun _ _ => rfl⟩
theorem Grow.trans {s t u : Sst} (h : Grow asked mr mw s t) (g : Grow asked mr mw t u) : Grow asked mr mw s u :=
  ⟨fun k hk => g.rd k (h.rd k hk), fun k hk => g.wt k (h.wt k hk), fun ha k hk => (g.cr ha k hk).elim (h.cr ha k) .inr, fun ha k hk => (g.cw ha k hk).elim (h.cw ha k) .inr, fun k hk => (g.un k hk).trans (h.un k (by
    cases hw : t.wt k with
    | false => rfl
    | true => rw [g.wt k hw] at hk; cases hk))⟩
theorem upd_true {f : Nat → Bool} {i k : Nat} (h : f k = true) : upd f i true k = true := by
  unfold upd
  split
  · rfl
  · exact h
theorem upd_cases {f : Nat → Bool} {i k : Nat} (h : upd f i true k = true) : f k = true ∨ k = i := by
  unfold upd at h
  split at h
  · next e => exact .inr e
  · exact .inl h
theorem stepI_grow {i : Ins} {s s' : Sst} (h : stepI asked mr mw gs i s = .ok s') : Grow asked mr mw s s' := by
  unfold stepI at h
  by_cases h1 : i.op = 1
  · rw [if_pos h1] at h
    split at h
    · cases h
    · next hn =>
      cases h
      refine ⟨fun k hk => upd_true hk, fun _ hk => hk, fun ha k hk => ?_, fun _ _ hk => .inl hk, fun _ _ => rfl⟩
      rcases upd_cases hk with hk | hk
      · exact .inl hk
      · right; rw [hk]; simpa [ha] using hn
  rw [if_neg h1] at h
  by_cases h2 : i.op = 2
  · rw [if_pos h2] at h
    split at h
    · cases h
    · next hn =>
      cases h
      refine ⟨fun _ hk => hk, fun k hk => upd_true hk, fun _ _ hk => .inl hk, fun ha k hk => ?_, fun k hk => ?_⟩
      · rcases upd_cases hk with hk | hk
        · exact .inl hk
        · right; rw [hk]; simpa [ha] using hn
      · have hne : k ≠ keyN i gs := fun e => by rw [e] at hk; simp [upd] at hk
        exact upd_other _ _ _ _ hne
  rw [if_neg h2] at h
  by_cases h3 : i.op = 3
  · rw [if_pos h3] at h
    split at h
    · cases h
    · next hn =>
      cases h
      refine ⟨fun _ hk => hk, fun k hk => upd_true hk, fun _ _ hk => .inl hk, fun ha k hk => ?_, fun k hk => ?_⟩
      · rcases upd_cases hk with hk | hk
        · exact .inl hk
        · right; rw [hk]; simpa [ha] using hn
      · have hne : k ≠ keyN i gs := fun e => by rw [e] at hk; simp [upd] at hk
        exact upd_other _ _ _ _ hne
  rw [if_neg h3] at h
  by_cases h4 : i.op = 4
  · rw [if_pos h4] at h
    split at h
    · cases h
    · next hn =>
      cases h
      refine ⟨fun k hk => Bool.or_eq_true_iff.2 (.inl hk), fun _ hk => hk, fun ha k hk => ?_, fun _ _ hk => .inl hk, fun _ _ => rfl⟩
      have hk := Bool.or_eq_true_iff.1 hk
      rcases hk with hk | hk
      · exact .inl hk
      · right
        have ha' : allIn mr (keyN i gs) (span i gs) = true := by simpa [ha] using hn
        have hb := of_decide_eq_true hk
        exact (allIn_iff _ _ _).1 ha' k hb.1 hb.2
  rw [if_neg h4] at h
  by_cases h5 : i.op = 5
  · rw [if_pos h5] at h
    cases h
    exact ⟨fun _ h => h, fun _ h => h, fun _ _ h => .inl h, fun _ _ h => .inl h, fun _ _ => rfl⟩
  rw [if_neg h5] at h
  by_cases h6 : i.op = 6
  · rw [if_pos h6] at h
    split at h
    · cases h
      exact ⟨fun _ h => h, fun _ h => h, fun _ _ h => .inl h, fun _ _ h => .inl h, fun _ _ => rfl⟩
    · cases h
  rw [if_neg h6] at h
  by_cases h7 : i.op = 7
  · rw [if_pos h7] at h
    split at h
    · cases h
      exact ⟨fun _ h => h, fun _ h => h, fun _ _ h => .inl h, fun _ _ h => .inl h, fun _ _ => rfl⟩
    · cases h
  rw [if_neg h7] at h
  split at h
  · cases h
  · cases h
    exact .refl s
theorem runI_grow {l : List Ins} {n : Nat} {s s' : Sst} (h : runI asked mr mw gs l n s = .ok s') : Grow asked mr mw s s' := by
  induction l generalizing n s with
  | nil => rw [runI] at h; injection h with h; subst h; exact .refl _
  | cons i l ih =>
    rw [runI] at h
    cases hs : stepI asked mr mw gs i s with
    | error e => rw [hs] at h; cases h
    | ok s1 => rw [hs] at h; exact (stepI_grow hs).trans (ih h)

/-- Two places that differ at most in what stands at a key that isn't written. -/
structure Ag (o : Nat) (s t : Sst) : Prop where
  r : s.r = t.r
  rd : s.rd = t.rd
  wt : s.wt = t.wt
  m : ∀ k, k ≠ o ∨ s.wt k = true → s.m k = t.m k
theorem Ag.upd_m {o : Nat} {s t : Sst} (h : Ag o s t) (i : Nat) (v : Option Int) : ∀ k, k ≠ o ∨ upd s.wt i true k = true → upd s.m i v k = upd t.m i v k := fun k hk => by
  unfold upd
  split
  · rfl
  · next hne =>
    refine h.m k (hk.imp id fun hw => ?_)
    rcases upd_cases hw with hw | hw
    · exact hw
    · exact absurd hw hne
theorem stepI_ag {i : Ins} {o : Nat} {s s' t : Sst} (ha : Ag o s t) (h : stepI asked mr mw gs i s = .ok s') (ho : s'.rd o = false) : ∃ t', stepI asked mr mw gs i t = .ok t' ∧ Ag o s' t' := by
  obtain ⟨m, r, rd, wt⟩ := s
  obtain ⟨m2, r2, rd2, wt2⟩ := t
  obtain ⟨e1, e2, e3, hm⟩ := ha
  have e1 : r = r2 := e1
  have e2 : rd = rd2 := e2
  have e3 : wt = wt2 := e3
  subst e1 e2 e3
  have hA : Ag o ⟨m, r, rd, wt⟩ ⟨m2, r, rd, wt⟩ := ⟨rfl, rfl, rfl, hm⟩
  unfold stepI at h ⊢
  by_cases h1 : i.op = 1
  · rw [if_pos h1] at h ⊢
    by_cases hn : (asked && !mr (keyN i gs)) = true
    · rw [if_pos hn] at h; cases h
    · rw [if_neg hn] at h ⊢
      cases h
      refine ⟨_, rfl, ?_, rfl, rfl, hm⟩
      have hne : keyN i gs ≠ o := fun e => by
        have ho : upd rd (keyN i gs) true o = false := ho
        rw [e, upd_same] at ho; cases ho
      have e : valM m (keyN i gs) = valM m2 (keyN i gs) := by
        unfold valM
        have h' : m (keyN i gs) = m2 (keyN i gs) := hm _ (.inl hne)
        rw [h']
      show upd r i.a.toNat (valM m (keyN i gs)) = upd r i.a.toNat (valM m2 (keyN i gs))
      rw [e]
  rw [if_neg h1] at h ⊢
  by_cases h2 : i.op = 2
  · rw [if_pos h2] at h ⊢
    by_cases hn : (asked && !mw (keyN i gs)) = true
    · rw [if_pos hn] at h; cases h
    · rw [if_neg hn] at h ⊢
      cases h
      exact ⟨_, rfl, rfl, rfl, rfl, hA.upd_m _ _⟩
  rw [if_neg h2] at h ⊢
  by_cases h3 : i.op = 3
  · rw [if_pos h3] at h ⊢
    by_cases hn : (asked && !mw (keyN i gs)) = true
    · rw [if_pos hn] at h; cases h
    · rw [if_neg hn] at h ⊢
      cases h
      exact ⟨_, rfl, rfl, rfl, rfl, hA.upd_m _ _⟩
  rw [if_neg h3] at h ⊢
  by_cases h4 : i.op = 4
  · rw [if_pos h4] at h ⊢
    by_cases hn : (asked && !allIn mr (keyN i gs) (span i gs)) = true
    · rw [if_pos hn] at h; cases h
    · rw [if_neg hn] at h ⊢
      cases h
      refine ⟨_, rfl, ?_, rfl, rfl, hm⟩
      have e : cntM m (keyN i gs) (span i gs) = cntM m2 (keyN i gs) (span i gs) := cntM_congr _ _ fun k h1 h2 => hm k (.inl fun e => by
        have ho : (rd o || between (keyN i gs) (span i gs) o) = false := ho
        rw [Bool.or_eq_false_iff] at ho
        have := of_decide_eq_false ho.2
        omega)
      show upd r i.a.toNat (cntM m (keyN i gs) (span i gs) : Int) = upd r i.a.toNat (cntM m2 (keyN i gs) (span i gs) : Int)
      rw [e]
  rw [if_neg h4] at h ⊢
  by_cases h5 : i.op = 5
  · rw [if_pos h5] at h ⊢
    cases h
    exact ⟨_, rfl, rfl, rfl, rfl, hm⟩
  rw [if_neg h5] at h ⊢
  by_cases h6 : i.op = 6
  · rw [if_pos h6] at h ⊢
    by_cases hn : fitI (r i.b.toNat + r i.c.toNat) = true
    · rw [if_pos hn] at h ⊢
      cases h
      exact ⟨_, rfl, rfl, rfl, rfl, hm⟩
    · rw [if_neg hn] at h; cases h
  rw [if_neg h6] at h ⊢
  by_cases h7 : i.op = 7
  · rw [if_pos h7] at h ⊢
    by_cases hn : fitI (r i.b.toNat - r i.c.toNat) = true
    · rw [if_pos hn] at h ⊢
      cases h
      exact ⟨_, rfl, rfl, rfl, rfl, hm⟩
    · rw [if_neg hn] at h; cases h
  rw [if_neg h7] at h ⊢
  by_cases hn : r i.a.toNat < i.x
  · rw [if_pos hn] at h; cases h
  · rw [if_neg hn] at h ⊢
    cases h
    exact ⟨_, rfl, hA⟩
theorem runI_ag {l : List Ins} {n o : Nat} {s s' t : Sst} (ha : Ag o s t) (h : runI asked mr mw gs l n s = .ok s') (ho : s'.rd o = false) : ∃ t', runI asked mr mw gs l n t = .ok t' ∧ Ag o s' t' := by
  induction l generalizing n s t with
  | nil => cases h; exact ⟨t, rfl, ha⟩
  | cons i l ih =>
    rw [runI] at h ⊢
    cases hs : stepI asked mr mw gs i s with
    | error e => rw [hs] at h; cases h
    | ok s1 =>
      rw [hs] at h
      have ho1 : s1.rd o = false := by
        cases hr : s1.rd o with
        | false => rfl
        | true => rw [(runI_grow h).rd o hr] at ho; cases ho
      obtain ⟨t1, ht, ha1⟩ := stepI_ag ha hs ho1
      rw [ht]
      exact ih ha1 h
/-- The same step over a store that differs in another key than it reads has the same outcome. -/
theorem runS_other {l : List Ins} {r : Nat → Int} {m m2 : Mp} {o : Nat} {s : Sst} (h : runI asked mr mw gs l 0 ⟨m, r, fun _ => false, fun _ => false⟩ = .ok s) (ho : s.rd o = false) (hm : ∀ k, k ≠ o → m k = m2 k) : runS true asked mr mw gs l r m2 = runS true asked mr mw gs l r m := by
  obtain ⟨t, ht, ha⟩ := runI_ag (s := ⟨m, r, fun _ => false, fun _ => false⟩) (t := ⟨m2, r, fun _ => false, fun _ => false⟩) ⟨rfl, rfl, rfl, fun k hk => hm k (hk.elim id fun hw => by cases hw)⟩ h ho
  unfold runS
  rw [if_pos rfl, if_pos rfl, h, ht]
  have e : chgsOf t.wt t.m = chgsOf s.wt s.m := (chgsTo_congr 1000 (fun k _ => congrFun ha.wt k) fun k _ hw => ha.m k (.inr hw)).symm
  show Po.mk 0 0 t.r (plainOf t.rd) (plainOf t.wt) (chgsOf t.wt t.m) = Po.mk 0 0 s.r (plainOf s.rd) (plainOf s.wt) (chgsOf s.wt s.m)
  rw [e, ha.r, ha.rd, ha.wt]
/- The document's own map of keys as it lies there: flags, then numbers. No program is spoken of. -/
end Go.Proofs.YthenadijiepmnaaGreat
namespace Go.Proofs.YthenadijiepmnaaGreat
open Go.RowKit

/-- Numbers of keys, as cells. -/
def valsC (n : Nat) (v : Nat → Int) : Array Value := ((List.range n).map fun i => Value.int .i64 (v i)).toArray
theorem valsC_size (n : Nat) (v : Nat → Int) : (valsC n v).size = n := by simp [valsC]
theorem valsC_at (n : Nat) (v : Nat → Int) (i : Nat) (hi : i < n) : (valsC n v)[i]? = some (.int .i64 (v i)) := by simp [valsC, hi]
/-- The map's cells. -/
def mcells (b : Nat → Bool) (v : Nat → Int) : Array Value := flags 1000 b ++ valsC 1000 v
theorem mcells_size (b : Nat → Bool) (v : Nat → Int) : (mcells b v).size = 2000 := by
  unfold mcells
  rw [Array.size_append, flags_size, valsC_size]
theorem mcells_is (b : Nat → Bool) (v : Nat → Int) {k : Nat} (hk : k < 1000) : (mcells b v)[k]? = some (.bool (b k)) := by
  unfold mcells
  rw [Array.getElem?_append_left (by rw [flags_size]; exact hk), flags_at _ _ _ hk]
theorem mcells_v (b : Nat → Bool) (v : Nat → Int) {k : Nat} (hk : k < 1000) : (mcells b v)[1000 + k]? = some (.int .i64 (v k)) := by
  unfold mcells
  rw [Array.getElem?_append_right (by rw [flags_size]; omega), flags_size, show 1000 + k - 1000 = k by omega, valsC_at _ _ _ hk]
theorem mcells_none (b : Nat → Bool) (v : Nat → Int) {j : Nat} (hj : 2000 ≤ j) : (mcells b v)[j]? = none := Array.getElem?_eq_none (by rw [mcells_size]; exact hj)
theorem mcells_putB (b : Nat → Bool) (v : Nat → Int) {k : Nat} (hk : k < 1000) (x : Bool) : (mcells b v).setIfInBounds k (.bool x) = mcells (upd b k x) v := by
  refine Array.ext_getElem? fun j => ?_
  rw [Array.getElem?_setIfInBounds, mcells_size]
  by_cases h1 : j < 1000
  · rw [mcells_is _ _ h1, mcells_is _ _ h1]
    by_cases e : k = j
    · subst e
      rw [if_pos rfl, if_pos (by omega), upd_same]
    · rw [if_neg e, upd_other _ _ _ _ (fun h => e h.symm)]
  · rw [if_neg (by omega)]
    by_cases h2 : j < 2000
    · obtain ⟨q, rfl⟩ : ∃ q, j = 1000 + q := ⟨j - 1000, by omega⟩
      rw [mcells_v _ _ (by omega), mcells_v _ _ (by omega)]
    · rw [mcells_none _ _ (by omega), mcells_none _ _ (by omega)]
theorem mcells_putV (b : Nat → Bool) (v : Nat → Int) {k : Nat} (hk : k < 1000) (x : Int) : (mcells b v).setIfInBounds (1000 + k) (.int .i64 x) = mcells b (upd v k x) := by
  refine Array.ext_getElem? fun j => ?_
  rw [Array.getElem?_setIfInBounds, mcells_size]
  by_cases h1 : j < 1000
  · rw [if_neg (by omega), mcells_is _ _ h1, mcells_is _ _ h1]
  · by_cases h2 : j < 2000
    · obtain ⟨q, rfl⟩ : ∃ q, j = 1000 + q := ⟨j - 1000, by omega⟩
      rw [mcells_v _ _ (by omega), mcells_v _ _ (by omega)]
      by_cases e : k = q
      · subst e
        rw [if_pos rfl, if_pos (by omega), upd_same]
      · rw [if_neg (by omega), upd_other _ _ _ _ (fun h => e h.symm)]
    · rw [if_neg (by omega), mcells_none _ _ (by omega), mcells_none _ _ (by omega)]
/-- A map's numbers are those that the flags speak of. -/
def Mpv (m : Mp) (b : Nat → Bool) (v : Nat → Int) : Prop := ∀ k, k < 1000 → m k = if b k = true then some (v k) else none
theorem Mpv.start : Mpv (fun _ => none) (fun _ => false) (fun _ => 0) := fun _ _ => rfl
theorem Mpv.is {m : Mp} {b : Nat → Bool} {v : Nat → Int} (h : Mpv m b v) {k : Nat} (hk : k < 1000) : isM m k = b k := by
  unfold isM
  rw [h k hk]
  cases b k <;> rfl
theorem Mpv.val {m : Mp} {b : Nat → Bool} {v : Nat → Int} (h : Mpv m b v) {k : Nat} (hk : k < 1000) : valM m k = if b k = true then v k else 0 := by
  unfold valM
  rw [h k hk]
  cases b k <;> rfl
theorem Mpv.put {m : Mp} {b : Nat → Bool} {v : Nat → Int} (h : Mpv m b v) (k : Nat) (x : Int) : Mpv (upd m k (some x)) (upd b k true) (upd v k x) := fun j hj => by
  by_cases e : j = k
  · subst e
    rw [upd_same, upd_same, upd_same]
    rfl
  · rw [upd_other _ _ _ _ e, upd_other _ _ _ _ e, upd_other _ _ _ _ e]
    exact h j hj
theorem Mpv.out {m : Mp} {b : Nat → Bool} {v : Nat → Int} (h : Mpv m b v) (k : Nat) : Mpv (upd m k none) (upd b k false) v := fun j hj => by
  by_cases e : j = k
  · subst e
    rw [upd_same, upd_same]
    rfl
  · rw [upd_other _ _ _ _ e, upd_other _ _ _ _ e]
    exact h j hj
theorem Mpv.same {m : Mp} {b b' : Nat → Bool} {v : Nat → Int} (h : Mpv m b v) (e : ∀ k, k < 1000 → b k = b' k) : Mpv m b' v := fun j hj => by rw [← e j hj]; exact h j hj

/-- Changes made again change nothing. -/
theorem apply_chgsOf (m0 : Mp) (wt : Nat → Bool) (m : Mp) {k : Nat} (hk : k < 1000) : applyM m0 (chgsOf wt m) k = if wt k = true then m k else m0 k := by
  refine (apply_chgs m0 wt m 1000 (Nat.le_refl _) k).trans ?_
  by_cases hw : wt k = true
  · rw [if_pos hw, if_pos ⟨hk, hw⟩]
  · rw [if_neg hw, if_neg (fun h => hw h.2)]
theorem apply_again (m0 : Mp) (wt : Nat → Bool) (m : Mp) {k : Nat} (hk : k < 1000) : applyM (applyM m0 (chgsOf wt m)) (chgsOf wt m) k = applyM m0 (chgsOf wt m) k := by
  rw [apply_chgsOf _ _ _ hk, apply_chgsOf _ _ _ hk]
  split <;> rfl
theorem chgsOf_mem {wt : Nat → Bool} {m : Mp} {c : Chg} (hc : c ∈ chgsOf wt m) : ∃ k, k < 1000 ∧ wt k = true ∧ c.key = k ∧ c.value = valM m k ∧ c.gone = !isM m k := by
  obtain ⟨k, h1, h2, rfl⟩ := chgsTo_mem hc
  exact ⟨k, h1, h2, rfl, rfl, rfl⟩
theorem chgsOf_rise (wt : Nat → Bool) (m : Mp) : (chgsOf wt m).Pairwise fun a b => a.key < b.key := chgsTo_rise wt m 1000
theorem chgsOf_len (wt : Nat → Bool) (m : Mp) : (chgsOf wt m).length ≤ 1000 := chgsTo_len wt m 1000

/-- A store's list behind a change. -/
def chgP (l : List (Nat × Int)) (c : Chg) : List (Nat × Int) := if 0 ≤ c.key ∧ c.key ≤ 999 then (if c.gone = true then outP l c.key.toNat else insP l c.key.toNat c.value) else l
theorem chgP_rise {l : List (Nat × Int)} (h : Rise l) (c : Chg) : Rise (chgP l c) := by
  unfold chgP
  split
  · split
    · exact outP_rise h _
    · exact insP_rise h _ _
  · exact h
theorem chgP_val {l : List (Nat × Int)} (h : Rise l) (c : Chg) : valP (chgP l c) = chgM (valP l) c := by
  funext j
  unfold chgP chgM
  split
  · split
    · rw [valP_out]
      rfl
    · rw [valP_ins h]
      rfl
  · rfl
theorem applyP {l : List (Nat × Int)} (h : Rise l) (cs : List Chg) : Rise (cs.foldl chgP l) ∧ valP (cs.foldl chgP l) = applyM (valP l) cs := by
  induction cs generalizing l with
  | nil => exact ⟨h, rfl⟩
  | cons c cs ih =>
    have := ih (chgP_rise h c)
    rw [chgP_val h] at this
    exact this

/-- Flags laid one behind the other. -/
theorem between_zero (f : Nat → Bool) (lo : Nat) : (fun k => f k || between lo 0 k) = f := by
  funext k
  have : between lo 0 k = false := decide_eq_false (by omega)
  rw [this, Bool.or_false]
theorem between_succ (f : Nat → Bool) (lo n : Nat) : upd (fun k => f k || between lo n k) (lo + n) true = fun k => f k || between lo (n + 1) k := by
  funext k
  unfold upd between
  by_cases e : k = lo + n
  · subst e
    rw [if_pos rfl, decide_eq_true (show lo ≤ lo + n ∧ lo + n < lo + (n + 1) by omega), Bool.or_true]
  · rw [if_neg e]
    show (f k || decide (lo ≤ k ∧ k < lo + n)) = _
    rw [show decide (lo ≤ k ∧ k < lo + n) = decide (lo ≤ k ∧ k < lo + (n + 1)) from decide_eq_decide.2 ⟨fun h => ⟨h.1, by omega⟩, fun h => ⟨h.1, by omega⟩⟩]
theorem mapOf_take {l : List (Int × Int)} {k : Nat} (hk : k < l.length) : mapOf (l.take (k + 1)) = putM (mapOf (l.take k)) l[k] := by rw [List.take_succ_eq_append_getElem hk, mapOf_snoc]
theorem applyM_take (m : Mp) {l : List Chg} {k : Nat} (hk : k < l.length) : applyM m (l.take (k + 1)) = chgM (applyM m (l.take k)) l[k] := by rw [List.take_succ_eq_append_getElem hk, applyM_snoc]

theorem Sl.chg {w : World} {B : Nat} {A : Option Addr} {l : List Chg} (h : Sl w B A (l.flatMap Chg.cells)) {k : Nat} (hk : k < l.length) :
    ∃ ad, A = some ad ∧ ad.block < B ∧ w.cell? (ad.add (k * 3)) = some (.int .i64 l[k].key) ∧ w.cell? ⟨(ad.add (k * 3)).block, (ad.add (k * 3)).off + 1, none⟩ = some (.bool l[k].gone) ∧
      w.cell? ⟨(ad.add (k * 3)).block, (ad.add (k * 3)).off + 2, none⟩ = some (.int .i64 l[k].value) := by
  obtain ⟨ad, e, hb, hc⟩ := h.row 3 Chg.cells_len hk (by omega)
  exact ⟨ad, e, hb, hc 0 _ rfl, hc 1 _ rfl, hc 2 _ rfl⟩
/-- An outcome as it lies: its lists are rows. -/
structure Otc where
  p : Po
  rA : Option Addr
  rc : Nat
  wA : Option Addr
  wc : Nat
  cA : Option Addr
  cc : Nat
def Otc.agg (o : Otc) : Value := .agg #[.int .i64 o.p.code, .int .i64 o.p.at_, .int .i64 (o.p.r 0), .int .i64 (o.p.r 1), .int .i64 (o.p.r 2), .int .i64 (o.p.r 3), .slice o.rA o.p.rd.length o.rc, .slice o.wA o.p.wt.length o.wc, .slice o.cA o.p.ch.length o.cc]
structure Otcs (w : World) (B : Nat) (o : Otc) : Prop where
  rd : Sl w B o.rA (sps o.p.rd)
  wt : Sl w B o.wA (sps o.p.wt)
  ch : Sl w B o.cA (o.p.ch.flatMap Chg.cells)
end Go.Proofs.YthenadijiepmnaaGreat
