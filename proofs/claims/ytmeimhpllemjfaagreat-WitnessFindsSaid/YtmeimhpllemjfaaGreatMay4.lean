/- Plain lists of spans as plain mathematics: folded, common, gaps, one by one. No program is spoken of. -/
import Derived.Test.YtmeimhpllemjfaaGreatRef4
namespace Go.Proofs.YtmeimhpllemjfaaGreat
open Go.RowKit

def okSp (p : Span) : Prop := 0 ≤ p.1 ∧ p.1 ≤ p.2 ∧ p.2 ≤ 999
structure IsPl (l : List Span) : Prop where
 ok : ∀ p ∈ l, okSp p
 gap : l.Pairwise fun p q => p.2 + 2 ≤ q.1
theorem IsPl.nil : IsPl [] := ⟨fun p h => (by cases h), .nil⟩
theorem IsPl.snoc {l : List Span} {s : Span} (h : IsPl l) (hs : okSp s) (hg : ∀ q ∈ l, q.2 + 2 ≤ s.1) : IsPl (l ++ [s]) := by
 refine ⟨fun p hp => ?_, ?_⟩
 ·rcases List.mem_append.1 hp with hp | hp
  ·exact h.ok p hp
  ·rw [List.mem_singleton.1 hp]; exact hs
 ·rw [List.pairwise_append]
  refine ⟨h.gap, List.pairwise_singleton _ _, fun a ha b hb => ?_⟩
  rw [List.mem_singleton.1 hb]
  exact hg a ha
theorem IsPl.init {l : List Span} {s : Span} (h : IsPl (l ++ [s])) : IsPl l ∧ okSp s ∧ ∀ q ∈ l, q.2 + 2 ≤ s.1 := by
 have h2 := List.pairwise_append.1 h.gap
 exact ⟨⟨fun p hp => h.ok p (List.mem_append_left _ hp), h2.1⟩, h.ok s (by simp), fun q hq => h2.2.2 q hq s (by simp)⟩
theorem IsPl.cons {l : List Span} {s : Span} (h : IsPl (s :: l)) : okSp s ∧ IsPl l ∧ ∀ q ∈ l, s.2 + 2 ≤ q.1 := by
 have h2 := List.pairwise_cons.1 h.gap
 exact ⟨h.ok s (by simp), ⟨fun p hp => h.ok p (List.mem_cons_of_mem _ hp), h2.2⟩, h2.1⟩
theorem keysOf_true (l : List Span) (k : Nat) : keysOf l k = true ↔ ∃ p ∈ l, spHas p k = true := by simp [keysOf]
theorem keysOf_app (l m : List Span) (k : Nat) : keysOf (l ++ m) k = (keysOf l k || keysOf m k) := by simp [keysOf]
theorem keysOf_cons (p : Span) (l : List Span) (k : Nat) : keysOf (p :: l) k = (spHas p k || keysOf l k) := by simp [keysOf]
theorem spHas_iff (p : Span) (k : Nat) : spHas p k = true ↔ 0 ≤ p.1 ∧ p.2 ≤ 999 ∧ p.1 ≤ (k : Int) ∧ (k : Int) ≤ p.2 := by simp [spHas]
theorem keysOf_no {l : List Span} {k : Nat} (h : ∀ p ∈ l, p.2 < (k : Int) ∨ (k : Int) < p.1) : keysOf l k = false := by
 rw [Bool.eq_false_iff]
 intro h1
 obtain ⟨p, hp, h2⟩ := (keysOf_true l k).1 h1
 rw [spHas_iff] at h2
 have := h p hp
 omega
theorem spHas_in {p : Span} (hp : okSp p) {k : Nat} (h1 : p.1 ≤ (k : Int)) (h2 : (k : Int) ≤ p.2) : spHas p k = true := by
 rw [spHas_iff]; exact ⟨hp.1, hp.2.2, h1, h2⟩
theorem spHas_out {p : Span} {k : Nat} (h : p.2 < (k : Int) ∨ (k : Int) < p.1) : spHas p k = false := by
 rw [Bool.eq_false_iff]
 intro h2
 rw [spHas_iff] at h2
 omega
theorem keysOf_perm {l m : List Span} (h : l.Perm m) (k : Nat) : keysOf l k = keysOf m k := by
 rw [Bool.eq_iff_iff, keysOf_true, keysOf_true]
 constructor
 ·rintro ⟨p, hp, e⟩; exact ⟨p, h.mem_iff.1 hp, e⟩
 ·rintro ⟨p, hp, e⟩; exact ⟨p, h.mem_iff.2 hp, e⟩
def valid (l : List Span) : List Span := l.filter fun p => mayB' p
where mayB' (p : Span) : Bool := decide (0 ≤ p.1 ∧ p.1 ≤ p.2 ∧ p.2 ≤ 999)
theorem valid_ok (l : List Span) : ∀ p ∈ valid l, okSp p := fun p hp => by
 have := (List.mem_filter.1 hp).2
 simpa [valid.mayB', okSp] using this
theorem valid_keys (l : List Span) (k : Nat) : keysOf (valid l) k = keysOf l k := by
 rw [Bool.eq_iff_iff, keysOf_true, keysOf_true]
 constructor
 ·rintro ⟨p, hp, e⟩; exact ⟨p, (List.mem_filter.1 hp).1, e⟩
 ·rintro ⟨p, hp, e⟩
  refine ⟨p, List.mem_filter.2 ⟨hp, ?_⟩, e⟩
  rw [spHas_iff] at e
  simp only [valid.mayB', decide_eq_true_eq]
  omega

/-! ### Plain lists are told by their keys -/
theorem plainTo_stay (s : Nat → Bool) (m j : Nat) (h : ∀ k, m ≤ k → k < m + j → s k = false) : plainTo s (m + j) = plainTo s m := by
 induction j with
 | zero => rfl
 | succ j ih =>
  have e : plainTo s (m + (j + 1)) = plainTo s (m + j) := by
   show (if s (m + j) = true then _ else plainTo s (m + j)) = _
   rw [h (m + j) (by omega) (by omega)]
   simp
  rw [e, ih fun k h1 h2 => h k h1 (by omega)]
theorem plainTo_run (s : Nat → Bool) (m j : Nat) (i : List Span) (hi : plainTo s m = i) (h0 : m = 0 ∨ s (m - 1) = false) (h : ∀ k, m ≤ k → k < m + (j + 1) → s k = true) : plainTo s (m + (j + 1)) = i ++ [((m : Int), ((m + j : Nat) : Int))] := by
 induction j with
 | zero =>
  show (if s m = true then _ else _) = _
  rw [if_pos (h m (by omega) (by omega)), hi, if_neg]
  ·rfl
  ·rcases h0 with rfl | h0
   ·simp
   ·simp [h0]
 | succ j ih =>
  have ih' := ih fun k h1 h2 => h k h1 (by omega)
  have h1 : s (m + (j + 1)) = true := h _ (by omega) (by omega)
  have h2 : s (m + (j + 1) - 1) = true := h _ (by omega) (by omega)
  have h3 : (decide (0 < m + (j + 1)) && s (m + (j + 1) - 1)) = true := by rw [h2]; simp; omega
  show (if s (m + (j + 1)) = true then (if (decide (0 < m + (j + 1)) && s (m + (j + 1) - 1)) = true then upHi (plainTo s (m + (j + 1))) (m + (j + 1)) else _) else _) = _
  rw [if_pos h1, if_pos h3, ih', upHi_snoc]
theorem snoc_of (l : List Span) (h : l ≠ []) : ∃ i p, l = i ++ [p] := ⟨l.dropLast, l.getLast h, (List.dropLast_concat_getLast h).symm⟩
theorem pl_plainTo (m : Nat) : ∀ (l : List Span), l.length = m → IsPl l → ∀ n : Nat, (∀ p ∈ l, p.2 < (n : Int)) → plainTo (keysOf l) n = l := by
 induction m with
 | zero =>
  intro l hl _ n _
  rw [List.eq_nil_of_length_eq_zero hl]
  have := plainTo_stay (keysOf []) 0 n (fun k _ _ => rfl)
  rw [Nat.zero_add] at this
  exact this
 | succ m ih =>
  intro l hl hp n hn
  obtain ⟨i, p, rfl⟩ := snoc_of l (by rintro rfl; cases hl)
  obtain ⟨hi, hok, hg⟩ := hp.init
  obtain ⟨h1, h2, h3⟩ := hok
  have hpn := hn p (by simp)
  obtain ⟨a, ha⟩ : ∃ a : Nat, p.1 = a := ⟨p.1.toNat, by omega⟩
  obtain ⟨b, hb⟩ : ∃ b : Nat, p.2 = ((a + b : Nat) : Int) := ⟨(p.2 - p.1).toNat, by omega⟩
  have e1 : plainTo (keysOf (i ++ [p])) a = i := by
   rw [plainTo_congr _ (keysOf i) a]
   ·refine ih i (by simpa using hl) hi a fun q hq => ?_
    have := hg q hq
    omega
   ·intro k hk
    rw [keysOf_snoc, spHas_out (by omega), Bool.or_false]
  have e2 : plainTo (keysOf (i ++ [p])) (a + (b + 1)) = i ++ [p] := by
   rw [plainTo_run _ a b i e1]
   ·rw [← hb, ← ha]
   ·rcases Nat.eq_zero_or_pos a with h | h
    ·exact .inl h
    ·refine .inr ?_
     rw [keysOf_snoc, spHas_out (by omega), Bool.or_false]
     refine keysOf_no fun q hq => .inl ?_
     have := hg q hq
     omega
   ·intro k k1 k2
    rw [keysOf_snoc, spHas_in ⟨h1, h2, h3⟩ (by omega) (by omega), Bool.or_true]
  obtain ⟨c, hc⟩ : ∃ c, n = a + (b + 1) + c := ⟨n - (a + (b + 1)), by omega⟩
  rw [hc, plainTo_stay, e2]
  intro k k1 k2
  rw [keysOf_snoc, spHas_out (by omega), Bool.or_false]
  refine keysOf_no fun q hq => .inl ?_
  have := hg q hq
  omega
theorem IsPl.eq {l : List Span} (h : IsPl l) : plainOf (keysOf l) = l := pl_plainTo _ l rfl h 1000 fun p hp => by have := h.ok p hp; unfold okSp at this; omega
theorem IsPl.of {l : List Span} {s : Nat → Bool} (h : IsPl l) (hk : ∀ k, k < 1000 → keysOf l k = s k) : l = plainOf s := h.eq.symm.trans (plainOf_congr hk)
theorem plainTo_pl (s : Nat → Bool) (n : Nat) (hn : n ≤ 1000) : IsPl (plainTo s n) ∧ (∀ q ∈ plainTo s n, q.2 < (n : Int)) ∧ (0 < n → s (n - 1) = false → ∀ q ∈ plainTo s n, q.2 + 2 ≤ (n : Int)) := by
 induction n with
 | zero => exact ⟨.nil, fun q h => (by cases h), fun h => absurd h (by omega)⟩
 | succ n ih =>
  obtain ⟨i1, i2, i3⟩ := ih (by omega)
  cases hs : s n with
  | false =>
   have e : plainTo s (n + 1) = plainTo s n := by show (if s n = true then _ else plainTo s n) = _; rw [hs]; simp
   rw [e]
   exact ⟨i1, fun q hq => by have := i2 q hq; omega, fun _ _ q hq => by have := i2 q hq; omega⟩
  | true =>
   refine (fun (h : IsPl (plainTo s (n + 1)) ∧ ∀ q ∈ plainTo s (n + 1), q.2 < ((n + 1 : Nat) : Int)) => ⟨h.1, h.2, fun _ h2 => absurd h2 (by rw [Nat.add_sub_cancel, hs]; simp)⟩) ?_
   by_cases hp : 0 < n ∧ s (n - 1) = true
   ·obtain ⟨i, lo, h1, h2, h3⟩ := (plainTo_spec s n (by omega)).2 hp.1 hp.2
    have e : plainTo s (n + 1) = i ++ [(lo, (n : Int))] := by
     have : plainTo s (n + 1) = upHi (plainTo s n) n := by
      show (if s n = true then _ else _) = _
      rw [if_pos hs, if_pos (by simp [hp.1, hp.2])]
     rw [this, h1, upHi_snoc]
    rw [h1] at i1 i2
    obtain ⟨j1, j2, j3⟩ := i1.init
    rw [e]
    refine ⟨j1.snoc ⟨h2, by show lo ≤ (n : Int); omega, by show (n : Int) ≤ 999; omega⟩ j3, fun q hq => ?_⟩
    rcases List.mem_append.1 hq with hq | hq
    ·have := i2 q (List.mem_append_left _ hq); omega
    ·rw [List.mem_singleton.1 hq]; show (n : Int) < _; omega
   ·have e : plainTo s (n + 1) = plainTo s n ++ [((n : Int), (n : Int))] := by
     show (if s n = true then _ else _) = _
     rw [if_pos hs, if_neg (by simpa using hp)]
    rw [e]
    refine ⟨i1.snoc ⟨by show (0 : Int) ≤ n; omega, Int.le_refl _, by show (n : Int) ≤ 999; omega⟩ fun q hq => ?_, fun q hq => ?_⟩
    ·show q.2 + 2 ≤ (n : Int)
     rcases Nat.eq_zero_or_pos n with h | h
     ·subst h; cases hq
     ·refine i3 h ?_ q hq
      cases h2 : s (n - 1) with
      | false => rfl
      | true => exact absurd ⟨h, h2⟩ hp
    ·rcases List.mem_append.1 hq with hq | hq
     ·have := i2 q hq; omega
     ·rw [List.mem_singleton.1 hq]; show (n : Int) < _; omega
theorem plainOf_pl (s : Nat → Bool) : IsPl (plainOf s) := (plainTo_pl s 1000 (Nat.le_refl _)).1
theorem keysOf_plainOf (l : List Span) (k : Nat) : keysOf (plainOf (keysOf l)) k = keysOf l k := by
 rcases Nat.lt_or_ge k 1000 with h | h
 ·exact keysOf_plain _ k h
 ·rw [keysOf_far _ k h, keysOf_far _ k h]

/-! ### Folded: spans by rising Lo -/
def foldS (l : List Span) (s : Span) : List Span := l.set (l.length - 1) ((l.getD (l.length - 1) (0, 0)).1, max (l.getD (l.length - 1) (0, 0)).2 s.2)
theorem foldS_snoc (i : List Span) (p s : Span) : foldS (i ++ [p]) s = i ++ [(p.1, max p.2 s.2)] := by
 have hl : (i ++ [p]).length - 1 = i.length := by simp
 have e : (i ++ [p]).getD i.length (0, 0) = p := by simp [List.getD]
 unfold foldS
 rw [hl, e, List.set_append_right _ _ (Nat.le_refl _), Nat.sub_self]
 rfl
theorem foldS_len (l : List Span) (s : Span) : (foldS l s).length = l.length := by simp [foldS]
structure Fold (p l : List Span) : Prop where
 pl : IsPl l
 keys : ∀ k, keysOf l k = keysOf p k
 lo : ∀ q ∈ l, ∃ r ∈ p, q.1 = r.1
 le : l.length ≤ p.length
theorem Fold.nil : Fold [] [] := ⟨.nil, fun _ => rfl, fun q h => (by cases h), Nat.le_refl _⟩
theorem Fold.append {p l : List Span} {s : Span} (h : Fold p l) (hs : okSp s) (hl : l = [] ∨ ∃ i q, l = i ++ [q] ∧ q.2 + 1 < s.1) : Fold (p ++ [s]) (l ++ [s]) := by
 refine ⟨h.pl.snoc hs fun q hq => ?_, fun k => by rw [keysOf_snoc, keysOf_snoc, h.keys], fun q hq => ?_, by simp; exact h.le⟩
 ·rcases hl with rfl | ⟨i, x, rfl, hx⟩
  ·cases hq
  ·rcases List.mem_append.1 hq with hq | hq
   ·have h1 := h.pl.init.2.2 q hq
    have h2 := h.pl.init.2.1
    unfold okSp at h2
    omega
   ·rw [List.mem_singleton.1 hq]; omega
 ·rcases List.mem_append.1 hq with hq | hq
  ·obtain ⟨r, hr, e⟩ := h.lo q hq
   exact ⟨r, List.mem_append_left _ hr, e⟩
  ·rw [List.mem_singleton.1 hq]
   exact ⟨s, by simp, rfl⟩
theorem Fold.widen {p i : List Span} {q s : Span} (h : Fold p (i ++ [q])) (hs : okSp s) (hr : ∀ r ∈ p, r.1 ≤ s.1) (hl : s.1 ≤ q.2 + 1) : Fold (p ++ [s]) (foldS (i ++ [q]) s) := by
 rw [foldS_snoc]
 obtain ⟨h1, h2, h3⟩ := h.pl.init
 have hq1 : q.1 ≤ s.1 := by
  obtain ⟨r, hr', e⟩ := h.lo q (by simp)
  rw [e]; exact hr r hr'
 unfold okSp at h2 hs
 refine ⟨h1.snoc (s := (q.1, max q.2 s.2)) ⟨h2.1, by show q.1 ≤ max q.2 s.2; omega, by show max q.2 s.2 ≤ 999; omega⟩ h3, fun k => ?_, fun x hx => ?_, by have := h.le; simp at this ⊢; omega⟩
 ·rw [keysOf_snoc, keysOf_snoc, ← h.keys, keysOf_snoc, Bool.or_assoc]
  congr 1
  rw [Bool.eq_iff_iff, Bool.or_eq_true, spHas_iff, spHas_iff, spHas_iff]
  simp only
  omega
 ·rcases List.mem_append.1 hx with hx | hx
  ·obtain ⟨r, hr, e⟩ := h.lo x (List.mem_append_left _ hx)
   exact ⟨r, List.mem_append_left _ hr, e⟩
  ·obtain ⟨r, hr, e⟩ := h.lo q (by simp)
   rw [List.mem_singleton.1 hx]
   exact ⟨r, List.mem_append_left _ hr, e⟩

/-! ### What two plain lists have in common -/
structure Comm (a b a' b' out : List Span) : Prop where
 pl : IsPl out
 pa : IsPl a'
 pb : IsPl b'
 keys : ∀ k, (keysOf a k && keysOf b k) = (keysOf out k || (keysOf a' k && keysOf b' k))
 ahead : ∀ q ∈ out, (∀ r ∈ a', q.2 + 2 ≤ r.1) ∨ (∀ r ∈ b', q.2 + 2 ≤ r.1)
theorem Comm.start {a b : List Span} (ha : IsPl a) (hb : IsPl b) : Comm a b a b [] := ⟨.nil, ha, hb, fun k => by simp [keysOf], fun q h => (by cases h)⟩
theorem Comm.done {a b a' b' out : List Span} (h : Comm a b a' b' out) (he : a' = [] ∨ b' = []) : out = plainOf fun k => keysOf a k && keysOf b k := by
 refine h.pl.of fun k _ => ?_
 rw [h.keys]
 rcases he with rfl | rfl <;> simp [keysOf]
def cutSp (x y : Span) : Span := (max x.1 y.1, min x.2 y.2)
theorem Comm.out_ahead {a b a' b' out : List Span} {x y : Span} (h : Comm a b (x :: a') (y :: b') out) : ∀ q ∈ out, q.2 + 2 ≤ (cutSp x y).1 := fun q hq => by
 show q.2 + 2 ≤ max x.1 y.1
 rcases h.ahead q hq with h1 | h1
 ·have := h1 x (by simp); omega
 ·have := h1 y (by simp); omega
theorem keys_first {x y : Span} {b : List Span} (hb : ∀ q ∈ b, y.2 + 2 ≤ q.1) (hxy : x.2 ≤ y.2) (k : Nat) : (spHas x k && keysOf b k) = false := by
 cases hk : spHas x k with
 | false => rfl
 | true =>
  rw [spHas_iff] at hk
  rw [Bool.true_and]
  exact keysOf_no fun q hq => .inr (by have := hb q hq; omega)
theorem cut_has {x y : Span} (hx : okSp x) (hy : okSp y) (k : Nat) : (spHas x k && spHas y k) = spHas (cutSp x y) k := by
 unfold okSp at hx hy
 rw [Bool.eq_iff_iff, Bool.and_eq_true, spHas_iff, spHas_iff, spHas_iff]
 show _ ↔ 0 ≤ max x.1 y.1 ∧ min x.2 y.2 ≤ 999 ∧ max x.1 y.1 ≤ (k : Int) ∧ (k : Int) ≤ min x.2 y.2
 omega
theorem cut_none {x y : Span} (h : ¬ okSp (cutSp x y)) (k : Nat) : spHas (cutSp x y) k = false := by
 rw [Bool.eq_false_iff]
 intro h2
 rw [spHas_iff] at h2
 unfold okSp at h
 omega
theorem Comm.keysA {x y : Span} {a' b' : List Span} (hx : okSp x) (hy : okSp y) (hb : ∀ q ∈ b', y.2 + 2 ≤ q.1) (hlt : x.2 < y.2) (k : Nat) : (keysOf (x :: a') k && keysOf (y :: b') k) = (spHas (cutSp x y) k || (keysOf a' k && keysOf (y :: b') k)) := by
 have h1 := keys_first hb (Int.le_of_lt hlt) k
 have h2 := cut_has hx hy k
 rw [keysOf_cons x, keysOf_cons y, ← h2]
 revert h1
 cases spHas x k <;> cases spHas y k <;> cases keysOf a' k <;> cases keysOf b' k <;> simp
theorem Comm.keysB {x y : Span} {a' b' : List Span} (hx : okSp x) (hy : okSp y) (ha : ∀ q ∈ a', x.2 + 2 ≤ q.1) (hlt : ¬ x.2 < y.2) (k : Nat) : (keysOf (x :: a') k && keysOf (y :: b') k) = (spHas (cutSp x y) k || (keysOf (x :: a') k && keysOf b' k)) := by
 have h1 := keys_first (x := y) (y := x) ha (by omega) k
 have h2 := cut_has hx hy k
 rw [keysOf_cons x, keysOf_cons y, ← h2]
 revert h1
 cases spHas x k <;> cases spHas y k <;> cases keysOf a' k <;> cases keysOf b' k <;> simp
theorem Comm.stepA {a b a' b' out : List Span} {x y : Span} (h : Comm a b (x :: a') (y :: b') out) (hlt : x.2 < y.2) :
  (okSp (cutSp x y) → Comm a b a' (y :: b') (out ++ [cutSp x y])) ∧ (¬ okSp (cutSp x y) → Comm a b a' (y :: b') out) := by
 obtain ⟨x1, x2, x3⟩ := h.pa.cons
 obtain ⟨y1, y2, y3⟩ := h.pb.cons
 have hk := Comm.keysA (a' := a') x1 y1 y3 hlt
 refine ⟨fun hc => ⟨h.pl.snoc hc h.out_ahead, x2, h.pb, fun k => by rw [h.keys, hk, keysOf_snoc, Bool.or_assoc], fun q hq => ?_⟩, fun hc => ⟨h.pl, x2, h.pb, fun k => by rw [h.keys, hk, cut_none hc, Bool.false_or], fun q hq => ?_⟩⟩
 ·rcases List.mem_append.1 hq with hq | hq
  ·rcases h.ahead q hq with h1 | h1
   ·exact .inl fun r hr => h1 r (List.mem_cons_of_mem _ hr)
   ·exact .inr h1
  ·rw [List.mem_singleton.1 hq]
   refine .inl fun r hr => ?_
   have := x3 r hr
   show min x.2 y.2 + 2 ≤ r.1
   omega
 ·rcases h.ahead q hq with h1 | h1
  ·exact .inl fun r hr => h1 r (List.mem_cons_of_mem _ hr)
  ·exact .inr h1
theorem Comm.stepB {a b a' b' out : List Span} {x y : Span} (h : Comm a b (x :: a') (y :: b') out) (hlt : ¬ x.2 < y.2) :
  (okSp (cutSp x y) → Comm a b (x :: a') b' (out ++ [cutSp x y])) ∧ (¬ okSp (cutSp x y) → Comm a b (x :: a') b' out) := by
 obtain ⟨x1, x2, x3⟩ := h.pa.cons
 obtain ⟨y1, y2, y3⟩ := h.pb.cons
 have hk := Comm.keysB (b' := b') x1 y1 x3 hlt
 refine ⟨fun hc => ⟨h.pl.snoc hc h.out_ahead, h.pa, y2, fun k => by rw [h.keys, hk, keysOf_snoc, Bool.or_assoc], fun q hq => ?_⟩, fun hc => ⟨h.pl, h.pa, y2, fun k => by rw [h.keys, hk, cut_none hc, Bool.false_or], fun q hq => ?_⟩⟩
 ·rcases List.mem_append.1 hq with hq | hq
  ·rcases h.ahead q hq with h1 | h1
   ·exact .inl h1
   ·exact .inr fun r hr => h1 r (List.mem_cons_of_mem _ hr)
  ·rw [List.mem_singleton.1 hq]
   refine .inr fun r hr => ?_
   have := y3 r hr
   show min x.2 y.2 + 2 ≤ r.1
   omega
 ·rcases h.ahead q hq with h1 | h1
  ·exact .inl h1
  ·exact .inr fun r hr => h1 r (List.mem_cons_of_mem _ hr)

/-! ### The keys that a plain list hasn't -/
/-! ### The keys one by one, and how many -/
end Go.Proofs.YtmeimhpllemjfaaGreat
/- Package keys: whether a span may be; the closures that are handed to the library. -/
namespace Go.Proofs.YtmeimhpllemjfaaGreat
open Go.RowKit

def mayB (a b : Int) : Bool := decide (0 ≤ a ∧ b ≤ 999 ∧ a ≤ b)
structure In4 (w : World) (A : Option Addr) (n : Nat) (l : List Span) : Prop where
 sl : Sl w w.heap.size A (sps l)
 len : l.length = n
 le : n ≤ 1048576
theorem kMay_any (a b : Int) (w : World) : Calls Tryz.prog 102 #[.agg #[.int .i64 a, .int .i64 b]] w fun e w' => e = .returned (.bool (mayB a b)) ∧ Fr No w w' := by
 by_cases h0 : 0 ≤ a
 ·by_cases h1 : a ≤ b
  ·by_cases h2 : b ≤ 999
   ·have e : mayB a b = true := by simp only [mayB, decide_eq_true_eq]; exact ⟨h0, h2, h1⟩
    rw [e]
    go_enter Tryz.func102, Tryz.ntmps102
    go_wp2
    go_ret
    exact ⟨rfl, (Fr.refl _ _).alloc _⟩
   ·have e : mayB a b = false := by simp only [mayB, decide_eq_false_iff_not]; omega
    rw [e]
    go_enter Tryz.func102, Tryz.ntmps102
    go_wp2
    go_ret
    exact ⟨rfl, (Fr.refl _ _).alloc _⟩
  ·have e : mayB a b = false := by simp only [mayB, decide_eq_false_iff_not]; omega
   rw [e]
   go_enter Tryz.func102, Tryz.ntmps102
   go_wp2
   go_ret
   exact ⟨rfl, (Fr.refl _ _).alloc _⟩
 ·have e : mayB a b = false := by simp only [mayB, decide_eq_false_iff_not]; omega
  rw [e]
  go_enter Tryz.func102, Tryz.ntmps102
  go_wp2
  go_ret
  exact ⟨rfl, (Fr.refl _ _).alloc _⟩
theorem mayB_ok (p : Span) : mayB p.1 p.2 = true ↔ okSp p := by
 simp only [mayB, decide_eq_true_eq, okSp]
 omega
theorem valid_snoc_yes (l : List Span) (p : Span) (h : mayB p.1 p.2 = true) : valid (l ++ [p]) = valid l ++ [p] := by
 have h2 := (mayB_ok p).1 h
 simp [valid, valid.mayB', h2.1, h2.2.1, h2.2.2]
theorem valid_snoc_no (l : List Span) (p : Span) (h : mayB p.1 p.2 = false) : valid (l ++ [p]) = valid l := by
 have h2 : ¬ okSp p := fun h3 => by rw [(mayB_ok p).2 h3] at h; cases h
 unfold okSp at h2
 simp [valid, valid.mayB']
 omega
theorem valid_le (l : List Span) : (valid l).length ≤ l.length := List.length_filter_le _ _
theorem sps_at (l : List Span) (i : Nat) (hi : i < l.length) : (sps l)[i * 2]? = some (.int .i64 l[i].1) ∧ (sps l)[i * 2 + 1]? = some (.int .i64 l[i].2) := by
 have h0 := flat_at spC 2 spC_len l i 0 hi (by omega)
 have h1 := flat_at spC 2 spC_len l i 1 hi (by omega)
 exact ⟨h0.trans rfl, h1.trans rfl⟩
def NewO (w : World) (zs : List Span) (e : Ending) (w' : World) : Prop :=
 ∃ A c, e = .returned (.slice A zs.length c) ∧ w'.ownsRow w.heap.size 51 2 (.slice A zs.length c) zs.length (sps zs) ∧ Fr No w w'
theorem own_cells {w : World} {B g n c : Nat} {l : List Span} {i : Nat} (h : w.ownsRow B 51 2 (.slice (some ⟨g, 0, none⟩) n c) n (sps l)) (hi : i < l.length) :
  w.cell? ⟨g, i * 2, none⟩ = some (.int .i64 l[i].1) ∧ w.cell? ⟨g, i * 2 + 1, none⟩ = some (.int .i64 l[i].2) ∧ w.frozen? ⟨g, i * 2 + 1, none⟩ = false := by
 have hl : l.length = n := by have := h.1; rw [sps_len] at this; omega
 obtain ⟨s0, s1⟩ := sps_at l i hi
 refine ⟨(h.cellAt _ (by omega)).trans s0, (h.cellAt _ (by omega)).trans s1, ?_⟩
 rcases h.2 with ⟨hv, _⟩ | ⟨g', cap', cur, hv, _, hgg, _⟩
 ·cases hv
 ·obtain ⟨rfl, -⟩ : g = g' ∧ True := by simp at hv; exact ⟨hv.1, trivial⟩
  exact Bk.frozen (t := 51) hgg _
end Go.Proofs.YtmeimhpllemjfaaGreat
/- Package keys: the keys that a plain list hasn't. -/
namespace Go.Proofs.YtmeimhpllemjfaaGreat
open Go.RowKit

end Go.Proofs.YtmeimhpllemjfaaGreat
