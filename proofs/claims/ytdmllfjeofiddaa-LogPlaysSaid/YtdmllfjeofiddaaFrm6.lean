/- Frames, purely: which may be, their words, what is told of words, all of a stream. -/
import Derived.Test.YtdmllfjeofiddaaRef2
namespace Go.Proofs.Ytdmllfjeofiddaa

/-- A frame. -/
structure Frm where
  kind : Int
  words : List Nat
def frmOk (f : Frm) : Bool := decide (0 < f.kind ∧ f.kind < 256 ∧ f.words.length < 2001)
def numOk (n : Int) : Bool := decide (0 ≤ n ∧ n < 4294967296)
theorem frmOk_iff (f : Frm) : frmOk f = true ↔ 0 < f.kind ∧ f.kind < 256 ∧ f.words.length < 2001 := by simp [frmOk]
theorem numOk_iff (n : Int) : numOk n = true ↔ 0 ≤ n ∧ n < 4294967296 := by simp [numOk]
/-- A frame's words in an epoch, as the n-th. -/
def putW (e n : Int) (f : Frm) : List Nat := mkW f.kind f.words.length (e.toNat :: n.toNat :: f.words) :: f.words
theorem putW_len (e n : Int) (f : Frm) : (putW e n f).length = f.words.length + 1 := by simp [putW]
theorem putW_lt (e n : Int) (f : Frm) (h : ∀ u ∈ f.words, u < 18446744073709551616) : ∀ u ∈ putW e n f, u < 18446744073709551616 := by
  intro u hu
  rcases List.mem_cons.1 hu with rfl | hu
  · exact mkW_lt _ _ _
  · exact h u hu
/-- Are the frame's kind and its number of words such that it may be there? -/
def headOk (u : Nat) (m : Nat) : Prop := u / 72057594037927936 ≠ 0 ∧ u / 4294967296 % 16777216 ≤ 2000 ∧ u / 4294967296 % 16777216 + 1 ≤ m
instance (u m : Nat) : Decidable (headOk u m) := by unfold headOk; infer_instance
/-- The frame that words begin with. -/
def getF (e n : Int) : List Nat → Option (Frm × Nat)
  | [] => none
  | u :: r => if numOk e = true ∧ numOk n = true ∧ headOk u (r.length + 1) ∧ mark (u / 72057594037927936) (u / 4294967296 % 16777216) (e.toNat :: n.toNat :: r.take (u / 4294967296 % 16777216)) = u then
      some (⟨(u / 72057594037927936 : Nat), r.take (u / 4294967296 % 16777216)⟩, u / 4294967296 % 16777216 + 1) else none
theorem getF_no {e n : Int} {u : Nat} {r : List Nat} (h : ¬ headOk u (r.length + 1)) : getF e n (u :: r) = none := by
  simp only [getF]
  rw [if_neg]
  rintro ⟨_, _, c, _⟩
  exact h c
theorem getF_bad {e n : Int} {u : Nat} {r : List Nat} (h : mark (u / 72057594037927936) (u / 4294967296 % 16777216) (e.toNat :: n.toNat :: r.take (u / 4294967296 % 16777216)) ≠ u) : getF e n (u :: r) = none := by
  simp only [getF]
  rw [if_neg]
  rintro ⟨_, _, _, c⟩
  exact h c
theorem getF_yes {e n : Int} {u : Nat} {r : List Nat} (he : numOk e = true) (hn : numOk n = true) (h : headOk u (r.length + 1)) (h2 : mark (u / 72057594037927936) (u / 4294967296 % 16777216) (e.toNat :: n.toNat :: r.take (u / 4294967296 % 16777216)) = u) :
    getF e n (u :: r) = some (⟨(u / 72057594037927936 : Nat), r.take (u / 4294967296 % 16777216)⟩, u / 4294967296 % 16777216 + 1) := by
  simp only [getF]
  rw [if_pos ⟨he, hn, h, h2⟩]
theorem getF_len {e n : Int} {l : List Nat} {f : Frm} {k : Nat} (h : getF e n l = some (f, k)) : k = f.words.length + 1 ∧ k ≤ l.length ∧ 1 ≤ k ∧ f.words = (l.drop 1).take (k - 1) ∧ k ≤ 2001 ∧ f.kind ≠ 0 := by
  cases l with
  | nil => simp [getF] at h
  | cons u r =>
    simp only [getF] at h
    split at h
    · next c =>
      obtain ⟨_, _, ⟨c1, c2, c3⟩, _⟩ := c
      simp only [Option.some.injEq, Prod.mk.injEq] at h
      obtain ⟨rfl, rfl⟩ := h
      simp only [List.length_take, List.length_cons, List.drop_succ_cons, List.drop_zero, Nat.add_sub_cancel]
      refine ⟨?_, ?_, ?_, trivial, ?_, ?_⟩ <;> omega
    · cases h
theorem getF_num {e n : Int} {l : List Nat} {x : Frm × Nat} (h : getF e n l = some x) : numOk e = true ∧ numOk n = true := by
  cases l with
  | nil => simp [getF] at h
  | cons u r =>
    simp only [getF] at h
    split at h
    · next c => exact ⟨c.1, c.2.1⟩
    · cases h
/-- A frame that was put is told, whatever stands behind. -/
theorem getF_put (e n : Int) (f : Frm) (rest : List Nat) (he : numOk e = true) (hn : numOk n = true) (hf : frmOk f = true) : getF e n (putW e n f ++ rest) = some (f, f.words.length + 1) := by
  obtain ⟨h1, h2, h3⟩ := (frmOk_iff f).1 hf
  obtain ⟨kind, ws⟩ := f
  obtain ⟨K, rfl⟩ := Int.eq_ofNat_of_zero_le (show 0 ≤ kind by simp at h1; omega)
  simp only at h1 h2 h3
  have hm : mkOk ((K : Nat) : Int) (ws.length : Int) = true := by simp [mkOk]; omega
  have e1 : mkW ((K : Nat) : Int) (ws.length : Int) (e.toNat :: n.toNat :: ws) = mark K ws.length (e.toNat :: n.toNat :: ws) := by unfold mkW; rw [if_pos hm]; rfl
  have a1 := mark_kind K ws.length (e.toNat :: n.toNat :: ws) (by omega) (by omega)
  have a2 := mark_n K ws.length (e.toNat :: n.toNat :: ws) (by omega) (by omega)
  simp only [putW, List.cons_append, getF, headOk, e1, a1, a2, List.take_left]
  rw [if_pos ⟨he, hn, ⟨by omega, by omega, by simp⟩, trivial⟩]
/-- A frame that was cut isn't told. -/
theorem getF_cut (e n : Int) (f : Frm) (k : Nat) (hf : frmOk f = true) (hk : k < f.words.length + 1) : getF e n ((putW e n f).take k) = none := by
  obtain ⟨h1, h2, h3⟩ := (frmOk_iff f).1 hf
  obtain ⟨kind, ws⟩ := f
  obtain ⟨K, rfl⟩ := Int.eq_ofNat_of_zero_le (show 0 ≤ kind by simp at h1; omega)
  simp only at h1 h2 h3 hk
  have hm : mkOk ((K : Nat) : Int) (ws.length : Int) = true := by simp [mkOk]; omega
  have e1 : mkW ((K : Nat) : Int) (ws.length : Int) (e.toNat :: n.toNat :: ws) = mark K ws.length (e.toNat :: n.toNat :: ws) := by unfold mkW; rw [if_pos hm]; rfl
  have a2 := mark_n K ws.length (e.toNat :: n.toNat :: ws) (by omega) (by omega)
  cases k with
  | zero => rfl
  | succ k =>
    simp only [putW, List.take_succ_cons, getF, headOk, e1, a2]
    rw [if_neg]
    rintro ⟨_, _, ⟨_, _, c⟩, _⟩
    simp at c
    omega
theorem getF_zeros (e n : Int) (k : Nat) : getF e n (List.replicate k 0) = none := by
  cases k with
  | zero => rfl
  | succ k =>
    simp only [List.replicate_succ, getF]
    rw [if_neg]
    rintro ⟨_, _, ⟨c, _⟩, _⟩
    exact c rfl

/-- What is told by n frames. -/
def stepsF (e : Int) (l : List Nat) : Nat → Option (List Frm × Nat)
  | 0 => some ([], 0)
  | n + 1 => (stepsF e l n).bind fun p => (getF e n (l.drop p.2)).map fun q => (p.1 ++ [q.1], p.2 + q.2)
theorem stepsF_len {e : Int} {l : List Nat} {n : Nat} {fs : List Frm} {k : Nat} (h : stepsF e l n = some (fs, k)) : fs.length = n ∧ k ≤ l.length := by
  induction n generalizing fs k with
  | zero =>
    simp only [stepsF, Option.some.injEq, Prod.mk.injEq] at h
    obtain ⟨rfl, rfl⟩ := h
    exact ⟨rfl, by omega⟩
  | succ n ih =>
    simp only [stepsF, Option.bind_eq_some_iff, Option.map_eq_some_iff] at h
    obtain ⟨⟨gs, j⟩, h1, ⟨f, m⟩, h2, h3⟩ := h
    simp only [Prod.mk.injEq] at h3
    obtain ⟨rfl, rfl⟩ := h3
    obtain ⟨i1, i2⟩ := ih h1
    obtain ⟨_, g2, _⟩ := getF_len h2
    simp only [List.length_drop] at g2
    exact ⟨by simp [i1], by omega⟩
theorem stepsF_succ {e : Int} {l : List Nat} {fs : List Frm} {k : Nat} (h : stepsF e l fs.length = some (fs, k)) {f : Frm} {m : Nat} (hg : getF e fs.length (l.drop k) = some (f, m)) : stepsF e l (fs ++ [f]).length = some (fs ++ [f], k + m) := by
  rw [List.length_append, List.length_singleton, stepsF, h]
  simp [hg]
/-- All frames, and how many words they take. -/
def Told (e : Int) (l : List Nat) (fs : List Frm) (k : Nat) : Prop := stepsF e l fs.length = some (fs, k) ∧ getF e fs.length (l.drop k) = none
theorem stepsF_none {e : Int} {l : List Nat} {n : Nat} (h : stepsF e l n = none) (m : Nat) : stepsF e l (n + m) = none := by
  induction m with
  | zero => exact h
  | succ m ih => rw [← Nat.add_assoc, stepsF, ih]; rfl
theorem Told.next {e : Int} {l : List Nat} {fs : List Frm} {k : Nat} (h : Told e l fs k) : stepsF e l (fs.length + 1) = none := by
  rw [stepsF, h.1]
  simp [h.2]
theorem Told.uniq {e : Int} {l : List Nat} {fs gs : List Frm} {k j : Nat} (h : Told e l fs k) (h' : Told e l gs j) : fs = gs ∧ k = j := by
  have hle : ∀ {fs gs : List Frm} {k j : Nat}, Told e l fs k → Told e l gs j → gs.length ≤ fs.length := by
    intro fs gs k j h h'
    rcases Nat.lt_or_ge fs.length gs.length with c | c
    · obtain ⟨m, hm⟩ := Nat.exists_eq_add_of_le (show fs.length + 1 ≤ gs.length from c)
      have := stepsF_none h.next m
      rw [← hm, h'.1] at this
      cases this
    · exact c
  have e1 : fs.length = gs.length := Nat.le_antisymm (hle h' h) (hle h h')
  have := h.1
  rw [e1, h'.1] at this
  simp only [Option.some.injEq, Prod.mk.injEq] at this
  exact ⟨this.1.symm, this.2.symm⟩

/-- Frames as a stream. -/
def streamF (e : Int) : Nat → List Frm → List Nat
  | _, [] => []
  | i, f :: r => putW e i f ++ streamF e (i + 1) r
theorem streamF_app (e : Int) (a b : List Frm) (i : Nat) : streamF e i (a ++ b) = streamF e i a ++ streamF e (i + a.length) b := by
  induction a generalizing i with
  | nil => rfl
  | cons f r ih => simp [streamF, ih, Nat.add_assoc, Nat.add_comm 1]
theorem streamF_snoc (e : Int) (a : List Frm) (f : Frm) : streamF e 0 (a ++ [f]) = streamF e 0 a ++ putW e a.length f := by
  rw [streamF_app]
  simp [streamF]
theorem streamF_steps (e : Int) (a : List Frm) (rest : List Nat) (he : numOk e = true) (hok : ∀ f ∈ a, frmOk f = true) (hn : a.length ≤ 4294967296) :
    stepsF e (streamF e 0 a ++ rest) a.length = some (a, (streamF e 0 a).length) := by
  induction h : a.length generalizing a rest with
  | zero => obtain rfl := List.eq_nil_of_length_eq_zero h; rfl
  | succ m ih =>
    obtain ⟨b, f, rfl⟩ : ∃ b f, a = b ++ [f] := ⟨a.dropLast, a.getLast (by rintro rfl; simp at h), (List.dropLast_concat_getLast _).symm⟩
    have hb : b.length = m := by simpa using h
    subst hb
    simp only [List.length_append, List.length_singleton] at hn
    have h1 := ih b (putW e b.length f ++ rest) (fun g hg => hok g (by simp [hg])) (by omega) rfl
    have h2 := getF_put e b.length f rest he ((numOk_iff _).2 (by omega)) (hok f (by simp))
    rw [streamF_snoc, List.append_assoc]
    have h3 := stepsF_succ h1 (f := f) (m := f.words.length + 1) (by rw [List.drop_left]; exact h2)
    simp only [List.length_append, List.length_singleton] at h3
    rw [h3, List.length_append, putW_len]
/-- All frames of a stream, where none is told of what stands behind. -/
theorem streamF_told (e : Int) (a : List Frm) (rest : List Nat) (he : numOk e = true) (hok : ∀ f ∈ a, frmOk f = true) (hn : a.length ≤ 4294967296) (hr : getF e a.length rest = none) :
    Told e (streamF e 0 a ++ rest) a (streamF e 0 a).length := ⟨streamF_steps e a rest he hok hn, by rw [List.drop_left]; exact hr⟩
/-- A stream that is cut within its n-th frame. -/
theorem streamF_cut (e : Int) (l : List Frm) (n k : Nat) (he : numOk e = true) (hok : ∀ f ∈ l, frmOk f = true) (hn : l.length ≤ 4294967296) (hnl : n ≤ l.length) (h1 : (streamF e 0 (l.take n)).length ≤ k)
    (h2 : ∀ h : n < l.length, k < (streamF e 0 (l.take n)).length + 1 + l[n].words.length) : Told e ((streamF e 0 l).take k) (l.take n) (streamF e 0 (l.take n)).length := by
  have hl : (l.take n).length = n := by simp; omega
  have hs : streamF e 0 l = streamF e 0 (l.take n) ++ streamF e n (l.drop n) := by
    conv => lhs; rw [← List.take_append_drop n l, streamF_app, hl, Nat.zero_add]
  have hk : (streamF e 0 l).take k = streamF e 0 (l.take n) ++ (streamF e n (l.drop n)).take (k - (streamF e 0 (l.take n)).length) := by
    rw [hs, List.take_append, List.take_of_length_le h1]
  rw [hk]
  refine streamF_told e _ _ he (fun f hf => hok f (List.mem_of_mem_take hf)) (by omega) ?_
  rw [hl]
  rcases Nat.lt_or_ge n l.length with c | c
  · have h2' := h2 c
    rw [List.drop_eq_getElem_cons c, streamF, List.take_append_of_le_length (by rw [putW_len]; omega)]
    exact getF_cut e n l[n] _ (hok _ (List.getElem_mem c)) (by omega)
  · rw [List.drop_of_length_le c]
    simp [streamF, getF]
theorem streamF_len_snoc (e : Int) (l : List Frm) (n : Nat) (h : n < l.length) : (streamF e 0 (l.take (n + 1))).length = (streamF e 0 (l.take n)).length + 1 + l[n].words.length := by
  rw [List.take_succ_eq_append_getElem h, streamF_snoc, List.length_append, putW_len]
  omega
theorem streamF_lt (e : Int) (l : List Frm) (i : Nat) (h : ∀ f ∈ l, ∀ u ∈ f.words, u < 18446744073709551616) : ∀ u ∈ streamF e i l, u < 18446744073709551616 := by
  induction l generalizing i with
  | nil => intro u hu; simp [streamF] at hu
  | cons f r ih =>
    intro u hu
    rcases List.mem_append.1 hu with hu | hu
    · exact putW_lt e i f (h f (by simp)) u hu
    · exact ih (i + 1) (fun g hg => h g (by simp [hg])) u hu
end Go.Proofs.Ytdmllfjeofiddaa
