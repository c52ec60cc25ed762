/- A log, purely: the words of sectors, what opening clears, what appending writes, what a crash leaves. No program is spoken of. -/
import Derived.Test.YtdmllfjeofiddaaFrm6
import Derived.Test.YtdmllfjeofiddaaDev3
namespace Go.Proofs.Ytdmllfjeofiddaa

/-- The word a of the sectors from q on. -/
def wdS (f : Nat → List Nat) (q a : Nat) : Nat := (f (q + a / 8)).getD (a % 8) 0
/-- The words of n sectors from q on. -/
def partW (f : Nat → List Nat) (q n : Nat) : List Nat := (List.range (8 * n)).map (wdS f q)
theorem partW_len (f : Nat → List Nat) (q n : Nat) : (partW f q n).length = 8 * n := by simp [partW]
theorem partW_at (f : Nat → List Nat) (q n a : Nat) (h : a < 8 * n) : (partW f q n)[a]? = some (wdS f q a) := by simp [partW, h]
theorem partW_ext {f g : Nat → List Nat} {q n : Nat} (h : ∀ a, a < 8 * n → wdS f q a = wdS g q a) : partW f q n = partW g q n := by
  unfold partW
  exact List.map_congr_left fun a ha => h a (by simpa using ha)
theorem partW_lt {f : Nat → List Nat} {q n : Nat} (h : ∀ i, i < n → Sec (f (q + i))) : ∀ u ∈ partW f q n, u < 18446744073709551616 := by
  intro u hu
  simp only [partW, List.mem_map, List.mem_range] at hu
  obtain ⟨a, ha, rfl⟩ := hu
  have hs := h (a / 8) (by omega)
  unfold wdS
  have hl : a % 8 < (f (q + a / 8)).length := by rw [hs.len]; omega
  rw [List.getD, List.getElem?_eq_getElem hl]
  exact hs.lt _ (List.getElem_mem hl)
/-- Words are those of a list, with zeros behind. -/
theorem partW_eq {f : Nat → List Nat} {q n : Nat} {l : List Nat} (hl : l.length ≤ 8 * n) (h : ∀ a, a < 8 * n → wdS f q a = l.getD a 0) : partW f q n = l ++ List.replicate (8 * n - l.length) 0 := by
  refine List.ext_getElem? fun a => ?_
  by_cases ha : a < 8 * n
  · rw [partW_at f q n a ha, h a ha]
    by_cases hb : a < l.length
    · rw [List.getElem?_append_left hb, List.getD, List.getElem?_eq_getElem hb]
      rfl
    · rw [List.getElem?_append_right (by omega), List.getElem?_replicate, if_pos (by omega), List.getD, List.getElem?_eq_none (by omega)]
      rfl
  · rw [List.getElem?_eq_none (by rw [partW_len]; omega), List.getElem?_eq_none (by simp; omega)]
theorem partW_get {f : Nat → List Nat} {q n z : Nat} {l : List Nat} (h : partW f q n = l ++ List.replicate z 0) (a : Nat) (ha : a < 8 * n) : wdS f q a = l.getD a 0 := by
  have h1 := partW_at f q n a ha
  rw [h] at h1
  by_cases hb : a < l.length
  · rw [List.getElem?_append_left hb] at h1
    rw [List.getD, h1]
    rfl
  · rw [List.getElem?_append_right (by omega), List.getElem?_replicate] at h1
    rw [List.getD, List.getElem?_eq_none (by omega)]
    split at h1
    · injection h1 with h1
      rw [← h1]
      rfl
    · cases h1
theorem sec_of_words {s : List Nat} (h : Sec s) : s = (List.range 8).map fun k => s.getD k 0 := by
  obtain ⟨a, b, c, d, e, f, g, i, rfl⟩ := sec_lit h
  rfl

/-- What opening leaves of the sector i, where frames end at e. -/
def clrS (i e : Nat) (s : List Nat) : List Nat := (List.range 8).map fun k => if e ≤ 8 * i + k then 0 else s.getD k 0
theorem clrS_at (i e : Nat) (s : List Nat) (k : Nat) (hk : k < 8) : (clrS i e s).getD k 0 = if e ≤ 8 * i + k then 0 else s.getD k 0 := by simp [clrS, List.getD, hk]
theorem clrS_sec {s : List Nat} (h : Sec s) (i e : Nat) : Sec (clrS i e s) := by
  refine ⟨by simp [clrS], fun u hu => ?_⟩
  simp only [clrS, List.mem_map, List.mem_range] at hu
  obtain ⟨k, hk, rfl⟩ := hu
  split
  · omega
  · have hl : k < s.length := by rw [h.len]; exact hk
    rw [List.getD, List.getElem?_eq_getElem hl]
    exact h.lt _ (List.getElem_mem hl)
/-- The first m sectors cleared. -/
def clrD (D : Dv) (q m e : Nat) : Dv := { D with
  rd := fun k => if q ≤ k ∧ k < q + m then clrS (k - q) e (D.rd k) else D.rd k
  di := fun k => if (q ≤ k ∧ k < q + m) ∧ clrS (k - q) e (D.rd k) ≠ D.rd k then true else D.di k }
theorem clrD_zero (D : Dv) (q e : Nat) : clrD D q 0 e = D := by
  have h : ∀ k, ¬ (q ≤ k ∧ k < q + 0) := fun k => by omega
  simp only [clrD, h, if_false, false_and]
theorem clrD_succ (D : Dv) (q m e : Nat) : clrD D q (m + 1) e = if clrS m e (D.rd (q + m)) ≠ D.rd (q + m) then (clrD D q m e).write (q + m) (clrS m e (D.rd (q + m))) else clrD D q m e := by
  have hk : ∀ k, k ≠ q + m → ((q ≤ k ∧ k < q + (m + 1)) ↔ (q ≤ k ∧ k < q + m)) := fun k h => by omega
  by_cases hc : clrS m e (D.rd (q + m)) ≠ D.rd (q + m)
  · rw [if_pos hc]
    unfold clrD Dv.write
    simp only [Dv.mk.injEq, true_and]
    constructor
    · funext k
      by_cases h : k = q + m
      · subst h
        rw [upd_same, if_pos (by omega), show q + m - q = m by omega]
      · rw [upd_other _ _ _ _ h]
        simp only [hk k h]
    · funext k
      by_cases h : k = q + m
      · subst h
        rw [upd_same, if_pos ⟨by omega, by rw [show q + m - q = m by omega]; exact hc⟩]
      · rw [upd_other _ _ _ _ h]
        simp only [hk k h]
  · rw [if_neg hc]
    have hc' : clrS m e (D.rd (q + m)) = D.rd (q + m) := Classical.not_not.1 hc
    unfold clrD
    simp only [Dv.mk.injEq, true_and]
    constructor
    · funext k
      by_cases h : k = q + m
      · subst h
        rw [if_pos (by omega), if_neg (by omega), show q + m - q = m by omega, hc']
      · simp only [hk k h]
    · funext k
      by_cases h : k = q + m
      · subst h
        rw [if_neg (by rw [show q + m - q = m by omega]; exact fun h => h.2 hc'), if_neg (by omega)]
      · simp only [hk k h]
/-- Is one of the first m sectors cleared? -/
def clrAny (D : Dv) (q m e : Nat) : Bool := (List.range m).any fun i => decide (clrS i e (D.rd (q + i)) ≠ D.rd (q + i))
theorem clrAny_succ (D : Dv) (q m e : Nat) : clrAny D q (m + 1) e = (clrAny D q m e || decide (clrS m e (D.rd (q + m)) ≠ D.rd (q + m))) := by simp [clrAny, List.range_succ]
/-- A device behind opening. -/
def openD (D : Dv) (q n e : Nat) : Dv := if clrAny D q n e = true then (clrD D q n e).sync else clrD D q n e
theorem openD_rd (D : Dv) (q n e : Nat) : (openD D q n e).rd = (clrD D q n e).rd := by
  unfold openD
  split <;> rfl
theorem openD_n (D : Dv) (q n e : Nat) : (openD D q n e).n = D.n := by
  unfold openD
  split <;> rfl
theorem openD_part (D : Dv) (q n e : Nat) (he : e ≤ 8 * n) : partW (openD D q n e).rd q n = (partW D.rd q n).take e ++ List.replicate (8 * n - e) 0 := by
  have hl : ((partW D.rd q n).take e).length = e := by rw [List.length_take, partW_len]; omega
  have := partW_eq (f := (openD D q n e).rd) (q := q) (n := n) (l := (partW D.rd q n).take e) (by omega) (fun a ha => by
    rw [openD_rd]
    have h1 : wdS (clrD D q n e).rd q a = if e ≤ a then 0 else wdS D.rd q a := by
      unfold wdS clrD
      simp only
      rw [if_pos (by omega), show q + a / 8 - q = a / 8 by omega, clrS_at _ _ _ _ (by omega), show 8 * (a / 8) + a % 8 = a by omega]
    rw [h1]
    by_cases h : e ≤ a
    · rw [if_pos h, List.getD, List.getElem?_eq_none (by omega)]
      rfl
    · rw [if_neg h, List.getD, List.getElem?_take, if_pos (by omega), partW_at _ _ _ _ ha]
      rfl)
  rw [hl] at this
  exact this

/-- The sector i, where the words w are written from the word t on. -/
def appS (D : Dv) (q t : Nat) (w : List Nat) (i : Nat) : List Nat := (List.range 8).map fun k => if 8 * i + k < t then (D.rd (q + i)).getD k 0 else w.getD (8 * i + k - t) 0
theorem appS_at (D : Dv) (q t : Nat) (w : List Nat) (i k : Nat) (hk : k < 8) : (appS D q t w i).getD k 0 = if 8 * i + k < t then (D.rd (q + i)).getD k 0 else w.getD (8 * i + k - t) 0 := by simp [appS, List.getD, hk]
theorem getD_lt {l : List Nat} (h : ∀ u ∈ l, u < 18446744073709551616) (k : Nat) : l.getD k 0 < 18446744073709551616 := by
  rcases Nat.lt_or_ge k l.length with h1 | h1
  · rw [List.getD, List.getElem?_eq_getElem h1]
    exact h _ (List.getElem_mem h1)
  · rw [List.getD, List.getElem?_eq_none h1]
    show 0 < _
    omega
theorem appS_sec {D : Dv} {q t : Nat} {w : List Nat} {i : Nat} (h : Sec (D.rd (q + i))) (hw : ∀ u ∈ w, u < 18446744073709551616) : Sec (appS D q t w i) := by
  refine ⟨by simp [appS], fun u hu => ?_⟩
  simp only [appS, List.mem_map, List.mem_range] at hu
  obtain ⟨k, hk, rfl⟩ := hu
  split
  · exact getD_lt h.lt k
  · exact getD_lt hw _
/-- The sectors up to j of those that the words w are in. -/
def appTo (D : Dv) (q t : Nat) (w : List Nat) (j : Nat) : Dv := { D with
  rd := fun k => if q + t / 8 ≤ k ∧ k < q + j then appS D q t w (k - q) else D.rd k
  di := fun k => if q + t / 8 ≤ k ∧ k < q + j then true else D.di k }
theorem appTo_zero (D : Dv) (q t : Nat) (w : List Nat) : appTo D q t w (t / 8) = D := by
  have h : ∀ k, ¬ (q + t / 8 ≤ k ∧ k < q + t / 8) := fun k => by omega
  simp only [appTo, h, if_false]
theorem appTo_succ (D : Dv) (q t : Nat) (w : List Nat) (j : Nat) (hj : t / 8 ≤ j) : appTo D q t w (j + 1) = (appTo D q t w j).write (q + j) (appS D q t w j) := by
  have hk : ∀ k, k ≠ q + j → ((q + t / 8 ≤ k ∧ k < q + (j + 1)) ↔ (q + t / 8 ≤ k ∧ k < q + j)) := fun k h => by omega
  unfold appTo Dv.write
  simp only [Dv.mk.injEq, true_and]
  constructor
  · funext k
    by_cases h : k = q + j
    · subst h
      rw [upd_same, if_pos (by omega), show q + j - q = j by omega]
    · rw [upd_other _ _ _ _ h]
      simp only [hk k h]
  · funext k
    by_cases h : k = q + j
    · subst h
      rw [upd_same, if_pos (by omega)]
    · rw [upd_other _ _ _ _ h]
      simp only [hk k h]
theorem appTo_rd_new (D : Dv) (q t : Nat) (w : List Nat) (j : Nat) : (appTo D q t w j).rd (q + j) = D.rd (q + j) := by
  unfold appTo
  simp only
  rw [if_neg (by omega)]
/-- A device behind words that are written. -/
def appD (D : Dv) (q t : Nat) (w : List Nat) : Dv := appTo D q t w ((t + w.length + 7) / 8)
theorem appD_n (D : Dv) (q t : Nat) (w : List Nat) : (appD D q t w).n = D.n := rfl
theorem appD_part {D : Dv} {q n z : Nat} {l w : List Nat} (h : partW D.rd q n = l ++ List.replicate z 0) (hw : l.length + w.length ≤ 8 * n) : partW (appD D q l.length w).rd q n = (l ++ w) ++ List.replicate (8 * n - (l ++ w).length) 0 := by
  refine partW_eq (by simp; omega) (fun a ha => ?_)
  have h0 := partW_get h a ha
  have h1 : wdS (appD D q l.length w).rd q a = if l.length / 8 ≤ a / 8 ∧ a / 8 < (l.length + w.length + 7) / 8 then (if a < l.length then wdS D.rd q a else w.getD (a - l.length) 0) else wdS D.rd q a := by
    by_cases hc : l.length / 8 ≤ a / 8 ∧ a / 8 < (l.length + w.length + 7) / 8
    · rw [if_pos hc]
      unfold wdS appD appTo
      simp only
      rw [if_pos (by omega), show q + a / 8 - q = a / 8 by omega, appS_at _ _ _ _ _ _ (by omega), show 8 * (a / 8) + a % 8 = a by omega]
    · rw [if_neg hc]
      unfold wdS appD appTo
      simp only
      rw [if_neg (by omega)]
  rw [h1, h0]
  by_cases hl : a < l.length
  · have e : (l ++ w).getD a 0 = l.getD a 0 := by simp [List.getD, List.getElem?_append_left hl]
    rw [e]
    simp only [hl, if_true]
    split <;> rfl
  · have e : (l ++ w).getD a 0 = w.getD (a - l.length) 0 := by simp [List.getD, List.getElem?_append_right (show l.length ≤ a by omega)]
    rw [e]
    have e0 : l.getD a 0 = 0 := by rw [List.getD, List.getElem?_eq_none (by omega)]; rfl
    simp only [hl, if_false]
    split
    · rfl
    · rw [e0, List.getD, List.getElem?_eq_none (by omega)]
      rfl

/-- What is told is a stream. -/
theorem getF_stream {e n : Int} {l : List Nat} {f : Frm} {k : Nat} (h64 : ∀ u ∈ l, u < 18446744073709551616) (h : getF e n l = some (f, k)) : l.take k = putW e n f ∧ frmOk f = true := by
  cases l with
  | nil => simp [getF] at h
  | cons u r =>
    simp only [getF] at h
    split at h
    · next c =>
      obtain ⟨c1, c2, ⟨c3, c4, c5⟩, c6⟩ := c
      simp only [Option.some.injEq, Prod.mk.injEq] at h
      obtain ⟨rfl, rfl⟩ := h
      have hu := h64 u (by simp)
      have hlen : (r.take (u / 4294967296 % 16777216)).length = u / 4294967296 % 16777216 := by rw [List.length_take]; omega
      constructor
      · rw [List.take_succ_cons]
        unfold putW
        simp only
        congr 1
        rw [hlen]
        unfold mkW
        rw [if_pos (by simp [mkOk]; omega)]
        exact c6.symm
      · rw [frmOk_iff]
        simp only [hlen]
        omega
    · cases h
theorem stepsF_stream {e : Int} {l : List Nat} (h64 : ∀ u ∈ l, u < 18446744073709551616) {n : Nat} {fs : List Frm} {k : Nat} (h : stepsF e l n = some (fs, k)) : l.take k = streamF e 0 fs ∧ ∀ f ∈ fs, frmOk f = true := by
  induction n generalizing fs k with
  | zero =>
    simp only [stepsF, Option.some.injEq, Prod.mk.injEq] at h
    obtain ⟨rfl, rfl⟩ := h
    simp [streamF]
  | succ n ih =>
    simp only [stepsF, Option.bind_eq_some_iff, Option.map_eq_some_iff] at h
    obtain ⟨⟨gs, j⟩, h1, ⟨f, m⟩, h2, h3⟩ := h
    simp only [Prod.mk.injEq] at h3
    obtain ⟨rfl, rfl⟩ := h3
    obtain ⟨i1, i2⟩ := ih h1
    have hl := (stepsF_len h1).1
    obtain ⟨g1, g2⟩ := getF_stream (fun u hu => h64 u (List.mem_of_mem_drop hu)) h2
    refine ⟨?_, fun g hg => ?_⟩
    · rw [streamF_snoc, ← i1, hl, ← g1, List.take_add]
    · rcases List.mem_append.1 hg with hg | hg
      · exact i2 g hg
      · rw [List.mem_singleton.1 hg]
        exact g2
theorem streamF_len (e : Int) (i : Nat) (l : List Frm) : l.length ≤ (streamF e i l).length := by
  induction l generalizing i with
  | nil => simp
  | cons f r ih =>
    have := ih (i + 1)
    simp only [streamF, List.length_append, putW_len, List.length_cons]
    omega
/-- A stream at the beginning is told. -/
theorem told_begin {e : Int} {a : List Frm} {rest : List Nat} (he : numOk e = true) (hok : ∀ f ∈ a, frmOk f = true) (hn : a.length ≤ 4294967296) {fs : List Frm} {k : Nat} (h : Told e (streamF e 0 a ++ rest) fs k) : a.length ≤ fs.length ∧ fs.take a.length = a := by
  have h1 := streamF_steps e a rest he hok hn
  have hle : a.length ≤ fs.length := by
    rcases Nat.lt_or_ge fs.length a.length with c | c
    · obtain ⟨m, hm⟩ := Nat.exists_eq_add_of_le (show fs.length + 1 ≤ a.length from c)
      have := stepsF_none h.next m
      rw [← hm, h1] at this
      cases this
    · exact c
  refine ⟨hle, ?_⟩
  have hpre : ∀ m gs j, stepsF e (streamF e 0 a ++ rest) (a.length + m) = some (gs, j) → gs.take a.length = a := by
    intro m
    induction m with
    | zero =>
      intro gs j h2
      rw [Nat.add_zero, h1] at h2
      injection h2 with h2
      simp only [Prod.mk.injEq] at h2
      rw [← h2.1, List.take_length]
    | succ m ih =>
      intro gs j h2
      rw [← Nat.add_assoc, stepsF] at h2
      simp only [Option.bind_eq_some_iff, Option.map_eq_some_iff] at h2
      obtain ⟨⟨gs', j'⟩, h3, ⟨f, m'⟩, h4, h5⟩ := h2
      simp only [Prod.mk.injEq] at h5
      obtain ⟨rfl, rfl⟩ := h5
      have := ih gs' j' h3
      have hl := (stepsF_len h3).1
      rw [List.take_append_of_le_length (by omega)]
      exact this
  obtain ⟨m, hm⟩ := Nat.exists_eq_add_of_le hle
  have h2 := h.1
  rw [hm] at h2
  exact hpre m _ _ h2

/-- A log. -/
structure Lg where
  q : Nat
  n : Nat
  ep : Int
  L : List Frm
def Lg.used (M : Lg) : Nat := (streamF M.ep 0 M.L).length
/-- A log's words stand in its sectors, zeros behind them. -/
structure LInv (D : Dv) (M : Lg) : Prop where
  fits : M.q + M.n ≤ D.n
  pos : 1 ≤ M.n
  small : M.n ≤ 4096
  num : numOk M.ep = true
  ok : ∀ f ∈ M.L, frmOk f = true
  lies : ∃ z, partW D.rd M.q M.n = streamF M.ep 0 M.L ++ List.replicate z 0
theorem LInv.used_le {D : Dv} {M : Lg} (h : LInv D M) : M.used ≤ 8 * M.n := by
  obtain ⟨z, hz⟩ := h.lies
  have := congrArg List.length hz
  rw [partW_len, List.length_append] at this
  unfold Lg.used
  omega
theorem LInv.len {D : Dv} {M : Lg} (h : LInv D M) : M.L.length ≤ 32768 := by
  have := h.used_le
  have h2 := streamF_len M.ep 0 M.L
  have h3 := h.small
  unfold Lg.used at this
  omega
/-- Opened, it is a log. -/
theorem open_inv {D : Dv} (hD : D.Ok) {q n : Nat} {ep : Int} {fs : List Frm} {k : Nat} (hf : q + n ≤ D.n) (hp : 1 ≤ n) (hs : n ≤ 4096) (he : numOk ep = true) (h : Told ep (partW D.rd q n) fs k) :
    LInv (openD D q n k) ⟨q, n, ep, fs⟩ ∧ k = (streamF ep 0 fs).length ∧ k ≤ 8 * n := by
  have h64 := partW_lt (f := D.rd) (q := q) (n := n) (fun i hi => hD.rd _ (by omega))
  obtain ⟨h1, h2⟩ := stepsF_stream h64 h.1
  have hk := (stepsF_len h.1).2
  rw [partW_len] at hk
  have hkl : k = (streamF ep 0 fs).length := by rw [← h1, List.length_take, partW_len]; omega
  refine ⟨⟨by rw [openD_n]; exact hf, hp, hs, he, h2, ⟨8 * n - k, ?_⟩⟩, hkl, hk⟩
  show partW (openD D q n k).rd q n = streamF ep 0 fs ++ List.replicate (8 * n - k) 0
  rw [openD_part D q n k hk, h1]
/-- A log told of its own sectors. -/
theorem LInv.told {D : Dv} {M : Lg} (h : LInv D M) : Told M.ep (partW D.rd M.q M.n) M.L M.used := by
  obtain ⟨z, hz⟩ := h.lies
  rw [hz]
  exact streamF_told M.ep M.L _ h.num h.ok (by have := h.len; omega) (getF_zeros _ _ _)
/-- What appending answers, and what it leaves. -/
def Lg.roomFor (M : Lg) (f : Frm) : Bool := decide (M.used + (f.words.length + 1) ≤ 8 * M.n)
def appE (M : Lg) (f : Frm) : Nat := if frmOk f = true then (if M.roomFor f = true then 0 else 4) else 1
def appM (M : Lg) (f : Frm) : Lg := if frmOk f = true ∧ M.roomFor f = true then { M with L := M.L ++ [f] } else M
def appDv (D : Dv) (M : Lg) (f : Frm) : Dv := if frmOk f = true ∧ M.roomFor f = true then appD D M.q M.used (putW M.ep M.L.length f) else D
theorem appDv_n (D : Dv) (M : Lg) (f : Frm) : (appDv D M f).n = D.n := by unfold appDv; split <;> rfl
theorem append_inv {D : Dv} {M : Lg} (h : LInv D M) (f : Frm) : LInv (appDv D M f) (appM M f) := by
  unfold appDv appM
  by_cases hc : frmOk f = true ∧ M.roomFor f = true
  · rw [if_pos hc, if_pos hc]
    obtain ⟨z, hz⟩ := h.lies
    have hr : M.used + (f.words.length + 1) ≤ 8 * M.n := by simpa [Lg.roomFor] using hc.2
    refine ⟨h.fits, h.pos, h.small, h.num, fun g hg => ?_, ⟨8 * M.n - (streamF M.ep 0 (M.L ++ [f])).length, ?_⟩⟩
    · rcases List.mem_append.1 hg with hg | hg
      · exact h.ok g hg
      · rw [List.mem_singleton.1 hg]
        exact hc.1
    · have := appD_part hz (w := putW M.ep M.L.length f) (by rw [putW_len]; exact hr)
      rw [← streamF_snoc] at this
      exact this
  · rw [if_neg hc, if_neg hc]
    exact h
end Go.Proofs.Ytdmllfjeofiddaa
/- A log, purely: behind a crash. No program is spoken of. -/
namespace Go.Proofs.Ytdmllfjeofiddaa

theorem after_or (D : Dv) (keep : List Bool) (i : Nat) : D.after keep i = D.rd i ∨ D.after keep i = D.la i := by
  unfold Dv.after
  split
  · exact .inl rfl
  · exact .inr rfl
/-- What lasts, and what is read, begin with the same words: so they do behind a crash. -/
theorem crash_begin {D : Dv} {q n z : Nat} {l m : List Nat} {k : Nat} (hk : k ≤ 8 * n) (h1 : ∀ a, a < k → wdS D.rd q a = l.getD a 0) (h2 : ∀ a, a < k → wdS D.la q a = l.getD a 0) (keep : List Bool) : ∀ a, a < k → wdS (D.crash keep).rd q a = l.getD a 0 := by
  intro a ha
  have e : wdS (D.crash keep).rd q a = wdS D.rd q a ∨ wdS (D.crash keep).rd q a = wdS D.la q a := by
    unfold wdS
    show (D.after keep _).getD _ 0 = _ ∨ (D.after keep _).getD _ 0 = _
    rcases after_or D keep (q + a / 8) with h | h
    · rw [h]; exact .inl rfl
    · rw [h]; exact .inr rfl
  rcases e with e | e
  · rw [e, h1 a ha]
  · rw [e, h2 a ha]
theorem crash_word (D : Dv) (keep : List Bool) (q a : Nat) : wdS (D.crash keep).rd q a = wdS D.rd q a ∨ wdS (D.crash keep).rd q a = wdS D.la q a := by
  unfold wdS
  show (D.after keep _).getD _ 0 = _ ∨ (D.after keep _).getD _ 0 = _
  rcases after_or D keep (q + a / 8) with h | h
  · rw [h]; exact .inl rfl
  · rw [h]; exact .inr rfl
/-- Words that begin with a list are that list, and others. -/
theorem part_begin {f : Nat → List Nat} {q n : Nat} {l : List Nat} (hl : l.length ≤ 8 * n) (h : ∀ a, a < l.length → wdS f q a = l.getD a 0) : partW f q n = l ++ (partW f q n).drop l.length := by
  conv => lhs; rw [← List.take_append_drop l.length (partW f q n)]
  congr 1
  refine List.ext_getElem? fun a => ?_
  rw [List.getElem?_take]
  by_cases ha : a < l.length
  · rw [if_pos ha, partW_at _ _ _ _ (by omega), h a ha, List.getD, List.getElem?_eq_getElem ha]
    rfl
  · rw [if_neg ha, List.getElem?_eq_none (by omega)]

/-- From one state of a log to a later one: frames were appended; what lasts is as it was. -/
structure Grew (D0 D : Dv) (M0 M : Lg) : Prop where
  q : M.q = M0.q
  n : M.n = M0.n
  ep : M.ep = M0.ep
  pre : ∃ r, M.L = M0.L ++ r
  la : D.la = D0.la
  n' : D.n = D0.n
theorem Grew.refl (D : Dv) (M : Lg) : Grew D D M M := ⟨rfl, rfl, rfl, ⟨[], by simp⟩, rfl, rfl⟩
theorem appDv_la (D : Dv) (M : Lg) (f : Frm) : (appDv D M f).la = D.la := by unfold appDv; split <;> rfl
theorem Grew.app {D0 D : Dv} {M0 M : Lg} (h : Grew D0 D M0 M) (f : Frm) : Grew D0 (appDv D M f) M0 (appM M f) := by
  obtain ⟨r, hr⟩ := h.pre
  refine ⟨?_, ?_, ?_, ?_, by rw [appDv_la]; exact h.la, by rw [appDv_n]; exact h.n'⟩
  · unfold appM; split <;> exact h.q
  · unfold appM; split <;> exact h.n
  · unfold appM; split <;> exact h.ep
  · unfold appM
    split
    · exact ⟨r ++ [f], by simp [hr]⟩
    · exact ⟨r, hr⟩
/-- Behind a crash the frames that were there when all lasted are there, the first ones. -/
theorem grew_lasts {D0 D : Dv} {M0 M : Lg} (hg : Grew D0 D M0 M) (h0 : LInv D0 M0) (hl : ∀ a, wdS D0.la M0.q a = wdS D0.rd M0.q a) (h : LInv D M) (keep : List Bool) {fs : List Frm} {k : Nat} (ht : Told M0.ep (partW (D.crash keep).rd M0.q M0.n) fs k) :
    M0.L.length ≤ fs.length ∧ fs.take M0.L.length = M0.L := by
  obtain ⟨z0, hz0⟩ := h0.lies
  obtain ⟨z, hz⟩ := h.lies
  obtain ⟨r, hr⟩ := hg.pre
  rw [hg.q, hg.n, hg.ep, hr, streamF_app] at hz
  have hu := h0.used_le
  unfold Lg.used at hu
  have hb := part_begin (f := (D.crash keep).rd) (q := M0.q) (n := M0.n) (l := streamF M0.ep 0 M0.L) hu (fun a ha => by
    rcases crash_word D keep M0.q a with e | e
    · rw [e, partW_get hz a (by omega), List.getD, List.getElem?_append_left ha]
      rfl
    · rw [e, hg.la, hl, partW_get hz0 a (by omega)])
  rw [hb] at ht
  exact told_begin h0.num h0.ok (by have := h0.len; omega) ht
/-- Behind a crash a frame that differs from what was appended has its kind, and as many words. -/
theorem told_at {e : Int} {l : List Nat} {n : Nat} {fs : List Frm} {k : Nat} (h : stepsF e l n = some (fs, k)) (i : Nat) (hi : i < n) : ∃ gs j f m, stepsF e l i = some (gs, j) ∧ gs = fs.take i ∧ fs[i]? = some f ∧ getF e i (l.drop j) = some (f, m) := by
  induction n generalizing fs k with
  | zero => omega
  | succ n ih =>
    simp only [stepsF, Option.bind_eq_some_iff, Option.map_eq_some_iff] at h
    obtain ⟨⟨gs, j⟩, h1, ⟨f, m⟩, h2, h3⟩ := h
    simp only [Prod.mk.injEq] at h3
    obtain ⟨rfl, rfl⟩ := h3
    have hl := (stepsF_len h1).1
    rcases Nat.lt_or_ge i n with c | c
    · obtain ⟨gs', j', f', m', a1, a2, a3, a4⟩ := ih h1 c
      refine ⟨gs', j', f', m', a1, ?_, ?_, a4⟩
      · rw [List.take_append_of_le_length (by omega)]
        exact a2
      · rw [List.getElem?_append_left (by omega)]
        exact a3
    · obtain rfl : i = n := by omega
      refine ⟨gs, j, f, m, h1, ?_, ?_, h2⟩
      · rw [List.take_append_of_le_length (by omega), List.take_of_length_le (by omega)]
      · rw [List.getElem?_append_right (by omega), hl, Nat.sub_self]
        rfl
theorem grew_lost {D0 D : Dv} {M0 M : Lg} (hg : Grew D0 D M0 M) (h0 : LInv D0 M0) (hD0 : D0.Ok) (hD : D.Ok) (hl : ∀ a, wdS D0.la M0.q a = wdS D0.rd M0.q a) (h : LInv D M) (keep : List Bool) {fs : List Frm} {k : Nat} (ht : Told M0.ep (partW (D.crash keep).rd M0.q M0.n) fs k)
    (i : Nat) (hi : fs.take i = M.L.take i) (hif : i ≤ fs.length) (hiM : i ≤ M.L.length) :
    (i = M.L.length → i = fs.length) ∧ (∀ f g, fs[i]? = some f → M.L[i]? = some g → f ≠ g → f.kind = g.kind ∧ f.words.length = g.words.length) := by
  obtain ⟨z0, hz0⟩ := h0.lies
  obtain ⟨z, hz⟩ := h.lies
  obtain ⟨r, hr⟩ := hg.pre
  rw [hg.q, hg.n, hg.ep] at hz
  have h64 := partW_lt (f := (D.crash keep).rd) (q := M0.q) (n := M0.n) (fun j hj => (hD.crash keep).rd _ (by show _ < D.n; rw [hg.n']; have := h0.fits; omega))
  have hu0 := h0.used_le
  have hu := h.used_le
  unfold Lg.used at hu0 hu
  rw [hg.n, hg.ep] at hu
  obtain ⟨hle, htk⟩ := grew_lasts hg h0 hl h keep ht
  have hlenf := (stepsF_len ht.1).1
  -- each word is what was appended, or what lasts
  have hw : ∀ a, a < 8 * M0.n → wdS (D.crash keep).rd M0.q a = (streamF M0.ep 0 M.L).getD a 0 ∨ wdS (D.crash keep).rd M0.q a = (streamF M0.ep 0 M0.L).getD a 0 := by
    intro a ha
    rcases crash_word D keep M0.q a with e | e
    · exact .inl (by rw [e, partW_get hz a ha])
    · exact .inr (by rw [e, hg.la, hl, partW_get hz0 a ha])
  -- a frame that is told at i
  have hgo : i < fs.length → ∃ f m, fs[i]? = some f ∧ getF M0.ep i ((partW (D.crash keep).rd M0.q M0.n).drop (streamF M0.ep 0 (M.L.take i)).length) = some (f, m) := by
    intro hlt
    obtain ⟨gs, j, f, m, a1, a2, a3, a4⟩ := told_at ht.1 i hlt
    obtain ⟨b1, -⟩ := stepsF_stream h64 a1
    have b2 := (stepsF_len a1).2
    have hj : j = (streamF M0.ep 0 (M.L.take i)).length := by rw [← hi, ← a2, ← b1, List.length_take]; omega
    exact ⟨f, m, a3, by rw [← hj]; exact a4⟩
  have hsplit : streamF M0.ep 0 M.L = streamF M0.ep 0 (M.L.take i) ++ streamF M0.ep i (M.L.drop i) := by
    conv => lhs; rw [← List.take_append_drop i M.L, streamF_app, List.length_take, Nat.min_eq_left hiM, Nat.zero_add]
  -- the word at which the frame at i begins
  have hfirst : i < fs.length → M0.L.length ≤ i → ∀ f, fs[i]? = some f → ∃ u rest, streamF M0.ep i (M.L.drop i) = u :: rest ∧ f.kind = (u / 72057594037927936 : Nat) ∧ f.words.length = u / 4294967296 % 16777216 := by
    intro hlt hge f hf
    obtain ⟨f', m, c1, c2⟩ := hgo hlt
    rw [hf] at c1
    injection c1 with c1
    subst c1
    cases hx : (partW (D.crash keep).rd M0.q M0.n).drop (streamF M0.ep 0 (M.L.take i)).length with
    | nil => rw [hx] at c2; simp [getF] at c2
    | cons u rest =>
      rw [hx] at c2
      have hp : (streamF M0.ep 0 (M.L.take i)).length < 8 * M0.n := by
        have := congrArg List.length hx
        rw [List.length_drop, partW_len, List.length_cons] at this
        omega
      have hu1 : wdS (D.crash keep).rd M0.q (streamF M0.ep 0 (M.L.take i)).length = u := by
        have h1 := partW_at (D.crash keep).rd M0.q M0.n _ hp
        have h2 : ((partW (D.crash keep).rd M0.q M0.n).drop (streamF M0.ep 0 (M.L.take i)).length)[0]? = some u := by rw [hx]; rfl
        rw [List.getElem?_drop, Nat.add_zero, h1] at h2
        injection h2
      have hnz : u ≠ 0 := by
        rintro rfl
        rw [getF_no (by rintro ⟨c, -⟩; exact c rfl)] at c2
        cases c2
      have hpre : ∃ r', M.L.take i = M0.L ++ r' := ⟨r.take (i - M0.L.length), by rw [hr, List.take_append, List.take_of_length_le hge]⟩
      obtain ⟨r', hr'⟩ := hpre
      have hge2 : (streamF M0.ep 0 M0.L).length ≤ (streamF M0.ep 0 (M.L.take i)).length := by rw [hr', streamF_app, List.length_append]; omega
      have hu2 : u = (streamF M0.ep i (M.L.drop i)).getD 0 0 := by
        rcases hw _ hp with e | e
        · rw [hu1, hsplit, List.getD, List.getElem?_append_right (Nat.le_refl _), Nat.sub_self] at e
          exact e
        · rw [hu1, List.getD, List.getElem?_eq_none (by omega)] at e
          exact absurd e hnz
      cases hs : streamF M0.ep i (M.L.drop i) with
      | nil => rw [hs] at hu2; exact absurd hu2 hnz
      | cons v rest' =>
        rw [hs] at hu2
        have : u = v := hu2
        subst this
        refine ⟨u, rest', rfl, ?_⟩
        simp only [getF] at c2
        split at c2
        · next c =>
          obtain ⟨-, -, ⟨-, -, c5⟩, -⟩ := c
          simp only [Option.some.injEq, Prod.mk.injEq] at c2
          obtain ⟨rfl, -⟩ := c2
          exact ⟨rfl, by simp only [List.length_take]; omega⟩
        · cases c2
  constructor
  · intro hiL
    rcases Nat.lt_or_ge i fs.length with c | c
    · obtain ⟨f, m, c1, -⟩ := hgo c
      have hge : M0.L.length ≤ i := by rw [hiL, hr, List.length_append]; omega
      obtain ⟨u, rest, hs, -, -⟩ := hfirst c hge f c1
      rw [hiL, List.drop_length] at hs
      cases hs
    · omega
  · intro f g hf hgg hne
    have hlt : i < fs.length := (List.getElem?_eq_some_iff.1 hf).1
    have hltM : i < M.L.length := (List.getElem?_eq_some_iff.1 hgg).1
    have hge : M0.L.length ≤ i := by
      rcases Nat.lt_or_ge i M0.L.length with c | c
      · exfalso
        apply hne
        have e1 : fs[i]? = M0.L[i]? := by rw [← htk, List.getElem?_take, if_pos c]
        have e2 : M.L[i]? = M0.L[i]? := by rw [hr, List.getElem?_append_left c]
        rw [hf] at e1
        rw [hgg, ← e1] at e2
        injection e2 with e2
        exact e2.symm
      · exact c
    obtain ⟨u, rest, hs, k1, k2⟩ := hfirst hlt hge f hf
    have hgM : g ∈ M.L := List.mem_of_getElem? hgg
    have hok := (frmOk_iff g).1 (h.ok g hgM)
    have hd : M.L.drop i = g :: M.L.drop (i + 1) := by
      rw [List.drop_eq_getElem_cons hltM]
      congr 1
      rw [List.getElem?_eq_getElem hltM] at hgg
      injection hgg
    rw [hd, streamF] at hs
    have hu3 : u = mkW g.kind g.words.length (M0.ep.toNat :: i :: g.words) := by
      unfold putW at hs
      simp only [List.cons_append, Int.toNat_natCast] at hs
      injection hs with hs _
      exact hs.symm
    obtain ⟨K, hK⟩ := Int.eq_ofNat_of_zero_le (show 0 ≤ g.kind by omega)
    have hmk : u = mark K g.words.length (M0.ep.toNat :: i :: g.words) := by
      rw [hu3, hK]
      unfold mkW
      rw [if_pos (by simp [mkOk]; omega)]
      rfl
    have a1 := mark_kind K g.words.length (M0.ep.toNat :: i :: g.words) (by omega) (by omega)
    have a2 := mark_n K g.words.length (M0.ep.toNat :: i :: g.words) (by omega) (by omega)
    rw [k1, k2, hmk, a1, a2, hK]
    exact ⟨rfl, rfl⟩
end Go.Proofs.Ytdmllfjeofiddaa
