/- What the calls of a codes.Reader do: what is read as a count, a number with a sign, a flag, a text, a list of words, and what is left. -/
import Derived.Test.YtbemfomiiikpoaaGreatCodesW
import Derived.Test.YtbemfomiiikpoaaGreatRead
namespace Go.Proofs.YtbemfomiiikpoaaGreat
open Go.RowKit

/-- The byte i of the words. -/
def ub (ws : List Nat) (i : Nat) : Nat := ws.getD (i / 8) 0 / 2 ^ (i % 8 * 8) % 256
def unp (ws : List Nat) (n : Nat) : List Nat := (List.range n).map (ub ws)
theorem unp_len (ws : List Nat) (n : Nat) : (unp ws n).length = n := by simp [unp]
theorem unp_succ (ws : List Nat) (n : Nat) : unp ws (n + 1) = unp ws n ++ [ub ws n] := by simp [unp, List.range_succ]

/-- Whether nothing but zeros stands behind the first n bytes. -/
def padB (ws : List Nat) (n m : Nat) : Bool := (List.range (8 * m)).all fun i => decide (i < n) || ub ws i == 0
theorem padB_yes {ws : List Nat} {n m : Nat} (h : ∀ i, n ≤ i → i < 8 * m → ub ws i = 0) : padB ws n m = true := by
  simp only [padB, List.all_eq_true, List.mem_range, Bool.or_eq_true, decide_eq_true_eq, beq_iff_eq]
  intro i hi
  rcases Nat.lt_or_ge i n with h1 | h1
  · exact .inl h1
  · exact .inr (h i h1 hi)
theorem padB_no {ws : List Nat} {n m i : Nat} (h1 : n ≤ i) (h2 : i < 8 * m) (h : ub ws i ≠ 0) : padB ws n m = false := by
  rw [Bool.eq_false_iff]
  intro ht
  simp only [padB, List.all_eq_true, List.mem_range, Bool.or_eq_true, decide_eq_true_eq, beq_iff_eq] at ht
  rcases ht i h2 with h3 | h3
  · omega
  · exact h h3
theorem ub_lt (ws : List Nat) (i : Nat) : ub ws i < 256 := Nat.mod_lt _ (by omega)
/-- The text that words have, or none, and whether they are one. -/
def TextOf (w : World) (ws : List Nat) (n m : Nat) (e : Ending) (w' : World) : Prop :=
  e = .returned (.tuple #[.string (if padB ws n m = true then ofB (unp ws n) else ⟨#[]⟩), .bool (padB ws n m)]) ∧ Fr No w w'

set_option maxRecDepth 100000 in
set_option maxHeartbeats 2000000 in
theorem unpack_any (ws : List Nat) (n m : Nat) (A : Option Addr) (c : Nat) (w : World) (hsl : Sl w w.heap.size A (u64s ws)) (h64 : ∀ u ∈ ws, u < 18446744073709551616) (hm : ws.length = m) (hn : n ≤ 64) (hm2 : m ≤ 4096) (hnm : n ≤ 8 * m) :
    Calls Tryz.prog 111 #[.slice A m c, .int .i64 n] w (TextOf w ws n m) := by
  have Hm := Lib.hid hm
  clear hm
  have H64 := Lib.hid h64
  clear h64
  have hmk := fun W => run_make_cap (P := Tryz.prog) 137 5 (.int .u8 0) 1 Tryz.underlying137 info5 rfl .i64 .i64 n (by omega) (by omega) W
  go_enter Tryz.func111, Tryz.ntmps111
  go_wp2
  go_loopw [6, 14] (fun b i wr => ∃ (k j : Nat) (A2 : Option Addr) (c2 : Nat), k ≤ 8 * m ∧ i = .int .i64 k ∧ Hid (j = min k n) ∧ j ≤ n ∧ b = .slice A2 j c2 ∧ wr.ownsRow w.heap.size 5 1 (.slice A2 j c2) j (u8s (unp ws j)) ∧ Hid (∀ i, n ≤ i → i < k → ub ws i = 0) ∧ Fr No w wr) (fun _ i _ => 8 * m - (intOf i).toNat)
  case atStart => exact ⟨0, 0, _, n, Nat.zero_le _, rfl, Lib.hid (by simp), Nat.zero_le _, rfl, World.ownsRow_made w _ n (Nat.le_refl _) (by unfold maxLen; omega) (by simp [madeCells]), Lib.hid (by intro i _ h; omega), (Fr.refl _ _).alloc _⟩
  case round =>
    obtain ⟨k, j, A2, c2, hk, rfl, hj, hjn, rfl, hown, hz, hfr⟩ := hrel
    by_cases hlt : k < 8 * m
    · obtain ⟨q, hq⟩ : ∃ q, q = k / 8 := ⟨_, rfl⟩
      obtain ⟨r, hr⟩ : ∃ r, r = k % 8 * 8 := ⟨_, rfl⟩
      have hqm : q < m := by omega
      have hr64 : r < 64 := by omega
      have hqw : q < ws.length := by rw [Hm.out]; exact hqm
      obtain ⟨ad, rfl, hadB, hc0⟩ := hsl.wordB hqw
      have hb := hfr.below0
      obtain ⟨v, hv⟩ : ∃ v, v = ws[q] := ⟨_, rfl⟩
      have hc : wr.cell? (ad.add q) = some (.int .u64 v) := by
        rw [hb.cell (by rw [block_add]; exact hadB), hc0, hv]
      have hv64 : v < 18446744073709551616 := by rw [hv]; exact H64.out _ (List.getElem_mem hqw)
      have hub : ub ws k = v / 2 ^ r % 256 := by
        unfold ub
        rw [← hq, ← hr, hv]
        simp [List.getD, hqw]
      obtain ⟨y, hy⟩ : ∃ y, y = ub ws k := ⟨_, rfl⟩
      have hy256 : y < 256 := by rw [hy]; exact ub_lt ws k
      have hmin : min (r : Int).toNat 64 = r := by omega
      have hshr : ((v : Int) / 2 ^ r : Int) % 256 = (y : Int) := by rw [hy, hub]; simp
      have hq1 : (k : Int) / 8 = (q : Int) := by omega
      have hq2 : IntKind.i64.wrap (q : Int) = q := IntWalk.i64_in _ (by omega)
      have hu8 : IntKind.u8.wrap ((v : Int) / 2 ^ r) = (y : Int) := by rw [← hshr]; simp [IntKind.wrap, IntKind.bits, IntKind.signed]
      have Hq := Lib.hid hq
      have Hr := Lib.hid hr
      have Hy := Lib.hid hy
      clear hq hr hv hub hy hc0 hshr
      by_cases hkn : k < n
      · obtain rfl : j = k := by have := hj.out; omega
        go_wp2
        go_quiet ((go_at_call 93; exact Calls.quiet_of_same (shift_any j r (by omega) Hr.out _)))
        clear hq1 hq2
        go_wp2_with (at_builtin; refine wpList_append_one rfl _ _ _ rfl w.heap.size 5 _ 1 Tryz.underlying137 info5 rfl (.slice A2 j c2) j (u8s (unp ws j)) (.int .u8 y) rfl rfl _ rfl rfl hown (by unfold maxLen; omega) (by omega) hfr.size ?_; intro A3 c3 w3 hown3 hf3 hg3)
        go_roundw
        case rel =>
          refine ⟨j + 1, j + 1, A3, c3, by omega, by go_num, Lib.hid (by omega), by omega, rfl, ?_, Lib.hid (fun i h1 h2 => by omega), ?_⟩
          · rw [unp_succ, u8s_app, ← Hy.out]
            exact hown3
          · exact (hfr.drewN _).then0 hf3 (fun i hi => (hown.lt i hi).1)
        case measure => simp [intOf]; omega
      · by_cases hy0 : y = 0
        · subst hy0
          have hb0 : (((0 : Nat) : Int) != 0) = false := by simp
          go_wp2
          go_quiet ((go_at_call 93; exact Calls.quiet_of_same (shift_any k r (by omega) Hr.out _)))
          clear hq1 hq2
          go_wp2
          go_roundw
          case rel =>
            refine ⟨k + 1, j, A2, c2, by omega, by go_num, Lib.hid (by have := hj.out; omega), hjn, rfl, hown, Lib.hid (fun i h1 h2 => ?_), hfr.drewN _⟩
            by_cases hik : i = k
            · subst hik; exact Hy.out.symm
            · exact hz.out i h1 (by omega)
          case measure => simp [intOf]; omega
        · have hb0 : ((y : Int) != 0) = true := by rw [bne_iff_ne]; omega
          have hpad := padB_no (m := m) (Nat.le_of_not_lt hkn) hlt (by rw [← Hy.out]; exact hy0)
          have Hpad := Lib.hid hpad
          clear hpad
          go_wp2
          go_quiet ((go_at_call 93; exact Calls.quiet_of_same (shift_any k r (by omega) Hr.out _)))
          clear hq1 hq2
          go_wp2
          go_ret2
          exact ⟨by simp [Hpad.out], hfr.drewN _⟩
    · obtain rfl : j = n := by have := hj.out; omega
      have hpad := padB_yes (m := m) (fun i h1 h2 => hz.out i h1 (by omega))
      have Hpad := Lib.hid hpad
      clear hpad
      have hcv := run_string_own (P := Tryz.prog) wr 137 9 5 Tryz.underlying137 Tryz.underlying5 Tryz.underlying9 hown
      go_wp2
      go_ret2
      exact ⟨by simp [Hpad.out], hfr⟩

/-- A reader: the words that are left, or that something wasn't right. -/
structure Rdr (w : World) (p : Nat) (st : Option (List Nat)) : Prop where
  reads : ∃ A c, Bk w p 72 #[.slice A (st.getD []).length c, .bool st.isNone] ∧ Sl w w.heap.size A (u64s (st.getD [])) ∧ (∀ ad, A = some ad → st.getD [] ≠ [] → ad.block ≠ p) ∧
    (st.getD []).length ≤ c ∧ c ≤ maxLen ∧ (A = none → (st.getD []).length = 0 ∧ c = 0) ∧ ∀ u ∈ st.getD [], u < 18446744073709551616
theorem Rdr.fr {S : Nat → Prop} {w w' : World} {p : Nat} {st : Option (List Nat)} (h : Rdr w p st) (hf : Fr S w w') (hp : ¬ S p) (hS : ∀ k, S k → w.heap.size ≤ k) : Rdr w' p st := by
  obtain ⟨A, c, h1, h2, h3, h4, h5, h6, h7⟩ := h
  exact ⟨A, c, h1.fr hf hp, (h2.fr hf (Nat.le_refl _) (fun ad e hne hs => by
    obtain ⟨ad', e', hb, _⟩ := h2 hne
    rw [e] at e'
    injection e' with e'
    subst e'
    have := hS _ hs
    omega)).more hf.size, h3, h4, h5, h6, h7⟩
theorem Rdr.lt {w : World} {p : Nat} {st : Option (List Nat)} (h : Rdr w p st) : p < w.heap.size := by
  obtain ⟨A, c, h1, _⟩ := h
  exact h1.lt
/-- Only block p has turned, and what is new. -/
abbrev Only (p : Nat) : Nat → Prop := fun k => k = p
/-- What a reader's call leaves. -/
def Red (w : World) (p : Nat) (st : Option (List Nat)) (v : Value) (e : Ending) (w' : World) : Prop := e = .returned v ∧ Rdr w' p st ∧ Fr (Only p) w w'

/-- What a reader is told of the words that it asks for: the answer x, and whether that is right. -/
def Tells (fid : Nat) (mk : Value → Array Value) (w : World) (xs : List Nat) (n : Nat) (x : Value) (ok : Bool) : Prop :=
  ∀ (W : World) (A : Option Addr) (c : Nat), Fr No w W → Sl W W.heap.size A (u64s (xs.take n)) → n ≤ c → c ≤ maxLen → (A = none → c = 0) →
    Calls Tryz.prog fid (mk (.slice A n c)) W fun e w' => e = .returned (.tuple #[x, .bool ok]) ∧ Fr No W w'
/-- The reader behind a try. -/
def after (st : Option (List Nat)) (n : Nat) (ok : Bool) : Option (List Nat) := st.bind fun xs => if n ≤ xs.length ∧ ok = true then some (xs.drop n) else none
def told (st : Option (List Nat)) (n : Nat) (ok : Bool) (x z : Value) : Value := if (after st n ok).isSome then x else z

theorem sl_take {w w' : World} {A : Option Addr} {xs : List Nat} (h : Sl w w.heap.size A (u64s xs)) (hf : Fr No w w') (n : Nat) : Sl w' w'.heap.size A (u64s (xs.take n)) := by
  have h1 := ((h.take n).fr hf (Nat.le_refl _) (fun _ _ _ => id)).more hf.size
  simpa [u64s, List.map_take] using h1

theorem rdr_drop {w : World} {p : Nat} {A : Option Addr} {xs : List Nat} {c n : Nat} (hb : Bk w p 72 #[.slice A xs.length c, .bool false]) (hsl : Sl w w.heap.size A (u64s (xs.take xs.length)))
    (hap : ∀ ad, A = some ad → xs ≠ [] → ad.block ≠ p) (hlc : xs.length ≤ c) (hcm : c ≤ maxLen) (hnil : A = none → xs.length = 0 ∧ c = 0) (h64 : ∀ u ∈ xs, u < 18446744073709551616) (hn : n ≤ xs.length) :
    Rdr (w.setCell ⟨p, 0, none⟩ (.slice (if c = n then A else A.map (·.add n)) (xs.length - n) (c - n))).drew p (some (xs.drop n)) := by
  rw [List.take_length] at hsl
  have hd := hsl.drop (k := n) (n := xs.length) (cap := c) (sz := 1) (by simp [u64s]) hn hlc
  rw [Nat.mul_one, show (u64s xs).drop n = u64s (xs.drop n) by simp [u64s, List.map_drop]] at hd
  have h1 := hb.put 0 (.slice (if c = n then A else A.map (·.add n)) (xs.length - n) (c - n))
  refine ⟨_, c - n, by simp at h1 ⊢; exact h1, ?_, ?_, by simp; omega, by omega, ?_, ?_⟩
  · intro hne
    obtain ⟨ad, e, hlt, hc⟩ := hd hne
    refine ⟨ad, e, by simpa [World.setCell] using hlt, fun j u hu => ?_⟩
    have hne2 : xs ≠ [] := by rintro rfl; simp [u64s] at hne
    have hbl : ad.block ≠ p := by
      split at e
      · exact hap ad e hne2
      · cases A with
        | none => simp at e
        | some a0 =>
          simp at e
          rw [← e, block_add]
          exact hap a0 rfl hne2
    show (w.setCell _ _).cell? _ = _
    rw [World.cell?_setCell_other _ _ _ _ (fun e2 => hbl (by rw [← block_add ad j, ← e2]))]
    exact hc j u hu
  · intro ad e hne
    have hne2 : xs ≠ [] := by rintro rfl; simp at hne
    split at e
    · exact hap ad e hne2
    · cases A with
      | none => simp at e
      | some a0 =>
        simp at e
        rw [← e, block_add]
        exact hap a0 rfl hne2
  · intro e
    have hA : A = none := by
      split at e
      · exact e
      · simpa using e
    have := hnil hA
    simp
    omega
  · intro u hu
    exact h64 u (List.mem_of_mem_drop (by simpa using hu))

set_option maxHeartbeats 1000000 in
theorem wrongInt_any (p q : Nat) (A : Option Addr) (n c : Nat) (b : Bool) (w : World) (hb : Bk w p 72 #[.slice A n c, .bool b]) (hq : w.cell? ⟨q, 0, none⟩ = some (.pointer (some ⟨p, 0, none⟩))) :
    Calls Tryz.prog 81 #[.pointer (some ⟨q, 0, none⟩)] w (Red w p none (.int .i64 0)) := by
  have hc0 := hb.cell 0
  have hc1 := hb.cell 1
  have hf0 := hb.frozen 0
  have hf1 := hb.frozen 1
  have hqp : q ≠ p := by
    rintro rfl
    rw [hc0] at hq
    simp at hq
  simp at hc0 hc1
  go_enter Tryz.func81, Tryz.ntmps81
  go_wp2
  go_region
  go_wp2
  go_ret
  have h1 := (hb.put 0 (.slice none 0 0)).put 1 (.bool true)
  have hf : Fr (Only p) w ((w.setCell ⟨p, 0, none⟩ (.slice none 0 0)).setCell ⟨p, 1, none⟩ (.bool true)) := ((Fr.refl (Only p) w).setCell (p := ⟨p, 0, none⟩) (.inl rfl) _).setCell (p := ⟨p, 1, none⟩) (.inl rfl) _
  exact ⟨by simp, ⟨none, 0, h1, Sl.nil _ _ _, by simp, by simp, by simp, by simp, by simp⟩, hf.drew⟩

set_option maxHeartbeats 2000000 in
theorem nextInt_any (p : Nat) (st : Option (List Nat)) (n : Nat) (x : Int) (ok : Bool) (v : Value) (w : World) (hr : Rdr w p st) (ht : st.isSome = true → n ≤ (st.getD []).length → Tells 54 (fun s => #[s, v]) w (st.getD []) n (.int .i64 x) ok) (hn : n ≤ 1099511627776) :
    Calls Tryz.prog 53 #[.pointer (some ⟨p, 0, none⟩), .int .i64 n, .func (.func 54) #[] #[v]] w (Red w p (after st n ok) (told st n ok (.int .i64 x) (.int .i64 0))) := by
  have Ht := Lib.hid ht
  clear ht
  have hmf : ∀ (fn : Fn) (first cap : Array Value) (w : World), (Instr.makeFunc fn first cap).run Tryz.prog w = .ok (.func fn first cap) w := fun _ _ _ _ => rfl
  obtain ⟨A, c, hb, hsl, hap, hlc, hcm, hnil, h64⟩ := hr
  have hpl := hb.lt
  have hf0 : Fr No w (w.alloc (.cells #[.pointer (some ⟨p, 0, none⟩)] 34)) := (Fr.refl No w).alloc _
  have hq : (w.alloc (.cells #[.pointer (some ⟨p, 0, none⟩)] 34)).cell? ⟨w.heap.size, 0, none⟩ = some (.pointer (some ⟨p, 0, none⟩)) := (Bk.made w 34 #[.pointer (some ⟨p, 0, none⟩)]).cell 0
  cases st with
  | none =>
    simp only [Option.getD_none, Option.isNone_none, List.length_nil] at *
    have Hb := Lib.hid (hb.fr hf0 id)
    have hc0 := Hb.out.cell 0
    have hc1 := Hb.out.cell 1
    simp at hc0 hc1
    have Hq := Lib.hid hq
    clear hsl hap hlc hcm hnil h64 hb hq Ht
    go_enter Tryz.func53, Tryz.ntmps53
    go_wp2_with fail
    refine (wrongInt_any p w.heap.size A 0 c true _ Hb.out Hq.out).mono ?_
    rintro e w1 ⟨rfl, h1, h2⟩
    go_wp2
    go_ret
    exact ⟨rfl, h1, (hf0.weak (fun _ _ h => h.elim)).trans' h2 (fun _ _ h => h)⟩
  | some xs =>
    simp only [Option.getD_some, Option.isNone_some] at *
    have Hb := Lib.hid (hb.fr hf0 id)
    have hc0 := Hb.out.cell 0
    have hc1 := Hb.out.cell 1
    simp at hc0 hc1
    have Hq := Lib.hid hq
    have Hsl := Lib.hid hsl
    have Hap := Lib.hid hap
    have Hnil := Lib.hid hnil
    have H64 := Lib.hid h64
    clear hsl hap hnil h64 hb hq
    by_cases hnl : n ≤ xs.length
    · have hnc : n ≤ c := by omega
      cases ok with
      | true =>
        have Ha : Hid (after (some xs) n true = some (xs.drop n)) := Lib.hid (by simp [after, hnl])
        have Hto : Hid (told (some xs) n true (.int .i64 x) (.int .i64 0) = .int .i64 x) := Lib.hid (by simp [told, after, hnl])
        go_enter Tryz.func53, Tryz.ntmps53
        go_wp2_with fail
        refine (Ht.out rfl hnl _ A c hf0 (sl_take Hsl.out hf0 n) hnc hcm (fun e => (Hnil.out e).2)).mono ?_
        rintro e w1 ⟨rfl, hf1⟩
        have Hb1 := Lib.hid (Hb.out.fr hf1 id)
        have hd0 := Hb1.out.cell 0
        have hd1 := Hb1.out.cell 1
        have hz0 := Hb1.out.frozen 0
        have hq1 : w1.cell? ⟨w.heap.size, 0, none⟩ = some (.pointer (some ⟨p, 0, none⟩)) := (hf1.cell (by simp) id).trans Hq.out
        simp at hd0 hd1
        have hfd : ∀ u, Fr (Only p) w (w1.setCell ⟨p, 0, none⟩ u).drew := fun u => (((hf0.then0 hf1 (fun _ h => h.elim)).weak (S' := Only p) (fun _ _ h => h.elim)).setCell (p := ⟨p, 0, none⟩) (.inl rfl) u).drew
        have hrd := rdr_drop (n := n) Hb1.out (sl_take Hsl.out (hf0.then0 hf1 (fun _ h => h.elim)) xs.length) Hap.out hlc hcm Hnil.out H64.out hnl
        have Hfd := Lib.hid hfd
        have Hrd := Lib.hid hrd
        clear hfd hrd
        by_cases hcn : c = n
        · subst hcn
          go_wp2
          go_region
          go_wp2
          go_ret
          refine ⟨by rw [Hto.out]; rfl, ?_, Hfd.out _⟩
          have h9 := Hrd.out
          rw [if_pos trivial, show xs.length - c = 0 by omega, Nat.sub_self] at h9
          rw [Ha.out]
          exact h9
        · obtain ⟨ad, rfl⟩ : ∃ ad, A = some ad := by
            cases A with
            | none => have := (Hnil.out rfl).2; omega
            | some ad => exact ⟨ad, rfl⟩
          go_wp2
          go_region
          go_wp2
          go_ret
          refine ⟨by rw [Hto.out]; rfl, ?_, Hfd.out _⟩
          have h9 := Hrd.out
          rw [if_neg hcn] at h9
          rw [Ha.out]
          exact h9
      | false =>
        have Ha : Hid (after (some xs) n false = none) := Lib.hid (by simp [after])
        have Hto : Hid (told (some xs) n false (.int .i64 x) (.int .i64 0) = .int .i64 0) := Lib.hid (by simp [told, after])
        go_enter Tryz.func53, Tryz.ntmps53
        go_wp2_with fail
        refine (Ht.out rfl hnl _ A c hf0 (sl_take Hsl.out hf0 n) hnc hcm (fun e => (Hnil.out e).2)).mono ?_
        rintro e w1 ⟨rfl, hf1⟩
        have Hb1 := Lib.hid (Hb.out.fr hf1 id)
        have Hq1 : Hid (w1.cell? ⟨w.heap.size, 0, none⟩ = some (.pointer (some ⟨p, 0, none⟩))) := Lib.hid ((hf1.cell (by simp) id).trans Hq.out)
        go_wp2_with fail
        refine (wrongInt_any p w.heap.size A _ c false _ Hb1.out Hq1.out).mono ?_
        rintro e w2 ⟨rfl, h1, h2⟩
        go_wp2
        go_ret
        exact ⟨by rw [Hto.out]; rfl, by rw [Ha.out]; exact h1, ((hf0.then0 hf1 (fun _ h => h.elim)).weak (fun _ _ h => h.elim)).trans' h2 (fun _ _ h => h)⟩
    · have Ha : Hid (after (some xs) n ok = none) := Lib.hid (by simp [after, hnl])
      have Hto : Hid (told (some xs) n ok (.int .i64 x) (.int .i64 0) = .int .i64 0) := Lib.hid (by simp [told, after, hnl])
      clear Ht
      go_enter Tryz.func53, Tryz.ntmps53
      go_wp2_with fail
      refine (wrongInt_any p w.heap.size A _ c false _ Hb.out Hq.out).mono ?_
      rintro e w1 ⟨rfl, h1, h2⟩
      go_wp2
      go_ret
      exact ⟨by rw [Hto.out]; rfl, by rw [Ha.out]; exact h1, (hf0.weak (fun _ _ h => h.elim)).trans' h2 (fun _ _ h => h)⟩
set_option maxHeartbeats 1000000 in
theorem wrongInt64_any (p q : Nat) (A : Option Addr) (n c : Nat) (b : Bool) (w : World) (hb : Bk w p 72 #[.slice A n c, .bool b]) (hq : w.cell? ⟨q, 0, none⟩ = some (.pointer (some ⟨p, 0, none⟩))) :
    Calls Tryz.prog 141 #[.pointer (some ⟨q, 0, none⟩)] w (Red w p none (.int .i64 0)) := by
  have hc0 := hb.cell 0
  have hc1 := hb.cell 1
  have hf0 := hb.frozen 0
  have hf1 := hb.frozen 1
  have hqp : q ≠ p := by
    rintro rfl
    rw [hc0] at hq
    simp at hq
  simp at hc0 hc1
  go_enter Tryz.func141, Tryz.ntmps141
  go_wp2
  go_region
  go_wp2
  go_ret
  have h1 := (hb.put 0 (.slice none 0 0)).put 1 (.bool true)
  have hf : Fr (Only p) w ((w.setCell ⟨p, 0, none⟩ (.slice none 0 0)).setCell ⟨p, 1, none⟩ (.bool true)) := ((Fr.refl (Only p) w).setCell (p := ⟨p, 0, none⟩) (.inl rfl) _).setCell (p := ⟨p, 1, none⟩) (.inl rfl) _
  exact ⟨by simp, ⟨none, 0, h1, Sl.nil _ _ _, by simp, by simp, by simp, by simp, by simp⟩, hf.drew⟩

set_option maxHeartbeats 2000000 in
theorem nextInt64_any (p : Nat) (st : Option (List Nat)) (n : Nat) (x : Int) (ok : Bool) (w : World) (hr : Rdr w p st) (ht : st.isSome = true → n ≤ (st.getD []).length → Tells 140 (fun s => #[s]) w (st.getD []) n (.int .i64 x) ok) (hn : n ≤ 1099511627776) :
    Calls Tryz.prog 139 #[.pointer (some ⟨p, 0, none⟩), .int .i64 n, .func (.func 140) #[] #[]] w (Red w p (after st n ok) (told st n ok (.int .i64 x) (.int .i64 0))) := by
  have Ht := Lib.hid ht
  clear ht
  have hmf : ∀ (fn : Fn) (first cap : Array Value) (w : World), (Instr.makeFunc fn first cap).run Tryz.prog w = .ok (.func fn first cap) w := fun _ _ _ _ => rfl
  obtain ⟨A, c, hb, hsl, hap, hlc, hcm, hnil, h64⟩ := hr
  have hpl := hb.lt
  have hf0 : Fr No w (w.alloc (.cells #[.pointer (some ⟨p, 0, none⟩)] 34)) := (Fr.refl No w).alloc _
  have hq : (w.alloc (.cells #[.pointer (some ⟨p, 0, none⟩)] 34)).cell? ⟨w.heap.size, 0, none⟩ = some (.pointer (some ⟨p, 0, none⟩)) := (Bk.made w 34 #[.pointer (some ⟨p, 0, none⟩)]).cell 0
  cases st with
  | none =>
    simp only [Option.getD_none, Option.isNone_none, List.length_nil] at *
    have Hb := Lib.hid (hb.fr hf0 id)
    have hc0 := Hb.out.cell 0
    have hc1 := Hb.out.cell 1
    simp at hc0 hc1
    have Hq := Lib.hid hq
    clear hsl hap hlc hcm hnil h64 hb hq Ht
    go_enter Tryz.func139, Tryz.ntmps139
    go_wp2_with fail
    refine (wrongInt64_any p w.heap.size A 0 c true _ Hb.out Hq.out).mono ?_
    rintro e w1 ⟨rfl, h1, h2⟩
    go_wp2
    go_ret
    exact ⟨rfl, h1, (hf0.weak (fun _ _ h => h.elim)).trans' h2 (fun _ _ h => h)⟩
  | some xs =>
    simp only [Option.getD_some, Option.isNone_some] at *
    have Hb := Lib.hid (hb.fr hf0 id)
    have hc0 := Hb.out.cell 0
    have hc1 := Hb.out.cell 1
    simp at hc0 hc1
    have Hq := Lib.hid hq
    have Hsl := Lib.hid hsl
    have Hap := Lib.hid hap
    have Hnil := Lib.hid hnil
    have H64 := Lib.hid h64
    clear hsl hap hnil h64 hb hq
    by_cases hnl : n ≤ xs.length
    · have hnc : n ≤ c := by omega
      cases ok with
      | true =>
        have Ha : Hid (after (some xs) n true = some (xs.drop n)) := Lib.hid (by simp [after, hnl])
        have Hto : Hid (told (some xs) n true (.int .i64 x) (.int .i64 0) = .int .i64 x) := Lib.hid (by simp [told, after, hnl])
        go_enter Tryz.func139, Tryz.ntmps139
        go_wp2_with fail
        refine (Ht.out rfl hnl _ A c hf0 (sl_take Hsl.out hf0 n) hnc hcm (fun e => (Hnil.out e).2)).mono ?_
        rintro e w1 ⟨rfl, hf1⟩
        have Hb1 := Lib.hid (Hb.out.fr hf1 id)
        have hd0 := Hb1.out.cell 0
        have hd1 := Hb1.out.cell 1
        have hz0 := Hb1.out.frozen 0
        have hq1 : w1.cell? ⟨w.heap.size, 0, none⟩ = some (.pointer (some ⟨p, 0, none⟩)) := (hf1.cell (by simp) id).trans Hq.out
        simp at hd0 hd1
        have hfd : ∀ u, Fr (Only p) w (w1.setCell ⟨p, 0, none⟩ u).drew := fun u => (((hf0.then0 hf1 (fun _ h => h.elim)).weak (S' := Only p) (fun _ _ h => h.elim)).setCell (p := ⟨p, 0, none⟩) (.inl rfl) u).drew
        have hrd := rdr_drop (n := n) Hb1.out (sl_take Hsl.out (hf0.then0 hf1 (fun _ h => h.elim)) xs.length) Hap.out hlc hcm Hnil.out H64.out hnl
        have Hfd := Lib.hid hfd
        have Hrd := Lib.hid hrd
        clear hfd hrd
        by_cases hcn : c = n
        · subst hcn
          go_wp2
          go_region
          go_wp2
          go_ret
          refine ⟨by rw [Hto.out]; rfl, ?_, Hfd.out _⟩
          have h9 := Hrd.out
          rw [if_pos trivial, show xs.length - c = 0 by omega, Nat.sub_self] at h9
          rw [Ha.out]
          exact h9
        · obtain ⟨ad, rfl⟩ : ∃ ad, A = some ad := by
            cases A with
            | none => have := (Hnil.out rfl).2; omega
            | some ad => exact ⟨ad, rfl⟩
          go_wp2
          go_region
          go_wp2
          go_ret
          refine ⟨by rw [Hto.out]; rfl, ?_, Hfd.out _⟩
          have h9 := Hrd.out
          rw [if_neg hcn] at h9
          rw [Ha.out]
          exact h9
      | false =>
        have Ha : Hid (after (some xs) n false = none) := Lib.hid (by simp [after])
        have Hto : Hid (told (some xs) n false (.int .i64 x) (.int .i64 0) = .int .i64 0) := Lib.hid (by simp [told, after])
        go_enter Tryz.func139, Tryz.ntmps139
        go_wp2_with fail
        refine (Ht.out rfl hnl _ A c hf0 (sl_take Hsl.out hf0 n) hnc hcm (fun e => (Hnil.out e).2)).mono ?_
        rintro e w1 ⟨rfl, hf1⟩
        have Hb1 := Lib.hid (Hb.out.fr hf1 id)
        have Hq1 : Hid (w1.cell? ⟨w.heap.size, 0, none⟩ = some (.pointer (some ⟨p, 0, none⟩))) := Lib.hid ((hf1.cell (by simp) id).trans Hq.out)
        go_wp2_with fail
        refine (wrongInt64_any p w.heap.size A _ c false _ Hb1.out Hq1.out).mono ?_
        rintro e w2 ⟨rfl, h1, h2⟩
        go_wp2
        go_ret
        exact ⟨by rw [Hto.out]; rfl, by rw [Ha.out]; exact h1, ((hf0.then0 hf1 (fun _ h => h.elim)).weak (fun _ _ h => h.elim)).trans' h2 (fun _ _ h => h)⟩
    · have Ha : Hid (after (some xs) n ok = none) := Lib.hid (by simp [after, hnl])
      have Hto : Hid (told (some xs) n ok (.int .i64 x) (.int .i64 0) = .int .i64 0) := Lib.hid (by simp [told, after, hnl])
      clear Ht
      go_enter Tryz.func139, Tryz.ntmps139
      go_wp2_with fail
      refine (wrongInt64_any p w.heap.size A _ c false _ Hb.out Hq.out).mono ?_
      rintro e w1 ⟨rfl, h1, h2⟩
      go_wp2
      go_ret
      exact ⟨by rw [Hto.out]; rfl, by rw [Ha.out]; exact h1, (hf0.weak (fun _ _ h => h.elim)).trans' h2 (fun _ _ h => h)⟩
set_option maxHeartbeats 1000000 in
theorem wrongBool_any (p q : Nat) (A : Option Addr) (n c : Nat) (b : Bool) (w : World) (hb : Bk w p 72 #[.slice A n c, .bool b]) (hq : w.cell? ⟨q, 0, none⟩ = some (.pointer (some ⟨p, 0, none⟩))) :
    Calls Tryz.prog 128 #[.pointer (some ⟨q, 0, none⟩)] w (Red w p none (.bool false)) := by
  have hc0 := hb.cell 0
  have hc1 := hb.cell 1
  have hf0 := hb.frozen 0
  have hf1 := hb.frozen 1
  have hqp : q ≠ p := by
    rintro rfl
    rw [hc0] at hq
    simp at hq
  simp at hc0 hc1
  go_enter Tryz.func128, Tryz.ntmps128
  go_wp2
  go_region
  go_wp2
  go_ret
  have h1 := (hb.put 0 (.slice none 0 0)).put 1 (.bool true)
  have hf : Fr (Only p) w ((w.setCell ⟨p, 0, none⟩ (.slice none 0 0)).setCell ⟨p, 1, none⟩ (.bool true)) := ((Fr.refl (Only p) w).setCell (p := ⟨p, 0, none⟩) (.inl rfl) _).setCell (p := ⟨p, 1, none⟩) (.inl rfl) _
  exact ⟨by simp, ⟨none, 0, h1, Sl.nil _ _ _, by simp, by simp, by simp, by simp, by simp⟩, hf.drew⟩

set_option maxHeartbeats 2000000 in
theorem nextBool_any (p : Nat) (st : Option (List Nat)) (n : Nat) (x : Bool) (ok : Bool) (w : World) (hr : Rdr w p st) (ht : st.isSome = true → n ≤ (st.getD []).length → Tells 115 (fun s => #[s]) w (st.getD []) n (.bool x) ok) (hn : n ≤ 1099511627776) :
    Calls Tryz.prog 114 #[.pointer (some ⟨p, 0, none⟩), .int .i64 n, .func (.func 115) #[] #[]] w (Red w p (after st n ok) (told st n ok (.bool x) (.bool false))) := by
  have Ht := Lib.hid ht
  clear ht
  have hmf : ∀ (fn : Fn) (first cap : Array Value) (w : World), (Instr.makeFunc fn first cap).run Tryz.prog w = .ok (.func fn first cap) w := fun _ _ _ _ => rfl
  obtain ⟨A, c, hb, hsl, hap, hlc, hcm, hnil, h64⟩ := hr
  have hpl := hb.lt
  have hf0 : Fr No w (w.alloc (.cells #[.pointer (some ⟨p, 0, none⟩)] 34)) := (Fr.refl No w).alloc _
  have hq : (w.alloc (.cells #[.pointer (some ⟨p, 0, none⟩)] 34)).cell? ⟨w.heap.size, 0, none⟩ = some (.pointer (some ⟨p, 0, none⟩)) := (Bk.made w 34 #[.pointer (some ⟨p, 0, none⟩)]).cell 0
  cases st with
  | none =>
    simp only [Option.getD_none, Option.isNone_none, List.length_nil] at *
    have Hb := Lib.hid (hb.fr hf0 id)
    have hc0 := Hb.out.cell 0
    have hc1 := Hb.out.cell 1
    simp at hc0 hc1
    have Hq := Lib.hid hq
    clear hsl hap hlc hcm hnil h64 hb hq Ht
    go_enter Tryz.func114, Tryz.ntmps114
    go_wp2_with fail
    refine (wrongBool_any p w.heap.size A 0 c true _ Hb.out Hq.out).mono ?_
    rintro e w1 ⟨rfl, h1, h2⟩
    go_wp2
    go_ret
    exact ⟨rfl, h1, (hf0.weak (fun _ _ h => h.elim)).trans' h2 (fun _ _ h => h)⟩
  | some xs =>
    simp only [Option.getD_some, Option.isNone_some] at *
    have Hb := Lib.hid (hb.fr hf0 id)
    have hc0 := Hb.out.cell 0
    have hc1 := Hb.out.cell 1
    simp at hc0 hc1
    have Hq := Lib.hid hq
    have Hsl := Lib.hid hsl
    have Hap := Lib.hid hap
    have Hnil := Lib.hid hnil
    have H64 := Lib.hid h64
    clear hsl hap hnil h64 hb hq
    by_cases hnl : n ≤ xs.length
    · have hnc : n ≤ c := by omega
      cases ok with
      | true =>
        have Ha : Hid (after (some xs) n true = some (xs.drop n)) := Lib.hid (by simp [after, hnl])
        have Hto : Hid (told (some xs) n true (.bool x) (.bool false) = .bool x) := Lib.hid (by simp [told, after, hnl])
        go_enter Tryz.func114, Tryz.ntmps114
        go_wp2_with fail
        refine (Ht.out rfl hnl _ A c hf0 (sl_take Hsl.out hf0 n) hnc hcm (fun e => (Hnil.out e).2)).mono ?_
        rintro e w1 ⟨rfl, hf1⟩
        have Hb1 := Lib.hid (Hb.out.fr hf1 id)
        have hd0 := Hb1.out.cell 0
        have hd1 := Hb1.out.cell 1
        have hz0 := Hb1.out.frozen 0
        have hq1 : w1.cell? ⟨w.heap.size, 0, none⟩ = some (.pointer (some ⟨p, 0, none⟩)) := (hf1.cell (by simp) id).trans Hq.out
        simp at hd0 hd1
        have hfd : ∀ u, Fr (Only p) w (w1.setCell ⟨p, 0, none⟩ u).drew := fun u => (((hf0.then0 hf1 (fun _ h => h.elim)).weak (S' := Only p) (fun _ _ h => h.elim)).setCell (p := ⟨p, 0, none⟩) (.inl rfl) u).drew
        have hrd := rdr_drop (n := n) Hb1.out (sl_take Hsl.out (hf0.then0 hf1 (fun _ h => h.elim)) xs.length) Hap.out hlc hcm Hnil.out H64.out hnl
        have Hfd := Lib.hid hfd
        have Hrd := Lib.hid hrd
        clear hfd hrd
        by_cases hcn : c = n
        · subst hcn
          go_wp2
          go_region
          go_wp2
          go_ret
          refine ⟨by rw [Hto.out]; rfl, ?_, Hfd.out _⟩
          have h9 := Hrd.out
          rw [if_pos trivial, show xs.length - c = 0 by omega, Nat.sub_self] at h9
          rw [Ha.out]
          exact h9
        · obtain ⟨ad, rfl⟩ : ∃ ad, A = some ad := by
            cases A with
            | none => have := (Hnil.out rfl).2; omega
            | some ad => exact ⟨ad, rfl⟩
          go_wp2
          go_region
          go_wp2
          go_ret
          refine ⟨by rw [Hto.out]; rfl, ?_, Hfd.out _⟩
          have h9 := Hrd.out
          rw [if_neg hcn] at h9
          rw [Ha.out]
          exact h9
      | false =>
        have Ha : Hid (after (some xs) n false = none) := Lib.hid (by simp [after])
        have Hto : Hid (told (some xs) n false (.bool x) (.bool false) = .bool false) := Lib.hid (by simp [told, after])
        go_enter Tryz.func114, Tryz.ntmps114
        go_wp2_with fail
        refine (Ht.out rfl hnl _ A c hf0 (sl_take Hsl.out hf0 n) hnc hcm (fun e => (Hnil.out e).2)).mono ?_
        rintro e w1 ⟨rfl, hf1⟩
        have Hb1 := Lib.hid (Hb.out.fr hf1 id)
        have Hq1 : Hid (w1.cell? ⟨w.heap.size, 0, none⟩ = some (.pointer (some ⟨p, 0, none⟩))) := Lib.hid ((hf1.cell (by simp) id).trans Hq.out)
        go_wp2_with fail
        refine (wrongBool_any p w.heap.size A _ c false _ Hb1.out Hq1.out).mono ?_
        rintro e w2 ⟨rfl, h1, h2⟩
        go_wp2
        go_ret
        exact ⟨by rw [Hto.out]; rfl, by rw [Ha.out]; exact h1, ((hf0.then0 hf1 (fun _ h => h.elim)).weak (fun _ _ h => h.elim)).trans' h2 (fun _ _ h => h)⟩
    · have Ha : Hid (after (some xs) n ok = none) := Lib.hid (by simp [after, hnl])
      have Hto : Hid (told (some xs) n ok (.bool x) (.bool false) = .bool false) := Lib.hid (by simp [told, after, hnl])
      clear Ht
      go_enter Tryz.func114, Tryz.ntmps114
      go_wp2_with fail
      refine (wrongBool_any p w.heap.size A _ c false _ Hb.out Hq.out).mono ?_
      rintro e w1 ⟨rfl, h1, h2⟩
      go_wp2
      go_ret
      exact ⟨by rw [Hto.out]; rfl, by rw [Ha.out]; exact h1, (hf0.weak (fun _ _ h => h.elim)).trans' h2 (fun _ _ h => h)⟩
set_option maxHeartbeats 1000000 in
theorem wrongString_any (p q : Nat) (A : Option Addr) (n c : Nat) (b : Bool) (w : World) (hb : Bk w p 72 #[.slice A n c, .bool b]) (hq : w.cell? ⟨q, 0, none⟩ = some (.pointer (some ⟨p, 0, none⟩))) :
    Calls Tryz.prog 125 #[.pointer (some ⟨q, 0, none⟩)] w (Red w p none (.string ⟨#[]⟩)) := by
  have hc0 := hb.cell 0
  have hc1 := hb.cell 1
  have hf0 := hb.frozen 0
  have hf1 := hb.frozen 1
  have hqp : q ≠ p := by
    rintro rfl
    rw [hc0] at hq
    simp at hq
  simp at hc0 hc1
  go_enter Tryz.func125, Tryz.ntmps125
  go_wp2
  go_region
  go_wp2
  go_ret
  have h1 := (hb.put 0 (.slice none 0 0)).put 1 (.bool true)
  have hf : Fr (Only p) w ((w.setCell ⟨p, 0, none⟩ (.slice none 0 0)).setCell ⟨p, 1, none⟩ (.bool true)) := ((Fr.refl (Only p) w).setCell (p := ⟨p, 0, none⟩) (.inl rfl) _).setCell (p := ⟨p, 1, none⟩) (.inl rfl) _
  exact ⟨by simp, ⟨none, 0, h1, Sl.nil _ _ _, by simp, by simp, by simp, by simp, by simp⟩, hf.drew⟩

set_option maxHeartbeats 2000000 in
theorem nextString_any (p : Nat) (st : Option (List Nat)) (n : Nat) (x : ByteArray) (ok : Bool) (v : Value) (w : World) (hr : Rdr w p st) (ht : st.isSome = true → n ≤ (st.getD []).length → Tells 110 (fun s => #[s, v]) w (st.getD []) n (.string x) ok) (hn : n ≤ 1099511627776) :
    Calls Tryz.prog 109 #[.pointer (some ⟨p, 0, none⟩), .int .i64 n, .func (.func 110) #[] #[v]] w (Red w p (after st n ok) (told st n ok (.string x) (.string ⟨#[]⟩))) := by
  have Ht := Lib.hid ht
  clear ht
  have hmf : ∀ (fn : Fn) (first cap : Array Value) (w : World), (Instr.makeFunc fn first cap).run Tryz.prog w = .ok (.func fn first cap) w := fun _ _ _ _ => rfl
  obtain ⟨A, c, hb, hsl, hap, hlc, hcm, hnil, h64⟩ := hr
  have hpl := hb.lt
  have hf0 : Fr No w (w.alloc (.cells #[.pointer (some ⟨p, 0, none⟩)] 34)) := (Fr.refl No w).alloc _
  have hq : (w.alloc (.cells #[.pointer (some ⟨p, 0, none⟩)] 34)).cell? ⟨w.heap.size, 0, none⟩ = some (.pointer (some ⟨p, 0, none⟩)) := (Bk.made w 34 #[.pointer (some ⟨p, 0, none⟩)]).cell 0
  cases st with
  | none =>
    simp only [Option.getD_none, Option.isNone_none, List.length_nil] at *
    have Hb := Lib.hid (hb.fr hf0 id)
    have hc0 := Hb.out.cell 0
    have hc1 := Hb.out.cell 1
    simp at hc0 hc1
    have Hq := Lib.hid hq
    clear hsl hap hlc hcm hnil h64 hb hq Ht
    go_enter Tryz.func109, Tryz.ntmps109
    go_wp2_with fail
    refine (wrongString_any p w.heap.size A 0 c true _ Hb.out Hq.out).mono ?_
    rintro e w1 ⟨rfl, h1, h2⟩
    go_wp2
    go_ret
    exact ⟨rfl, h1, (hf0.weak (fun _ _ h => h.elim)).trans' h2 (fun _ _ h => h)⟩
  | some xs =>
    simp only [Option.getD_some, Option.isNone_some] at *
    have Hb := Lib.hid (hb.fr hf0 id)
    have hc0 := Hb.out.cell 0
    have hc1 := Hb.out.cell 1
    simp at hc0 hc1
    have Hq := Lib.hid hq
    have Hsl := Lib.hid hsl
    have Hap := Lib.hid hap
    have Hnil := Lib.hid hnil
    have H64 := Lib.hid h64
    clear hsl hap hnil h64 hb hq
    by_cases hnl : n ≤ xs.length
    · have hnc : n ≤ c := by omega
      cases ok with
      | true =>
        have Ha : Hid (after (some xs) n true = some (xs.drop n)) := Lib.hid (by simp [after, hnl])
        have Hto : Hid (told (some xs) n true (.string x) (.string ⟨#[]⟩) = .string x) := Lib.hid (by simp [told, after, hnl])
        go_enter Tryz.func109, Tryz.ntmps109
        go_wp2_with fail
        refine (Ht.out rfl hnl _ A c hf0 (sl_take Hsl.out hf0 n) hnc hcm (fun e => (Hnil.out e).2)).mono ?_
        rintro e w1 ⟨rfl, hf1⟩
        have Hb1 := Lib.hid (Hb.out.fr hf1 id)
        have hd0 := Hb1.out.cell 0
        have hd1 := Hb1.out.cell 1
        have hz0 := Hb1.out.frozen 0
        have hq1 : w1.cell? ⟨w.heap.size, 0, none⟩ = some (.pointer (some ⟨p, 0, none⟩)) := (hf1.cell (by simp) id).trans Hq.out
        simp at hd0 hd1
        have hfd : ∀ u, Fr (Only p) w (w1.setCell ⟨p, 0, none⟩ u).drew := fun u => (((hf0.then0 hf1 (fun _ h => h.elim)).weak (S' := Only p) (fun _ _ h => h.elim)).setCell (p := ⟨p, 0, none⟩) (.inl rfl) u).drew
        have hrd := rdr_drop (n := n) Hb1.out (sl_take Hsl.out (hf0.then0 hf1 (fun _ h => h.elim)) xs.length) Hap.out hlc hcm Hnil.out H64.out hnl
        have Hfd := Lib.hid hfd
        have Hrd := Lib.hid hrd
        clear hfd hrd
        by_cases hcn : c = n
        · subst hcn
          go_wp2
          go_region
          go_wp2
          go_ret
          refine ⟨by rw [Hto.out]; rfl, ?_, Hfd.out _⟩
          have h9 := Hrd.out
          rw [if_pos trivial, show xs.length - c = 0 by omega, Nat.sub_self] at h9
          rw [Ha.out]
          exact h9
        · obtain ⟨ad, rfl⟩ : ∃ ad, A = some ad := by
            cases A with
            | none => have := (Hnil.out rfl).2; omega
            | some ad => exact ⟨ad, rfl⟩
          go_wp2
          go_region
          go_wp2
          go_ret
          refine ⟨by rw [Hto.out]; rfl, ?_, Hfd.out _⟩
          have h9 := Hrd.out
          rw [if_neg hcn] at h9
          rw [Ha.out]
          exact h9
      | false =>
        have Ha : Hid (after (some xs) n false = none) := Lib.hid (by simp [after])
        have Hto : Hid (told (some xs) n false (.string x) (.string ⟨#[]⟩) = .string ⟨#[]⟩) := Lib.hid (by simp [told, after])
        go_enter Tryz.func109, Tryz.ntmps109
        go_wp2_with fail
        refine (Ht.out rfl hnl _ A c hf0 (sl_take Hsl.out hf0 n) hnc hcm (fun e => (Hnil.out e).2)).mono ?_
        rintro e w1 ⟨rfl, hf1⟩
        have Hb1 := Lib.hid (Hb.out.fr hf1 id)
        have Hq1 : Hid (w1.cell? ⟨w.heap.size, 0, none⟩ = some (.pointer (some ⟨p, 0, none⟩))) := Lib.hid ((hf1.cell (by simp) id).trans Hq.out)
        go_wp2_with fail
        refine (wrongString_any p w.heap.size A _ c false _ Hb1.out Hq1.out).mono ?_
        rintro e w2 ⟨rfl, h1, h2⟩
        go_wp2
        go_ret
        exact ⟨by rw [Hto.out]; rfl, by rw [Ha.out]; exact h1, ((hf0.then0 hf1 (fun _ h => h.elim)).weak (fun _ _ h => h.elim)).trans' h2 (fun _ _ h => h)⟩
    · have Ha : Hid (after (some xs) n ok = none) := Lib.hid (by simp [after, hnl])
      have Hto : Hid (told (some xs) n ok (.string x) (.string ⟨#[]⟩) = .string ⟨#[]⟩) := Lib.hid (by simp [told, after, hnl])
      clear Ht
      go_enter Tryz.func109, Tryz.ntmps109
      go_wp2_with fail
      refine (wrongString_any p w.heap.size A _ c false _ Hb.out Hq.out).mono ?_
      rintro e w1 ⟨rfl, h1, h2⟩
      go_wp2
      go_ret
      exact ⟨by rw [Hto.out]; rfl, by rw [Ha.out]; exact h1, (hf0.weak (fun _ _ h => h.elim)).trans' h2 (fun _ _ h => h)⟩

/-- The answer to a try. -/
theorem told_none (n : Nat) (ok : Bool) (x z : Value) : told none n ok x z = z := rfl

set_option maxHeartbeats 1000000 in
theorem countTell_any (q : Nat) (most : Int) (u : Nat) (rest : List Nat) (w : World) (hq : w.cell? ⟨q, 0, none⟩ = some (.int .i64 most)) (hm : -9223372036854775808 ≤ most ∧ most < 9223372036854775808) :
    Tells 54 (fun s => #[s, .pointer (some ⟨q, 0, none⟩)]) w (u :: rest) 1 (.int .i64 (IntKind.i64.wrap u)) (decide (0 ≤ most ∧ (u : Int) ≤ most)) := by
  intro W A c hf hsl hnc hcm hA
  have hqW : W.cell? ⟨q, 0, none⟩ = some (.int .i64 most) := (hf.cell (World.block_lt_of_cell? w _ hq) id).trans hq
  obtain ⟨ad, rfl, hc⟩ := hsl.word (k := 0) (by simp)
  have hc0 : W.cell? ad = some (.int .u64 u) := hc
  obtain ⟨hm1, hm2⟩ := hm
  clear hc hsl hf hq
  by_cases h0 : 0 ≤ most
  · have hd0 : decide (0 ≤ most) = true := by simpa using h0
    have hw : IntKind.u64.wrap most = most := IntWalk.u64_in _ (by omega)
    have he : decide (0 ≤ most ∧ (u : Int) ≤ most) = decide ((u : Int) ≤ most) := by simp [h0]
    have He := Lib.hid he
    clear he
    dsimp only
    rw [He.out]
    go_enter Tryz.func54, Tryz.ntmps54
    go_wp2
    go_quiet (fail)
    go_wp2
    go_ret2
    exact ⟨by simp [IntWalk.i64_left], (Fr.refl _ _).drewN _⟩
  · have hd0 : decide (0 ≤ most) = false := by simpa using h0
    have he : decide (0 ≤ most ∧ (u : Int) ≤ most) = false := by simp [h0]
    have He := Lib.hid he
    clear he
    dsimp only
    rw [He.out]
    go_enter Tryz.func54, Tryz.ntmps54
    go_wp2
    go_quiet (fail)
    go_wp2
    go_ret2
    exact ⟨by simp [IntWalk.i64_left], (Fr.refl _ _).drewN _⟩

set_option maxHeartbeats 1000000 in
theorem flagTell_any (u : Nat) (rest : List Nat) (w : World) :
    Tells 115 (fun s => #[s]) w (u :: rest) 1 (.bool ((u : Int) == 1)) (decide ((u : Int) ≤ 1)) := by
  intro W A c hf hsl hnc hcm hA
  obtain ⟨ad, rfl, hc⟩ := hsl.word (k := 0) (by simp)
  have hc0 : W.cell? ad = some (.int .u64 u) := hc
  clear hc hsl hf
  dsimp only
  go_enter Tryz.func115, Tryz.ntmps115
  go_wp2
  go_quiet (fail)
  go_wp2
  go_ret2
  exact ⟨by simp, (Fr.refl _ _).drewN _⟩

/-- The number of a word. -/
def uns (u : Nat) : Int := if u % 2 = 0 then (u / 2 : Nat) else -((u / 2 : Nat) : Int) - 1

theorem xor_i64 (a b : Int) : bits .xor .i64 a b = IntKind.i64.wrap (((BitVec.ofInt 64 a) ^^^ (BitVec.ofInt 64 b)).toNat : Int) := rfl
theorem uns_bits (u : Nat) (hu : u < 18446744073709551616) : bits BinOp.xor IntKind.i64 ((u : Int) / 2) (wrap64 (-wrap64 (bits BinOp.and IntKind.u64 (u : Int) 1))) = uns u := by
  have h1 : bits BinOp.and IntKind.u64 (u : Int) 1 = ((u % 2 : Nat) : Int) := by
    have h2 := u64_and_nat u 1 hu (by omega)
    rw [Nat.and_one_is_mod] at h2
    exact h2
  have h3 : (u : Int) / 2 = ((u / 2 : Nat) : Int) := by omega
  have h4 : (BitVec.ofInt 64 ((u / 2 : Nat) : Int)).toNat = u / 2 := by
    rw [BitVec.ofInt_natCast, BitVec.toNat_ofNat]
    exact Nat.mod_eq_of_lt (by omega)
  rw [h1, h3, xor_i64]
  unfold uns
  by_cases h : u % 2 = 0
  · rw [if_pos h, h]
    have h5 : (BitVec.ofInt 64 (wrap64 (-wrap64 ((0 : Nat) : Int)))) = 0#64 := by
      rw [show wrap64 (-wrap64 ((0 : Nat) : Int)) = 0 by unfold wrap64; omega]
      decide +kernel
    rw [h5, BitVec.xor_zero, h4, IntKind.wrap_i64]
    omega
  · rw [if_neg h, show u % 2 = 1 by omega]
    have h5 : (BitVec.ofInt 64 (wrap64 (-wrap64 ((1 : Nat) : Int)))) = BitVec.allOnes 64 := by
      rw [show wrap64 (-wrap64 ((1 : Nat) : Int)) = -1 by unfold wrap64; omega]
      decide +kernel
    rw [h5, BitVec.xor_allOnes, BitVec.toNat_not, h4, IntKind.wrap_i64]
    omega

set_option maxHeartbeats 1000000 in
theorem signedTell_any (u : Nat) (rest : List Nat) (w : World) (hu : u < 18446744073709551616) :
    Tells 140 (fun s => #[s]) w (u :: rest) 1 (.int .i64 (uns u)) true := by
  intro W A c hf hsl hnc hcm hA
  obtain ⟨ad, rfl, hc⟩ := hsl.word (k := 0) (by simp)
  have hc0 : W.cell? ad = some (.int .u64 u) := hc
  clear hc hsl hf
  dsimp only
  go_enter Tryz.func140, Tryz.ntmps140
  go_wp2
  go_quiet (fail)
  go_wp2
  go_ret2
  exact ⟨by simp [uns_bits u hu], (Fr.refl _ _).drewN _⟩

set_option maxHeartbeats 1000000 in
theorem textTell_any (q n : Nat) (xs : List Nat) (w : World) (hq : w.cell? ⟨q, 0, none⟩ = some (.int .i64 n)) (h64 : ∀ u ∈ xs, u < 18446744073709551616) (hn : n ≤ 64) (hm : (n + 7) / 8 ≤ xs.length) :
    Tells 110 (fun s => #[s, .pointer (some ⟨q, 0, none⟩)]) w xs ((n + 7) / 8) (.string (if padB (xs.take ((n + 7) / 8)) n ((n + 7) / 8) = true then ofB (unp (xs.take ((n + 7) / 8)) n) else ⟨#[]⟩)) (padB (xs.take ((n + 7) / 8)) n ((n + 7) / 8)) := by
  intro W A c hf hsl hnc hcm hA
  have hqW : W.cell? ⟨q, 0, none⟩ = some (.int .i64 n) := (hf.cell (World.block_lt_of_cell? w _ hq) id).trans hq
  have hl : (xs.take ((n + 7) / 8)).length = (n + 7) / 8 := by rw [List.length_take]; omega
  have hm8 : n ≤ 8 * ((n + 7) / 8) := by omega
  have hm1 : (n + 7) / 8 ≤ 8 := by omega
  have h64' : ∀ u ∈ xs.take ((n + 7) / 8), u < 18446744073709551616 := fun u hu => h64 u (List.mem_of_mem_take hu)
  generalize xs.take ((n + 7) / 8) = ws at *
  generalize (n + 7) / 8 = m at *
  have Hl := Lib.hid hl
  have Hsl := Lib.hid hsl
  have H64 := Lib.hid h64'
  clear hl hsl h64' hq hf h64
  dsimp only
  go_enter Tryz.func110, Tryz.ntmps110
  go_wp2_with fail
  refine (unpack_any ws n m A c W Hsl.out H64.out Hl.out hn (by omega) hm8).mono ?_
  rintro e w1 ⟨rfl, hf1⟩
  go_wp2
  all_goals
    go_ret2
    exact ⟨by simp [*], hf1⟩

theorem rdr_words {w : World} {p : Nat} {xs : List Nat} (h : Rdr w p (some xs)) : ∀ u ∈ xs, u < 18446744073709551616 := by
  obtain ⟨_, _, _, _, _, _, _, _, h7⟩ := h
  exact h7
/-- What is read as a count. -/
def cntR (most : Int) (st : Option (List Nat)) : Option (Nat × List Nat) :=
  match st with
  | some (u :: r) => if 0 ≤ most ∧ (u : Int) ≤ most then some (u, r) else none
  | _ => none
def sgnR (st : Option (List Nat)) : Option (Int × List Nat) :=
  match st with
  | some (u :: r) => some (uns u, r)
  | _ => none
def flagR (st : Option (List Nat)) : Option (Bool × List Nat) :=
  match st with
  | some (u :: r) => if u ≤ 1 then some (u == 1, r) else none
  | _ => none
def textR (st : Option (List Nat)) : Option (ByteArray × List Nat) :=
  match cntR 64 st with
  | some (n, r) => if (n + 7) / 8 ≤ r.length ∧ padB (r.take ((n + 7) / 8)) n ((n + 7) / 8) = true then some (ofB (unp (r.take ((n + 7) / 8)) n), r.drop ((n + 7) / 8)) else none
  | none => none
def wordsR (most : Int) (st : Option (List Nat)) : Option (List Nat × List Nat) :=
  match cntR most st with
  | some (n, r) => if n ≤ r.length then some (r.take n, r.drop n) else none
  | none => none
/-- What a reader's call leaves and tells, of what is read. -/
def RedAs {α : Type} (w : World) (p : Nat) (o : Option (α × List Nat)) (z : α) (f : α → Value) (e : Ending) (w' : World) : Prop := Red w p (o.map (·.2)) (f ((o.map (·.1)).getD z)) e w'

theorem cnt_spec (most : Int) (st : Option (List Nat)) : ∃ (x : Int) (ok : Bool), (∀ u r, st = some (u :: r) → x = IntKind.i64.wrap u ∧ ok = decide (0 ≤ most ∧ (u : Int) ≤ most)) ∧
    (most < 9223372036854775808 → after st 1 ok = (cntR most st).map (·.2) ∧ told st 1 ok (.int .i64 x) (.int .i64 0) = .int .i64 ((((cntR most st).map (·.1)).getD 0 : Nat) : Int)) := by
  match st with
  | none => exact ⟨0, false, by simp, fun _ => by simp [after, told, cntR]⟩
  | some [] => exact ⟨0, false, by simp, fun _ => by simp [after, told, cntR]⟩
  | some (u :: r) =>
    refine ⟨IntKind.i64.wrap u, decide (0 ≤ most ∧ (u : Int) ≤ most), fun u' r' e => ?_, fun hm => ?_⟩
    · simp at e
      obtain ⟨rfl, rfl⟩ := e
      exact ⟨rfl, rfl⟩
    · by_cases h : 0 ≤ most ∧ (u : Int) ≤ most
      · have e : IntKind.i64.wrap (u : Int) = u := IntWalk.i64_in _ (by omega)
        simp [after, told, cntR, h, e]
      · simp [after, told, cntR, h]

set_option maxHeartbeats 1000000 in
theorem rcount_any (p : Nat) (most : Int) (st : Option (List Nat)) (w : World) (hr : Rdr w p st) (hm : -9223372036854775808 ≤ most ∧ most < 9223372036854775808) :
    Calls Tryz.prog 28 #[.pointer (some ⟨p, 0, none⟩), .int .i64 most] w (RedAs w p (cntR most st) 0 fun n => .int .i64 ((n : Nat) : Int)) := by
  have hmf : ∀ (fn : Fn) (first cap : Array Value) (w : World), (Instr.makeFunc fn first cap).run Tryz.prog w = .ok (.func fn first cap) w := fun _ _ _ _ => rfl
  obtain ⟨x, ok, h1, h2⟩ := cnt_spec most st
  obtain ⟨h2, h3⟩ := h2 hm.2
  have H2 := Lib.hid h2
  have H3 := Lib.hid h3
  have hf0 : Fr No w (w.alloc (.cells #[.int .i64 most] 3)) := (Fr.refl _ _).alloc _
  have hr0 := hr.fr hf0 id (fun _ h => h.elim)
  have ht : st.isSome = true → 1 ≤ (st.getD []).length → Tells 54 (fun s => #[s, .pointer (some ⟨w.heap.size, 0, none⟩)]) (w.alloc (.cells #[.int .i64 most] 3)) (st.getD []) 1 (.int .i64 x) ok := by
    intro _ hl
    match st, hl, h1 with
    | some (u :: r), _, h1 =>
      obtain ⟨rfl, rfl⟩ := h1 u r rfl
      exact countTell_any w.heap.size most u r _ ((Bk.made w 3 #[.int .i64 most]).cell 0) hm
  have Ht := Lib.hid ht
  clear h1 h2 h3 ht
  go_enter Tryz.func28, Tryz.ntmps28
  go_wp2_with fail
  refine (nextInt_any p st 1 x ok _ _ hr0 Ht.out (by omega)).mono ?_
  rw [H2.out, H3.out]
  rintro e w1 ⟨rfl, q1, q2⟩
  go_wp2
  go_ret
  exact ⟨by simp, q1, (hf0.weak (fun _ _ h => h.elim)).trans' q2 (fun _ _ h => h)⟩

theorem sgn_spec (st : Option (List Nat)) : ∃ (x : Int) (ok : Bool), (∀ u r, st = some (u :: r) → x = uns u ∧ ok = true) ∧
    (after st 1 ok = (sgnR st).map (·.2) ∧ told st 1 ok (.int .i64 x) (.int .i64 0) = .int .i64 (((sgnR st).map (·.1)).getD 0)) := by
  match st with
  | none => exact ⟨0, false, by simp, by simp [after, told, sgnR]⟩
  | some [] => exact ⟨0, false, by simp, by simp [after, told, sgnR]⟩
  | some (u :: r) =>
    refine ⟨uns u, true, fun u' r' e => ?_, by simp [after, told, sgnR]⟩
    simp at e
    obtain ⟨rfl, rfl⟩ := e
    exact ⟨rfl, rfl⟩
theorem flag_spec (st : Option (List Nat)) : ∃ (x ok : Bool), (∀ u r, st = some (u :: r) → x = ((u : Int) == 1) ∧ ok = decide ((u : Int) ≤ 1)) ∧
    (after st 1 ok = (flagR st).map (·.2) ∧ told st 1 ok (.bool x) (.bool false) = .bool (((flagR st).map (·.1)).getD false)) := by
  match st with
  | none => exact ⟨false, false, by simp, by simp [after, told, flagR]⟩
  | some [] => exact ⟨false, false, by simp, by simp [after, told, flagR]⟩
  | some (u :: r) =>
    refine ⟨((u : Int) == 1), decide ((u : Int) ≤ 1), fun u' r' e => ?_, ?_⟩
    · simp at e
      obtain ⟨rfl, rfl⟩ := e
      exact ⟨rfl, rfl⟩
    · by_cases h : u ≤ 1
      · have h1 : (u : Int) ≤ 1 := by omega
        have h2 : ((u : Int) == 1) = (u == 1) := by
          rw [Bool.eq_iff_iff, beq_iff_eq, beq_iff_eq]
          omega
        simp [after, told, flagR, h, h1, h2]
      · have h1 : ¬ (u : Int) ≤ 1 := by omega
        simp [after, told, flagR, h, h1]

set_option maxHeartbeats 1000000 in
theorem rsigned_any (p : Nat) (st : Option (List Nat)) (w : World) (hr : Rdr w p st) :
    Calls Tryz.prog 136 #[.pointer (some ⟨p, 0, none⟩)] w (RedAs w p (sgnR st) 0 fun n => .int .i64 n) := by
  have hmf : ∀ (fn : Fn) (first cap : Array Value) (w : World), (Instr.makeFunc fn first cap).run Tryz.prog w = .ok (.func fn first cap) w := fun _ _ _ _ => rfl
  obtain ⟨x, ok, h1, h2, h3⟩ := sgn_spec st
  have H2 := Lib.hid h2
  have H3 := Lib.hid h3
  have ht : st.isSome = true → 1 ≤ (st.getD []).length → Tells 140 (fun s => #[s]) w (st.getD []) 1 (.int .i64 x) ok := by
    intro _ hl
    match st, hl, h1, hr with
    | some (u :: r), _, h1, hr =>
      obtain ⟨rfl, rfl⟩ := h1 u r rfl
      exact signedTell_any u r w (rdr_words hr u (by simp))
  have Ht := Lib.hid ht
  clear h1 h2 h3 ht
  go_enter Tryz.func136, Tryz.ntmps136
  go_wp2_with fail
  refine (nextInt64_any p st 1 x ok _ hr Ht.out (by omega)).mono ?_
  rw [H2.out, H3.out]
  rintro e w1 ⟨rfl, q1, q2⟩
  go_wp2
  go_ret
  exact ⟨by simp, q1, q2⟩

set_option maxHeartbeats 1000000 in
theorem rflag_any (p : Nat) (st : Option (List Nat)) (w : World) (hr : Rdr w p st) :
    Calls Tryz.prog 98 #[.pointer (some ⟨p, 0, none⟩)] w (RedAs w p (flagR st) false fun b => .bool b) := by
  have hmf : ∀ (fn : Fn) (first cap : Array Value) (w : World), (Instr.makeFunc fn first cap).run Tryz.prog w = .ok (.func fn first cap) w := fun _ _ _ _ => rfl
  obtain ⟨x, ok, h1, h2, h3⟩ := flag_spec st
  have H2 := Lib.hid h2
  have H3 := Lib.hid h3
  have ht : st.isSome = true → 1 ≤ (st.getD []).length → Tells 115 (fun s => #[s]) w (st.getD []) 1 (.bool x) ok := by
    intro _ hl
    match st, hl, h1 with
    | some (u :: r), _, h1 =>
      obtain ⟨rfl, rfl⟩ := h1 u r rfl
      exact flagTell_any u r w
  have Ht := Lib.hid ht
  clear h1 h2 h3 ht
  go_enter Tryz.func98, Tryz.ntmps98
  go_wp2_with fail
  refine (nextBool_any p st 1 x ok _ hr Ht.out (by omega)).mono ?_
  rw [H2.out, H3.out]
  rintro e w1 ⟨rfl, q1, q2⟩
  go_wp2
  go_ret
  exact ⟨by simp, q1, q2⟩

theorem Red.from {α : Type} {a w : World} {p : Nat} {o : Option (α × List Nat)} {z : α} {f : α → Value} {e : Ending} {w' : World} (ha : Fr (Only p) a w) (h : RedAs w p o z f e w') : RedAs a p o z f e w' := by
  obtain ⟨h1, h2, h3⟩ := h
  exact ⟨h1, h2, ha.trans' h3 (fun _ _ h => h)⟩

theorem text_spec (st : Option (List Nat)) : ∃ (x : ByteArray) (ok : Bool), ∀ st1 n, st1 = (cntR 64 st).map (·.2) → n = ((cntR 64 st).map (·.1)).getD 0 →
    (∀ r, st1 = some r → (n + 7) / 8 ≤ r.length → x = (if padB (r.take ((n + 7) / 8)) n ((n + 7) / 8) = true then ofB (unp (r.take ((n + 7) / 8)) n) else ⟨#[]⟩) ∧ ok = padB (r.take ((n + 7) / 8)) n ((n + 7) / 8)) ∧
    after st1 ((n + 7) / 8) ok = (textR st).map (·.2) ∧ told st1 ((n + 7) / 8) ok (.string x) (.string ⟨#[]⟩) = .string (((textR st).map (·.1)).getD ⟨#[]⟩) := by
  cases h : cntR 64 st with
  | none =>
    refine ⟨⟨#[]⟩, false, ?_⟩
    rintro st1 n rfl rfl
    simp [after, told, textR, h]
  | some y =>
    obtain ⟨n, r⟩ := y
    refine ⟨if padB (r.take ((n + 7) / 8)) n ((n + 7) / 8) = true then ofB (unp (r.take ((n + 7) / 8)) n) else ⟨#[]⟩, padB (r.take ((n + 7) / 8)) n ((n + 7) / 8), ?_⟩
    intro st1 n' e1 e2
    simp only [Option.map_some, Option.getD_some] at e1 e2
    obtain rfl : n = n' := e2.symm
    subst e1
    refine ⟨?_, ?_⟩
    · intro r' e hl
      injection e with e
      subst e
      exact ⟨rfl, rfl⟩
    · by_cases h1 : (n + 7) / 8 ≤ r.length
      · by_cases h2 : padB (r.take ((n + 7) / 8)) n ((n + 7) / 8) = true
        · simp [after, told, textR, h, h1, h2]
        · simp [after, told, textR, h, h1, h2]
      · simp [after, told, textR, h, h1]
theorem cntR_le {most : Int} {st : Option (List Nat)} {n : Nat} {r : List Nat} (h : cntR most st = some (n, r)) : (n : Int) ≤ most := by
  match st, h with
  | some (u :: r'), h =>
    simp only [cntR] at h
    split at h
    · simp at h; omega
    · cases h

set_option maxHeartbeats 1000000 in
theorem rtext_any (p : Nat) (st : Option (List Nat)) (w : World) (hr : Rdr w p st) :
    Calls Tryz.prog 96 #[.pointer (some ⟨p, 0, none⟩)] w (RedAs w p (textR st) ⟨#[]⟩ fun s => .string s) := by
  have hmf : ∀ (fn : Fn) (first cap : Array Value) (w : World), (Instr.makeFunc fn first cap).run Tryz.prog w = .ok (.func fn first cap) w := fun _ _ _ _ => rfl
  obtain ⟨x, ok, h1⟩ := text_spec st
  have H1 := Lib.hid h1
  clear h1
  go_enter Tryz.func96, Tryz.ntmps96
  go_wp2_with fail
  refine (rcount_any p 64 st w hr (by omega)).mono ?_
  rintro e w1 ⟨rfl, hr1, hf1⟩
  have hn64 : ((cntR 64 st).map (·.1)).getD 0 ≤ 64 := by
    cases h : cntR 64 st with
    | none => simp
    | some y => have := cntR_le (n := y.1) (r := y.2) h; simp; omega
  obtain ⟨n, hn⟩ : ∃ n, n = ((cntR 64 st).map (·.1)).getD 0 := ⟨_, rfl⟩
  obtain ⟨st1, hst⟩ : ∃ st1, st1 = (cntR 64 st).map (·.2) := ⟨_, rfl⟩
  obtain ⟨h2, h3, h4⟩ := H1.out st1 n hst hn
  rw [← hn] at hn64 ⊢
  rw [← hst] at hr1
  have H2 := Lib.hid h2
  have H3 := Lib.hid h3
  have H4 := Lib.hid h4
  have hf2 : Fr No w1 (w1.alloc (.cells #[.int .i64 n] 3)) := (Fr.refl _ _).alloc _
  have hr2 := hr1.fr hf2 id (fun _ h => h.elim)
  obtain ⟨m, hm⟩ : ∃ m, m = (n + 7) / 8 := ⟨_, rfl⟩
  have ht : st1.isSome = true → m ≤ (st1.getD []).length → Tells 110 (fun s => #[s, .pointer (some ⟨w1.heap.size, 0, none⟩)]) (w1.alloc (.cells #[.int .i64 n] 3)) (st1.getD []) m (.string x) ok := by
    intro hs hl
    subst hm
    cases st1 with
    | none => cases hs
    | some r =>
      obtain ⟨rfl, rfl⟩ := H2.out r rfl hl
      exact textTell_any w1.heap.size n r _ ((Bk.made w1 3 #[.int .i64 n]).cell 0) (rdr_words hr1) hn64 hl
  have Ht := Lib.hid ht
  have Hm := Lib.hid hm
  have hmn : m ≤ 8 := by omega
  clear hn hst h2 h3 h4 ht hm
  go_wp2_with (go_at_call 92; refine (textWords_any n m (by omega) Hm.out _).mono ?_; rintro e w' ⟨rfl, rfl⟩)
  refine (nextString_any p st1 m x ok _ _ hr2 Ht.out (by omega)).mono ?_
  rw [Hm.out, H3.out, H4.out]
  rintro e w3 ⟨rfl, q1, q2⟩
  go_wp2
  go_ret
  exact ⟨by simp, q1, (hf1.trans' hf2 (fun _ _ h => h.elim)).trans' q2 (fun _ _ h => h)⟩

theorem own_weak {w : World} {base base' : Nat} {e : TypeId} {size n : Nat} {v : Value} {xs : List Value} (h : w.ownsRow base e size v n xs) (hb : base' ≤ base) : w.ownsRow base' e size v n xs := by
  refine ⟨h.1, ?_⟩
  rcases h.2 with h0 | ⟨g, cap, cur, hv, hbg, r⟩
  · exact .inl h0
  · exact .inr ⟨g, cap, cur, hv, Nat.le_trans hb hbg, r⟩

/-- What is told of the words asked for, where that is a copy of them. -/
def TellsL (fid : Nat) (w : World) (xs : List Nat) (n : Nat) : Prop :=
  ∀ (W : World) (A : Option Addr) (c : Nat), Fr No w W → Sl W W.heap.size A (u64s (xs.take n)) → n ≤ c → c ≤ maxLen → (A = none → c = 0) →
    Calls Tryz.prog fid #[.slice A n c] W fun e w' => ∃ A3 c3, e = .returned (.tuple #[.slice A3 n c3, .bool true]) ∧ w'.ownsRow W.heap.size 70 1 (.slice A3 (xs.take n).length c3) (xs.take n).length (u64s (xs.take n)) ∧ Fr No W w'
def toldL (st : Option (List Nat)) (n : Nat) : List Nat := if (after st n true).isSome then (st.getD []).take n else []
/-- What a reader's call that tells a list leaves. -/
def RedL (w : World) (p : Nat) (st : Option (List Nat)) (zs : List Nat) (e : Ending) (w' : World) : Prop :=
  ∃ A c, e = .returned (.slice A zs.length c) ∧ w'.ownsRow w.heap.size 70 1 (.slice A zs.length c) zs.length (u64s zs) ∧ Rdr w' p st ∧ Fr (Only p) w w'

theorem words_spec (most : Int) (st : Option (List Nat)) : ∀ st1 n, st1 = (cntR most st).map (·.2) → n = ((cntR most st).map (·.1)).getD 0 →
    after st1 n true = (wordsR most st).map (·.2) ∧ toldL st1 n = ((wordsR most st).map (·.1)).getD [] := by
  intro st1 n e1 e2
  cases h : cntR most st with
  | none =>
    rw [h] at e1 e2
    subst e1 e2
    simp [after, toldL, wordsR, h]
  | some y =>
    obtain ⟨m, r⟩ := y
    rw [h] at e1 e2
    simp at e1 e2
    subst e1 e2
    by_cases h1 : n ≤ r.length
    · simp [after, toldL, wordsR, h, h1]
    · simp [after, toldL, wordsR, h, h1]

set_option maxHeartbeats 1000000 in
theorem rok_any (p : Nat) (st : Option (List Nat)) (w : World) (hr : Rdr w p st) :
    Calls Tryz.prog 17 #[.pointer (some ⟨p, 0, none⟩)] w fun e w' => e = .returned (.bool st.isSome) ∧ w = w' := by
  obtain ⟨A, c, hb, _⟩ := hr
  have hc := hb.cell 1
  simp at hc
  clear hb
  go_enter Tryz.func17, Tryz.ntmps17
  go_wp2
  go_ret
  exact ⟨by cases st <;> rfl, rfl⟩

set_option maxHeartbeats 1000000 in
theorem rend_any (p : Nat) (st : Option (List Nat)) (w : World) (hr : Rdr w p st) :
    Calls Tryz.prog 14 #[.pointer (some ⟨p, 0, none⟩)] w fun e w' => e = .returned (.bool (decide (st = some []))) ∧ Fr No w w' := by
  obtain ⟨A, c, hb, _⟩ := id hr
  have hc := hb.cell 0
  simp at hc
  clear hb
  go_enter Tryz.func14, Tryz.ntmps14
  go_wp2_with (go_at_call 17; refine (rok_any p st _ hr).mono ?_; rintro e w' ⟨rfl, rfl⟩)
  all_goals
    go_ret
    refine ⟨?_, Fr.refl _ _⟩
  · cases st with
    | none => simp at *
    | some xs =>
      cases xs with
      | nil => simp
      | cons a b => simp; omega
  · cases st with
    | none => simp
    | some xs => simp at *

set_option maxHeartbeats 1000000 in
theorem newReader_any (xs : List Nat) (A : Option Addr) (n c : Nat) (w : World) (hsl : Sl w w.heap.size A (u64s xs)) (hn : xs.length = n) (hA : A = none → n = 0 ∧ c = 0) (hlen : n ≤ 1099511627776) (h64 : ∀ u ∈ xs, u < 18446744073709551616) :
    Calls Tryz.prog 8 #[.slice A n c] w fun e w' => ∃ p, e = .returned (.pointer (some ⟨p, 0, none⟩)) ∧ w.heap.size ≤ p ∧ Rdr w' p (some xs) ∧ Fr No w w' := by
  have Hn := Lib.hid hn
  clear hn
  go_enter Tryz.func8, Tryz.ntmps8
  go_wp2_with fail
  refine (clone_any xs A n c w hsl Hn.out hA hlen).mono ?_
  rintro e w1 ⟨A1, c1, rfl, hown, hf1⟩
  have hb := Bk.made w1 72 #[.slice A1 xs.length c1, .bool false]
  have hf2 : Fr No w1 (w1.alloc (.cells #[.slice A1 xs.length c1, .bool false] 72)) := (Fr.refl _ _).alloc _
  have hr : Rdr (w1.alloc (.cells #[.slice A1 xs.length c1, .bool false] 72)) w1.heap.size (some xs) := by
    have hs := Sl.ofOwn hown
    obtain ⟨A', c', h1, h2, h3, h4⟩ := own_shape hown
    injection h1 with h1 h5 h6
    subst h1 h6
    refine ⟨A1, c1, hb, (hs.fr hf2 (Nat.le_refl _) (fun _ _ _ => id)).more (by simp), fun ad e hne he => ?_, h2, h3, h4, h64⟩
    obtain ⟨ad', e', hlt, _⟩ := hs (by simpa [u64s] using hne)
    rw [e] at e'
    injection e' with e'
    subst e'
    omega
  have Hr := Lib.hid hr
  clear hr hb hown
  go_wp2
  go_ret
  exact ⟨w1.heap.size, by simp, hf1.size, Hr.out, hf1.then0 hf2 (fun _ h => h.elim)⟩

end Go.Proofs.YtbemfomiiikpoaaGreat
/- A reader whose words lie in blocks of which G is told: counts and numbers with a sign. -/
namespace Go.Proofs.YtbemfomiiikpoaaGreat
open Go.RowKit

section
variable {G : Nat → Prop}
structure Rdq (G : Nat → Prop) (w : World) (p : Nat) (st : Option (List Nat)) : Prop where
  reads : ∃ A c, Bk w p 72 #[.slice A (st.getD []).length c, .bool st.isNone] ∧ Sl w w.heap.size A (u64s (st.getD [])) ∧ (∀ ad, A = some ad → st.getD [] ≠ [] → ad.block ≠ p ∧ G ad.block) ∧
    (st.getD []).length ≤ c ∧ c ≤ maxLen ∧ (A = none → (st.getD []).length = 0 ∧ c = 0) ∧ ∀ u ∈ st.getD [], u < 18446744073709551616
set_option maxHeartbeats 2000000 in
theorem Rdq.fr {S : Nat → Prop} {w w' : World} {p : Nat} {st : Option (List Nat)} (h : Rdq G w p st) (hf : Fr S w w') (hp : ¬ S p) (hS : ∀ k, S k → w.heap.size ≤ k) : Rdq G w' p st := by
  obtain ⟨A, c, h1, h2, h3, h4, h5, h6, h7⟩ := h
  exact ⟨A, c, h1.fr hf hp, (h2.fr hf (Nat.le_refl _) (fun ad e hne hs => by
    obtain ⟨ad', e', hb, _⟩ := h2 hne
    rw [e] at e'
    injection e' with e'
    subst e'
    have := hS _ hs
    omega)).more hf.size, h3, h4, h5, h6, h7⟩
set_option maxHeartbeats 2000000 in
theorem Rdq.lt {w : World} {p : Nat} {st : Option (List Nat)} (h : Rdq G w p st) : p < w.heap.size := by
  obtain ⟨A, c, h1, _⟩ := h
  exact h1.lt
def Rdd (G : Nat → Prop) (w : World) (p : Nat) (st : Option (List Nat)) (v : Value) (e : Ending) (w' : World) : Prop := e = .returned v ∧ Rdq G w' p st ∧ Fr (Only p) w w'
set_option maxHeartbeats 2000000 in
theorem rdq_drop {w : World} {p : Nat} {A : Option Addr} {xs : List Nat} {c n : Nat} (hb : Bk w p 72 #[.slice A xs.length c, .bool false]) (hsl : Sl w w.heap.size A (u64s (xs.take xs.length)))
    (hap : ∀ ad, A = some ad → xs ≠ [] → ad.block ≠ p ∧ G ad.block) (hlc : xs.length ≤ c) (hcm : c ≤ maxLen) (hnil : A = none → xs.length = 0 ∧ c = 0) (h64 : ∀ u ∈ xs, u < 18446744073709551616) (hn : n ≤ xs.length) :
    Rdq G (w.setCell ⟨p, 0, none⟩ (.slice (if c = n then A else A.map (·.add n)) (xs.length - n) (c - n))).drew p (some (xs.drop n)) := by
  rw [List.take_length] at hsl
  have hd := hsl.drop (k := n) (n := xs.length) (cap := c) (sz := 1) (by simp [u64s]) hn hlc
  rw [Nat.mul_one, show (u64s xs).drop n = u64s (xs.drop n) by simp [u64s, List.map_drop]] at hd
  have h1 := hb.put 0 (.slice (if c = n then A else A.map (·.add n)) (xs.length - n) (c - n))
  refine ⟨_, c - n, by simp at h1 ⊢; exact h1, ?_, ?_, by simp; omega, by omega, ?_, ?_⟩
  · intro hne
    obtain ⟨ad, e, hlt, hc⟩ := hd hne
    refine ⟨ad, e, by simpa [World.setCell] using hlt, fun j u hu => ?_⟩
    have hne2 : xs ≠ [] := by rintro rfl; simp [u64s] at hne
    have hbl : ad.block ≠ p := by
      split at e
      · exact (hap ad e hne2).1
      · cases A with
        | none => simp at e
        | some a0 =>
          simp at e
          rw [← e, block_add]
          exact (hap a0 rfl hne2).1
    show (w.setCell _ _).cell? _ = _
    rw [World.cell?_setCell_other _ _ _ _ (fun e2 => hbl (by rw [← block_add ad j, ← e2]))]
    exact hc j u hu
  · intro ad e hne
    have hne2 : xs ≠ [] := by rintro rfl; simp at hne
    split at e
    · exact hap ad e hne2
    · cases A with
      | none => simp at e
      | some a0 =>
        simp at e
        rw [← e, block_add]
        exact hap a0 rfl hne2
  · intro e
    have hA : A = none := by
      split at e
      · exact e
      · simpa using e
    have := hnil hA
    simp
    omega
  · intro u hu
    exact h64 u (List.mem_of_mem_drop (by simpa using hu))
set_option maxHeartbeats 2000000 in
theorem wrongInt_q (p q : Nat) (A : Option Addr) (n c : Nat) (b : Bool) (w : World) (hb : Bk w p 72 #[.slice A n c, .bool b]) (hq : w.cell? ⟨q, 0, none⟩ = some (.pointer (some ⟨p, 0, none⟩))) :
    Calls Tryz.prog 81 #[.pointer (some ⟨q, 0, none⟩)] w (Rdd G w p none (.int .i64 0)) := by
  have hc0 := hb.cell 0
  have hc1 := hb.cell 1
  have hf0 := hb.frozen 0
  have hf1 := hb.frozen 1
  have hqp : q ≠ p := by
    rintro rfl
    rw [hc0] at hq
    simp at hq
  simp at hc0 hc1
  go_enter Tryz.func81, Tryz.ntmps81
  go_wp2
  go_region
  go_wp2
  go_ret
  have h1 := (hb.put 0 (.slice none 0 0)).put 1 (.bool true)
  have hf : Fr (Only p) w ((w.setCell ⟨p, 0, none⟩ (.slice none 0 0)).setCell ⟨p, 1, none⟩ (.bool true)) := ((Fr.refl (Only p) w).setCell (p := ⟨p, 0, none⟩) (.inl rfl) _).setCell (p := ⟨p, 1, none⟩) (.inl rfl) _
  exact ⟨by simp, ⟨none, 0, h1, Sl.nil _ _ _, by simp, by simp, by simp, by simp, by simp⟩, hf.drew⟩
set_option maxHeartbeats 2000000 in
theorem nextInt_q (p : Nat) (st : Option (List Nat)) (n : Nat) (x : Int) (ok : Bool) (v : Value) (w : World) (hr : Rdq G w p st) (ht : st.isSome = true → n ≤ (st.getD []).length → Tells 54 (fun s => #[s, v]) w (st.getD []) n (.int .i64 x) ok) (hn : n ≤ 1099511627776) :
    Calls Tryz.prog 53 #[.pointer (some ⟨p, 0, none⟩), .int .i64 n, .func (.func 54) #[] #[v]] w (Rdd G w p (after st n ok) (told st n ok (.int .i64 x) (.int .i64 0))) := by
  have Ht := Lib.hid ht
  clear ht
  have hmf : ∀ (fn : Fn) (first cap : Array Value) (w : World), (Instr.makeFunc fn first cap).run Tryz.prog w = .ok (.func fn first cap) w := fun _ _ _ _ => rfl
  obtain ⟨A, c, hb, hsl, hap, hlc, hcm, hnil, h64⟩ := hr
  have hpl := hb.lt
  have hf0 : Fr No w (w.alloc (.cells #[.pointer (some ⟨p, 0, none⟩)] 34)) := (Fr.refl No w).alloc _
  have hq : (w.alloc (.cells #[.pointer (some ⟨p, 0, none⟩)] 34)).cell? ⟨w.heap.size, 0, none⟩ = some (.pointer (some ⟨p, 0, none⟩)) := (Bk.made w 34 #[.pointer (some ⟨p, 0, none⟩)]).cell 0
  cases st with
  | none =>
    simp only [Option.getD_none, Option.isNone_none, List.length_nil] at *
    have Hb := Lib.hid (hb.fr hf0 id)
    have hc0 := Hb.out.cell 0
    have hc1 := Hb.out.cell 1
    simp at hc0 hc1
    have Hq := Lib.hid hq
    clear hsl hap hlc hcm hnil h64 hb hq Ht
    go_enter Tryz.func53, Tryz.ntmps53
    go_wp2_with fail
    refine (wrongInt_q (G := G) p w.heap.size A 0 c true _ Hb.out Hq.out).mono ?_
    rintro e w1 ⟨rfl, h1, h2⟩
    go_wp2
    go_ret
    exact ⟨rfl, h1, (hf0.weak (fun _ _ h => h.elim)).trans' h2 (fun _ _ h => h)⟩
  | some xs =>
    simp only [Option.getD_some, Option.isNone_some] at *
    have Hb := Lib.hid (hb.fr hf0 id)
    have hc0 := Hb.out.cell 0
    have hc1 := Hb.out.cell 1
    simp at hc0 hc1
    have Hq := Lib.hid hq
    have Hsl := Lib.hid hsl
    have Hap := Lib.hid hap
    have Hnil := Lib.hid hnil
    have H64 := Lib.hid h64
    clear hsl hap hnil h64 hb hq
    by_cases hnl : n ≤ xs.length
    · have hnc : n ≤ c := by omega
      cases ok with
      | true =>
        have Ha : Hid (after (some xs) n true = some (xs.drop n)) := Lib.hid (by simp [after, hnl])
        have Hto : Hid (told (some xs) n true (.int .i64 x) (.int .i64 0) = .int .i64 x) := Lib.hid (by simp [told, after, hnl])
        go_enter Tryz.func53, Tryz.ntmps53
        go_wp2_with fail
        refine (Ht.out rfl hnl _ A c hf0 (sl_take Hsl.out hf0 n) hnc hcm (fun e => (Hnil.out e).2)).mono ?_
        rintro e w1 ⟨rfl, hf1⟩
        have Hb1 := Lib.hid (Hb.out.fr hf1 id)
        have hd0 := Hb1.out.cell 0
        have hd1 := Hb1.out.cell 1
        have hz0 := Hb1.out.frozen 0
        have hq1 : w1.cell? ⟨w.heap.size, 0, none⟩ = some (.pointer (some ⟨p, 0, none⟩)) := (hf1.cell (by simp) id).trans Hq.out
        simp at hd0 hd1
        have hfd : ∀ u, Fr (Only p) w (w1.setCell ⟨p, 0, none⟩ u).drew := fun u => (((hf0.then0 hf1 (fun _ h => h.elim)).weak (S' := Only p) (fun _ _ h => h.elim)).setCell (p := ⟨p, 0, none⟩) (.inl rfl) u).drew
        have hrd := rdq_drop (n := n) Hb1.out (sl_take Hsl.out (hf0.then0 hf1 (fun _ h => h.elim)) xs.length) Hap.out hlc hcm Hnil.out H64.out hnl
        have Hfd := Lib.hid hfd
        have Hrd := Lib.hid hrd
        clear hfd hrd
        by_cases hcn : c = n
        · subst hcn
          go_wp2
          go_region
          go_wp2
          go_ret
          refine ⟨by rw [Hto.out]; rfl, ?_, Hfd.out _⟩
          have h9 := Hrd.out
          rw [if_pos trivial, show xs.length - c = 0 by omega, Nat.sub_self] at h9
          rw [Ha.out]
          exact h9
        · obtain ⟨ad, rfl⟩ : ∃ ad, A = some ad := by
            cases A with
            | none => have := (Hnil.out rfl).2; omega
            | some ad => exact ⟨ad, rfl⟩
          go_wp2
          go_region
          go_wp2
          go_ret
          refine ⟨by rw [Hto.out]; rfl, ?_, Hfd.out _⟩
          have h9 := Hrd.out
          rw [if_neg hcn] at h9
          rw [Ha.out]
          exact h9
      | false =>
        have Ha : Hid (after (some xs) n false = none) := Lib.hid (by simp [after])
        have Hto : Hid (told (some xs) n false (.int .i64 x) (.int .i64 0) = .int .i64 0) := Lib.hid (by simp [told, after])
        go_enter Tryz.func53, Tryz.ntmps53
        go_wp2_with fail
        refine (Ht.out rfl hnl _ A c hf0 (sl_take Hsl.out hf0 n) hnc hcm (fun e => (Hnil.out e).2)).mono ?_
        rintro e w1 ⟨rfl, hf1⟩
        have Hb1 := Lib.hid (Hb.out.fr hf1 id)
        have Hq1 : Hid (w1.cell? ⟨w.heap.size, 0, none⟩ = some (.pointer (some ⟨p, 0, none⟩))) := Lib.hid ((hf1.cell (by simp) id).trans Hq.out)
        go_wp2_with fail
        refine (wrongInt_q (G := G) p w.heap.size A _ c false _ Hb1.out Hq1.out).mono ?_
        rintro e w2 ⟨rfl, h1, h2⟩
        go_wp2
        go_ret
        exact ⟨by rw [Hto.out]; rfl, by rw [Ha.out]; exact h1, ((hf0.then0 hf1 (fun _ h => h.elim)).weak (fun _ _ h => h.elim)).trans' h2 (fun _ _ h => h)⟩
    · have Ha : Hid (after (some xs) n ok = none) := Lib.hid (by simp [after, hnl])
      have Hto : Hid (told (some xs) n ok (.int .i64 x) (.int .i64 0) = .int .i64 0) := Lib.hid (by simp [told, after, hnl])
      clear Ht
      go_enter Tryz.func53, Tryz.ntmps53
      go_wp2_with fail
      refine (wrongInt_q (G := G) p w.heap.size A _ c false _ Hb.out Hq.out).mono ?_
      rintro e w1 ⟨rfl, h1, h2⟩
      go_wp2
      go_ret
      exact ⟨by rw [Hto.out]; rfl, by rw [Ha.out]; exact h1, (hf0.weak (fun _ _ h => h.elim)).trans' h2 (fun _ _ h => h)⟩
set_option maxHeartbeats 2000000 in
theorem wrongInt64_q (p q : Nat) (A : Option Addr) (n c : Nat) (b : Bool) (w : World) (hb : Bk w p 72 #[.slice A n c, .bool b]) (hq : w.cell? ⟨q, 0, none⟩ = some (.pointer (some ⟨p, 0, none⟩))) :
    Calls Tryz.prog 141 #[.pointer (some ⟨q, 0, none⟩)] w (Rdd G w p none (.int .i64 0)) := by
  have hc0 := hb.cell 0
  have hc1 := hb.cell 1
  have hf0 := hb.frozen 0
  have hf1 := hb.frozen 1
  have hqp : q ≠ p := by
    rintro rfl
    rw [hc0] at hq
    simp at hq
  simp at hc0 hc1
  go_enter Tryz.func141, Tryz.ntmps141
  go_wp2
  go_region
  go_wp2
  go_ret
  have h1 := (hb.put 0 (.slice none 0 0)).put 1 (.bool true)
  have hf : Fr (Only p) w ((w.setCell ⟨p, 0, none⟩ (.slice none 0 0)).setCell ⟨p, 1, none⟩ (.bool true)) := ((Fr.refl (Only p) w).setCell (p := ⟨p, 0, none⟩) (.inl rfl) _).setCell (p := ⟨p, 1, none⟩) (.inl rfl) _
  exact ⟨by simp, ⟨none, 0, h1, Sl.nil _ _ _, by simp, by simp, by simp, by simp, by simp⟩, hf.drew⟩
set_option maxHeartbeats 2000000 in
theorem nextInt64_q (p : Nat) (st : Option (List Nat)) (n : Nat) (x : Int) (ok : Bool) (w : World) (hr : Rdq G w p st) (ht : st.isSome = true → n ≤ (st.getD []).length → Tells 140 (fun s => #[s]) w (st.getD []) n (.int .i64 x) ok) (hn : n ≤ 1099511627776) :
    Calls Tryz.prog 139 #[.pointer (some ⟨p, 0, none⟩), .int .i64 n, .func (.func 140) #[] #[]] w (Rdd G w p (after st n ok) (told st n ok (.int .i64 x) (.int .i64 0))) := by
  have Ht := Lib.hid ht
  clear ht
  have hmf : ∀ (fn : Fn) (first cap : Array Value) (w : World), (Instr.makeFunc fn first cap).run Tryz.prog w = .ok (.func fn first cap) w := fun _ _ _ _ => rfl
  obtain ⟨A, c, hb, hsl, hap, hlc, hcm, hnil, h64⟩ := hr
  have hpl := hb.lt
  have hf0 : Fr No w (w.alloc (.cells #[.pointer (some ⟨p, 0, none⟩)] 34)) := (Fr.refl No w).alloc _
  have hq : (w.alloc (.cells #[.pointer (some ⟨p, 0, none⟩)] 34)).cell? ⟨w.heap.size, 0, none⟩ = some (.pointer (some ⟨p, 0, none⟩)) := (Bk.made w 34 #[.pointer (some ⟨p, 0, none⟩)]).cell 0
  cases st with
  | none =>
    simp only [Option.getD_none, Option.isNone_none, List.length_nil] at *
    have Hb := Lib.hid (hb.fr hf0 id)
    have hc0 := Hb.out.cell 0
    have hc1 := Hb.out.cell 1
    simp at hc0 hc1
    have Hq := Lib.hid hq
    clear hsl hap hlc hcm hnil h64 hb hq Ht
    go_enter Tryz.func139, Tryz.ntmps139
    go_wp2_with fail
    refine (wrongInt64_q (G := G) p w.heap.size A 0 c true _ Hb.out Hq.out).mono ?_
    rintro e w1 ⟨rfl, h1, h2⟩
    go_wp2
    go_ret
    exact ⟨rfl, h1, (hf0.weak (fun _ _ h => h.elim)).trans' h2 (fun _ _ h => h)⟩
  | some xs =>
    simp only [Option.getD_some, Option.isNone_some] at *
    have Hb := Lib.hid (hb.fr hf0 id)
    have hc0 := Hb.out.cell 0
    have hc1 := Hb.out.cell 1
    simp at hc0 hc1
    have Hq := Lib.hid hq
    have Hsl := Lib.hid hsl
    have Hap := Lib.hid hap
    have Hnil := Lib.hid hnil
    have H64 := Lib.hid h64
    clear hsl hap hnil h64 hb hq
    by_cases hnl : n ≤ xs.length
    · have hnc : n ≤ c := by omega
      cases ok with
      | true =>
        have Ha : Hid (after (some xs) n true = some (xs.drop n)) := Lib.hid (by simp [after, hnl])
        have Hto : Hid (told (some xs) n true (.int .i64 x) (.int .i64 0) = .int .i64 x) := Lib.hid (by simp [told, after, hnl])
        go_enter Tryz.func139, Tryz.ntmps139
        go_wp2_with fail
        refine (Ht.out rfl hnl _ A c hf0 (sl_take Hsl.out hf0 n) hnc hcm (fun e => (Hnil.out e).2)).mono ?_
        rintro e w1 ⟨rfl, hf1⟩
        have Hb1 := Lib.hid (Hb.out.fr hf1 id)
        have hd0 := Hb1.out.cell 0
        have hd1 := Hb1.out.cell 1
        have hz0 := Hb1.out.frozen 0
        have hq1 : w1.cell? ⟨w.heap.size, 0, none⟩ = some (.pointer (some ⟨p, 0, none⟩)) := (hf1.cell (by simp) id).trans Hq.out
        simp at hd0 hd1
        have hfd : ∀ u, Fr (Only p) w (w1.setCell ⟨p, 0, none⟩ u).drew := fun u => (((hf0.then0 hf1 (fun _ h => h.elim)).weak (S' := Only p) (fun _ _ h => h.elim)).setCell (p := ⟨p, 0, none⟩) (.inl rfl) u).drew
        have hrd := rdq_drop (n := n) Hb1.out (sl_take Hsl.out (hf0.then0 hf1 (fun _ h => h.elim)) xs.length) Hap.out hlc hcm Hnil.out H64.out hnl
        have Hfd := Lib.hid hfd
        have Hrd := Lib.hid hrd
        clear hfd hrd
        by_cases hcn : c = n
        · subst hcn
          go_wp2
          go_region
          go_wp2
          go_ret
          refine ⟨by rw [Hto.out]; rfl, ?_, Hfd.out _⟩
          have h9 := Hrd.out
          rw [if_pos trivial, show xs.length - c = 0 by omega, Nat.sub_self] at h9
          rw [Ha.out]
          exact h9
        · obtain ⟨ad, rfl⟩ : ∃ ad, A = some ad := by
            cases A with
            | none => have := (Hnil.out rfl).2; omega
            | some ad => exact ⟨ad, rfl⟩
          go_wp2
          go_region
          go_wp2
          go_ret
          refine ⟨by rw [Hto.out]; rfl, ?_, Hfd.out _⟩
          have h9 := Hrd.out
          rw [if_neg hcn] at h9
          rw [Ha.out]
          exact h9
      | false =>
        have Ha : Hid (after (some xs) n false = none) := Lib.hid (by simp [after])
        have Hto : Hid (told (some xs) n false (.int .i64 x) (.int .i64 0) = .int .i64 0) := Lib.hid (by simp [told, after])
        go_enter Tryz.func139, Tryz.ntmps139
        go_wp2_with fail
        refine (Ht.out rfl hnl _ A c hf0 (sl_take Hsl.out hf0 n) hnc hcm (fun e => (Hnil.out e).2)).mono ?_
        rintro e w1 ⟨rfl, hf1⟩
        have Hb1 := Lib.hid (Hb.out.fr hf1 id)
        have Hq1 : Hid (w1.cell? ⟨w.heap.size, 0, none⟩ = some (.pointer (some ⟨p, 0, none⟩))) := Lib.hid ((hf1.cell (by simp) id).trans Hq.out)
        go_wp2_with fail
        refine (wrongInt64_q (G := G) p w.heap.size A _ c false _ Hb1.out Hq1.out).mono ?_
        rintro e w2 ⟨rfl, h1, h2⟩
        go_wp2
        go_ret
        exact ⟨by rw [Hto.out]; rfl, by rw [Ha.out]; exact h1, ((hf0.then0 hf1 (fun _ h => h.elim)).weak (fun _ _ h => h.elim)).trans' h2 (fun _ _ h => h)⟩
    · have Ha : Hid (after (some xs) n ok = none) := Lib.hid (by simp [after, hnl])
      have Hto : Hid (told (some xs) n ok (.int .i64 x) (.int .i64 0) = .int .i64 0) := Lib.hid (by simp [told, after, hnl])
      clear Ht
      go_enter Tryz.func139, Tryz.ntmps139
      go_wp2_with fail
      refine (wrongInt64_q (G := G) p w.heap.size A _ c false _ Hb.out Hq.out).mono ?_
      rintro e w1 ⟨rfl, h1, h2⟩
      go_wp2
      go_ret
      exact ⟨by rw [Hto.out]; rfl, by rw [Ha.out]; exact h1, (hf0.weak (fun _ _ h => h.elim)).trans' h2 (fun _ _ h => h)⟩
set_option maxHeartbeats 2000000 in
theorem rdq_words {w : World} {p : Nat} {xs : List Nat} (h : Rdq G w p (some xs)) : ∀ u ∈ xs, u < 18446744073709551616 := by
  obtain ⟨_, _, _, _, _, _, _, _, h7⟩ := h
  exact h7
def RdqAs {α : Type} (G : Nat → Prop) (w : World) (p : Nat) (o : Option (α × List Nat)) (z : α) (f : α → Value) (e : Ending) (w' : World) : Prop := Rdd G w p (o.map (·.2)) (f ((o.map (·.1)).getD z)) e w'
set_option maxHeartbeats 2000000 in
theorem qcount_any (p : Nat) (most : Int) (st : Option (List Nat)) (w : World) (hr : Rdq G w p st) (hm : -9223372036854775808 ≤ most ∧ most < 9223372036854775808) :
    Calls Tryz.prog 28 #[.pointer (some ⟨p, 0, none⟩), .int .i64 most] w (RdqAs G w p (cntR most st) 0 fun n => .int .i64 ((n : Nat) : Int)) := by
  have hmf : ∀ (fn : Fn) (first cap : Array Value) (w : World), (Instr.makeFunc fn first cap).run Tryz.prog w = .ok (.func fn first cap) w := fun _ _ _ _ => rfl
  obtain ⟨x, ok, h1, h2⟩ := cnt_spec most st
  obtain ⟨h2, h3⟩ := h2 hm.2
  have H2 := Lib.hid h2
  have H3 := Lib.hid h3
  have hf0 : Fr No w (w.alloc (.cells #[.int .i64 most] 3)) := (Fr.refl _ _).alloc _
  have hr0 := hr.fr hf0 id (fun _ h => h.elim)
  have ht : st.isSome = true → 1 ≤ (st.getD []).length → Tells 54 (fun s => #[s, .pointer (some ⟨w.heap.size, 0, none⟩)]) (w.alloc (.cells #[.int .i64 most] 3)) (st.getD []) 1 (.int .i64 x) ok := by
    intro _ hl
    match st, hl, h1 with
    | some (u :: r), _, h1 =>
      obtain ⟨rfl, rfl⟩ := h1 u r rfl
      exact countTell_any w.heap.size most u r _ ((Bk.made w 3 #[.int .i64 most]).cell 0) hm
  have Ht := Lib.hid ht
  clear h1 h2 h3 ht
  go_enter Tryz.func28, Tryz.ntmps28
  go_wp2_with fail
  refine (nextInt_q p st 1 x ok _ _ hr0 Ht.out (by omega)).mono ?_
  rw [H2.out, H3.out]
  rintro e w1 ⟨rfl, q1, q2⟩
  go_wp2
  go_ret
  exact ⟨by simp, q1, (hf0.weak (fun _ _ h => h.elim)).trans' q2 (fun _ _ h => h)⟩
set_option maxHeartbeats 2000000 in
theorem qsigned_any (p : Nat) (st : Option (List Nat)) (w : World) (hr : Rdq G w p st) :
    Calls Tryz.prog 136 #[.pointer (some ⟨p, 0, none⟩)] w (RdqAs G w p (sgnR st) 0 fun n => .int .i64 n) := by
  have hmf : ∀ (fn : Fn) (first cap : Array Value) (w : World), (Instr.makeFunc fn first cap).run Tryz.prog w = .ok (.func fn first cap) w := fun _ _ _ _ => rfl
  obtain ⟨x, ok, h1, h2, h3⟩ := sgn_spec st
  have H2 := Lib.hid h2
  have H3 := Lib.hid h3
  have ht : st.isSome = true → 1 ≤ (st.getD []).length → Tells 140 (fun s => #[s]) w (st.getD []) 1 (.int .i64 x) ok := by
    intro _ hl
    match st, hl, h1, hr with
    | some (u :: r), _, h1, hr =>
      obtain ⟨rfl, rfl⟩ := h1 u r rfl
      exact signedTell_any u r w (rdq_words hr u (by simp))
  have Ht := Lib.hid ht
  clear h1 h2 h3 ht
  go_enter Tryz.func136, Tryz.ntmps136
  go_wp2_with fail
  refine (nextInt64_q p st 1 x ok _ hr Ht.out (by omega)).mono ?_
  rw [H2.out, H3.out]
  rintro e w1 ⟨rfl, q1, q2⟩
  go_wp2
  go_ret
  exact ⟨by simp, q1, q2⟩
set_option maxHeartbeats 2000000 in
theorem qok_any (p : Nat) (st : Option (List Nat)) (w : World) (hr : Rdq G w p st) :
    Calls Tryz.prog 17 #[.pointer (some ⟨p, 0, none⟩)] w fun e w' => e = .returned (.bool st.isSome) ∧ w = w' := by
  obtain ⟨A, c, hb, _⟩ := hr
  have hc := hb.cell 1
  simp at hc
  clear hb
  go_enter Tryz.func17, Tryz.ntmps17
  go_wp2
  go_ret
  exact ⟨by cases st <;> rfl, rfl⟩
set_option maxHeartbeats 2000000 in
theorem qend_any (p : Nat) (st : Option (List Nat)) (w : World) (hr : Rdq G w p st) :
    Calls Tryz.prog 14 #[.pointer (some ⟨p, 0, none⟩)] w fun e w' => e = .returned (.bool (decide (st = some []))) ∧ Fr No w w' := by
  obtain ⟨A, c, hb, _⟩ := id hr
  have hc := hb.cell 0
  simp at hc
  clear hb
  go_enter Tryz.func14, Tryz.ntmps14
  go_wp2_with (go_at_call 17; refine (qok_any p st _ hr).mono ?_; rintro e w' ⟨rfl, rfl⟩)
  all_goals
    go_ret
    refine ⟨?_, Fr.refl _ _⟩
  · cases st with
    | none => simp at *
    | some xs =>
      cases xs with
      | nil => simp
      | cons a b => simp; omega
  · cases st with
    | none => simp
    | some xs => simp at *
set_option maxHeartbeats 2000000 in
theorem Rdq.frG {S : Nat → Prop} {w w' : World} {p : Nat} {st : Option (List Nat)} (h : Rdq G w p st) (hf : Fr S w w') (hp : ¬ S p) (hS : ∀ k, G k → ¬ S k) : Rdq G w' p st := by
  obtain ⟨A, c, h1, h2, h3, h4, h5, h6, h7⟩ := h
  exact ⟨A, c, h1.fr hf hp, (h2.fr hf (Nat.le_refl _) (fun ad e hne hs => by
    refine hS _ (h3 ad e (by rintro e2; rw [e2] at hne; exact hne rfl)).2 hs)).more hf.size, h3, h4, h5, h6, h7⟩
end
theorem qnew_any (xs : List Nat) (A : Option Addr) (n c : Nat) (w : World) (hsl : Sl w w.heap.size A (u64s xs)) (hn : xs.length = n) (hA : A = none → n = 0 ∧ c = 0) (hlen : n ≤ 1099511627776) (h64 : ∀ u ∈ xs, u < 18446744073709551616) :
    Calls Tryz.prog 8 #[.slice A n c] w fun e w' => ∃ p, e = .returned (.pointer (some ⟨p, 0, none⟩)) ∧ w.heap.size ≤ p ∧ Rdq (fun k => k < w'.heap.size) w' p (some xs) ∧ Fr No w w' := by
  have Hn := Lib.hid hn
  clear hn
  go_enter Tryz.func8, Tryz.ntmps8
  go_wp2_with fail
  refine (clone_any xs A n c w hsl Hn.out hA hlen).mono ?_
  rintro e w1 ⟨A1, c1, rfl, hown, hf1⟩
  have hb := Bk.made w1 72 #[.slice A1 xs.length c1, .bool false]
  have hf2 : Fr No w1 (w1.alloc (.cells #[.slice A1 xs.length c1, .bool false] 72)) := (Fr.refl _ _).alloc _
  have hr : Rdq (fun k => k < w1.heap.size + 1) (w1.alloc (.cells #[.slice A1 xs.length c1, .bool false] 72)) w1.heap.size (some xs) := by
    have hs := Sl.ofOwn hown
    obtain ⟨A', c', h1, h2, h3, h4⟩ := own_shape hown
    injection h1 with h1 h5 h6
    subst h1 h6
    refine ⟨A1, c1, hb, (hs.fr hf2 (Nat.le_refl _) (fun _ _ _ => id)).more (by simp), fun ad e hne => ?_, h2, h3, h4, h64⟩
    obtain ⟨ad', e', hlt, _⟩ := hs (by simpa [u64s] using hne)
    rw [e] at e'
    injection e' with e'
    subst e'
    exact ⟨by omega, by show ad.block < w1.heap.size + 1; omega⟩
  have Hr := Lib.hid hr
  clear hr hb hown
  go_wp2
  go_ret
  exact ⟨w1.heap.size, by simp, hf1.size, by simpa using Hr.out, hf1.then0 hf2 (fun _ h => h.elim)⟩

end Go.Proofs.YtbemfomiiikpoaaGreat
