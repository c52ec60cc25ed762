/- A reader whose words lie in blocks of which G is told: counts and numbers with a sign. -/
import Derived.Test.YtnlmhcfkipkegaaCodesR
namespace Go.Proofs.Ytnlmhcfkipkegaa
open Go.RowKit

section
variable {G : Nat → Prop}
structure Rdq (G : Nat → Prop) (w : World) (p : Nat) (st : Option (List Nat)) : Prop where
  reads : ∃ A c, Bk w p 59 #[.slice A (st.getD []).length c, .bool st.isNone] ∧ Sl w w.heap.size A (u64s (st.getD [])) ∧ (∀ ad, A = some ad → st.getD [] ≠ [] → ad.block ≠ p ∧ G ad.block) ∧
    (st.getD []).length ≤ c ∧ c ≤ maxLen ∧ (A = none → (st.getD []).length = 0 ∧ c = 0) ∧ ∀ u ∈ st.getD [], u < 18446744073709551616
set_option maxHeartbeats 2000000 in
theorem Rdq.fr {S : Nat → Prop} {w w' : World} {p : Nat} {st : Option (List Nat)} (h : Rdq G w p st) (hf : Fr S w w') (hp : ¬ S p) (hS : ∀ k, S k → w.heap.size ≤ k) : Rdq G w' p st := by
  obtain ⟨A, c, h1, h2, h3, h4, h5, h6, h7⟩ := h
  exact ⟨A, c, h1.fr hf hp, (h2.fr hf (Nat.le_refl _) (fun ad e hne hs => by
    obtain ⟨ad', e', hb, _⟩ := h2 hne
    rw [e] at e'
    injection e' with e'
    subst e'
    have := hS _ hs
    omega)).more hf.size, h3, h4, h5, h6, h7⟩
set_option maxHeartbeats 2000000 in
theorem Rdq.lt {w : World} {p : Nat} {st : Option (List Nat)} (h : Rdq G w p st) : p < w.heap.size := by
  obtain ⟨A, c, h1, _⟩ := h
  exact h1.lt
def Rdd (G : Nat → Prop) (w : World) (p : Nat) (st : Option (List Nat)) (v : Value) (e : Ending) (w' : World) : Prop := e = .returned v ∧ Rdq G w' p st ∧ Fr (Only p) w w'
set_option maxHeartbeats 2000000 in
theorem rdq_drop {w : World} {p : Nat} {A : Option Addr} {xs : List Nat} {c n : Nat} (hb : Bk w p 59 #[.slice A xs.length c, .bool false]) (hsl : Sl w w.heap.size A (u64s (xs.take xs.length)))
    (hap : ∀ ad, A = some ad → xs ≠ [] → ad.block ≠ p ∧ G ad.block) (hlc : xs.length ≤ c) (hcm : c ≤ maxLen) (hnil : A = none → xs.length = 0 ∧ c = 0) (h64 : ∀ u ∈ xs, u < 18446744073709551616) (hn : n ≤ xs.length) :
    Rdq G (w.setCell ⟨p, 0, none⟩ (.slice (if c = n then A else A.map (·.add n)) (xs.length - n) (c - n))).drew p (some (xs.drop n)) := by
  rw [List.take_length] at hsl
  have hd := hsl.drop (k := n) (n := xs.length) (cap := c) (sz := 1) (by simp [u64s]) hn hlc
  rw [Nat.mul_one, show (u64s xs).drop n = u64s (xs.drop n) by simp [u64s, List.map_drop]] at hd
  have h1 := hb.put 0 (.slice (if c = n then A else A.map (·.add n)) (xs.length - n) (c - n))
  refine ⟨_, c - n, by simp at h1 ⊢; exact h1, ?_, ?_, by simp; omega, by omega, ?_, ?_⟩
  · intro hne
    obtain ⟨ad, e, hlt, hc⟩ := hd hne
    refine ⟨ad, e, by simpa [World.setCell] using hlt, fun j u hu => ?_⟩
    have hne2 : xs ≠ [] := by rintro rfl; simp [u64s] at hne
    have hbl : ad.block ≠ p := by
      split at e
      · exact (hap ad e hne2).1
      · cases A with
        | none => simp at e
        | some a0 =>
          simp at e
          rw [← e, block_add]
          exact (hap a0 rfl hne2).1
    show (w.setCell _ _).cell? _ = _
    rw [World.cell?_setCell_other _ _ _ _ (fun e2 => hbl (by rw [← block_add ad j, ← e2]))]
    exact hc j u hu
  · intro ad e hne
    have hne2 : xs ≠ [] := by rintro rfl; simp at hne
    split at e
    · exact hap ad e hne2
    · cases A with
      | none => simp at e
      | some a0 =>
        simp at e
        rw [← e, block_add]
        exact hap a0 rfl hne2
  · intro e
    have hA : A = none := by
      split at e
      · exact e
      · simpa using e
    have := hnil hA
    simp
    omega
  · intro u hu
    exact h64 u (List.mem_of_mem_drop (by simpa using hu))
set_option maxHeartbeats 2000000 in
theorem wrongInt_q (p q : Nat) (A : Option Addr) (n c : Nat) (b : Bool) (w : World) (hb : Bk w p 59 #[.slice A n c, .bool b]) (hq : w.cell? ⟨q, 0, none⟩ = some (.pointer (some ⟨p, 0, none⟩))) :
    Calls Try.prog 72 #[.pointer (some ⟨q, 0, none⟩)] w (Rdd G w p none (.int .i64 0)) := by
  have hc0 := hb.cell 0
  have hc1 := hb.cell 1
  have hf0 := hb.frozen 0
  have hf1 := hb.frozen 1
  have hqp : q ≠ p := by
    rintro rfl
    rw [hc0] at hq
    simp at hq
  simp at hc0 hc1
  go_enter Try.func72, Try.ntmps72
  go_wp2
  go_region
  go_wp2
  go_ret
  have h1 := (hb.put 0 (.slice none 0 0)).put 1 (.bool true)
  have hf : Fr (Only p) w ((w.setCell ⟨p, 0, none⟩ (.slice none 0 0)).setCell ⟨p, 1, none⟩ (.bool true)) := ((Fr.refl (Only p) w).setCell (p := ⟨p, 0, none⟩) (.inl rfl) _).setCell (p := ⟨p, 1, none⟩) (.inl rfl) _
  exact ⟨by simp, ⟨none, 0, h1, Sl.nil _ _ _, by simp, by simp, by simp, by simp, by simp⟩, hf.drew⟩
set_option maxHeartbeats 2000000 in
theorem nextInt_q (p : Nat) (st : Option (List Nat)) (n : Nat) (x : Int) (ok : Bool) (v : Value) (w : World) (hr : Rdq G w p st) (ht : st.isSome = true → n ≤ (st.getD []).length → Tells 44 (fun s => #[s, v]) w (st.getD []) n (.int .i64 x) ok) (hn : n ≤ 1099511627776) :
    Calls Try.prog 43 #[.pointer (some ⟨p, 0, none⟩), .int .i64 n, .func (.func 44) #[] #[v]] w (Rdd G w p (after st n ok) (told st n ok (.int .i64 x) (.int .i64 0))) := by
  have Ht := Lib.hid ht
  clear ht
  have hmf : ∀ (fn : Fn) (first cap : Array Value) (w : World), (Instr.makeFunc fn first cap).run Try.prog w = .ok (.func fn first cap) w := fun _ _ _ _ => rfl
  obtain ⟨A, c, hb, hsl, hap, hlc, hcm, hnil, h64⟩ := hr
  have hpl := hb.lt
  have hf0 : Fr No w (w.alloc (.cells #[.pointer (some ⟨p, 0, none⟩)] 24)) := (Fr.refl No w).alloc _
  have hq : (w.alloc (.cells #[.pointer (some ⟨p, 0, none⟩)] 24)).cell? ⟨w.heap.size, 0, none⟩ = some (.pointer (some ⟨p, 0, none⟩)) := (Bk.made w 24 #[.pointer (some ⟨p, 0, none⟩)]).cell 0
  cases st with
  | none =>
    simp only [Option.getD_none, Option.isNone_none, List.length_nil] at *
    have Hb := Lib.hid (hb.fr hf0 id)
    have hc0 := Hb.out.cell 0
    have hc1 := Hb.out.cell 1
    simp at hc0 hc1
    have Hq := Lib.hid hq
    clear hsl hap hlc hcm hnil h64 hb hq Ht
    go_enter Try.func43, Try.ntmps43
    go_wp2_with fail
    refine (wrongInt_q (G := G) p w.heap.size A 0 c true _ Hb.out Hq.out).mono ?_
    rintro e w1 ⟨rfl, h1, h2⟩
    go_wp2
    go_ret
    exact ⟨rfl, h1, (hf0.weak (fun _ _ h => h.elim)).trans' h2 (fun _ _ h => h)⟩
  | some xs =>
    simp only [Option.getD_some, Option.isNone_some] at *
    have Hb := Lib.hid (hb.fr hf0 id)
    have hc0 := Hb.out.cell 0
    have hc1 := Hb.out.cell 1
    simp at hc0 hc1
    have Hq := Lib.hid hq
    have Hsl := Lib.hid hsl
    have Hap := Lib.hid hap
    have Hnil := Lib.hid hnil
    have H64 := Lib.hid h64
    clear hsl hap hnil h64 hb hq
    by_cases hnl : n ≤ xs.length
    · have hnc : n ≤ c := by omega
      cases ok with
      | true =>
        have Ha : Hid (after (some xs) n true = some (xs.drop n)) := Lib.hid (by simp [after, hnl])
        have Hto : Hid (told (some xs) n true (.int .i64 x) (.int .i64 0) = .int .i64 x) := Lib.hid (by simp [told, after, hnl])
        go_enter Try.func43, Try.ntmps43
        go_wp2_with fail
        refine (Ht.out rfl hnl _ A c hf0 (sl_take Hsl.out hf0 n) hnc hcm (fun e => (Hnil.out e).2)).mono ?_
        rintro e w1 ⟨rfl, hf1⟩
        have Hb1 := Lib.hid (Hb.out.fr hf1 id)
        have hd0 := Hb1.out.cell 0
        have hd1 := Hb1.out.cell 1
        have hz0 := Hb1.out.frozen 0
        have hq1 : w1.cell? ⟨w.heap.size, 0, none⟩ = some (.pointer (some ⟨p, 0, none⟩)) := (hf1.cell (by simp) id).trans Hq.out
        simp at hd0 hd1
        have hfd : ∀ u, Fr (Only p) w (w1.setCell ⟨p, 0, none⟩ u).drew := fun u => (((hf0.then0 hf1 (fun _ h => h.elim)).weak (S' := Only p) (fun _ _ h => h.elim)).setCell (p := ⟨p, 0, none⟩) (.inl rfl) u).drew
        have hrd := rdq_drop (n := n) Hb1.out (sl_take Hsl.out (hf0.then0 hf1 (fun _ h => h.elim)) xs.length) Hap.out hlc hcm Hnil.out H64.out hnl
        have Hfd := Lib.hid hfd
        have Hrd := Lib.hid hrd
        clear hfd hrd
        by_cases hcn : c = n
        · subst hcn
          go_wp2
          go_region
          go_wp2
          go_ret
          refine ⟨by rw [Hto.out]; rfl, ?_, Hfd.out _⟩
          have h9 := Hrd.out
          rw [if_pos trivial, show xs.length - c = 0 by omega, Nat.sub_self] at h9
          rw [Ha.out]
          exact h9
        · obtain ⟨ad, rfl⟩ : ∃ ad, A = some ad := by
            cases A with
            | none => have := (Hnil.out rfl).2; omega
            | some ad => exact ⟨ad, rfl⟩
          go_wp2
          go_region
          go_wp2
          go_ret
          refine ⟨by rw [Hto.out]; rfl, ?_, Hfd.out _⟩
          have h9 := Hrd.out
          rw [if_neg hcn] at h9
          rw [Ha.out]
          exact h9
      | false =>
        have Ha : Hid (after (some xs) n false = none) := Lib.hid (by simp [after])
        have Hto : Hid (told (some xs) n false (.int .i64 x) (.int .i64 0) = .int .i64 0) := Lib.hid (by simp [told, after])
        go_enter Try.func43, Try.ntmps43
        go_wp2_with fail
        refine (Ht.out rfl hnl _ A c hf0 (sl_take Hsl.out hf0 n) hnc hcm (fun e => (Hnil.out e).2)).mono ?_
        rintro e w1 ⟨rfl, hf1⟩
        have Hb1 := Lib.hid (Hb.out.fr hf1 id)
        have Hq1 : Hid (w1.cell? ⟨w.heap.size, 0, none⟩ = some (.pointer (some ⟨p, 0, none⟩))) := Lib.hid ((hf1.cell (by simp) id).trans Hq.out)
        go_wp2_with fail
        refine (wrongInt_q (G := G) p w.heap.size A _ c false _ Hb1.out Hq1.out).mono ?_
        rintro e w2 ⟨rfl, h1, h2⟩
        go_wp2
        go_ret
        exact ⟨by rw [Hto.out]; rfl, by rw [Ha.out]; exact h1, ((hf0.then0 hf1 (fun _ h => h.elim)).weak (fun _ _ h => h.elim)).trans' h2 (fun _ _ h => h)⟩
    · have Ha : Hid (after (some xs) n ok = none) := Lib.hid (by simp [after, hnl])
      have Hto : Hid (told (some xs) n ok (.int .i64 x) (.int .i64 0) = .int .i64 0) := Lib.hid (by simp [told, after, hnl])
      clear Ht
      go_enter Try.func43, Try.ntmps43
      go_wp2_with fail
      refine (wrongInt_q (G := G) p w.heap.size A _ c false _ Hb.out Hq.out).mono ?_
      rintro e w1 ⟨rfl, h1, h2⟩
      go_wp2
      go_ret
      exact ⟨by rw [Hto.out]; rfl, by rw [Ha.out]; exact h1, (hf0.weak (fun _ _ h => h.elim)).trans' h2 (fun _ _ h => h)⟩
set_option maxHeartbeats 2000000 in
theorem wrongInt64_q (p q : Nat) (A : Option Addr) (n c : Nat) (b : Bool) (w : World) (hb : Bk w p 59 #[.slice A n c, .bool b]) (hq : w.cell? ⟨q, 0, none⟩ = some (.pointer (some ⟨p, 0, none⟩))) :
    Calls Try.prog 126 #[.pointer (some ⟨q, 0, none⟩)] w (Rdd G w p none (.int .i64 0)) := by
  have hc0 := hb.cell 0
  have hc1 := hb.cell 1
  have hf0 := hb.frozen 0
  have hf1 := hb.frozen 1
  have hqp : q ≠ p := by
    rintro rfl
    rw [hc0] at hq
    simp at hq
  simp at hc0 hc1
  go_enter Try.func126, Try.ntmps126
  go_wp2
  go_region
  go_wp2
  go_ret
  have h1 := (hb.put 0 (.slice none 0 0)).put 1 (.bool true)
  have hf : Fr (Only p) w ((w.setCell ⟨p, 0, none⟩ (.slice none 0 0)).setCell ⟨p, 1, none⟩ (.bool true)) := ((Fr.refl (Only p) w).setCell (p := ⟨p, 0, none⟩) (.inl rfl) _).setCell (p := ⟨p, 1, none⟩) (.inl rfl) _
  exact ⟨by simp, ⟨none, 0, h1, Sl.nil _ _ _, by simp, by simp, by simp, by simp, by simp⟩, hf.drew⟩
set_option maxHeartbeats 2000000 in
theorem nextInt64_q (p : Nat) (st : Option (List Nat)) (n : Nat) (x : Int) (ok : Bool) (w : World) (hr : Rdq G w p st) (ht : st.isSome = true → n ≤ (st.getD []).length → Tells 115 (fun s => #[s]) w (st.getD []) n (.int .i64 x) ok) (hn : n ≤ 1099511627776) :
    Calls Try.prog 114 #[.pointer (some ⟨p, 0, none⟩), .int .i64 n, .func (.func 115) #[] #[]] w (Rdd G w p (after st n ok) (told st n ok (.int .i64 x) (.int .i64 0))) := by
  have Ht := Lib.hid ht
  clear ht
  have hmf : ∀ (fn : Fn) (first cap : Array Value) (w : World), (Instr.makeFunc fn first cap).run Try.prog w = .ok (.func fn first cap) w := fun _ _ _ _ => rfl
  obtain ⟨A, c, hb, hsl, hap, hlc, hcm, hnil, h64⟩ := hr
  have hpl := hb.lt
  have hf0 : Fr No w (w.alloc (.cells #[.pointer (some ⟨p, 0, none⟩)] 24)) := (Fr.refl No w).alloc _
  have hq : (w.alloc (.cells #[.pointer (some ⟨p, 0, none⟩)] 24)).cell? ⟨w.heap.size, 0, none⟩ = some (.pointer (some ⟨p, 0, none⟩)) := (Bk.made w 24 #[.pointer (some ⟨p, 0, none⟩)]).cell 0
  cases st with
  | none =>
    simp only [Option.getD_none, Option.isNone_none, List.length_nil] at *
    have Hb := Lib.hid (hb.fr hf0 id)
    have hc0 := Hb.out.cell 0
    have hc1 := Hb.out.cell 1
    simp at hc0 hc1
    have Hq := Lib.hid hq
    clear hsl hap hlc hcm hnil h64 hb hq Ht
    go_enter Try.func114, Try.ntmps114
    go_wp2_with fail
    refine (wrongInt64_q (G := G) p w.heap.size A 0 c true _ Hb.out Hq.out).mono ?_
    rintro e w1 ⟨rfl, h1, h2⟩
    go_wp2
    go_ret
    exact ⟨rfl, h1, (hf0.weak (fun _ _ h => h.elim)).trans' h2 (fun _ _ h => h)⟩
  | some xs =>
    simp only [Option.getD_some, Option.isNone_some] at *
    have Hb := Lib.hid (hb.fr hf0 id)
    have hc0 := Hb.out.cell 0
    have hc1 := Hb.out.cell 1
    simp at hc0 hc1
    have Hq := Lib.hid hq
    have Hsl := Lib.hid hsl
    have Hap := Lib.hid hap
    have Hnil := Lib.hid hnil
    have H64 := Lib.hid h64
    clear hsl hap hnil h64 hb hq
    by_cases hnl : n ≤ xs.length
    · have hnc : n ≤ c := by omega
      cases ok with
      | true =>
        have Ha : Hid (after (some xs) n true = some (xs.drop n)) := Lib.hid (by simp [after, hnl])
        have Hto : Hid (told (some xs) n true (.int .i64 x) (.int .i64 0) = .int .i64 x) := Lib.hid (by simp [told, after, hnl])
        go_enter Try.func114, Try.ntmps114
        go_wp2_with fail
        refine (Ht.out rfl hnl _ A c hf0 (sl_take Hsl.out hf0 n) hnc hcm (fun e => (Hnil.out e).2)).mono ?_
        rintro e w1 ⟨rfl, hf1⟩
        have Hb1 := Lib.hid (Hb.out.fr hf1 id)
        have hd0 := Hb1.out.cell 0
        have hd1 := Hb1.out.cell 1
        have hz0 := Hb1.out.frozen 0
        have hq1 : w1.cell? ⟨w.heap.size, 0, none⟩ = some (.pointer (some ⟨p, 0, none⟩)) := (hf1.cell (by simp) id).trans Hq.out
        simp at hd0 hd1
        have hfd : ∀ u, Fr (Only p) w (w1.setCell ⟨p, 0, none⟩ u).drew := fun u => (((hf0.then0 hf1 (fun _ h => h.elim)).weak (S' := Only p) (fun _ _ h => h.elim)).setCell (p := ⟨p, 0, none⟩) (.inl rfl) u).drew
        have hrd := rdq_drop (n := n) Hb1.out (sl_take Hsl.out (hf0.then0 hf1 (fun _ h => h.elim)) xs.length) Hap.out hlc hcm Hnil.out H64.out hnl
        have Hfd := Lib.hid hfd
        have Hrd := Lib.hid hrd
        clear hfd hrd
        by_cases hcn : c = n
        · subst hcn
          go_wp2
          go_region
          go_wp2
          go_ret
          refine ⟨by rw [Hto.out]; rfl, ?_, Hfd.out _⟩
          have h9 := Hrd.out
          rw [if_pos trivial, show xs.length - c = 0 by omega, Nat.sub_self] at h9
          rw [Ha.out]
          exact h9
        · obtain ⟨ad, rfl⟩ : ∃ ad, A = some ad := by
            cases A with
            | none => have := (Hnil.out rfl).2; omega
            | some ad => exact ⟨ad, rfl⟩
          go_wp2
          go_region
          go_wp2
          go_ret
          refine ⟨by rw [Hto.out]; rfl, ?_, Hfd.out _⟩
          have h9 := Hrd.out
          rw [if_neg hcn] at h9
          rw [Ha.out]
          exact h9
      | false =>
        have Ha : Hid (after (some xs) n false = none) := Lib.hid (by simp [after])
        have Hto : Hid (told (some xs) n false (.int .i64 x) (.int .i64 0) = .int .i64 0) := Lib.hid (by simp [told, after])
        go_enter Try.func114, Try.ntmps114
        go_wp2_with fail
        refine (Ht.out rfl hnl _ A c hf0 (sl_take Hsl.out hf0 n) hnc hcm (fun e => (Hnil.out e).2)).mono ?_
        rintro e w1 ⟨rfl, hf1⟩
        have Hb1 := Lib.hid (Hb.out.fr hf1 id)
        have Hq1 : Hid (w1.cell? ⟨w.heap.size, 0, none⟩ = some (.pointer (some ⟨p, 0, none⟩))) := Lib.hid ((hf1.cell (by simp) id).trans Hq.out)
        go_wp2_with fail
        refine (wrongInt64_q (G := G) p w.heap.size A _ c false _ Hb1.out Hq1.out).mono ?_
        rintro e w2 ⟨rfl, h1, h2⟩
        go_wp2
        go_ret
        exact ⟨by rw [Hto.out]; rfl, by rw [Ha.out]; exact h1, ((hf0.then0 hf1 (fun _ h => h.elim)).weak (fun _ _ h => h.elim)).trans' h2 (fun _ _ h => h)⟩
    · have Ha : Hid (after (some xs) n ok = none) := Lib.hid (by simp [after, hnl])
      have Hto : Hid (told (some xs) n ok (.int .i64 x) (.int .i64 0) = .int .i64 0) := Lib.hid (by simp [told, after, hnl])
      clear Ht
      go_enter Try.func114, Try.ntmps114
      go_wp2_with fail
      refine (wrongInt64_q (G := G) p w.heap.size A _ c false _ Hb.out Hq.out).mono ?_
      rintro e w1 ⟨rfl, h1, h2⟩
      go_wp2
      go_ret
      exact ⟨by rw [Hto.out]; rfl, by rw [Ha.out]; exact h1, (hf0.weak (fun _ _ h => h.elim)).trans' h2 (fun _ _ h => h)⟩
set_option maxHeartbeats 2000000 in
theorem rdq_words {w : World} {p : Nat} {xs : List Nat} (h : Rdq G w p (some xs)) : ∀ u ∈ xs, u < 18446744073709551616 := by
  obtain ⟨_, _, _, _, _, _, _, _, h7⟩ := h
  exact h7
def RdqAs {α : Type} (G : Nat → Prop) (w : World) (p : Nat) (o : Option (α × List Nat)) (z : α) (f : α → Value) (e : Ending) (w' : World) : Prop := Rdd G w p (o.map (·.2)) (f ((o.map (·.1)).getD z)) e w'
set_option maxHeartbeats 2000000 in
theorem qcount_any (p : Nat) (most : Int) (st : Option (List Nat)) (w : World) (hr : Rdq G w p st) (hm : -9223372036854775808 ≤ most ∧ most < 9223372036854775808) :
    Calls Try.prog 24 #[.pointer (some ⟨p, 0, none⟩), .int .i64 most] w (RdqAs G w p (cntR most st) 0 fun n => .int .i64 ((n : Nat) : Int)) := by
  have hmf : ∀ (fn : Fn) (first cap : Array Value) (w : World), (Instr.makeFunc fn first cap).run Try.prog w = .ok (.func fn first cap) w := fun _ _ _ _ => rfl
  obtain ⟨x, ok, h1, h2⟩ := cnt_spec most st
  obtain ⟨h2, h3⟩ := h2 hm.2
  have H2 := Lib.hid h2
  have H3 := Lib.hid h3
  have hf0 : Fr No w (w.alloc (.cells #[.int .i64 most] 3)) := (Fr.refl _ _).alloc _
  have hr0 := hr.fr hf0 id (fun _ h => h.elim)
  have ht : st.isSome = true → 1 ≤ (st.getD []).length → Tells 44 (fun s => #[s, .pointer (some ⟨w.heap.size, 0, none⟩)]) (w.alloc (.cells #[.int .i64 most] 3)) (st.getD []) 1 (.int .i64 x) ok := by
    intro _ hl
    match st, hl, h1 with
    | some (u :: r), _, h1 =>
      obtain ⟨rfl, rfl⟩ := h1 u r rfl
      exact countTell_any w.heap.size most u r _ ((Bk.made w 3 #[.int .i64 most]).cell 0) hm
  have Ht := Lib.hid ht
  clear h1 h2 h3 ht
  go_enter Try.func24, Try.ntmps24
  go_wp2_with fail
  refine (nextInt_q p st 1 x ok _ _ hr0 Ht.out (by omega)).mono ?_
  rw [H2.out, H3.out]
  rintro e w1 ⟨rfl, q1, q2⟩
  go_wp2
  go_ret
  exact ⟨by simp, q1, (hf0.weak (fun _ _ h => h.elim)).trans' q2 (fun _ _ h => h)⟩
set_option maxHeartbeats 2000000 in
theorem qsigned_any (p : Nat) (st : Option (List Nat)) (w : World) (hr : Rdq G w p st) :
    Calls Try.prog 106 #[.pointer (some ⟨p, 0, none⟩)] w (RdqAs G w p (sgnR st) 0 fun n => .int .i64 n) := by
  have hmf : ∀ (fn : Fn) (first cap : Array Value) (w : World), (Instr.makeFunc fn first cap).run Try.prog w = .ok (.func fn first cap) w := fun _ _ _ _ => rfl
  obtain ⟨x, ok, h1, h2, h3⟩ := sgn_spec st
  have H2 := Lib.hid h2
  have H3 := Lib.hid h3
  have ht : st.isSome = true → 1 ≤ (st.getD []).length → Tells 115 (fun s => #[s]) w (st.getD []) 1 (.int .i64 x) ok := by
    intro _ hl
    match st, hl, h1, hr with
    | some (u :: r), _, h1, hr =>
      obtain ⟨rfl, rfl⟩ := h1 u r rfl
      exact signedTell_any u r w (rdq_words hr u (by simp))
  have Ht := Lib.hid ht
  clear h1 h2 h3 ht
  go_enter Try.func106, Try.ntmps106
  go_wp2_with fail
  refine (nextInt64_q p st 1 x ok _ hr Ht.out (by omega)).mono ?_
  rw [H2.out, H3.out]
  rintro e w1 ⟨rfl, q1, q2⟩
  go_wp2
  go_ret
  exact ⟨by simp, q1, q2⟩
set_option maxHeartbeats 2000000 in
theorem qok_any (p : Nat) (st : Option (List Nat)) (w : World) (hr : Rdq G w p st) :
    Calls Try.prog 10 #[.pointer (some ⟨p, 0, none⟩)] w fun e w' => e = .returned (.bool st.isSome) ∧ w = w' := by
  obtain ⟨A, c, hb, _⟩ := hr
  have hc := hb.cell 1
  simp at hc
  clear hb
  go_enter Try.func10, Try.ntmps10
  go_wp2
  go_ret
  exact ⟨by cases st <;> rfl, rfl⟩
set_option maxHeartbeats 2000000 in
theorem qend_any (p : Nat) (st : Option (List Nat)) (w : World) (hr : Rdq G w p st) :
    Calls Try.prog 11 #[.pointer (some ⟨p, 0, none⟩)] w fun e w' => e = .returned (.bool (decide (st = some []))) ∧ Fr No w w' := by
  obtain ⟨A, c, hb, _⟩ := id hr
  have hc := hb.cell 0
  simp at hc
  clear hb
  go_enter Try.func11, Try.ntmps11
  go_wp2_with (go_at_call 10; refine (qok_any p st _ hr).mono ?_; rintro e w' ⟨rfl, rfl⟩)
  all_goals
    go_ret
    refine ⟨?_, Fr.refl _ _⟩
  · cases st with
    | none => simp at *
    | some xs =>
      cases xs with
      | nil => simp
      | cons a b => simp; omega
  · cases st with
    | none => simp
    | some xs => simp at *
set_option maxHeartbeats 2000000 in
theorem Rdq.frG {S : Nat → Prop} {w w' : World} {p : Nat} {st : Option (List Nat)} (h : Rdq G w p st) (hf : Fr S w w') (hp : ¬ S p) (hS : ∀ k, G k → ¬ S k) : Rdq G w' p st := by
  obtain ⟨A, c, h1, h2, h3, h4, h5, h6, h7⟩ := h
  exact ⟨A, c, h1.fr hf hp, (h2.fr hf (Nat.le_refl _) (fun ad e hne hs => by
    refine hS _ (h3 ad e (by rintro e2; rw [e2] at hne; exact hne rfl)).2 hs)).more hf.size, h3, h4, h5, h6, h7⟩
end
theorem qnew_any (xs : List Nat) (A : Option Addr) (n c : Nat) (w : World) (hsl : Sl w w.heap.size A (u64s xs)) (hn : xs.length = n) (hA : A = none → n = 0 ∧ c = 0) (hlen : n ≤ 1099511627776) (h64 : ∀ u ∈ xs, u < 18446744073709551616) :
    Calls Try.prog 6 #[.slice A n c] w fun e w' => ∃ p, e = .returned (.pointer (some ⟨p, 0, none⟩)) ∧ w.heap.size ≤ p ∧ Rdq (fun k => k < w'.heap.size) w' p (some xs) ∧ Fr No w w' := by
  have Hn := Lib.hid hn
  clear hn
  go_enter Try.func6, Try.ntmps6
  go_wp2_with fail
  refine (clone_any xs A n c w hsl Hn.out hA hlen).mono ?_
  rintro e w1 ⟨A1, c1, rfl, hown, hf1⟩
  have hb := Bk.made w1 59 #[.slice A1 xs.length c1, .bool false]
  have hf2 : Fr No w1 (w1.alloc (.cells #[.slice A1 xs.length c1, .bool false] 59)) := (Fr.refl _ _).alloc _
  have hr : Rdq (fun k => k < w1.heap.size + 1) (w1.alloc (.cells #[.slice A1 xs.length c1, .bool false] 59)) w1.heap.size (some xs) := by
    have hs := Sl.ofOwn hown
    obtain ⟨A', c', h1, h2, h3, h4⟩ := own_shape hown
    injection h1 with h1 h5 h6
    subst h1 h6
    refine ⟨A1, c1, hb, (hs.fr hf2 (Nat.le_refl _) (fun _ _ _ => id)).more (by simp), fun ad e hne => ?_, h2, h3, h4, h64⟩
    obtain ⟨ad', e', hlt, _⟩ := hs (by simpa [u64s] using hne)
    rw [e] at e'
    injection e' with e'
    subst e'
    exact ⟨by omega, by show ad.block < w1.heap.size + 1; omega⟩
  have Hr := Lib.hid hr
  clear hr hb hown
  go_wp2
  go_ret
  exact ⟨w1.heap.size, by simp, hf1.size, by simpa using Hr.out, hf1.then0 hf2 (fun _ h => h.elim)⟩

end Go.Proofs.Ytnlmhcfkipkegaa
