/- A reader whose words lie in blocks of which G is told: texts; a text that is written. -/
import Derived.Test.YtnlmhcfkipkegaaGreatPut10
import Derived.Test.YtnlmhcfkipkegaaGreatIt11
namespace Go.Proofs.YtnlmhcfkipkegaaGreat
open Go.RowKit

section
variable {G : Nat → Prop}
set_option maxHeartbeats 2000000 in
theorem wrongString_q (p q : Nat) (A : Option Addr) (n c : Nat) (b : Bool) (w : World) (hb : Bk w p 62 #[.slice A n c, .bool b]) (hq : w.cell? ⟨q, 0, none⟩ = some (.pointer (some ⟨p, 0, none⟩))) :
    Calls Tryz.prog 80 #[.pointer (some ⟨q, 0, none⟩)] w (Rdd G w p none (.string ⟨#[]⟩)) := by
  have hc0 := hb.cell 0
  have hc1 := hb.cell 1
  have hf0 := hb.frozen 0
  have hf1 := hb.frozen 1
  have hqp : q ≠ p := by
    rintro rfl
    rw [hc0] at hq
    simp at hq
  simp at hc0 hc1
  go_enter Tryz.func80, Tryz.ntmps80
  go_wp2
  go_region
  go_wp2
  go_ret
  have h1 := (hb.put 0 (.slice none 0 0)).put 1 (.bool true)
  have hf : Fr (Only p) w ((w.setCell ⟨p, 0, none⟩ (.slice none 0 0)).setCell ⟨p, 1, none⟩ (.bool true)) := ((Fr.refl (Only p) w).setCell (p := ⟨p, 0, none⟩) (.inl rfl) _).setCell (p := ⟨p, 1, none⟩) (.inl rfl) _
  exact ⟨by simp, ⟨none, 0, h1, Sl.nil _ _ _, by simp, by simp, by simp, by simp, by simp⟩, hf.drew⟩
set_option maxHeartbeats 2000000 in
theorem nextString_q (p : Nat) (st : Option (List Nat)) (n : Nat) (x : ByteArray) (ok : Bool) (v : Value) (w : World) (hr : Rdq G w p st) (ht : st.isSome = true → n ≤ (st.getD []).length → Tells 65 (fun s => #[s, v]) w (st.getD []) n (.string x) ok) (hn : n ≤ 1099511627776) :
    Calls Tryz.prog 64 #[.pointer (some ⟨p, 0, none⟩), .int .i64 n, .func (.func 65) #[] #[v]] w (Rdd G w p (after st n ok) (told st n ok (.string x) (.string ⟨#[]⟩))) := by
  have Ht := Lib.hid ht
  clear ht
  have hmf : ∀ (fn : Fn) (first cap : Array Value) (w : World), (Instr.makeFunc fn first cap).run Tryz.prog w = .ok (.func fn first cap) w := fun _ _ _ _ => rfl
  obtain ⟨A, c, hb, hsl, hap, hlc, hcm, hnil, h64⟩ := hr
  have hpl := hb.lt
  have hf0 : Fr No w (w.alloc (.cells #[.pointer (some ⟨p, 0, none⟩)] 32)) := (Fr.refl No w).alloc _
  have hq : (w.alloc (.cells #[.pointer (some ⟨p, 0, none⟩)] 32)).cell? ⟨w.heap.size, 0, none⟩ = some (.pointer (some ⟨p, 0, none⟩)) := (Bk.made w 32 #[.pointer (some ⟨p, 0, none⟩)]).cell 0
  cases st with
  | none =>
    simp only [Option.getD_none, Option.isNone_none, List.length_nil] at *
    have Hb := Lib.hid (hb.fr hf0 id)
    have hc0 := Hb.out.cell 0
    have hc1 := Hb.out.cell 1
    simp at hc0 hc1
    have Hq := Lib.hid hq
    clear hsl hap hlc hcm hnil h64 hb hq Ht
    go_enter Tryz.func64, Tryz.ntmps64
    go_wp2_with fail
    refine (wrongString_q (G := G) p w.heap.size A 0 c true _ Hb.out Hq.out).mono ?_
    rintro e w1 ⟨rfl, h1, h2⟩
    go_wp2
    go_ret
    exact ⟨rfl, h1, (hf0.weak (fun _ _ h => h.elim)).trans' h2 (fun _ _ h => h)⟩
  | some xs =>
    simp only [Option.getD_some, Option.isNone_some] at *
    have Hb := Lib.hid (hb.fr hf0 id)
    have hc0 := Hb.out.cell 0
    have hc1 := Hb.out.cell 1
    simp at hc0 hc1
    have Hq := Lib.hid hq
    have Hsl := Lib.hid hsl
    have Hap := Lib.hid hap
    have Hnil := Lib.hid hnil
    have H64 := Lib.hid h64
    clear hsl hap hnil h64 hb hq
    by_cases hnl : n ≤ xs.length
    · have hnc : n ≤ c := by omega
      cases ok with
      | true =>
        have Ha : Hid (after (some xs) n true = some (xs.drop n)) := Lib.hid (by simp [after, hnl])
        have Hto : Hid (told (some xs) n true (.string x) (.string ⟨#[]⟩) = .string x) := Lib.hid (by simp [told, after, hnl])
        go_enter Tryz.func64, Tryz.ntmps64
        go_wp2_with fail
        refine (Ht.out rfl hnl _ A c hf0 (sl_take Hsl.out hf0 n) hnc hcm (fun e => (Hnil.out e).2)).mono ?_
        rintro e w1 ⟨rfl, hf1⟩
        have Hb1 := Lib.hid (Hb.out.fr hf1 id)
        have hd0 := Hb1.out.cell 0
        have hd1 := Hb1.out.cell 1
        have hz0 := Hb1.out.frozen 0
        have hq1 : w1.cell? ⟨w.heap.size, 0, none⟩ = some (.pointer (some ⟨p, 0, none⟩)) := (hf1.cell (by simp) id).trans Hq.out
        simp at hd0 hd1
        have hfd : ∀ u, Fr (Only p) w (w1.setCell ⟨p, 0, none⟩ u).drew := fun u => (((hf0.then0 hf1 (fun _ h => h.elim)).weak (S' := Only p) (fun _ _ h => h.elim)).setCell (p := ⟨p, 0, none⟩) (.inl rfl) u).drew
        have hrd := rdq_drop (n := n) Hb1.out (sl_take Hsl.out (hf0.then0 hf1 (fun _ h => h.elim)) xs.length) Hap.out hlc hcm Hnil.out H64.out hnl
        have Hfd := Lib.hid hfd
        have Hrd := Lib.hid hrd
        clear hfd hrd
        by_cases hcn : c = n
        · subst hcn
          go_wp2
          go_region
          go_wp2
          go_ret
          refine ⟨by rw [Hto.out]; rfl, ?_, Hfd.out _⟩
          have h9 := Hrd.out
          rw [if_pos trivial, show xs.length - c = 0 by omega, Nat.sub_self] at h9
          rw [Ha.out]
          exact h9
        · obtain ⟨ad, rfl⟩ : ∃ ad, A = some ad := by
            cases A with
            | none => have := (Hnil.out rfl).2; omega
            | some ad => exact ⟨ad, rfl⟩
          go_wp2
          go_region
          go_wp2
          go_ret
          refine ⟨by rw [Hto.out]; rfl, ?_, Hfd.out _⟩
          have h9 := Hrd.out
          rw [if_neg hcn] at h9
          rw [Ha.out]
          exact h9
      | false =>
        have Ha : Hid (after (some xs) n false = none) := Lib.hid (by simp [after])
        have Hto : Hid (told (some xs) n false (.string x) (.string ⟨#[]⟩) = .string ⟨#[]⟩) := Lib.hid (by simp [told, after])
        go_enter Tryz.func64, Tryz.ntmps64
        go_wp2_with fail
        refine (Ht.out rfl hnl _ A c hf0 (sl_take Hsl.out hf0 n) hnc hcm (fun e => (Hnil.out e).2)).mono ?_
        rintro e w1 ⟨rfl, hf1⟩
        have Hb1 := Lib.hid (Hb.out.fr hf1 id)
        have Hq1 : Hid (w1.cell? ⟨w.heap.size, 0, none⟩ = some (.pointer (some ⟨p, 0, none⟩))) := Lib.hid ((hf1.cell (by simp) id).trans Hq.out)
        go_wp2_with fail
        refine (wrongString_q (G := G) p w.heap.size A _ c false _ Hb1.out Hq1.out).mono ?_
        rintro e w2 ⟨rfl, h1, h2⟩
        go_wp2
        go_ret
        exact ⟨by rw [Hto.out]; rfl, by rw [Ha.out]; exact h1, ((hf0.then0 hf1 (fun _ h => h.elim)).weak (fun _ _ h => h.elim)).trans' h2 (fun _ _ h => h)⟩
    · have Ha : Hid (after (some xs) n ok = none) := Lib.hid (by simp [after, hnl])
      have Hto : Hid (told (some xs) n ok (.string x) (.string ⟨#[]⟩) = .string ⟨#[]⟩) := Lib.hid (by simp [told, after, hnl])
      clear Ht
      go_enter Tryz.func64, Tryz.ntmps64
      go_wp2_with fail
      refine (wrongString_q (G := G) p w.heap.size A _ c false _ Hb.out Hq.out).mono ?_
      rintro e w1 ⟨rfl, h1, h2⟩
      go_wp2
      go_ret
      exact ⟨by rw [Hto.out]; rfl, by rw [Ha.out]; exact h1, (hf0.weak (fun _ _ h => h.elim)).trans' h2 (fun _ _ h => h)⟩
set_option maxHeartbeats 2000000 in
theorem qtext_any (p : Nat) (st : Option (List Nat)) (w : World) (hr : Rdq G w p st) :
    Calls Tryz.prog 45 #[.pointer (some ⟨p, 0, none⟩)] w (RdqAs G w p (textR st) ⟨#[]⟩ fun s => .string s) := by
  have hmf : ∀ (fn : Fn) (first cap : Array Value) (w : World), (Instr.makeFunc fn first cap).run Tryz.prog w = .ok (.func fn first cap) w := fun _ _ _ _ => rfl
  obtain ⟨x, ok, h1⟩ := text_spec st
  have H1 := Lib.hid h1
  clear h1
  go_enter Tryz.func45, Tryz.ntmps45
  go_wp2_with fail
  refine (qcount_any p 64 st w hr (by omega)).mono ?_
  rintro e w1 ⟨rfl, hr1, hf1⟩
  have hn64 : ((cntR 64 st).map (·.1)).getD 0 ≤ 64 := by
    cases h : cntR 64 st with
    | none => simp
    | some y => have := cntR_le (n := y.1) (r := y.2) h; simp; omega
  obtain ⟨n, hn⟩ : ∃ n, n = ((cntR 64 st).map (·.1)).getD 0 := ⟨_, rfl⟩
  obtain ⟨st1, hst⟩ : ∃ st1, st1 = (cntR 64 st).map (·.2) := ⟨_, rfl⟩
  obtain ⟨h2, h3, h4⟩ := H1.out st1 n hst hn
  rw [← hn] at hn64 ⊢
  rw [← hst] at hr1
  have H2 := Lib.hid h2
  have H3 := Lib.hid h3
  have H4 := Lib.hid h4
  have hf2 : Fr No w1 (w1.alloc (.cells #[.int .i64 n] 3)) := (Fr.refl _ _).alloc _
  have hr2 := hr1.fr hf2 id (fun _ h => h.elim)
  obtain ⟨m, hm⟩ : ∃ m, m = (n + 7) / 8 := ⟨_, rfl⟩
  have ht : st1.isSome = true → m ≤ (st1.getD []).length → Tells 65 (fun s => #[s, .pointer (some ⟨w1.heap.size, 0, none⟩)]) (w1.alloc (.cells #[.int .i64 n] 3)) (st1.getD []) m (.string x) ok := by
    intro hs hl
    subst hm
    cases st1 with
    | none => cases hs
    | some r =>
      obtain ⟨rfl, rfl⟩ := H2.out r rfl hl
      exact textTell_any w1.heap.size n r _ ((Bk.made w1 3 #[.int .i64 n]).cell 0) (rdq_words hr1) hn64 hl
  have Ht := Lib.hid ht
  have Hm := Lib.hid hm
  have hmn : m ≤ 8 := by omega
  clear hn hst h2 h3 h4 ht hm
  go_wp2_with (go_at_call 60; refine (textWords_any n m (by omega) Hm.out _).mono ?_; rintro e w' ⟨rfl, rfl⟩)
  refine (nextString_q p st1 m x ok _ _ hr2 Ht.out (by omega)).mono ?_
  rw [Hm.out, H3.out, H4.out]
  rintro e w3 ⟨rfl, q1, q2⟩
  go_wp2
  go_ret
  exact ⟨by simp, q1, (hf1.trans' hf2 (fun _ _ h => h.elim)).trans' q2 (fun _ _ h => h)⟩
end
/-- A text that is read. -/
theorem text11 {G : Nat → Prop} (p : Nat) (st : Option (List Nat)) (w : World) (hr : Rdq G w p st) :
    Calls Tryz.prog 45 #[.pointer (some ⟨p, 0, none⟩)] w (Rdd G w p (txS st) (.string (txV st))) := qtext_any p st w hr
/-- A text that is written, behind some calls. -/
theorem Wrt.text {w0 w1 : World} {p : Nat} {g : Option Nat} {xs : List Nat} (h : Wrt w0 p g xs w1) (s : ByteArray) (hs : s.size ≤ 1099511627776) (hl : xs.length + 100 ≤ 1099511627776) :
    Calls Tryz.prog 19 #[.pointer (some ⟨p, 0, none⟩), .string s] w1 fun e w2 => e = .returned (.tuple #[]) ∧ Wrt w0 p g (xs ++ ((byts s).take 64).length :: packed ((byts s).take 64)) w2 := h.step fun g1 h1 => text_any p g1 xs s w1 h1 hs hl
end Go.Proofs.YtnlmhcfkipkegaaGreat
