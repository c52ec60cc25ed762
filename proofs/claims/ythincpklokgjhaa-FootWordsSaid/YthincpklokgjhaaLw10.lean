/- The law 'FootWords', walked. -/
import Derived.Test.YthincpklokgjhaaGtf10
import Derived.Test.YthincpklokgjhaaPut10
import Derived.Test.YthincpklokgjhaaRit10
import Derived.Test.YthincpklokgjhaaRfm10
import Derived.Test.YthincpklokgjhaaCov10
namespace Go.Proofs.Ythincpklokgjhaa
open Go.RowKit

theorem wr_new9 (w : World) : Wr (w.alloc (.cells #[.slice none 0 0] 40)) w.heap.size none [] :=
  ⟨none, 0, Bk.made w 40 #[.slice none 0 0], World.ownsRow_nil _ _ _ _, rfl⟩
theorem sgn_lt (x : Int) (h : I64 x) : sgn x < 18446744073709551616 := by
  have h1 := h.1
  have h2 := h.2
  unfold sgn
  split <;> omega
theorem nat_lt (x : Int) (h : I64 x) : x.toNat < 18446744073709551616 := by
  have h2 := h.2
  omega
theorem wordsF_lt {l : List Fsp} (h : ∀ i ∈ l, i.I) (hl : l.length ≤ 4) : ∀ u ∈ wordsF l, u < 18446744073709551616 := by
  intro u hu
  rw [wordsF, List.mem_cons] at hu
  rcases hu with rfl | hu
  · omega
  · obtain ⟨i, hi, hu⟩ := List.mem_flatMap.1 hu
    obtain ⟨h0, h1, h2, h3⟩ := h i hi
    simp only [wordsF1, List.mem_cons, List.not_mem_nil, or_false] at hu
    rcases hu with rfl | rfl | rfl | rfl | rfl
    · exact sgn_lt _ h0
    · exact nat_lt _ h1
    · exact sgn_lt _ h2
    · exact nat_lt _ h3
    · unfold flagW
      split <;> omega
theorem wordsF_len (l : List Fsp) : (wordsF l).length = 1 + l.length * 5 := by
  rw [wordsF, List.length_cons, wordsF1_flat]
  omega

set_option maxHeartbeats 4000000 in
theorem footWords_any (l : List Fsp) (n : Int) (A : Option Addr) (m c : Nat) (w : World) (hsl : Sl w w.heap.size A (l.flatMap Fsp.cells)) (hm : l.length = m) (hi : ∀ i ∈ l, i.I) :
    Calls Try.prog 5 #[.slice A m c, .int .i64 n] w (Has w true) := by
  have Hm := Lib.hid hm
  have Hsl := Lib.hid hsl
  have Hi := Lib.hid hi
  clear hm hsl hi
  go_enter Try.func5, Try.ntmps5
  go_wp2_with fail
  refine (alive10 _).mono ?_
  rintro e w1 ⟨rfl, hf1⟩
  go_wp2_with fail
  refine (refMay10_any l n A m c w1 (Hsl.out.since hf1) Hm.out).mono ?_
  rintro e w2 ⟨rfl, hf2⟩
  have hz2 := hf1.then0 hf2 (fun _ h => h.elim)
  cases hp : footOk l n
  · go_wp2
    go_ret
    exact ⟨rfl, hz2⟩
  have hp2 := hp
  unfold footOk at hp2
  simp only [Bool.and_eq_true, decide_eq_true_eq, List.all_eq_true] at hp2
  obtain ⟨hn3, hl8, hall⟩ := hp2
  have hm4 : m ≤ 4 := by rw [← Hm.out]; exact hl8
  have Hsm : Hid (∀ i ∈ l, i.Small) := Lib.hid (fun i hi => fsmall_of_ok hn3.2 (hall i hi))
  have Hback := Lib.hid (gotF_back Hsm.out hl8)
  have Hlt := Lib.hid (wordsF_lt Hi.out hl8)
  have Hlen : Hid ((wordsF l).length = 1 + m * 5) := Lib.hid (by rw [wordsF_len, Hm.out])
  have Hfit := Lib.hid (itFP_fit Hi.out hl8)
  clear hp hall hn3 hl8 hf1 hf2
  have hal : Fr No w (w2.alloc (.cells #[.slice none 0 0] 40)) := hz2.alloc _
  have CP := put10_any w2.heap.size none [] l A m c _ (wr_new9 w2) (Hsl.out.since hal) (fun ad e hne he => by
    have he : ad.block = w2.heap.size := by
      rcases he with he | he
      · exact he
      · cases he
    obtain ⟨ad', e', hb, _⟩ := Hsl.out (by intro h; cases l with | nil => exact hne rfl | cons a r => simp [Fsp.cells] at h)
    rw [e] at e'
    injection e' with e'
    subst e'
    have := hz2.size
    omega) Hm.out (by omega) Hi.out (by simp)
  rw [List.nil_append] at CP
  have HCP := Lib.hid CP
  clear CP
  go_wp2_with fail
  refine (HCP.out).mono ?_
  rintro e w3 ⟨rfl, g3, hwr3, hf3, hg3⟩
  have hz3 : Fr No w w3 := hal.trans' hf3 (fun i hi ho => by
    rcases ho with ho | ho
    · have := hz2.size
      omega
    · cases ho)
  have Hwr3 := Lib.hid hwr3
  clear hf3 hg3 hwr3
  go_wp2_with fail
  refine (done_any w2.heap.size g3 (wordsF l) w3 Hwr3.out (by rw [Hlen.out]; omega)).mono ?_
  rintro e w4 ⟨A4, c4, rfl, hown4, hf4⟩
  have hsl4 := Sl.ofOwn hown4
  have hnil4 : A4 = none → (wordsF l).length = 0 ∧ c4 = 0 := by
    obtain ⟨A', c', k1, _, _, k2⟩ := own_shape hown4
    injection k1 with k1 k3 k4
    subst k1 k4
    exact k2
  have hz4 := hz3.then0 hf4 (fun _ h => h.elim)
  have hwr4 := Hwr3.out.fr hf4 (fun _ _ e => e)
  clear hown4
  go_wp2_with fail
  refine (qnew_any (wordsF l) A4 (wordsF l).length c4 w4 hsl4 rfl hnil4 (by rw [Hlen.out]; omega) Hlt.out).mono ?_
  rintro e w5 ⟨r, rfl, hr5, hrd5, hf5⟩
  have hz5 := hz4.then0 hf5 (fun _ h => h.elim)
  have hwr5 := hwr4.fr hf5 (fun _ _ e => e)
  have Hnew := Lib.hid (hwr4.not_of hr5)
  clear hsl4 hnil4 hwr4
  go_wp2_with fail
  refine (get10_any r _ w5 hrd5 (fun k hk => hk)).mono ?_
  rintro e w6 ⟨A6, c6, rfl, hsl6, hrd6, hf6⟩
  rw [Hback.out.2] at hsl6 ⊢
  rw [Hm.out]
  rw [Hback.out.1] at hrd6
  have hz6 : Fr No w w6 := hz5.trans' hf6 (fun i hi e => by have e : i = r := e; have := hz4.size; omega)
  have hwr6 := hwr5.fr hf6 (fun i ho e => Hnew.out (by have e : i = r := e; rw [← e]; exact ho))
  clear hwr5 hrd5
  go_wp2_with fail
  refine (done_any w2.heap.size g3 (wordsF l) w6 hwr6 (by rw [Hlen.out]; omega)).mono ?_
  rintro e w7 ⟨A7, c7, rfl, hown7, hf7⟩
  have hsl7 := Sl.ofOwn hown7
  have hz7 := hz6.then0 hf7 (fun _ h => h.elim)
  go_wp2_with fail
  refine (items10_any l A m c w7 (Hsl.out.since hz7) Hm.out hm4).mono ?_
  rintro e w8 ⟨A8, c8, rfl, hsl8, -, hf8⟩
  have hz8 := hz7.then0 hf8 (fun _ h => h.elim)
  go_wp2_with fail
  refine (words10_any (itFP l) A8 (itFP l).length c8 w8 hsl8 rfl (by rw [itFP_len, Hm.out]; omega) Hfit.out).mono ?_
  rw [itFP_words]
  rintro e w9 ⟨A9, c9, rfl, hown9, hf9⟩
  have hsl9 := Sl.ofOwn hown9
  have hz9 := hz8.then0 hf9 (fun _ h => h.elim)
  go_wp2_with fail
  refine (refWords_any (wordsF l) (wordsF l) A7 A9 (wordsF l).length (wordsF l).length c7 c9 w9 ((hsl7.since hf8).since hf9) hsl9 rfl rfl (by rw [Hlen.out]; omega) (by rw [Hlen.out]; omega)).mono ?_
  rintro e w10 ⟨rfl, hf10⟩
  have hf6' : Fr No w6 w10 := ((hf7.then0 hf8 (fun _ h => h.elim)).then0 hf9 (fun _ h => h.elim)).then0 hf10 (fun _ h => h.elim)
  have hz10 := hz9.then0 hf10 (fun _ h => h.elim)
  have hrd10 := hrd6.fr hf6' (fun e => e) (fun _ e => e.elim)
  have t1 : decide (wordsF l = wordsF l) = true := by simp
  go_wp2_with fail
  refine (qend_any r _ w10 hrd10).mono ?_
  rintro e w11 ⟨rfl, hf11⟩
  have t2 : decide ((some ([] : List Nat)) = some []) = true := by simp
  have hz11 := hz10.then0 hf11 (fun _ h => h.elim)
  go_wp2_with fail
  refine (same10_any l A A6 m c c6 w11 (Hsl.out.since hz11) ((hsl6.since hf6').since hf11) Hm.out (by omega)).mono ?_
  rintro e w12 ⟨rfl, hf12⟩
  go_wp2
  go_ret
  exact ⟨rfl, hz11.then0 hf12 (fun _ h => h.elim)⟩
end Go.Proofs.Ythincpklokgjhaa
