/- A device's sectors: read, lasting, written. -/
import Derived.Test.YtdmllfjeofiddaaDsk3a
import Derived.Deep.RegionHeld3
namespace Go.Proofs.Ytdmllfjeofiddaa
open Go.RowKit

section
variable {S S' : Nat → Prop} {d a b : Nat} {D : Dv}
theorem wr_write (D : Dv) (i k : Nat) (s : List Nat) : upd D.wr i (some (secV s)) k = (D.write i s).wr k := by
  by_cases e : k = i
  · subst e
    rw [upd_same]
    simp [Dv.wr, Dv.write, upd_same]
  · rw [upd_other _ _ _ _ e]
    simp only [Dv.wr, Dv.write, upd_other _ _ _ _ e]
theorem w8_zero : secV zSec = .agg #[.int .u64 0, .int .u64 0, .int .u64 0, .int .u64 0, .int .u64 0, .int .u64 0, .int .u64 0, .int .u64 0] := rfl
set_option maxHeartbeats 1000000 in
theorem dLasting_yes (i : Nat) (hi : i < D.n) (s0 s1 s2 s3 s4 s5 s6 s7 : Nat) (hs : D.la i = [s0, s1, s2, s3, s4, s5, s6, s7]) (w : World) (h : DD w S d D a b) :
    Calls Try.prog 28 #[.pointer (some ⟨d, 0, none⟩), .int .i64 i] w fun e w' =>
      e = .returned (.agg #[.int .u64 s0, .int .u64 s1, .int .u64 s2, .int .u64 s3, .int .u64 s4, .int .u64 s5, .int .u64 s6, .int .u64 s7]) ∧ Fr No w w' := by
  obtain ⟨_, _, _, L, m, c, -, hk⟩ := h
  have q := fun w h => dHas_yes (d := d) (L := L) (m := m) (c := c) (D := D) (a := a) (b := b) i hi w h
  have hk1 := fun o => hk.fr (S := No) ((Fr.refl _ w).alloc o) (fun e => e) (fun e => e) (fun e => e)
  have c0 := fun o => (hk1 o).cells.1
  have l8 := fun o => (hk1 o).la.sec8 hi hs
  have lz0 := fun o => (l8 o).1
  have lz1 := fun o => (l8 o).2.1
  have lz2 := fun o => (l8 o).2.2.1
  have lz3 := fun o => (l8 o).2.2.2.1
  have lz4 := fun o => (l8 o).2.2.2.2.1
  have lz5 := fun o => (l8 o).2.2.2.2.2.1
  have lz6 := fun o => (l8 o).2.2.2.2.2.2.1
  have lz7 := fun o => (l8 o).2.2.2.2.2.2.2
  obtain ⟨_, _, _, hnc, _⟩ := hk.la
  have hn4 := hk.n
  have Hk := Lib.hid hk1
  clear l8 hk hk1 hs
  go_enter Try.func28, Try.ntmps28
  go_wp2_with fail
  refine (q _ (Hk.out _)).mono ?_
  rintro e w' ⟨rfl, rfl⟩
  go_wp2
  refine bodyPost_ret (v := .agg #[.int .u64 s0, .int .u64 s1, .int .u64 s2, .int .u64 s3, .int .u64 s4, .int .u64 s5, .int .u64 s6, .int .u64 s7]) (by simp [results, Try.results28, go_sem]) rfl ⟨rfl, (by repeat (first | exact Fr.refl _ _ | refine Fr.alloc ?_ _ | refine Fr.setCell ?_ (.inr (by simp)) _ | refine Fr.drew ?_))⟩
set_option maxHeartbeats 1000000 in
theorem dLasting_no (i : Int) (hi : i < 0 ∨ (D.n : Int) ≤ i) (w : World) (h : DD w S d D a b) :
    Calls Try.prog 28 #[.pointer (some ⟨d, 0, none⟩), .int .i64 i] w fun e w' =>
      e = .returned (.agg #[.int .u64 0, .int .u64 0, .int .u64 0, .int .u64 0, .int .u64 0, .int .u64 0, .int .u64 0, .int .u64 0]) ∧ Fr No w w' := by
  obtain ⟨_, _, _, L, m, c, -, hk⟩ := h
  have q := fun w h => dHas_no (d := d) (L := L) (m := m) (c := c) (D := D) (a := a) (b := b) i hi w h
  have hk1 := fun o => hk.fr (S := No) ((Fr.refl _ w).alloc o) (fun e => e) (fun e => e) (fun e => e)
  clear hk
  go_enter Try.func28, Try.ntmps28
  go_wp2_with fail
  refine (q _ (hk1 _)).mono ?_
  rintro e w' ⟨rfl, rfl⟩
  go_wp2
  refine bodyPost_ret (v := .agg #[.int .u64 0, .int .u64 0, .int .u64 0, .int .u64 0, .int .u64 0, .int .u64 0, .int .u64 0, .int .u64 0]) (by simp [results, Try.results28, go_sem]) rfl ⟨rfl, (by repeat (first | exact Fr.refl _ _ | refine Fr.alloc ?_ _ | refine Fr.setCell ?_ (.inr (by simp)) _ | refine Fr.drew ?_))⟩
set_option maxHeartbeats 1000000 in
theorem dRead_no (i : Int) (hi : i < 0 ∨ (D.n : Int) ≤ i) (w : World) (h : DD w S d D a b) :
    Calls Try.prog 27 #[.pointer (some ⟨d, 0, none⟩), .int .i64 i] w fun e w' =>
      e = .returned (.tuple #[.agg #[.int .u64 0, .int .u64 0, .int .u64 0, .int .u64 0, .int .u64 0, .int .u64 0, .int .u64 0, .int .u64 0], .int .i64 3]) ∧ Fr No w w' := by
  obtain ⟨_, _, _, L, m, c, -, hk⟩ := h
  have q := fun w h => dHas_no (d := d) (L := L) (m := m) (c := c) (D := D) (a := a) (b := b) i hi w h
  have hk1 := fun o => hk.fr (S := No) ((Fr.refl _ w).alloc o) (fun e => e) (fun e => e) (fun e => e)
  clear hk
  go_enter Try.func27, Try.ntmps27
  go_wp2_with fail
  refine (q _ (hk1 _)).mono ?_
  rintro e w' ⟨rfl, rfl⟩
  go_wp2
  refine bodyPost_ret (v := .tuple #[.agg #[.int .u64 0, .int .u64 0, .int .u64 0, .int .u64 0, .int .u64 0, .int .u64 0, .int .u64 0, .int .u64 0], .int .i64 3]) (by simp [results, Try.results27, go_sem]) rfl ⟨rfl, (by repeat (first | exact Fr.refl _ _ | refine Fr.alloc ?_ _ | refine Fr.setCell ?_ (.inr (by simp)) _ | refine Fr.drew ?_))⟩
set_option maxHeartbeats 1000000 in
theorem dRead_nil (i : Int) (w : World) : Calls Try.prog 27 #[.pointer none, .int .i64 i] w fun e w' =>
      e = .returned (.tuple #[.agg #[.int .u64 0, .int .u64 0, .int .u64 0, .int .u64 0, .int .u64 0, .int .u64 0, .int .u64 0, .int .u64 0], .int .i64 3]) ∧ Fr No w w' := by
  have q := fun w => dHas_nil i w
  go_enter Try.func27, Try.ntmps27
  go_wp2_with fail
  refine (q _).mono ?_
  rintro e w' ⟨rfl, rfl⟩
  go_wp2
  refine bodyPost_ret (v := .tuple #[.agg #[.int .u64 0, .int .u64 0, .int .u64 0, .int .u64 0, .int .u64 0, .int .u64 0, .int .u64 0, .int .u64 0], .int .i64 3]) (by simp [results, Try.results27, go_sem]) rfl ⟨rfl, (by repeat (first | exact Fr.refl _ _ | refine Fr.alloc ?_ _ | refine Fr.setCell ?_ (.inr (by simp)) _ | refine Fr.drew ?_))⟩
set_option maxHeartbeats 1000000 in
theorem dRead_yes (i : Nat) (hi : i < D.n) (s0 s1 s2 s3 s4 s5 s6 s7 : Nat) (hs : D.rd i = [s0, s1, s2, s3, s4, s5, s6, s7]) (w : World) (h : DD w S d D a b) :
    Calls Try.prog 27 #[.pointer (some ⟨d, 0, none⟩), .int .i64 i] w fun e w' =>
      e = .returned (.tuple #[.agg #[.int .u64 s0, .int .u64 s1, .int .u64 s2, .int .u64 s3, .int .u64 s4, .int .u64 s5, .int .u64 s6, .int .u64 s7], .int .i64 0]) ∧ Fr No w w' := by
  obtain ⟨_, _, _, L, m, c, -, hk⟩ := h
  have q := fun w h => dHas_yes (d := d) (L := L) (m := m) (c := c) (D := D) (a := a) (b := b) i hi w h
  have hk1 := fun o => hk.fr (S := No) ((Fr.refl _ w).alloc o) (fun e => e) (fun e => e) (fun e => e)
  have c1 := fun o => (hk1 o).cells.2.1
  have hn4 := hk.n
  have hlk := fun o => (hk1 o).mp.look int_k map_t hi (by omega) (sec_zero _)
  cases hd : D.di i with
  | true =>
    simp only [Dv.wr, hd, hs, if_true, Option.getD_some, Option.isSome_some, secV, secA, u64s, List.map_cons, List.map_nil] at hlk
    have Hk := Lib.hid hk1
    clear hk hk1 hs
    go_enter Try.func27, Try.ntmps27
    go_wp2_with fail
    refine (q _ (Hk.out _)).mono ?_
    rintro e w' ⟨rfl, rfl⟩
    go_wp2
    refine bodyPost_ret (v := .tuple #[.agg #[.int .u64 s0, .int .u64 s1, .int .u64 s2, .int .u64 s3, .int .u64 s4, .int .u64 s5, .int .u64 s6, .int .u64 s7], .int .i64 0]) (by simp [results, Try.results27, go_sem]) rfl ⟨rfl, (by repeat (first | exact Fr.refl _ _ | refine Fr.alloc ?_ _ | refine Fr.setCell ?_ (.inr (by simp)) _ | refine Fr.drew ?_))⟩
  | false =>
    have hnone : D.wr i = none := by simp [Dv.wr, hd]
    simp only [hnone, Option.getD_none, Option.isSome_none, w8_zero] at hlk
    have hl := hk.ok.same i hi hd
    have c0 := fun o o' => (hk.fr (S := No) (((Fr.refl _ w).alloc o).alloc o') (fun e => e) (fun e => e) (fun e => e)).cells.1
    have l8 := fun o o' => (hk.fr (S := No) (((Fr.refl _ w).alloc o).alloc o') (fun e => e) (fun e => e) (fun e => e)).la.sec8 hi (hl.symm.trans hs)
    have lz0 := fun o o' => (l8 o o').1
    have lz1 := fun o o' => (l8 o o').2.1
    have lz2 := fun o o' => (l8 o o').2.2.1
    have lz3 := fun o o' => (l8 o o').2.2.2.1
    have lz4 := fun o o' => (l8 o o').2.2.2.2.1
    have lz5 := fun o o' => (l8 o o').2.2.2.2.2.1
    have lz6 := fun o o' => (l8 o o').2.2.2.2.2.2.1
    have lz7 := fun o o' => (l8 o o').2.2.2.2.2.2.2
    obtain ⟨_, _, _, hnc, _⟩ := hk.la
    have Hk := Lib.hid hk1
    clear l8 hk hk1 hs hl
    go_enter Try.func27, Try.ntmps27
    go_wp2_with fail
    refine (q _ (Hk.out _)).mono ?_
    rintro e w' ⟨rfl, rfl⟩
    go_wp2
    refine bodyPost_ret (v := .tuple #[.agg #[.int .u64 s0, .int .u64 s1, .int .u64 s2, .int .u64 s3, .int .u64 s4, .int .u64 s5, .int .u64 s6, .int .u64 s7], .int .i64 0]) (by simp [results, Try.results27, go_sem]) rfl ⟨rfl, (by repeat (first | exact Fr.refl _ _ | refine Fr.alloc ?_ _ | refine Fr.setCell ?_ (.inr (by simp)) _ | refine Fr.drew ?_))⟩
set_option maxHeartbeats 1000000 in
theorem dWrite_no (i : Int) (hi : i < 0 ∨ (D.n : Int) ≤ i) (cs : Array Value) (w : World) (h : DD w S d D a b) :
    Calls Try.prog 19 #[.pointer (some ⟨d, 0, none⟩), .int .i64 i, .agg cs] w fun e w' => e = .returned (.int .i64 3) ∧ Fr No w w' := by
  obtain ⟨_, _, _, L, m, c, -, hk⟩ := h
  have q := fun w h => dHas_no (d := d) (L := L) (m := m) (c := c) (D := D) (a := a) (b := b) i hi w h
  have hk1 := fun o => hk.fr (S := No) ((Fr.refl _ w).alloc o) (fun e => e) (fun e => e) (fun e => e)
  clear hk
  go_enter Try.func19, Try.ntmps19
  go_wp2_with fail
  refine (q _ (hk1 _)).mono ?_
  rintro e w' ⟨rfl, rfl⟩
  go_wp2
  go_ret
  exact ⟨rfl, (by repeat (first | exact Fr.refl _ _ | refine Fr.alloc ?_ _ | refine Fr.setCell ?_ (.inr (by simp)) _ | refine Fr.drew ?_))⟩
set_option maxHeartbeats 1000000 in
theorem dWrite_nil (i : Int) (cs : Array Value) (w : World) : Calls Try.prog 19 #[.pointer none, .int .i64 i, .agg cs] w fun e w' => e = .returned (.int .i64 3) ∧ Fr No w w' := by
  have q := fun w => dHas_nil i w
  go_enter Try.func19, Try.ntmps19
  go_wp2_with fail
  refine (q _).mono ?_
  rintro e w' ⟨rfl, rfl⟩
  go_wp2
  go_ret
  exact ⟨rfl, (by repeat (first | exact Fr.refl _ _ | refine Fr.alloc ?_ _ | refine Fr.setCell ?_ (.inr (by simp)) _ | refine Fr.drew ?_))⟩
set_option maxHeartbeats 1000000 in
theorem dWrite_yes (i : Nat) (hi : i < D.n) (s0 s1 s2 s3 s4 s5 s6 s7 : Nat) (hs : Sec [s0, s1, s2, s3, s4, s5, s6, s7]) (w : World) (h : DD w S d D a b) :
    Calls Try.prog 19 #[.pointer (some ⟨d, 0, none⟩), .int .i64 i, .agg #[.int .u64 s0, .int .u64 s1, .int .u64 s2, .int .u64 s3, .int .u64 s4, .int .u64 s5, .int .u64 s6, .int .u64 s7]] w fun e w' =>
      e = .returned (.int .i64 0) ∧ ∃ S', DD w' S' d (D.write i [s0, s1, s2, s3, s4, s5, s6, s7]) (a + 1) b ∧ Step S S' w w' := by
  obtain ⟨_, _, _, L, m, c, hS, hk⟩ := h
  have q := fun w h => dHas_yes (d := d) (L := L) (m := m) (c := c) (D := D) (a := a) (b := b) i hi w h
  have hk1 := fun o => hk.fr (S := No) ((Fr.refl _ w).alloc o) (fun e => e) (fun e => e) (fun e => e)
  have hn4 := hk.n
  have hpos := hk.pos
  obtain ⟨w2, hup, hmi, hfm, hsz⟩ := ((hk1 (.cells (secA [s0, s1, s2, s3, s4, s5, s6, s7]) 41)).fr (S := No) (Fr.refl _ _).drew (fun e => e) (fun e => e) (fun e => e)).mp.store int_k map_t hi (by omega) (secV [s0, s1, s2, s3, s4, s5, s6, s7])
  simp only [secV, secA, u64s, List.map_cons, List.map_nil] at hup
  have c1 := fun o => (hk1 o).cells.2.1
  obtain ⟨n1, n2, n3⟩ := hk.ne
  have hself := (hk1 (.cells (secA [s0, s1, s2, s3, s4, s5, s6, s7]) 41)).self.fr (w' := w2) (S := fun k => k = m) ((Fr.refl _ _).drew.trans' hfm (fun _ _ e => e)) (fun e => n2 e.symm)
  have hla := (hk1 (.cells (secA [s0, s1, s2, s3, s4, s5, s6, s7]) 41)).la.fr (w' := w2) (S := fun k => k = m) ((Fr.refl _ _).drew.trans' hfm (fun _ _ e => e)) (fun e => n3 e.symm)
  have d2 : w2.cell? ⟨d, 2, none⟩ = some (.int .i64 (wrap64 a)) := hself.cell 2
  have z2 := hself.frozen 2
  have Hk := Lib.hid hk1
  have Ho := Lib.hid (hk.ok.write i _ hs)
  have Hs := Lib.hid hself
  have Hl := Lib.hid hla
  have Hm := Lib.hid hmi
  have Hf : Hid (Fr (fun k => k = m) w w2) := Lib.hid (((Fr.refl _ w).alloc _).trans' ((Fr.refl _ _).drew.trans' hfm (fun _ _ e => e)) (fun _ _ e => e))
  have Hsz := Lib.hid hsz
  clear hk hk1 hs hself hla hmi hfm hsz
  go_enter Try.func19, Try.ntmps19
  go_wp2_with fail
  refine (q _ (Hk.out _)).mono ?_
  rintro e w' ⟨rfl, rfl⟩
  go_wp2
  go_region
  all_goals
    go_wp2
    go_ret
    rw [wrap64_succ]
    have hf3 : Fr (fun k => k = d) w2 (w2.setCell ⟨d, 2, none⟩ (.int .i64 (wrap64 ((a + 1 : Nat) : Int)))) := (Fr.refl (fun k => k = d) w2).setCell (p := ⟨d, 2, none⟩) (.inl rfl) _
    have hD : DK (w2.setCell ⟨d, 2, none⟩ (.int .i64 (wrap64 ((a + 1 : Nat) : Int)))) d L m c (D.write i [s0, s1, s2, s3, s4, s5, s6, s7]) (a + 1) b :=
      ⟨Ho.out, hn4, by
        show Bk _ _ _ #[.slice (some ⟨L, 0, none⟩) D.n c, .map (some m), .int .i64 (wrap64 ((a + 1 : Nat) : Int)), .int .i64 (wrap64 b)]
        exact Hs.out.put 2 (.int .i64 (wrap64 ((a + 1 : Nat) : Int))), Hl.out.fr hf3 (fun e => n1 e.symm), (Hm.out.fr hf3 n2).congr (fun k _ => wr_write D i k _), hpos⟩
    refine ⟨rfl, _, hD.dd, ⟨(Hf.out.weak (S' := S) (fun k _ e => (hS k).2 (.inr (.inr e)))).trans' hf3 (fun k _ e => (hS k).2 (.inl e)), fun k hk => .inl ((hS k).2 hk)⟩⟩
end
end Go.Proofs.Ytdmllfjeofiddaa
