/- How a device of package disk lies in memory; its simplest calls. -/
import Derived.Test.YtdmllfjeofiddaaDsk3S
import Derived.Test.YtdmllfjeofiddaaMaps
namespace Go.Proofs.Ytdmllfjeofiddaa
open Go.RowKit

/-- The sectors that last: block L has at least n, and c in all. -/
def Lb (w : World) (L n c : Nat) (f : Nat → List Nat) : Prop := ∃ cur, Bk w L 41 cur ∧ n * 8 ≤ cur.size ∧ n ≤ c ∧ ∀ i j, i < n → j < 8 → cur[i * 8 + j]? = (u64s (f i))[j]?
section
variable {w w' : World} {L n c : Nat} {f g : Nat → List Nat} {S : Nat → Prop}
theorem Lb.lt (h : Lb w L n c f) : L < w.heap.size := by
  obtain ⟨cur, hb, _⟩ := h
  exact hb.lt
theorem Lb.fr (h : Lb w L n c f) (hf : Fr S w w') (hs : ¬ S L) : Lb w' L n c f := by
  obtain ⟨cur, hb, r⟩ := h
  exact ⟨cur, hb.fr hf hs, r⟩
theorem Lb.alloc (h : Lb w L n c f) (o : Obj) : Lb (w.alloc o) L n c f := h.fr ((Fr.refl No w).alloc o) (fun e => e)
theorem Lb.congr (h : Lb w L n c f) (e : ∀ i, i < n → f i = g i) : Lb w L n c g := by
  obtain ⟨cur, hb, h1, h2, h3⟩ := h
  exact ⟨cur, hb, h1, h2, fun i j hi hj => by rw [← e i hi]; exact h3 i j hi hj⟩
theorem Lb.of (h : Bk w L 41 (secs n f)) (hl : ∀ i, i < n → (f i).length = 8) : Lb w L n n f := ⟨_, h, by rw [secs_size n f hl]; omega, Nat.le_refl _, fun i j hi hj => secs_at n f hl i j hi hj⟩
theorem Lb.frozen (h : Lb w L n c f) (i : Nat) : w.frozen? ⟨L, i, none⟩ = false := by
  obtain ⟨cur, hb, _⟩ := h
  exact hb.frozen i
theorem Lb.sec8 (h : Lb w L n c f) {i : Nat} (hi : i < n) {b0 b1 b2 b3 b4 b5 b6 b7 : Nat} (hs : f i = [b0, b1, b2, b3, b4, b5, b6, b7]) :
    w.cell? ⟨L, i * 8, none⟩ = some (.int .u64 b0) ∧ w.cell? ⟨L, i * 8 + 1, none⟩ = some (.int .u64 b1) ∧ w.cell? ⟨L, i * 8 + 2, none⟩ = some (.int .u64 b2) ∧ w.cell? ⟨L, i * 8 + 3, none⟩ = some (.int .u64 b3) ∧
    w.cell? ⟨L, i * 8 + 4, none⟩ = some (.int .u64 b4) ∧ w.cell? ⟨L, i * 8 + 5, none⟩ = some (.int .u64 b5) ∧ w.cell? ⟨L, i * 8 + 6, none⟩ = some (.int .u64 b6) ∧ w.cell? ⟨L, i * 8 + 7, none⟩ = some (.int .u64 b7) := by
  obtain ⟨cur, hb, h1, h2, h3⟩ := h
  have e : ∀ j, j < 8 → w.cell? ⟨L, i * 8 + j, none⟩ = (u64s (f i))[j]? := fun j hj => by rw [hb.cell, h3 i j hi hj]
  rw [hs] at e
  exact ⟨e 0 (by omega), e 1 (by omega), e 2 (by omega), e 3 (by omega), e 4 (by omega), e 5 (by omega), e 6 (by omega), e 7 (by omega)⟩
theorem Lb.put (h : Lb w L n c f) {i : Nat} (hi : i < n) {s : List Nat} (hs : s.length = 8) : Lb (w.setCells L (i * 8) (u64s s)) L n c (upd f i s) := by
  obtain ⟨cur, hb, h1, h2, h3⟩ := h
  have l8 : (u64s s).length = 8 := by simp [u64s, hs]
  refine ⟨_, hb.putMany (u64s s) (i * 8), by rw [putMany_size]; exact h1, h2, fun k j hk hj => ?_⟩
  rw [putMany_at _ _ _ _ (by rw [l8]; omega), l8]
  by_cases e : k = i
  · subst e
    rw [if_pos (by omega), upd_same, show k * 8 + j - k * 8 = j by omega]
  · rw [if_neg (by omega), upd_other _ _ _ _ e]
    exact h3 k j hk hj
end

/-- What was written last to a sector that was written since. -/
def Dv.wr (D : Dv) (i : Nat) : Option Value := if D.di i = true then some (secV (D.rd i)) else none
/-- A device of package disk at d: its sectors in block L, what was written in the map m. -/
structure DK (w : World) (d L m c : Nat) (D : Dv) (a b : Nat) : Prop where
  ok : D.Ok
  n : D.n ≤ 4096
  self : Bk w d 73 #[.slice (some ⟨L, 0, none⟩) D.n c, .map (some m), .int .i64 (wrap64 a), .int .i64 (wrap64 b)]
  la : Lb w L D.n c D.la
  mp : MI Try.prog 3 w m D.n D.wr
  pos : 1 ≤ D.n
/-- A device at d, in the blocks S; how often it was written, and synced. -/
structure DD (w : World) (S : Nat → Prop) (d : Nat) (D : Dv) (a b : Nat) : Prop where
  ok : D.Ok
  lt : ∀ k, S k → k < w.heap.size
  self : S d
  lies : ∃ L m c, (∀ k, S k ↔ k = d ∨ k = L ∨ k = m) ∧ DK w d L m c D a b
section
variable {S S' : Nat → Prop} {w w' : World} {d L m c : Nat} {D D' : Dv} {a b a' b' : Nat}
theorem DK.fr (h : DK w d L m c D a b) (hf : Fr S w w') (h1 : ¬ S d) (h2 : ¬ S L) (h3 : ¬ S m) : DK w' d L m c D a b := ⟨h.ok, h.n, h.self.fr hf h1, h.la.fr hf h2, h.mp.fr hf h3, h.pos⟩
theorem DK.ne (h : DK w d L m c D a b) : d ≠ L ∧ m ≠ d ∧ m ≠ L := by
  refine ⟨?_, h.mp.apart h.self, ?_⟩
  · obtain ⟨cur, hb, _⟩ := h.la
    exact h.self.apart hb (by decide)
  · obtain ⟨cur, hb, _⟩ := h.la
    exact h.mp.apart hb
theorem DK.dd (h : DK w d L m c D a b) : DD w (fun k => k = d ∨ k = L ∨ k = m) d D a b :=
  ⟨h.ok, fun k hk => by rcases hk with rfl | rfl | rfl; (exact h.self.lt); (exact h.la.lt); (exact h.mp.lt), .inl rfl, L, m, c, fun _ => Iff.rfl, h⟩
theorem DD.fr (h : DD w S d D a b) (hf : Fr S' w w') (hs : ∀ k, S k → ¬ S' k) : DD w' S d D a b := by
  obtain ⟨h1, h2, h3, L, m, c, hS, hk⟩ := h
  exact ⟨h1, fun k hk => Nat.lt_of_lt_of_le (h2 k hk) hf.size, h3, L, m, c, hS, hk.fr hf (hs d ((hS d).2 (.inl rfl))) (hs L ((hS L).2 (.inr (.inl rfl)))) (hs m ((hS m).2 (.inr (.inr rfl))))⟩
theorem DK.cells (h : DK w d L m c D a b) : w.cell? ⟨d, 0, none⟩ = some (.slice (some ⟨L, 0, none⟩) D.n c) ∧ w.cell? ⟨d, 1, none⟩ = some (.map (some m)) ∧ w.cell? ⟨d, 2, none⟩ = some (.int .i64 (wrap64 a)) ∧ w.cell? ⟨d, 3, none⟩ = some (.int .i64 (wrap64 b)) :=
  ⟨h.self.cell 0, h.self.cell 1, h.self.cell 2, h.self.cell 3⟩
theorem wrap64_small {n : Nat} (h : n < 9223372036854775808) : wrap64 (n : Int) = (n : Int) := by unfold wrap64; omega
theorem wrap64_succ (a : Nat) : wrap64 (wrap64 (a : Int) + 1) = wrap64 ((a + 1 : Nat) : Int) := by unfold wrap64; omega

theorem int_k : Try.prog.underlying 3 = some (.int .i64) := Try.underlying3
theorem map_t : Try.prog.underlying 71 = some (.map 3 41) := Try.underlying71
theorem sec_zero (w : World) : (zeroValue 41).run Try.prog w = .ok (secV zSec) w := Try.zeroValue41 w
theorem sec_info : (Try.prog.info? 41).map (fun i => (i.zero, i.size, i.bytes)) = some (some (secV zSec), 8, 64) := by kernel_rfl

set_option maxHeartbeats 1000000 in
theorem dNew_yes (n : Nat) (h1 : 1 ≤ n) (h2 : n ≤ 4096) (w : World) : Calls Try.prog 8 #[.int .i64 n] w fun e w' => ∃ S d, e = .returned (.pointer (some ⟨d, 0, none⟩)) ∧ DD w' S d (Dv.new n) 0 0 ∧ Step No S w w' := by
  have hmk := run_make_secs (P := Try.prog) 55 41 64 Try.underlying55 sec_info n (by omega) (by omega)
  have hmm := @run_makeMap Try.prog
  go_enter Try.func8, Try.ntmps8
  go_wp2
  go_ret
  have hsz : w.heap.size < w.heap.size + 1 := by omega
  have b0 := Bk.made w 41 (secs n fun _ => zSec)
  have b1 := MI.made (w.alloc (.cells (secs n fun _ => zSec) 41)) Try.prog 3 n
  simp only [World.size_alloc] at b1
  have b2 := Bk.made ((w.alloc (.cells (secs n fun _ => zSec) 41)).alloc (.map #[] 0)) 73 #[.slice (some ⟨w.heap.size, 0, none⟩) n n, .map (some (w.heap.size + 1)), .int .i64 0, .int .i64 0]
  simp only [World.size_alloc] at b2
  have e0 : wrap64 ((0 : Nat) : Int) = 0 := wrap64_small (n := 0) (by omega)
  have hD : DK _ (w.heap.size + 1 + 1) w.heap.size (w.heap.size + 1) n (Dv.new n) 0 0 := ⟨Dv.new_ok n, h2, by rw [e0]; exact b2, Lb.of ((b0.alloc _).alloc _) (fun _ _ => rfl), b1.alloc _, h1⟩
  refine ⟨_, w.heap.size + 1 + 1, rfl, hD.dd, (((Fr.refl No w).alloc _).alloc _).alloc _, fun k hk => .inr ?_⟩
  rcases hk with rfl | rfl | rfl <;> omega
theorem dNew_no (n : Int) (h : n < 1 ∨ 4096 < n) (w : World) : Calls Try.prog 8 #[.int .i64 n] w fun e w' => e = .returned (.pointer none) ∧ Fr No w w' := by
  rcases h with h | h
  · go_enter Try.func8, Try.ntmps8
    go_wp2
    go_ret
    exact ⟨rfl, Fr.refl _ _⟩
  · have h1 : ¬ n < 1 := by omega
    go_enter Try.func8, Try.ntmps8
    go_wp2
    go_ret
    exact ⟨rfl, Fr.refl _ _⟩

theorem dkLen (w : World) (h : DK w d L m c D a b) : Calls Try.prog 53 #[.pointer (some ⟨d, 0, none⟩)] w fun e w' => e = .returned (.int .i64 D.n) ∧ w' = w := by
  obtain ⟨c0, -, -, -⟩ := h.cells
  clear h
  go_enter Try.func53, Try.ntmps53
  go_wp2
  go_ret
  exact ⟨rfl, rfl⟩
theorem dLen_nil' (w : World) : Calls Try.prog 53 #[.pointer none] w fun e w' => e = .returned (.int .i64 0) ∧ w' = w := by
  go_enter Try.func53, Try.ntmps53
  go_wp2
  go_ret
  exact ⟨rfl, rfl⟩
theorem dLen_nil (w : World) : Calls Try.prog 53 #[.pointer none] w fun e w' => e = .returned (.int .i64 0) ∧ Fr No w w' := by
  refine (dLen_nil' w).mono ?_
  rintro e w' ⟨rfl, rfl⟩
  exact ⟨rfl, Fr.refl _ _⟩
theorem dLen_any (w : World) (h : DD w S d D a b) : Calls Try.prog 53 #[.pointer (some ⟨d, 0, none⟩)] w fun e w' => e = .returned (.int .i64 D.n) ∧ Fr No w w' := by
  obtain ⟨_, _, _, L, m, c, -, hk⟩ := h
  refine (dkLen w hk).mono ?_
  rintro e w' ⟨rfl, rfl⟩
  exact ⟨rfl, Fr.refl _ _⟩
theorem dHas_yes (i : Nat) (hi : i < D.n) (w : World) (h : DK w d L m c D a b) : Calls Try.prog 45 #[.pointer (some ⟨d, 0, none⟩), .int .i64 i] w fun e w' => e = .returned (.bool true) ∧ w' = w := by
  have q := fun w h => dkLen (d := d) (L := L) (m := m) (c := c) (D := D) (a := a) (b := b) w h
  have e1 : decide ((i : Int) < (D.n : Int)) = true := by simp; omega
  go_enter Try.func45, Try.ntmps45
  go_wp2_with fail
  refine (q w h).mono ?_
  rintro e w' ⟨rfl, rfl⟩
  go_wp2
  go_ret
  exact ⟨rfl, rfl⟩
theorem dHas_no (i : Int) (hi : i < 0 ∨ (D.n : Int) ≤ i) (w : World) (h : DK w d L m c D a b) : Calls Try.prog 45 #[.pointer (some ⟨d, 0, none⟩), .int .i64 i] w fun e w' => e = .returned (.bool false) ∧ w' = w := by
  have q := fun w h => dkLen (d := d) (L := L) (m := m) (c := c) (D := D) (a := a) (b := b) w h
  by_cases h0 : i < 0
  · have e0 : decide ((0 : Int) ≤ i) = false := by simp; omega
    go_enter Try.func45, Try.ntmps45
    go_wp2
    go_ret
    exact ⟨rfl, rfl⟩
  · have e0 : decide ((0 : Int) ≤ i) = true := by simp; omega
    have e1 : decide (i < (D.n : Int)) = false := by simp; omega
    go_enter Try.func45, Try.ntmps45
    go_wp2_with fail
    refine (q w h).mono ?_
    rintro e w' ⟨rfl, rfl⟩
    go_wp2
    go_ret
    exact ⟨rfl, rfl⟩
theorem dHas_nil (i : Int) (w : World) : Calls Try.prog 45 #[.pointer none, .int .i64 i] w fun e w' => e = .returned (.bool false) ∧ w' = w := by
  have q := fun w => dLen_nil' w
  by_cases h0 : i < 0
  · have e0 : decide ((0 : Int) ≤ i) = false := by simp; omega
    go_enter Try.func45, Try.ntmps45
    go_wp2
    go_ret
    exact ⟨rfl, rfl⟩
  · have e0 : decide ((0 : Int) ≤ i) = true := by simp; omega
    have e1 : decide (i < (0 : Int)) = false := by simp; omega
    go_enter Try.func45, Try.ntmps45
    go_wp2_with fail
    refine (q w).mono ?_
    rintro e w' ⟨rfl, rfl⟩
    go_wp2
    go_ret
    exact ⟨rfl, rfl⟩
end
end Go.Proofs.Ytdmllfjeofiddaa
