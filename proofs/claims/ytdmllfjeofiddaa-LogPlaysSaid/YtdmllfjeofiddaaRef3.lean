/- The document's own device. -/
import Derived.Test.YtdmllfjeofiddaaRows
import Derived.Test.YtdmllfjeofiddaaDev3
import Derived.Deep.RegionHeld3
namespace Go.Proofs.Ytdmllfjeofiddaa
open Go.RowKit

/-- The document's device lies at r, its rows in three blocks. -/
structure RD (w : World) (r gl gr gd : Nat) (D : Dv) : Prop where
  self : Bk w r 57 #[.slice (some ⟨gl, 0, none⟩) D.n D.n, .slice (some ⟨gr, 0, none⟩) D.n D.n, .slice (some ⟨gd, 0, none⟩) D.n D.n]
  la : Bk w gl 41 (secs D.n D.la)
  rd : Bk w gr 41 (secs D.n D.rd)
  di : Bk w gd 4 (flags D.n D.di)
  ne : gl ≠ gr
  ok : D.Ok
/-- The document's device's blocks. -/
def Rb (r gl gr gd : Nat) : Nat → Prop := fun k => k = r ∨ k = gl ∨ k = gr ∨ k = gd
theorem RD.apart {w : World} {r gl gr gd : Nat} {D : Dv} (h : RD w r gl gr gd D) : r ≠ gl ∧ r ≠ gr ∧ r ≠ gd ∧ gl ≠ gd ∧ gr ≠ gd :=
  ⟨h.self.apart h.la (by decide), h.self.apart h.rd (by decide), h.self.apart h.di (by decide), h.la.apart h.di (by decide), h.rd.apart h.di (by decide)⟩
theorem RD.fr {S : Nat → Prop} {w w' : World} {r gl gr gd : Nat} {D : Dv} (h : RD w r gl gr gd D) (hf : Fr S w w') (hs : ∀ k, Rb r gl gr gd k → ¬ S k) : RD w' r gl gr gd D :=
  ⟨h.self.fr hf (hs _ (.inl rfl)), h.la.fr hf (hs _ (.inr (.inl rfl))), h.rd.fr hf (hs _ (.inr (.inr (.inl rfl)))), h.di.fr hf (hs _ (.inr (.inr (.inr rfl)))), h.ne, h.ok⟩
theorem RD.len {w : World} {r gl gr gd : Nat} {D : Dv} (h : RD w r gl gr gd D) : (∀ i, i < D.n → (D.la i).length = 8) ∧ (∀ i, i < D.n → (D.rd i).length = 8) := ⟨fun i hi => (h.ok.la i hi).len, fun i hi => (h.ok.rd i hi).len⟩

/-- Only the row of what is read has changed at i, and the flag. -/
theorem RD.write {w : World} {r gl gr gd : Nat} {D : Dv} (h : RD w r gl gr gd D) {i : Nat} (hi : i < D.n) {s : List Nat} (hs : Sec s) :
    RD ((w.setCells gr (i * 8) (u64s s)).setCell ⟨gd, i, none⟩ (.bool true)) r gl gr gd (D.write i s) := by
  obtain ⟨a1, a2, a3, a4, a5⟩ := h.apart
  refine ⟨(h.self.setCells_other _ _ a2).setCell_other a3 _, (h.la.setCells_other _ _ h.ne).setCell_other a4 _, ?_, ?_, h.ne, h.ok.write i s hs⟩
  · have := (h.rd.putMany (u64s s) (i * 8)).setCell_other (i := i) a5 (.bool true)
    rw [secs_put _ _ h.len.2 i hi s hs.len] at this
    exact this
  · have := (h.di.setCells_other (u64s s) (i * 8) a5.symm).put i (.bool true)
    rw [flags_put] at this
    exact this
theorem RD.alloc {w : World} {r gl gr gd : Nat} {D : Dv} (h : RD w r gl gr gd D) (o : Obj) : RD (w.alloc o) r gl gr gd D := h.fr (S := No) ((Fr.refl _ w).alloc o) (fun _ _ e => e)
theorem RD.drew {w : World} {r gl gr gd : Nat} {D : Dv} (h : RD w r gl gr gd D) : RD w.drew r gl gr gd D := h.fr (S := No) (Fr.refl _ w).drew (fun _ _ e => e)
theorem sec_desc : Try.prog.underlying 41 = some (.array 8 40) := Try.underlying41
theorem sec_size : (Try.prog.info? 41).map (·.size) = some 8 := by kernel_rfl
theorem sec_one {s : List Nat} : (secA s).all (·.oneCell') = true := Array.all_eq_true_iff_forall_mem.2 (fun v hv => u64s_one s v (by simpa [secA] using hv))

set_option maxHeartbeats 1000000 in
theorem refWrite_any (r gl gr gd : Nat) (D : Dv) (i : Nat) (s : List Nat) (w : World) (h : RD w r gl gr gd D) (hi : i < D.n) (_hn : D.n ≤ 4096) (hs : Sec s) :
    Calls Try.prog 21 #[.pointer (some ⟨r, 0, none⟩), .int .i64 i, secV s] w fun e w' => e = .returned (.tuple #[]) ∧ RD w' r gl gr gd (D.write i s) ∧ Fr (Rb r gl gr gd) w w' := by
  have c0 := h.self.cell 0
  have c1 := h.self.cell 1
  have c2 := h.self.cell 2
  simp at c0 c1 c2
  obtain ⟨s0, s1, s2, s3, s4, s5, s6, s7, rfl⟩ := sec_lit hs
  simp only [secV, secA, u64s, List.map_cons, List.map_nil]
  have c1' : ∀ o, (w.alloc o).cell? ⟨r, 1, none⟩ = some (.slice (some ⟨gr, 0, none⟩) D.n D.n) := fun o => by rw [(h.self.alloc o).cell 1]; rfl
  obtain ⟨b0, b1, b2, b3, b4, b5, b6, b7, hb⟩ := sec_lit (h.ok.rd i hi)
  have hc := fun o => (h.rd.alloc o).sec8 h.len.2 hi hb
  have e0 := fun o => (hc o).1
  have e1 := fun o => (hc o).2.1
  have e2 := fun o => (hc o).2.2.1
  have e3 := fun o => (hc o).2.2.2.1
  have e4 := fun o => (hc o).2.2.2.2.1
  have e5 := fun o => (hc o).2.2.2.2.2.1
  have e6 := fun o => (hc o).2.2.2.2.2.2.1
  have e7 := fun o => (hc o).2.2.2.2.2.2.2
  have hfz := fun o k => (h.rd.alloc o).frozen k
  clear hb hc
  have c2' : ∀ o, (w.alloc o).cell? ⟨r, 2, none⟩ = some (.slice (some ⟨gd, 0, none⟩) D.n D.n) := fun o => by rw [(h.self.alloc o).cell 2]; rfl
  have d0 : ∀ o, (w.alloc o).cell? ⟨gd, i, none⟩ = some (.bool (D.di i)) := fun o => by rw [(h.di.alloc o).cell i, flags_at _ _ _ hi]
  have dz := fun o k => (h.di.alloc o).frozen k
  obtain ⟨a1, a2, a3, a4, a5⟩ := h.apart
  have a6 := h.ne
  have a2' := a2.symm
  have a5' := a5.symm
  have H := Lib.hid h
  have Hs := Lib.hid hs
  clear h hs c0 c1 c2
  go_enter Try.func21, Try.ntmps21
  go_wp2
  go_region
  all_goals
    go_wp2
    go_end0
    refine ⟨rfl, ((H.out.alloc (.cells (secA [s0, s1, s2, s3, s4, s5, s6, s7]) 41)).write hi Hs.out).drew, (((((Fr.refl _ w).alloc (.cells (secA [s0, s1, s2, s3, s4, s5, s6, s7]) 41)).setCells (g := gr) (u64s [s0, s1, s2, s3, s4, s5, s6, s7]) (i * 8) (.inl (.inr (.inr (.inl rfl))))).setCell (p := ⟨gd, i, none⟩) (.inl (.inr (.inr (.inr rfl)))) (.bool true))).drew⟩

theorem RD.setLa {w : World} {r gl gr gd : Nat} {D : Dv} (h : RD w r gl gr gd D) {i : Nat} (hi : i < D.n) {s : List Nat} (hs : Sec s) (hok : D.di i = false → D.rd i = s) :
    RD (w.setCells gl (i * 8) (u64s s)) r gl gr gd { D with la := upd D.la i s } := by
  obtain ⟨a1, a2, a3, a4, a5⟩ := h.apart
  refine ⟨h.self.setCells_other _ _ a1, ?_, h.rd.setCells_other _ _ h.ne.symm, h.di.setCells_other _ _ a4.symm, h.ne, ⟨fun k hk => ?_, h.ok.rd, fun k hk hd => ?_⟩⟩
  · have := h.la.putMany (u64s s) (i * 8)
    rw [secs_put _ _ h.len.1 i hi s hs.len] at this
    exact this
  · show Sec (upd D.la i s k)
    unfold upd
    split
    · exact hs
    · exact h.ok.la k hk
  · show D.rd k = upd D.la i s k
    unfold upd
    split
    · next e => subst e; exact hok hd
    · exact h.ok.same k hk hd
theorem RD.setRd {w : World} {r gl gr gd : Nat} {D : Dv} (h : RD w r gl gr gd D) {i : Nat} (hi : i < D.n) {s : List Nat} (hs : Sec s) (hok : D.di i = false → s = D.la i) :
    RD (w.setCells gr (i * 8) (u64s s)) r gl gr gd { D with rd := upd D.rd i s } := by
  obtain ⟨a1, a2, a3, a4, a5⟩ := h.apart
  refine ⟨h.self.setCells_other _ _ a2, h.la.setCells_other _ _ h.ne, ?_, h.di.setCells_other _ _ a5.symm, h.ne, ⟨h.ok.la, fun k hk => ?_, fun k hk hd => ?_⟩⟩
  · have := h.rd.putMany (u64s s) (i * 8)
    rw [secs_put _ _ h.len.2 i hi s hs.len] at this
    exact this
  · show Sec (upd D.rd i s k)
    unfold upd
    split
    · exact hs
    · exact h.ok.rd k hk
  · show upd D.rd i s k = D.la k
    unfold upd
    split
    · next e => subst e; exact hok hd
    · exact h.ok.same k hk hd
theorem RD.setDi {w : World} {r gl gr gd : Nat} {D : Dv} (h : RD w r gl gr gd D) {i : Nat} (b : Bool) (hok : b = false → D.rd i = D.la i) :
    RD (w.setCell ⟨gd, i, none⟩ (.bool b)) r gl gr gd { D with di := upd D.di i b } := by
  obtain ⟨a1, a2, a3, a4, a5⟩ := h.apart
  refine ⟨h.self.setCell_other a3 _, h.la.setCell_other a4 _, h.rd.setCell_other a5 _, ?_, h.ne, ⟨h.ok.la, h.ok.rd, fun k hk hd => ?_⟩⟩
  · have := h.di.put i (.bool b)
    rw [flags_put] at this
    exact this
  · have hd' : upd D.di i b k = false := hd
    unfold upd at hd'
    split at hd'
    · next e => subst e; exact hok hd'
    · exact h.ok.same k hk hd'
theorem RD.congr {w : World} {r gl gr gd : Nat} {D D' : Dv} (h : RD w r gl gr gd D) (hn : D'.n = D.n) (hl : ∀ i, i < D.n → D.la i = D'.la i) (hr : ∀ i, i < D.n → D.rd i = D'.rd i) (hd : ∀ i, i < D.n → D.di i = D'.di i) : RD w r gl gr gd D' := by
  obtain ⟨q1, q2, q3, q4, q5, q6⟩ := h
  rw [← hn] at q1 q2 q3 q4 hl hr hd
  refine ⟨q1, by rw [← secs_ext hl]; exact q2, by rw [← secs_ext hr]; exact q3, ?_, q5, ⟨fun i hi => by rw [← hl i hi]; exact q6.la i (by omega), fun i hi => by rw [← hr i hi]; exact q6.rd i (by omega), fun i hi he => by rw [← hl i hi, ← hr i hi]; exact q6.same i (by omega) (by rw [hd i hi]; exact he)⟩⟩
  have : flags D'.n D.di = flags D'.n D'.di := by
    unfold flags
    congr 1
    exact List.map_congr_left (fun i hi => by rw [hd i (by simpa using hi)])
  rw [← this]
  exact q4
theorem RD.lt {w : World} {r gl gr gd : Nat} {D : Dv} (h : RD w r gl gr gd D) : ∀ k, Rb r gl gr gd k → k < w.heap.size := by
  rintro k (rfl | rfl | rfl | rfl)
  · exact h.self.lt
  · exact h.la.lt
  · exact h.rd.lt
  · exact h.di.lt

/-- Synced as far as j. -/
def Dv.syncTo (D : Dv) (j : Nat) : Dv := { D with la := fun k => if k < j then D.rd k else D.la k, di := fun k => if k < j then false else D.di k }

set_option maxRecDepth 100000 in
set_option maxHeartbeats 1000000 in
theorem refSync_any (r gl gr gd : Nat) (D : Dv) (w : World) (h : RD w r gl gr gd D) (hn : D.n ≤ 4096) :
    Calls Try.prog 15 #[.pointer (some ⟨r, 0, none⟩)] w fun e w' => e = .returned (.tuple #[]) ∧ RD w' r gl gr gd D.sync ∧ Fr (Rb r gl gr gd) w w' := by
  obtain ⟨a1, a2, a3, a4, a5⟩ := h.apart
  have a6 := h.ne
  have b1 := a1.symm
  have b2 := a2.symm
  have b3 := a3.symm
  have b4 := a4.symm
  have b5 := a5.symm
  have b6 := a6.symm
  go_enter Try.func15, Try.ntmps15
  go_wp2
  go_loopw [2] (fun i wr => ∃ j : Nat, j ≤ D.n ∧ i = .int .i64 j ∧ RD wr r gl gr gd (D.syncTo j) ∧ Fr (Rb r gl gr gd) w wr) (fun i _ => D.n - (intOf i).toNat)
  case atStart => exact ⟨0, by omega, rfl, h.congr rfl (fun i _ => by simp [Dv.syncTo]) (fun i _ => rfl) (fun i _ => by simp [Dv.syncTo]), Fr.refl _ _⟩
  case round =>
    obtain ⟨j, hj, rfl, hR, hfr⟩ := hrel
    have c0 : wr.cell? ⟨r, 0, none⟩ = some (.slice (some ⟨gl, 0, none⟩) D.n D.n) := by rw [hR.self.cell 0]; rfl
    have c1 : wr.cell? ⟨r, 1, none⟩ = some (.slice (some ⟨gr, 0, none⟩) D.n D.n) := by rw [hR.self.cell 1]; rfl
    have c2 : wr.cell? ⟨r, 2, none⟩ = some (.slice (some ⟨gd, 0, none⟩) D.n D.n) := by rw [hR.self.cell 2]; rfl
    by_cases hlt : j < D.n
    · have hjn : j < (D.syncTo j).n := hlt
      obtain ⟨x0, x1, x2, x3, x4, x5, x6, x7, hx⟩ := sec_lit (hR.ok.rd j hjn)
      obtain ⟨y0, y1, y2, y3, y4, y5, y6, y7, hy⟩ := sec_lit (hR.ok.la j hjn)
      obtain ⟨p0, p1, p2, p3, p4, p5, p6, p7⟩ := hR.rd.sec8 hR.len.2 hjn hx
      obtain ⟨q0, q1, q2, q3, q4, q5, q6, q7⟩ := hR.la.sec8 hR.len.1 hjn hy
      have z1 := fun k => hR.la.frozen k
      have z2 := fun k => hR.di.frozen k
      have d0 := hR.di.cell j
      rw [flags_at _ _ _ hjn] at d0
      have HR := Lib.hid hR
      have Hx := Lib.hid hx
      clear hR hx hy
      generalize (D.syncTo j).di j = dj at *
      go_wp2
      have hsx : Sec [x0, x1, x2, x3, x4, x5, x6, x7] := by rw [← Hx.out]; exact HR.out.ok.rd j hjn
      have R1 := HR.out.setLa hjn hsx (fun _ => Hx.out)
      have R2 := R1.setDi (i := j) false (fun _ => by
        show (D.syncTo j).rd j = upd (D.syncTo j).la j [x0, x1, x2, x3, x4, x5, x6, x7] j
        rw [upd_same]
        exact Hx.out)
      have R3 : RD _ r gl gr gd (D.syncTo (j + 1)) := R2.congr rfl (fun k hk => by
        show upd (D.syncTo j).la j [x0, x1, x2, x3, x4, x5, x6, x7] k = (D.syncTo (j + 1)).la k
        rw [← Hx.out]
        unfold upd
        split
        · next e => subst e; simp [Dv.syncTo]
        · next e => simp only [Dv.syncTo]; by_cases hkj : k < j
                    · rw [if_pos hkj, if_pos (by omega)]
                    · rw [if_neg hkj, if_neg (by omega)]) (fun k hk => rfl) (fun k hk => by
        show upd (D.syncTo j).di j false k = (D.syncTo (j + 1)).di k
        unfold upd
        split
        · next e => subst e; simp [Dv.syncTo]
        · next e => simp only [Dv.syncTo]; by_cases hkj : k < j
                    · rw [if_pos hkj, if_pos (by omega)]
                    · rw [if_neg hkj, if_neg (by omega)])
      have HR3 := Lib.hid R3
      clear R1 R2 R3
      go_region
      all_goals
        go_wp2
        go_roundw
        case rel => exact ⟨j + 1, by omega, by go_num, HR3.out.drew, (((hfr.setCells (g := gl) (u64s [x0, x1, x2, x3, x4, x5, x6, x7]) (j * 8) (.inl (.inr (.inl rfl)))).setCell (p := ⟨gd, j, none⟩) (.inl (.inr (.inr (.inr rfl)))) (.bool false))).drew⟩
        case measure => simp [intOf]; omega
    · obtain rfl : j = D.n := by omega
      have HR3 : Hid (RD wr r gl gr gd D.sync) := Lib.hid (hR.congr rfl (fun k hk => by
        have hk' : k < D.n := hk
        simp [Dv.syncTo, Dv.sync, hk']) (fun k hk => rfl) (fun k hk => by
        have hk' : k < D.n := hk
        simp [Dv.syncTo, Dv.sync, hk']))
      clear hR
      go_wp2
      go_end0
      exact ⟨rfl, HR3.out, hfr⟩

/-- Flags, as cells of a row that came in. -/
def bools (xs : List Bool) : List Value := xs.map Value.bool
theorem bools_len (xs : List Bool) : (bools xs).length = xs.length := by simp [bools]
theorem bools_flat (xs : List Bool) : (xs.flatMap fun b : Bool => [Value.bool b]) = bools xs := by
  induction xs with
  | nil => rfl
  | cons x r ih => rw [List.flatMap_cons, ih]; rfl
theorem Sl.flag {w : World} {B : Nat} {A : Option Addr} {xs : List Bool} (h : Sl w B A (bools xs)) {k : Nat} (hk : k < xs.length) : ∃ ad, A = some ad ∧ ad.block < B ∧ w.cell? (ad.add k) = some (.bool xs[k]) := by
  obtain ⟨ad, e, hb, hc⟩ := h (by intro e; simp [bools] at e; subst e; simp at hk)
  exact ⟨ad, e, hb, hc k _ (by simp [bools, hk])⟩

theorem cnt_le (d : Nat → Bool) (i : Nat) : cnt d i ≤ i := by
  induction i with
  | zero => exact Nat.le_refl _
  | succ i ih => unfold cnt; cases d i <;> simp <;> omega
/-- A crash as far as j. -/
def Dv.crashTo (D : Dv) (keep : List Bool) (j : Nat) : Dv := { D with la := fun k => if k < j then D.after keep k else D.la k, rd := fun k => if k < j then D.after keep k else D.rd k, di := fun k => if k < j then false else D.di k }

theorem step_fun {α : Type} (A B : Nat → α) (j k : Nat) : upd (fun k => if k < j then A k else B k) j (A j) k = if k < j + 1 then A k else B k := by
  unfold upd
  by_cases h1 : k = j
  · subst h1; rw [if_pos rfl, if_pos (by omega)]
  · rw [if_neg h1]
    show (if k < j then A k else B k) = _
    by_cases h2 : k < j
    · rw [if_pos h2, if_pos (by omega)]
    · rw [if_neg h2, if_neg (by omega)]
theorem step_keep {α : Type} (A B : Nat → α) (j k : Nat) (h : B j = A j) : (if k < j then A k else B k) = if k < j + 1 then A k else B k := by
  by_cases h1 : k = j
  · subst h1; rw [if_neg (by omega), if_pos (by omega), h]
  · by_cases h2 : k < j
    · rw [if_pos h2, if_pos (by omega)]
    · rw [if_neg h2, if_neg (by omega)]

set_option maxRecDepth 100000 in
set_option maxHeartbeats 4000000 in
theorem refCrash_any (r gl gr gd : Nat) (D : Dv) (keep : List Bool) (A : Option Addr) (n c : Nat) (w : World) (h : RD w r gl gr gd D) (hn : D.n ≤ 4096) (hk : Sl w w.heap.size A (bools keep)) (hkn : keep.length = n) (hkl : n ≤ 1099511627776) (hap : ∀ ad, A = some ad → keep ≠ [] → ¬ Rb r gl gr gd ad.block) :
    Calls Try.prog 18 #[.pointer (some ⟨r, 0, none⟩), .slice A n c] w fun e w' => e = .returned (.tuple #[]) ∧ RD w' r gl gr gd (D.crash keep) ∧ Fr (Rb r gl gr gd) w w' := by
  obtain ⟨a1, a2, a3, a4, a5⟩ := h.apart
  have a6 := h.ne
  have b1 := a1.symm
  have b2 := a2.symm
  have b3 := a3.symm
  have b4 := a4.symm
  have b5 := a5.symm
  have b6 := a6.symm
  have Hkn := Lib.hid hkn
  clear hkn
  go_enter Try.func18, Try.ntmps18
  go_wp2
  go_loopw [4, 5] (fun k i wr => ∃ j q : Nat, j ≤ D.n ∧ i = .int .i64 j ∧ k = .int .i64 q ∧ q ≤ j ∧ Hid (q = cnt D.di j) ∧ RD wr r gl gr gd (D.crashTo keep j) ∧ Fr (Rb r gl gr gd) w wr) (fun _ i _ => D.n - (intOf i).toNat)
  case atStart => exact ⟨0, 0, by omega, rfl, rfl, by omega, Lib.hid rfl, h.congr rfl (fun i _ => by simp [Dv.crashTo]) (fun i _ => by simp [Dv.crashTo]) (fun i _ => by simp [Dv.crashTo]), Fr.refl _ _⟩
  case round =>
    obtain ⟨j, q, hj, rfl, rfl, hqj, hq, hR, hfr⟩ := hrel
    have c0 : wr.cell? ⟨r, 0, none⟩ = some (.slice (some ⟨gl, 0, none⟩) D.n D.n) := by rw [hR.self.cell 0]; rfl
    have c1 : wr.cell? ⟨r, 1, none⟩ = some (.slice (some ⟨gr, 0, none⟩) D.n D.n) := by rw [hR.self.cell 1]; rfl
    have c2 : wr.cell? ⟨r, 2, none⟩ = some (.slice (some ⟨gd, 0, none⟩) D.n D.n) := by rw [hR.self.cell 2]; rfl
    by_cases hlt : j < D.n
    · have hjn : j < (D.crashTo keep j).n := hlt
      have hdj : (D.crashTo keep j).di j = D.di j := by simp [Dv.crashTo]
      have d0 := hR.di.cell j
      rw [flags_at _ _ _ hjn, hdj] at d0
      have Hcnt : Hid (cnt D.di (j + 1) = q + (D.di j).toNat) := Lib.hid (by rw [hq.out]; rfl)
      have HR := Lib.hid hR
      clear hR
      cases hd : D.di j with
      | false =>
        rw [hd] at d0 Hcnt
        have HR3 : Hid (RD wr r gl gr gd (D.crashTo keep (j + 1))) := Lib.hid (HR.out.congr rfl (fun k hk => by
            simp only [Dv.crashTo]
            by_cases hkj : k < j
            · rw [if_pos hkj, if_pos (by omega)]
            · rw [if_neg hkj]
              by_cases hk2 : k < j + 1
              · obtain rfl : k = j := by omega
                rw [if_pos hk2]
                simp [Dv.after, kept, hd]
              · rw [if_neg hk2]) (fun k hk => by
            simp only [Dv.crashTo]
            by_cases hkj : k < j
            · rw [if_pos hkj, if_pos (by omega)]
            · rw [if_neg hkj]
              by_cases hk2 : k < j + 1
              · obtain rfl : k = j := by omega
                rw [if_pos hk2]
                simp only [Dv.after, kept, hd, Bool.false_and, Bool.false_eq_true, if_false]
                exact h.ok.same k hlt hd
              · rw [if_neg hk2]) (fun k hk => by
            simp only [Dv.crashTo]
            by_cases hkj : k < j
            · rw [if_pos hkj, if_pos (by omega)]
            · rw [if_neg hkj]
              by_cases hk2 : k < j + 1
              · obtain rfl : k = j := by omega
                rw [if_pos hk2, hd]
              · rw [if_neg hk2]))
        clear HR hd hdj
        go_wp2
        go_roundw
        case rel => exact ⟨j + 1, q, by omega, by go_num, rfl, by omega, Lib.hid (by rw [Hcnt.out]; rfl), HR3.out, hfr⟩
        case measure => simp [intOf]; omega
      | true =>
        rw [hd] at d0 Hcnt
        obtain ⟨x0, x1, x2, x3, x4, x5, x6, x7, hx⟩ := sec_lit (HR.out.ok.rd j hjn)
        obtain ⟨y0, y1, y2, y3, y4, y5, y6, y7, hy⟩ := sec_lit (HR.out.ok.la j hjn)
        obtain ⟨p0, p1, p2, p3, p4, p5, p6, p7⟩ := HR.out.rd.sec8 HR.out.len.2 hjn hx
        obtain ⟨q0, q1, q2, q3, q4, q5, q6, q7⟩ := HR.out.la.sec8 HR.out.len.1 hjn hy
        have z1 := fun k => HR.out.la.frozen k
        have z2 := fun k => HR.out.di.frozen k
        have z3 := fun k => HR.out.rd.frozen k
        have hrj : (D.crashTo keep j).rd j = D.rd j := by simp [Dv.crashTo]
        have hlj : (D.crashTo keep j).la j = D.la j := by simp [Dv.crashTo]
        have hsx : Sec [x0, x1, x2, x3, x4, x5, x6, x7] := by rw [← hx]; exact HR.out.ok.rd j hjn
        have hsy : Sec [y0, y1, y2, y3, y4, y5, y6, y7] := by rw [← hy]; exact HR.out.ok.la j hjn
        by_cases hkeep : keep.getD q false = true
        · have hqn : q < n := by
            rw [← Hkn.out]
            rcases Nat.lt_or_ge q keep.length with h1 | h1
            · exact h1
            · rw [List.getD_eq_getElem?_getD, List.getElem?_eq_none h1] at hkeep
              cases hkeep
          have hql : q < keep.length := by rw [Hkn.out]; exact hqn
          have hkq : keep[q] = true := by
            rw [List.getD_eq_getElem?_getD, List.getElem?_eq_getElem hql] at hkeep
            exact hkeep
          have hne : keep ≠ [] := by rintro rfl; simp at hql
          obtain ⟨ad, rfl, hadB, hc0⟩ := hk.flag hql
          have hcq := (hfr.cell (p := ad.add q) (by rw [block_add]; exact hadB) (by rw [block_add]; exact hap ad rfl hne)).trans hc0
          rw [hkq] at hcq
          have ha : D.after keep j = [x0, x1, x2, x3, x4, x5, x6, x7] := by
            rw [← hx, hrj]
            unfold Dv.after
            rw [if_pos (by unfold kept; rw [hd, ← hq.out, hkeep]; rfl)]
          have R1 := HR.out.setLa hjn hsx (fun _ => hx)
          have R2 := R1.setRd (i := j) hjn hsx (fun _ => (upd_same _ _ _).symm)
          have R3 := R2.setDi (i := j) false (fun _ => (upd_same _ _ _).trans (upd_same _ _ _).symm)
          have HR3 : Hid (RD _ r gl gr gd (D.crashTo keep (j + 1))) := Lib.hid (R3.congr rfl (fun k _ => by rw [← ha]; exact step_fun (D.after keep) D.la j k) (fun k _ => by rw [← ha]; exact step_fun (D.after keep) D.rd j k) (fun k _ => step_fun (fun _ => false) D.di j k))
          clear R1 R2 R3 ha hsy hrj hlj hdj hd hx hy hkeep hc0 hkq hap hk h HR
          go_wp2
          go_region
          all_goals
            go_wp2
            go_region
          all_goals
            go_wp2
            go_roundw
            case rel => exact ⟨j + 1, q + 1, by omega, by go_num, by go_num, by omega, Lib.hid (by rw [Hcnt.out]; rfl), HR3.out.drew.drew, ((((hfr.setCells (g := gl) (u64s [x0, x1, x2, x3, x4, x5, x6, x7]) (j * 8) (.inl (.inr (.inl rfl)))).setCells (g := gr) (u64s [x0, x1, x2, x3, x4, x5, x6, x7]) (j * 8) (.inl (.inr (.inr (.inl rfl))))).setCell (p := ⟨gd, j, none⟩) (.inl (.inr (.inr (.inr rfl)))) (.bool false))).drew.drew⟩
            case measure => simp [intOf]; omega
        · have hkf : keep.getD q false = false := by simpa using hkeep
          have ha : D.after keep j = [y0, y1, y2, y3, y4, y5, y6, y7] := by
            rw [← hy, hlj]
            unfold Dv.after
            rw [if_neg (by unfold kept; rw [hd, ← hq.out, hkf]; simp)]
          have R2 := HR.out.setRd (i := j) hjn hsy (fun _ => hy.symm)
          have R3 := R2.setDi (i := j) false (fun _ => (upd_same _ _ _).trans hy.symm)
          have HR3 : Hid (RD _ r gl gr gd (D.crashTo keep (j + 1))) := Lib.hid (R3.congr rfl (fun k _ => step_keep (D.after keep) D.la j k (by rw [ha, ← hy, hlj])) (fun k _ => by rw [← ha]; exact step_fun (D.after keep) D.rd j k) (fun k _ => step_fun (fun _ => false) D.di j k))
          clear R2 R3 ha hsx hrj hlj hdj hd hx hy hkeep h HR
          by_cases hqn : q < n
          · have hql : q < keep.length := by rw [Hkn.out]; exact hqn
            have hkq : keep[q] = false := by
              rw [List.getD_eq_getElem?_getD, List.getElem?_eq_getElem hql] at hkf
              exact hkf
            have hne : keep ≠ [] := by rintro rfl; simp at hql
            obtain ⟨ad, rfl, hadB, hc0⟩ := hk.flag hql
            have hcq := (hfr.cell (p := ad.add q) (by rw [block_add]; exact hadB) (by rw [block_add]; exact hap ad rfl hne)).trans hc0
            rw [hkq] at hcq
            clear hkf hc0 hkq hap hk
            go_wp2
            go_region
            all_goals
              go_wp2
              go_roundw
              case rel => exact ⟨j + 1, q + 1, by omega, by go_num, by go_num, by omega, Lib.hid (by rw [Hcnt.out]; rfl), HR3.out.drew, (((hfr.setCells (g := gr) (u64s [y0, y1, y2, y3, y4, y5, y6, y7]) (j * 8) (.inl (.inr (.inr (.inl rfl))))).setCell (p := ⟨gd, j, none⟩) (.inl (.inr (.inr (.inr rfl)))) (.bool false))).drew⟩
              case measure => simp [intOf]; omega
          · have hdq : decide ((q : Int) < (n : Int)) = false := by simp; omega
            clear hkf hap hk
            go_wp2
            go_region
            all_goals
              go_wp2
              go_roundw
              case rel => exact ⟨j + 1, q + 1, by omega, by go_num, by go_num, by omega, Lib.hid (by rw [Hcnt.out]; rfl), HR3.out.drew, (((hfr.setCells (g := gr) (u64s [y0, y1, y2, y3, y4, y5, y6, y7]) (j * 8) (.inl (.inr (.inr (.inl rfl))))).setCell (p := ⟨gd, j, none⟩) (.inl (.inr (.inr (.inr rfl)))) (.bool false))).drew⟩
              case measure => simp [intOf]; omega
    · obtain rfl : j = D.n := by omega
      have HR3 : Hid (RD wr r gl gr gd (D.crash keep)) := Lib.hid (hR.congr rfl (fun k hk => by
        have hk' : k < D.n := hk
        simp [Dv.crashTo, Dv.crash, hk']) (fun k hk => by
        have hk' : k < D.n := hk
        simp [Dv.crashTo, Dv.crash, hk']) (fun k hk => by
        have hk' : k < D.n := hk
        simp [Dv.crashTo, Dv.crash, hk']))
      clear hR
      go_wp2
      go_end0
      exact ⟨rfl, HR3.out, hfr⟩

/-- Is a sector there? -/
def there (n : Nat) (i : Int) : Bool := decide (0 ≤ i ∧ i < n)
set_option maxHeartbeats 400000 in
theorem refThere_any (r gl gr gd : Nat) (D : Dv) (i : Int) (hi1 : -9223372036854775808 ≤ i) (hi2 : i < 9223372036854775808) (w : World) (h : RD w r gl gr gd D) :
    Calls Try.prog 20 #[.pointer (some ⟨r, 0, none⟩), .int .i64 i] w fun e w' => e = .returned (.bool (there D.n i)) ∧ w = w' := by
  have c1 : w.cell? ⟨r, 1, none⟩ = some (.slice (some ⟨gr, 0, none⟩) D.n D.n) := by rw [h.self.cell 1]; rfl
  clear h
  by_cases h0 : 0 ≤ i
  · by_cases h1 : i < D.n
    · have Hd : Hid (there D.n i = true) := Lib.hid (by simp [there, h0, h1])
      go_enter Try.func20, Try.ntmps20
      go_wp2
      go_ret
      exact ⟨by rw [Hd.out]; rfl, rfl⟩
    · have Hd : Hid (there D.n i = false) := Lib.hid (by simp [there]; omega)
      go_enter Try.func20, Try.ntmps20
      go_wp2
      go_ret
      exact ⟨by rw [Hd.out]; rfl, rfl⟩
  · have Hd : Hid (there D.n i = false) := Lib.hid (by simp [there]; omega)
    go_enter Try.func20, Try.ntmps20
    go_wp2
    go_ret
    exact ⟨by rw [Hd.out]; rfl, rfl⟩

theorem info_sec : (Try.prog.info? 41).map (fun i => (i.zero, i.size, i.bytes)) = some (some (secV zSec), 8, 64) := by kernel_rfl
theorem info_bool : (Try.prog.info? 4).map (fun i => (i.zero, i.size, i.bytes)) = some (some (.bool false), 1, 1) := by kernel_rfl
theorem heap_al (w : World) (o : Obj) : (w.alloc o).heap = w.heap.push o := rfl
theorem heap_dr (w : World) : w.drew.heap = w.heap := rfl
theorem new_at {w' : World} (n : Nat) (_w : World) (r gl gr gd : Nat) (h1 : w'.heap[r]? = some (.cells #[.slice (some ⟨gl, 0, none⟩) n n, .slice (some ⟨gr, 0, none⟩) n n, .slice (some ⟨gd, 0, none⟩) n n] 57))
    (h2 : w'.heap[gl]? = some (.cells (secs n fun _ => zSec) 41)) (h3 : w'.heap[gr]? = some (.cells (secs n fun _ => zSec) 41)) (h4 : w'.heap[gd]? = some (.cells (flags n fun _ => false) 4)) (hne : gl ≠ gr) : RD w' r gl gr gd (Dv.new n) :=
  ⟨h1, h2, h3, h4, hne, Dv.new_ok n⟩
theorem new_blocks {B r gl gr gd : Nat} (h1 : B ≤ r) (h2 : B ≤ gl) (h3 : B ≤ gr) (h4 : B ≤ gd) : ∀ k, Rb r gl gr gd k → B ≤ k := by
  rintro k (rfl | rfl | rfl | rfl) <;> assumption
set_option maxHeartbeats 1000000 in
theorem refNew3_any (n : Nat) (hn : n ≤ 4096) (w : World) :
    Calls Try.prog 9 #[.int .i64 n] w fun e w' => ∃ r gl gr gd, e = .returned (.pointer (some ⟨r, 0, none⟩)) ∧ RD w' r gl gr gd (Dv.new n) ∧ (∀ k, Rb r gl gr gd k → w.heap.size ≤ k) ∧ Fr No w w' := by
  have m1 := fun W => run_make_secs (P := Try.prog) 55 41 64 Try.underlying55 info_sec n (by omega) (by omega) W
  have m2 := fun W => run_make_flags (P := Try.prog) 39 4 Try.underlying39 info_bool n (by omega) W
  go_enter Try.func9, Try.ntmps9
  go_wp2
  go_region
  all_goals
    go_wp2
    go_ret
    first
      | (refine ⟨_, w.heap.size, (w.heap.size + 1), (w.heap.size + 1 + 1), rfl, new_at n w _ _ _ _ ?_ ?_ ?_ ?_ (by omega), new_blocks (by omega) (by omega) (by omega) (by omega), (((((Fr.refl No w).alloc _).alloc _).alloc _).alloc _).drew⟩ <;> (simp only [heap_al, heap_dr, Array.getElem?_push, Array.size_push, if_true]; (repeat (first | rw [if_neg (by omega)] | rw [if_pos trivial])); done))
      | (refine ⟨_, w.heap.size, (w.heap.size + 1 + 1), (w.heap.size + 1), rfl, new_at n w _ _ _ _ ?_ ?_ ?_ ?_ (by omega), new_blocks (by omega) (by omega) (by omega) (by omega), (((((Fr.refl No w).alloc _).alloc _).alloc _).alloc _).drew⟩ <;> (simp only [heap_al, heap_dr, Array.getElem?_push, Array.size_push, if_true]; (repeat (first | rw [if_neg (by omega)] | rw [if_pos trivial])); done))
      | (refine ⟨_, (w.heap.size + 1), w.heap.size, (w.heap.size + 1 + 1), rfl, new_at n w _ _ _ _ ?_ ?_ ?_ ?_ (by omega), new_blocks (by omega) (by omega) (by omega) (by omega), (((((Fr.refl No w).alloc _).alloc _).alloc _).alloc _).drew⟩ <;> (simp only [heap_al, heap_dr, Array.getElem?_push, Array.size_push, if_true]; (repeat (first | rw [if_neg (by omega)] | rw [if_pos trivial])); done))
      | (refine ⟨_, (w.heap.size + 1), (w.heap.size + 1 + 1), w.heap.size, rfl, new_at n w _ _ _ _ ?_ ?_ ?_ ?_ (by omega), new_blocks (by omega) (by omega) (by omega) (by omega), (((((Fr.refl No w).alloc _).alloc _).alloc _).alloc _).drew⟩ <;> (simp only [heap_al, heap_dr, Array.getElem?_push, Array.size_push, if_true]; (repeat (first | rw [if_neg (by omega)] | rw [if_pos trivial])); done))
      | (refine ⟨_, (w.heap.size + 1 + 1), w.heap.size, (w.heap.size + 1), rfl, new_at n w _ _ _ _ ?_ ?_ ?_ ?_ (by omega), new_blocks (by omega) (by omega) (by omega) (by omega), (((((Fr.refl No w).alloc _).alloc _).alloc _).alloc _).drew⟩ <;> (simp only [heap_al, heap_dr, Array.getElem?_push, Array.size_push, if_true]; (repeat (first | rw [if_neg (by omega)] | rw [if_pos trivial])); done))
      | (refine ⟨_, (w.heap.size + 1 + 1), (w.heap.size + 1), w.heap.size, rfl, new_at n w _ _ _ _ ?_ ?_ ?_ ?_ (by omega), new_blocks (by omega) (by omega) (by omega) (by omega), (((((Fr.refl No w).alloc _).alloc _).alloc _).alloc _).drew⟩ <;> (simp only [heap_al, heap_dr, Array.getElem?_push, Array.size_push, if_true]; (repeat (first | rw [if_neg (by omega)] | rw [if_pos trivial])); done))
end Go.Proofs.Ytdmllfjeofiddaa
