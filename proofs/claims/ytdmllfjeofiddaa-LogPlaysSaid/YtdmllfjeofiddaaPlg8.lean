/- Package log: a log as it lies there; what it tells of itself; its frames. -/
import Derived.Test.YtdmllfjeofiddaaRop8
import Derived.Test.YtdmllfjeofiddaaLog8
import Derived.Test.YtdmllfjeofiddaaDsk3
import Derived.Test.YtdmllfjeofiddaaAll6
import Derived.Test.YtdmllfjeofiddaaHand
import Derived.Deep.RegionWith
namespace Go.Proofs.Ytdmllfjeofiddaa
open Go.RowKit Go.Shelf

/-- A log's object lies at l: its device, its part, its epoch, its words, its count of frames. -/
structure LB (w : World) (l d q n : Nat) (ep : Int) (A : Option Addr) (m c : Nat) (ws : List Nat) (k : Nat) : Prop where
  obj : Bk w l 76 #[.pointer (some ⟨d, 0, none⟩), .int .i64 q, .int .i64 n, .int .i64 ep, .slice A m c, .int .i64 k]
  own : w.ownsRow 0 40 1 (.slice A m c) m (u64s ws)
theorem LB.len {w : World} {l d q n m c k : Nat} {ep : Int} {A : Option Addr} {ws : List Nat} (h : LB w l d q n ep A m c ws k) : ws.length = m := by simpa [u64s] using h.own.1
theorem LB.cap {w : World} {l d q n m c k : Nat} {ep : Int} {A : Option Addr} {ws : List Nat} (h : LB w l d q n ep A m c ws k) : m ≤ c ∧ c ≤ maxLen := by
  obtain ⟨A', c', e, h1, h2, -⟩ := own_shape h.own
  injection e with _ _ e
  omega
theorem LB.cells {w : World} {l d q n m c k : Nat} {ep : Int} {A : Option Addr} {ws : List Nat} (h : LB w l d q n ep A m c ws k) : w.cell? ⟨l, 0, none⟩ = some (.pointer (some ⟨d, 0, none⟩)) ∧ w.cell? ⟨l, 1, none⟩ = some (.int .i64 q) ∧ w.cell? ⟨l, 2, none⟩ = some (.int .i64 n) ∧ w.cell? ⟨l, 3, none⟩ = some (.int .i64 ep) ∧ w.cell? ⟨l, 4, none⟩ = some (.slice A m c) ∧ w.cell? ⟨l, 5, none⟩ = some (.int .i64 k) :=
  ⟨h.obj.cell 0, h.obj.cell 1, h.obj.cell 2, h.obj.cell 3, h.obj.cell 4, h.obj.cell 5⟩
/-- The blocks of a log. -/
def LT (l : Nat) (A : Option Addr) (m c : Nat) : Nat → Prop := fun k => k = l ∨ (Value.slice A m c).ownBlock = some k
theorem LB.fr {S : Nat → Prop} {w w' : World} {l d q n m c k : Nat} {ep : Int} {A : Option Addr} {ws : List Nat} (h : LB w l d q n ep A m c ws k) (hf : Fr S w w') (hs : ∀ j, LT l A m c j → ¬ S j) : LB w' l d q n ep A m c ws k :=
  ⟨h.obj.fr hf (hs _ (.inl rfl)), own_fr h.own hf (fun j e => hs j (.inr e))⟩
theorem LB.lt {w : World} {l d q n m c k : Nat} {ep : Int} {A : Option Addr} {ws : List Nat} (h : LB w l d q n ep A m c ws k) : ∀ j, LT l A m c j → j < w.heap.size := by
  rintro j (rfl | e)
  · exact h.obj.lt
  · exact own_lt h.own e
/-- A log lies at l, on the device d; T are its own blocks. -/
structure LO (w : World) (T : Nat → Prop) (l d : Nat) (M : Lg) : Prop where
  lies : ∃ A c, LB w l d M.q M.n M.ep A M.used c (streamF M.ep 0 M.L) M.L.length ∧ ∀ k, T k ↔ LT l A M.used c k
  num : numOk M.ep = true
  ok : ∀ f ∈ M.L, frmOk f = true
  short : M.used ≤ 32768
  lt64 : ∀ u ∈ streamF M.ep 0 M.L, u < 18446744073709551616
section
variable {S T S' : Nat → Prop} {w w' : World} {l d a b : Nat} {D : Dv} {M : Lg}
theorem LO.lt (h : LO w T l d M) : ∀ k, T k → k < w.heap.size := by
  obtain ⟨A, c, h1, h2⟩ := h.lies
  exact fun k hk => h1.lt k ((h2 k).1 hk)
theorem LO.fr (h : LO w T l d M) (hf : Fr S w w') (hs : ∀ k, T k → ¬ S k) : LO w' T l d M := by
  obtain ⟨A, c, h1, h2⟩ := h.lies
  exact ⟨⟨A, c, h1.fr hf (fun k hk => hs k ((h2 k).2 hk)), h2⟩, h.num, h.ok, h.short, h.lt64⟩
end
set_option maxHeartbeats 1000000 in
theorem lCost_any (x : FrV) (w : World) : Calls Try.prog 23 #[x.agg] w fun e w' => e = .returned (.int .i64 (if frmOk x.f = true then x.ws.length + 1 else 0 : Nat)) ∧ Fr No w w' := by
  have HM := Lib.hid (fun W => may_any x W)
  have hlen : frmOk x.f = true → x.ws.length ≤ 2000 := fun h => by have := (frmOk_iff _).1 h; have e : x.f.words = x.ws := rfl; rw [e] at this; omega
  obtain ⟨kind, A, ws, c⟩ := x
  unfold FrV.agg at *
  dsimp only at *
  have bz := Bk.made w 38 #[.int .i64 kind, .slice A ws.length c]
  have f0 : Fr No w (w.alloc (.cells #[.int .i64 kind, .slice A ws.length c] 38)) := (Fr.refl _ _).alloc _
  cases hok : frmOk (FrV.f ⟨kind, A, ws, c⟩) with
  | false =>
    rw [hok] at HM
    clear hlen
    go_enter Try.func23, Try.ntmps23
    go_wp2_with fail
    refine (HM.out _).mono ?_
    rintro e w1 ⟨rfl, f1⟩
    have f2 := f0.trans' f1 (fun _ _ e => e)
    go_wp2
    go_ret
    exact ⟨rfl, f2⟩
  | true =>
    rw [hok] at HM
    have hl := hlen hok
    generalize ws.length = n at *
    clear hlen
    go_enter Try.func23, Try.ntmps23
    go_wp2_with fail
    refine (HM.out _).mono ?_
    rintro e w1 ⟨rfl, f1⟩
    have f2 := f0.trans' f1 (fun _ _ e => e)
    have b1 := bz.fr f1 (fun e => e)
    have c0 : w1.cell? ⟨w.heap.size, 0, none⟩ = some (.int .i64 kind) := b1.cell 0
    have c1 : w1.cell? ⟨w.heap.size, 1, none⟩ = some (.slice A n c) := b1.cell 1
    go_wp2
    go_ret
    exact ⟨by simp; omega, f2⟩
set_option maxHeartbeats 1000000 in
theorem lIsEpoch_any (n : Int) (h1 : -9223372036854775808 ≤ n) (h2 : n < 9223372036854775808) (w : World) : Calls Try.prog 35 #[.int .i64 n] w fun e w' => e = .returned (.bool (numOk n)) ∧ w = w' := by
  by_cases h : 0 ≤ n
  · obtain ⟨N, rfl⟩ := Int.eq_ofNat_of_zero_le h
    have hd : numOk (N : Int) = decide ((N : Int) ≤ 4294967295) := by unfold numOk; rw [decide_eq_decide]; omega
    rw [hd]
    have hmod : (N : Int) % 18446744073709551616 = (N : Int) := by omega
    go_enter Try.func35, Try.ntmps35
    go_wp2
    go_ret
    exact ⟨by simp, rfl⟩
  · have hd : numOk n = false := by unfold numOk; simp; omega
    rw [hd]
    go_enter Try.func35, Try.ntmps35
    go_wp2
    go_ret
    exact ⟨rfl, rfl⟩
set_option maxHeartbeats 1000000 in
theorem lHas_any {S : Nat → Prop} {d a b : Nat} {D : Dv} (q n : Int) (hq : -9223372036854775808 ≤ q ∧ q < 9223372036854775808) (hn : -9223372036854775808 ≤ n ∧ n < 9223372036854775808) (w : World) (h : DD w S d D a b) :
    Calls Try.prog 34 #[.pointer (some ⟨d, 0, none⟩), .int .i64 q, .int .i64 n] w fun e w' => e = .returned (.bool (therB D.n q n)) ∧ Fr No w w' := by
  have HL := Lib.hid (fun W (hW : Fr No w W) => dLen_any W (h.fr hW (fun _ _ e => e)))
  have hD : D.n ≤ 4096 := by obtain ⟨_, _, _, L, m, c, -, hk⟩ := h; exact hk.n
  clear h
  obtain ⟨bk, Hbk⟩ : ∃ bk, Hid (bk = therB D.n q n) := ⟨_, Lib.hid rfl⟩
  have Hiff : Hid (bk = true ↔ 0 ≤ q ∧ 1 ≤ n ∧ q ≤ D.n ∧ n ≤ D.n - q) := Lib.hid (by rw [Hbk.out]; simp [therB])
  rw [← Hbk.out]
  clear Hbk
  generalize D.n = m at *
  by_cases h1 : 0 ≤ q
  · by_cases h2 : 1 ≤ n
    · go_enter Try.func34, Try.ntmps34
      go_wp2_with fail
      refine (HL.out _ (Fr.refl _ _)).mono ?_
      rintro e w1 ⟨rfl, f1⟩
      go_wp2
      go_ret
      refine ⟨val_bool ?_, f1⟩
      rw [Hiff.out]
      simp
      omega
    · go_enter Try.func34, Try.ntmps34
      go_wp2
      go_ret
      refine ⟨val_bool ?_, Fr.refl _ _⟩
      rw [Hiff.out]
      simp
      omega
  · go_enter Try.func34, Try.ntmps34
    go_wp2
    go_ret
    refine ⟨val_bool ?_, Fr.refl _ _⟩
    rw [Hiff.out]
    simp
    omega
section
variable {S T : Nat → Prop} {l d a b : Nat} {D : Dv} {M : Lg}
set_option maxHeartbeats 1000000 in
theorem lWords_any (w : World) (hl : LO w T l d M) (_hu : M.used ≤ 8 * M.n) (_hn : M.n ≤ 4096) : Calls Try.prog 33 #[.pointer (some ⟨l, 0, none⟩)] w fun e w' => e = .returned (.int .i64 M.used) ∧ Fr No w w' := by
  obtain ⟨A, c, hb, -⟩ := hl.lies
  obtain ⟨c0, c1, c2, c3, c4, c5⟩ := hb.cells
  clear hl hb
  go_enter Try.func33, Try.ntmps33
  go_wp2
  go_ret
  exact ⟨rfl, Fr.refl _ _⟩
set_option maxHeartbeats 1000000 in
theorem lRoom_any (w : World) (hl : LO w T l d M) (hu : M.used ≤ 8 * M.n) (hn : M.n ≤ 4096) : Calls Try.prog 32 #[.pointer (some ⟨l, 0, none⟩)] w fun e w' => e = .returned (.int .i64 (8 * M.n - M.used : Nat)) ∧ Fr No w w' := by
  obtain ⟨A, c, hb, -⟩ := hl.lies
  obtain ⟨c0, c1, c2, c3, c4, c5⟩ := hb.cells
  clear hl hb
  generalize M.used = u at *
  generalize M.n = n at *
  go_enter Try.func32, Try.ntmps32
  go_wp2
  go_quiet (fail)
  go_wp2
  go_ret
  refine ⟨?_, by first | assumption | exact (Fr.refl _ _).drewN _ | exact Fr.refl _ _⟩
  have e : ((8 * n - u : Nat) : Int) = (n : Int) * 8 - (u : Int) := by omega
  rw [e]
  rfl
set_option maxHeartbeats 1000000 in
theorem lEpoch_any (w : World) (hl : LO w T l d M) : Calls Try.prog 51 #[.pointer (some ⟨l, 0, none⟩)] w fun e w' => e = .returned (.int .i64 M.ep) ∧ Fr No w w' := by
  obtain ⟨A, c, hb, -⟩ := hl.lies
  obtain ⟨c0, c1, c2, c3, c4, c5⟩ := hb.cells
  clear hl hb
  go_enter Try.func51, Try.ntmps51
  go_wp2
  go_ret
  exact ⟨rfl, Fr.refl _ _⟩
set_option maxHeartbeats 1000000 in
theorem lSync_any (w : World) (h : DD w S d D a b) (hl : LO w T l d M) (_hd : ∀ k, T k → ¬ S k) : Calls Try.prog 14 #[.pointer (some ⟨l, 0, none⟩)] w fun e w' => e = .returned (.tuple #[]) ∧ ∃ (S' : Nat → Prop) (a b : Nat), DD w' S' d D.sync a b ∧ Step S S' w w' := by
  obtain ⟨A, c, hb, -⟩ := hl.lies
  obtain ⟨c0, c1, c2, c3, c4, c5⟩ := hb.cells
  have HS := Lib.hid (dSync_any w h)
  clear hl hb h
  go_enter Try.func14, Try.ntmps14
  go_wp2_with fail
  refine HS.out.mono ?_
  rintro e w1 ⟨rfl, S', h1, h2⟩
  go_wp2
  first | go_end0 | refine bodyPost_ret (results_none rfl _ _ _) rfl ?_
  exact ⟨rfl, S', _, _, h1, h2⟩
/-- What Frames answers: a list of its own. -/
def LFrames (M : Lg) (w : World) (e : Ending) (w' : World) : Prop :=
  ∃ (A : Option Addr) (c : Nat) (xs : List FrV), e = .returned (.slice A xs.length c) ∧ xs.map FrV.f = M.L ∧ Frs w' A xs ∧ xs.length ≤ c ∧ c ≤ maxLen ∧ Fr No w w' ∧ (∀ k, FB A xs k → w.heap.size ≤ k)
theorem AllN.frames {w w' : World} {xs : List FrV} {A : Option Addr} {c : Nat} (h : FrsO w w' A c xs) (hn : NewX w.heap.size xs) : ∀ k, FB A xs k → w.heap.size ≤ k := by
  rintro k (⟨ad, e, hne, rfl⟩ | ⟨x, hx, ad, e, hne, rfl⟩)
  · refine (h.own.lt ad.block ?_).1
    obtain ⟨A3, c3, hv3, -, -, -⟩ := own_shape h.own
    obtain ⟨g, c4, hv4, -⟩ := h.own.form (by cases xs with | nil => exact absurd rfl hne | cons x r => simp)
    injection hv4 with e4
    rw [e] at e4
    injection e4 with e4
    subst e
    rw [e4]
    rfl
  · exact hn x hx ad e hne
set_option maxRecDepth 100000 in
set_option maxHeartbeats 2000000 in
theorem lFrames_any (w : World) (hl : LO w T l d M) : Calls Try.prog 29 #[.pointer (some ⟨l, 0, none⟩)] w (LFrames M w) := by
  obtain ⟨A, c, hb, -⟩ := hl.lies
  obtain ⟨c0, c1, c2, c3, c4, c5⟩ := hb.cells
  have hc := hb.cap
  have hlen := hl.short
  have hnum := (numOk_iff _).1 hl.num
  have HA : Hid (∀ W, Fr No w W → Calls Try.prog 37 #[.int .i64 M.ep, .slice A M.used c] W (AllN M.ep (streamF M.ep 0 M.L) W)) := Lib.hid (fun W hW =>
    allN_any M.ep (by omega) _ hl.lt64 M.used A c W ((Sl.ofOwn hb.own).since hW) hb.len hc.1 hc.2 (by omega))
  have HT : Hid (∀ (xs : List FrV) k, Told M.ep (streamF M.ep 0 M.L) (xs.map FrV.f) k → xs.map FrV.f = M.L) := Lib.hid (fun xs k h => by
    have h2 := streamF_told M.ep M.L [] hl.num hl.ok (by have := streamF_len M.ep 0 M.L; have := hl.short; unfold Lg.used at this; omega) rfl
    rw [List.append_nil] at h2
    exact (Told.uniq h h2).1)
  clear hb hc hlen hnum
  go_enter Try.func29, Try.ntmps29
  go_wp2
  first
    | go_region_with (go_at_call 37; refine (HA.out _ (by first | exact Fr.refl _ _ | exact (Fr.refl _ _).drew)).mono ?_; rintro e w1 ⟨xs, A1, k1, j1, rfl, t1, f1, n1⟩)
    | fail
  all_goals
    first | go_wp2 | skip
    go_ret
    exact ⟨A1, k1, xs, rfl, HT.out _ _ t1, f1.frs, f1.cap.1, f1.cap.2, (by first | exact f1.fr | exact ((Fr.refl No _).drew).trans' f1.fr (fun _ _ e => e)), AllN.frames (w := w.drew) f1 n1⟩
end
end Go.Proofs.Ytdmllfjeofiddaa
