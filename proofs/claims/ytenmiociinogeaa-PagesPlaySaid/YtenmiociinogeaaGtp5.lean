/- Package pages: a value is got; keys that are none; no store. -/
import Derived.Test.YtenmiociinogeaaStp5
import Derived.Test.YtenmiociinogeaaRgt5
namespace Go.Proofs.Ytenmiociinogeaa
open Go.RowKit

section
variable {w : World} {S : Nat → Prop} {s : Nat} {P : List Pg}
theorem val_pos {q : Pg} (hr : Rise q) {k : Nat} (h : hasK q k = true) (hl : posP q k < q.length) : valP q k = some q[posP q k].2 := by
  have hk := pos_key hr h hl
  have h1 : q = q.take (posP q k) ++ q.drop (posP q k) := (List.take_append_drop _ _).symm
  have h2 := (pos_split hr k).1
  conv => lhs; rw [h1]
  rw [valP_app, valP_none (fun x hx => by have := h2 x hx; omega), Option.none_or, List.drop_eq_getElem_cons hl, valP, if_pos hk]
theorem val_no {q : Pg} {k : Nat} (h : hasK q k = false) : valP q k = none := valP_none (fun x hx e => by
  have : hasK q k = true := List.any_eq_true.2 ⟨x, hx, by simpa using e⟩
  rw [h] at this; cases this)

set_option maxHeartbeats 4000000 in
set_option maxRecDepth 100000 in
theorem pGet_any (k : Nat) (hk : k < 1000) (hi : InvP P) (h : PS w S s P) :
    Calls Try.prog 11 #[.pointer (some ⟨s, 0, none⟩), .int .i64 k] w fun e w' => e = .returned (.tuple #[.int .i64 (getA P k).1, .int .i64 (getA P k).2]) ∧ Fr No w w' := by
  have ht := pTakes_some ⟨s, 0, none⟩ k w
  rw [show decide (0 ≤ (k : Int) ∧ (k : Int) ≤ 999) = true by simp; omega] at ht
  obtain ⟨v0, hb, hS, hlt, hcase⟩ := h
  rcases hcase with ⟨rfl, A, c, rfl⟩ | ⟨hne, q, o, c, hs, rfl, hL⟩
  · have hfd := lfind_none A c k w
    have x0 : w.cell? ⟨s, 0, none⟩ = some (.slice A 0 c) := hb.cell 0
    have hg : getA [] k = (0, 5) := rfl
    rw [hg]
    clear hb hlt hS hg
    go_enter Try.func11, Try.ntmps11
    go_wp2_with fail
    refine ht.mono ?_
    rintro e w1 ⟨rfl, rfl⟩
    go_wp2_with fail
    refine hfd.mono ?_
    rintro e w2 ⟨rfl, hf2⟩
    clear x0 hfd ht
    go_wp2
    go_ret2
    exact ⟨rfl, hf2⟩
  · have hfd := lfind_any S q o c hs P hi hne k w hL
    have hat := atP_lt P k hne
    have hll := hL.len
    have hats : atP P k < hs.length := by omega
    have hgd : P.getD (atP P k) [] = P[atP P k] := by simp [List.getD, hat]
    have hrise : Rise P[atP P k] := by
      obtain ⟨X, Y, hXY⟩ := List.append_of_mem (List.getElem_mem hat)
      have hr := hi.rise
      rw [hXY, List.flatten_append, List.flatten_cons] at hr
      exact (Rise.app (Rise.app hr).2.1).1
    have hval := hi.val k
    rw [hgd] at hfd hval
    have x0 : w.cell? ⟨s, 0, none⟩ = some (.slice (some ⟨q, o, none⟩) hs.length c) := hb.cell 0
    cases hb0 : hasK P[atP P k] k with
    | true =>
      have hpl := pos_lt hrise hb0
      rw [val_pos hrise hb0 hpl] at hval
      have hg : getA P k = (P[atP P k][posP P[atP P k] k].2, 0) := by unfold getA; rw [hval]
      rw [hg]
      rw [hb0] at hfd
      have hp := hL.pg _ hats hat
      have hR : Hid (∀ W, Fr No w W → W.cell? ⟨s, 0, none⟩ = some (.slice (some ⟨q, o, none⟩) hs.length c) ∧ W.cell? ⟨q, o + atP P k, none⟩ = some hs[atP P k].val ∧
          W.cell? ⟨hs[atP P k].g, hs[atP P k].o + posP P[atP P k] k * 2 + 1, none⟩ = some (.int .i64 P[atP P k][posP P[atP P k] k].2)) := Lib.hid (fun W hW =>
        ⟨(hb.fr hW (fun e => e)).cell 0, (hL.since hW).hdr hats, ((hp.since hW).pair hpl).2⟩)
      have hle := hp.le
      have hln := hp.len
      have hps : posP P[atP P k] k < hs[atP P k].n := by rw [hln]; exact hpl
      clear hln hg hval
      generalize P[atP P k][posP P[atP P k] k].2 = v at *
      generalize posP P[atP P k] k = ps at *
      clear hp hrise hgd hpl hb0
      generalize hs[atP P k] = x at *
      generalize atP P k = a at *
      clear hL hll hat
      generalize hs.length = z at *
      obtain ⟨xg, xo, xn, xc⟩ := x
      simp only at hR hps hle
      clear hb hlt hS
      go_enter Try.func11, Try.ntmps11
      go_wp2_with fail
      refine ht.mono ?_
      rintro e w1 ⟨rfl, rfl⟩
      go_wp2_with fail
      refine hfd.mono ?_
      rintro e w2 ⟨rfl, hf2⟩
      obtain ⟨y0, y1, y2⟩ := hR.out _ hf2
      unfold Pgh.val at y1
      simp only at y1
      clear hR x0 hfd ht
      go_wp2
      go_ret2
      exact ⟨rfl, hf2⟩
    | false =>
      rw [val_no hb0] at hval
      have hg : getA P k = (0, 5) := by unfold getA; rw [hval]
      rw [hg]
      rw [hb0] at hfd
      generalize posP P[atP P k] k = ps at *
      generalize atP P k = a at *
      clear hL hll hat hrise hgd hb0 hval hg hats
      generalize hs.length = z at *
      clear hb hlt hS
      go_enter Try.func11, Try.ntmps11
      go_wp2_with fail
      refine ht.mono ?_
      rintro e w1 ⟨rfl, rfl⟩
      go_wp2_with fail
      refine hfd.mono ?_
      rintro e w2 ⟨rfl, hf2⟩
      clear x0 hfd ht
      go_wp2
      go_ret2
      exact ⟨rfl, hf2⟩

theorem takes_no (k : Int) (hk : k < 0 ∨ 999 < k) (p : Option Addr) (w : World) : Calls Try.prog 25 #[.pointer p, .int .i64 k] w fun e w' => e = .returned (.bool false) ∧ w' = w := by
  cases p with
  | none => exact pTakes_nil k w
  | some a =>
    have := pTakes_some a k w
    rwa [show decide (0 ≤ k ∧ k ≤ 999) = false by simp; omega] at this
theorem put_out (k v : Int) (p : Option Addr) (w : World) (ht : Calls Try.prog 25 #[.pointer p, .int .i64 k] w fun e w' => e = .returned (.bool false) ∧ w' = w) :
    Calls Try.prog 14 #[.pointer p, .int .i64 k, .int .i64 v] w fun e w' => e = .returned (.int .i64 3) ∧ Fr No w w' := by
  go_enter Try.func14, Try.ntmps14
  go_wp2_with fail
  refine ht.mono ?_
  rintro e w1 ⟨rfl, rfl⟩
  go_wp2
  go_ret
  exact ⟨rfl, Fr.refl _ _⟩
theorem get_out (k : Int) (p : Option Addr) (w : World) (ht : Calls Try.prog 25 #[.pointer p, .int .i64 k] w fun e w' => e = .returned (.bool false) ∧ w' = w) :
    Calls Try.prog 11 #[.pointer p, .int .i64 k] w fun e w' => e = .returned (.tuple #[.int .i64 0, .int .i64 3]) ∧ Fr No w w' := by
  go_enter Try.func11, Try.ntmps11
  go_wp2_with fail
  refine ht.mono ?_
  rintro e w1 ⟨rfl, rfl⟩
  go_wp2
  go_ret2
  exact ⟨rfl, Fr.refl _ _⟩
theorem del_out (k : Int) (p : Option Addr) (w : World) (ht : Calls Try.prog 25 #[.pointer p, .int .i64 k] w fun e w' => e = .returned (.bool false) ∧ w' = w) :
    Calls Try.prog 9 #[.pointer p, .int .i64 k] w fun e w' => e = .returned (.int .i64 3) ∧ Fr No w w' := by
  go_enter Try.func9, Try.ntmps9
  go_wp2_with fail
  refine ht.mono ?_
  rintro e w1 ⟨rfl, rfl⟩
  go_wp2
  go_ret
  exact ⟨rfl, Fr.refl _ _⟩
theorem pPut_no (k v : Int) (hk : k < 0 ∨ 999 < k) (p : Option Addr) (w : World) :
    Calls Try.prog 14 #[.pointer p, .int .i64 k, .int .i64 v] w fun e w' => e = .returned (.int .i64 3) ∧ Fr No w w' := put_out k v p w (takes_no k hk p w)
theorem pPut_nil (k v : Int) (w : World) : Calls Try.prog 14 #[.pointer none, .int .i64 k, .int .i64 v] w fun e w' => e = .returned (.int .i64 3) ∧ Fr No w w' := put_out k v none w (pTakes_nil k w)
theorem pGet_no (k : Int) (hk : k < 0 ∨ 999 < k) (p : Option Addr) (w : World) : Calls Try.prog 11 #[.pointer p, .int .i64 k] w fun e w' => e = .returned (.tuple #[.int .i64 0, .int .i64 3]) ∧ Fr No w w' := get_out k p w (takes_no k hk p w)
theorem pGet_nil (k : Int) (w : World) : Calls Try.prog 11 #[.pointer none, .int .i64 k] w fun e w' => e = .returned (.tuple #[.int .i64 0, .int .i64 3]) ∧ Fr No w w' := get_out k none w (pTakes_nil k w)
theorem pDel_no (k : Int) (hk : k < 0 ∨ 999 < k) (p : Option Addr) (w : World) : Calls Try.prog 9 #[.pointer p, .int .i64 k] w fun e w' => e = .returned (.int .i64 3) ∧ Fr No w w' := del_out k p w (takes_no k hk p w)
theorem pDel_nil (k : Int) (w : World) : Calls Try.prog 9 #[.pointer none, .int .i64 k] w fun e w' => e = .returned (.int .i64 3) ∧ Fr No w w' := del_out k none w (pTakes_nil k w)
end
end Go.Proofs.Ytenmiociinogeaa
