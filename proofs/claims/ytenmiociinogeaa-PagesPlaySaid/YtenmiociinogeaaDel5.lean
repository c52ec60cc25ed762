/- Package pages: a key is taken out of a store. -/
import Derived.Test.YtenmiociinogeaaWiu5
import Derived.Test.YtenmiociinogeaaRdl5
namespace Go.Proofs.Ytenmiociinogeaa
open Go.RowKit

/-- What Delete answers. -/
def delA (P : List Pg) (k : Nat) : Int := if (valP P.flatten k).isSome = true then 0 else 5
def delQ (P : List Pg) (k : Nat) : List Pg := if (valP P.flatten k).isSome = true then delP P k else P
section
variable {w w' : World} {S : Nat → Prop} {s : Nat} {P : List Pg}
/-- What a call has left of a store's list is stored, also where nothing is left. -/
theorem PS.closed0 {W W' : World} {v0 : Value} {q o c : Nat} {hs : List Pgh} {P' : List Pg} (hb : Bk w s 28 #[v0]) (hS : S s) (hlt : ∀ k, S k → k < w.heap.size) (hW : Fr No w W)
    (hL : LsN W' (Sx (fun k => S k ∧ k ≠ s) W W') q o c hs P') (hF : Fr (fun k => S k ∧ k ≠ s) W W') :
    Bk W' s 28 #[v0] ∧ Left w S s P' (W'.setCell ⟨s, 0, none⟩ (.slice (some ⟨q, o, none⟩) hs.length c)) := by
  by_cases hne : P' = []
  · have hb1 : Bk W' s 28 #[v0] := (hb.fr hW (fun e => e)).fr hF (fun e => e.2 rfl)
    have hl := hL.len
    subst hne
    have h0 : hs.length = 0 := hl
    rw [h0]
    exact ⟨hb1, PS.store0 hS hlt ((hW.weak (S' := S) (fun _ _ e => e.elim)).trans' hF (fun _ _ e => e.1)) hb1⟩
  · exact PS.closed hb hS hlt hW hL hF hne

set_option maxHeartbeats 4000000 in
set_option maxRecDepth 100000 in
theorem pDel_any (k : Nat) (hk : k < 1000) (hi : InvP P) (h : PS w S s P) :
    Calls Try.prog 9 #[.pointer (some ⟨s, 0, none⟩), .int .i64 k] w fun e w' => e = .returned (.int .i64 (delA P k)) ∧ Left w S s (delQ P k) w' := by
  have ht := pTakes_some ⟨s, 0, none⟩ k w
  rw [show decide (0 ≤ (k : Int) ∧ (k : Int) ≤ 999) = true by simp; omega] at ht
  have hP0 := h
  obtain ⟨v0, hb, hS, hlt, hcase⟩ := h
  rcases hcase with ⟨rfl, A, c, rfl⟩ | ⟨hne, q, o, c, hs, rfl, hL⟩
  · have hfd := lfind_none A c k w
    have x0 : w.cell? ⟨s, 0, none⟩ = some (.slice A 0 c) := hb.cell 0
    have hg : delA [] k = 5 := rfl
    have hg2 : delQ [] k = [] := rfl
    rw [hg, hg2]
    have HL := Lib.hid (show ∀ W, Fr No w W → Left w S s [] W from fun W hW => ⟨S, hP0.fr hW (fun _ _ e => e), hW.weak (fun _ _ e => e.elim), fun _ e => .inl e⟩)
    clear hb hlt hS hg hg2 hP0
    go_enter Try.func9, Try.ntmps9
    go_wp2_with fail
    refine ht.mono ?_
    rintro e w1 ⟨rfl, rfl⟩
    go_wp2_with fail
    refine hfd.mono ?_
    rintro e w2 ⟨rfl, hf2⟩
    have HR := Lib.hid (HL.out _ hf2)
    clear x0 hfd ht HL hf2
    go_wp2
    go_ret
    exact ⟨rfl, HR.out⟩
  · have hfd := lfind_any S q o c hs P hi hne k w hL
    have hat := atP_lt P k hne
    have hll := hL.len
    have hlen := hi.len
    have hats : atP P k < hs.length := by omega
    have hgd : P.getD (atP P k) [] = P[atP P k] := by simp [List.getD, hat]
    have hrise : Rise P[atP P k] := by
      obtain ⟨X, Y, hXY⟩ := List.append_of_mem (List.getElem_mem hat)
      have hr := hi.rise
      rw [hXY, List.flatten_append, List.flatten_cons] at hr
      exact (Rise.app (Rise.app hr).2.1).1
    have hval := hi.val k
    rw [hgd] at hfd hval
    have x0 : w.cell? ⟨s, 0, none⟩ = some (.slice (some ⟨q, o, none⟩) hs.length c) := hb.cell 0
    cases hb0 : hasK P[atP P k] k with
    | true =>
      have hpl := pos_lt hrise hb0
      rw [val_pos hrise hb0 hpl] at hval
      have hg : delA P k = 0 := by unfold delA; rw [hval]; rfl
      have hg2 : delQ P k = delL P (atP P k) (outL P[atP P k] (posP P[atP P k] k)) := by
        unfold delQ
        rw [hval, if_pos (by rfl : (some _ : Option Int).isSome = true)]
        unfold delP
        simp only
        rw [hgd, out_idx _ hrise k _ hpl (pos_key hrise hb0 hpl)]
        rfl
      rw [hg, hg2]
      rw [hb0] at hfd
      have hR : Hid (∀ W, Fr No w W → W.cell? ⟨s, 0, none⟩ = some (.slice (some ⟨q, o, none⟩) hs.length c) ∧ Calls Try.prog 27 #[.slice (some ⟨q, o, none⟩) hs.length c, .int .i64 (atP P k), .int .i64 (posP P[atP P k] k)] W (fun e W' => ∃ q' o' c' n', e = .returned (.slice (some ⟨q', o', none⟩) n' c') ∧ W'.cell? ⟨s, 0, none⟩ = some (.slice (some ⟨q, o, none⟩) hs.length c) ∧ W'.frozen? ⟨s, 0, none⟩ = false ∧ Left w S s (delL P (atP P k) (outL P[atP P k] (posP P[atP P k] k))) (W'.setCell ⟨s, 0, none⟩ (.slice (some ⟨q', o', none⟩) n' c')))) := Lib.hid (fun W hW => by
        have hbW := hb.fr hW (fun e => e)
        have hwa := without_any (atP P k) (posP P[atP P k] k) ((hL.since hW).less hbW) (by omega) hats (by rw [hgd]; exact hpl) (fun p hp => by have := hi.one p hp; omega)
        rw [hgd] at hwa
        refine ⟨hbW.cell 0, hwa.mono ?_⟩
        rintro e W' ⟨q', o', c', hs', rfl, h1, h2⟩
        have h3 := PS.closed0 hb hS hlt hW h1 h2
        exact ⟨q', o', c', hs'.length, rfl, h3.1.cell 0, h3.1.frozen 0, h3.2⟩)
      clear hg hg2 hval hP0
      generalize delL P (atP P k) (outL P[atP P k] (posP P[atP P k] k)) = P' at *
      generalize posP P[atP P k] k = ps at *
      clear hrise hgd hpl hb0
      generalize atP P k = a at *
      clear hL hll hat hlen hats
      generalize hs.length = z at *
      clear hb hlt hS
      go_enter Try.func9, Try.ntmps9
      go_wp2_with fail
      refine ht.mono ?_
      rintro e w1 ⟨rfl, rfl⟩
      go_wp2_with fail
      refine hfd.mono ?_
      rintro e w2 ⟨rfl, hf2⟩
      obtain ⟨y0, hcal⟩ := hR.out _ hf2
      clear hR x0 hfd ht hf2
      go_wp2_with fail
      refine hcal.mono ?_
      rintro e w3 ⟨q', o', c', n', rfl, z0, z1, hleft⟩
      have HLf := Lib.hid hleft
      clear hcal hleft y0
      go_wp2
      go_ret
      exact ⟨rfl, HLf.out⟩
    | false =>
      rw [val_no hb0] at hval
      have hg : delA P k = 5 := by unfold delA; rw [hval]; rfl
      have hg2 : delQ P k = P := by unfold delQ; rw [hval]; rfl
      rw [hg, hg2]
      rw [hb0] at hfd
      have HL := Lib.hid (show ∀ W, Fr No w W → Left w S s P W from fun W hW => ⟨S, hP0.fr hW (fun _ _ e => e), hW.weak (fun _ _ e => e.elim), fun _ e => .inl e⟩)
      generalize posP P[atP P k] k = ps at *
      generalize atP P k = a at *
      clear hL hll hat hrise hgd hb0 hval hg hats hP0 hg2 hlen
      generalize hs.length = z at *
      clear hb hlt hS
      go_enter Try.func9, Try.ntmps9
      go_wp2_with fail
      refine ht.mono ?_
      rintro e w1 ⟨rfl, rfl⟩
      go_wp2_with fail
      refine hfd.mono ?_
      rintro e w2 ⟨rfl, hf2⟩
      have HR := Lib.hid (HL.out _ hf2)
      clear x0 hfd ht HL hf2
      go_wp2
      go_ret
      exact ⟨rfl, HR.out⟩
end
end Go.Proofs.Ytenmiociinogeaa
