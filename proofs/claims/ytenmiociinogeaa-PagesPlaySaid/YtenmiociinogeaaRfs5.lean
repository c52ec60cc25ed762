/- The document's store: some pages in the place of others. -/
import Derived.Test.YtenmiociinogeaaRow5
namespace Go.Proofs.Ytenmiociinogeaa
open Go.RowKit

set_option maxRecDepth 100000 in
set_option maxHeartbeats 2000000 in
theorem rSet_any (p : Nat) (v : Value) (hs ls : List Value) (a many m c : Nat) (LA : Option Addr) (w : World) (h : Hd w p v hs) (hls : Sl w w.heap.size LA ls) (hm : ls.length = m) (hle : a + many ≤ hs.length) (h1 : ∀ u ∈ ls, u.oneCell' = true) (hm4 : m ≤ 4) (hb : hs.length ≤ 2000) :
    Calls Try.prog 29 #[.pointer (some ⟨p, 0, none⟩), .int .i64 a, .int .i64 many, .slice LA m c] w fun e w' => e = .returned (.tuple #[]) ∧ ∃ v', Hd w' p v' (hs.take a ++ ls ++ hs.drop (a + many)) ∧ Fr (fun k => k = p) w w' ∧ (∀ k, v'.ownBlock = some k → w.heap.size ≤ k) := by
  obtain ⟨A, c0, rfl, hc0⟩ := h.shape
  obtain ⟨i, hi, hz, hz1, hz2⟩ := info_parts info_prs
  have p0 := (h.self.alloc (.cells #[] 47)).cell 0
  simp at p0
  have o0 := own_made w 47 1 0 #[] rfl (Nat.zero_le _)
  have hslr := Sl.ofOwn h.row
  have hb2 : (a : Int) + (many : Int) ≤ (hs.length : Int) := by omega
  have hb1 : (a : Int) ≤ (hs.length : Int) := by omega
  have hba : (a : Int) ≤ (c0 : Int) := by omega
  go_enter Try.func29, Try.ntmps29
  have hone := h.one
  go_wp2_with (at_builtin; refine wpList_append_new (w0 := w) rfl _ _ _ rfl 47 (.slice none 0 0) 1 24 Try.underlying30 info_prs rfl (by omega) (.slice (some ⟨w.heap.size, 0, none⟩) 0 0) 0 [] rfl o0 ((Fr.refl No w).alloc _) (w.heap.size + 1) A a c0 (hs.take a) rfl (by rw [List.length_take]; omega) ((hslr.take a).fr ((Fr.refl No w).alloc _) (Nat.le_refl _) (fun _ _ _ e => e) |>.more (by omega)) (fun u hu => hone u (List.mem_of_mem_take hu)) (by unfold maxLen; omega) (by omega) ?e7)
  case e7 =>
    intro A1 c1 w1 own1 f1 g1
    have hls1 := hls.since f1
    clear g1 p0 o0
    go_wp2_with (at_builtin; refine wpList_append_new (w0 := w) rfl _ _ _ rfl 47 (.slice none 0 0) 1 24 Try.underlying30 info_prs rfl (by omega) _ _ _ rfl own1 f1 w1.heap.size LA m c ls rfl (by omega) hls1 h1 (by unfold maxLen; omega) (by omega) ?f7)
    case f7 =>
      intro A2 c2 w2 own2 f2 g2
      have h2 := h.fr f2 (fun e => e) (fun _ _ e => e)
      have p2 := h2.self.cell 0
      have z2 := h2.self.frozen 0
      simp at p2
      have hsl2 := (hslr.since f2).drop (k := a + many) (n := hs.length) (cap := c0) (sz := 1) (by simp) hle hc0
      simp only [Nat.mul_one] at hsl2
      clear g2 own1 hls1
      by_cases hcc : c0 = a + many
      · rw [if_pos hcc] at hsl2
        go_wp2_with (at_builtin; refine wpList_append_new (w0 := w) rfl _ _ _ rfl 47 (.slice none 0 0) 1 24 Try.underlying30 info_prs rfl (by omega) _ _ _ rfl own2 f2 w2.heap.size _ _ _ (hs.drop (a + many)) rfl (by rw [List.length_drop]; omega) hsl2 (fun u hu => hone u (List.mem_of_mem_drop hu)) (by unfold maxLen; omega) (by omega) ?g0)
        case g0 =>
          intro A3 c3 w3 own3 f3 g3
          have h3 := h.fr f3 (fun e => e) (fun _ _ e => e)
          have p3 := h3.self.cell 0
          have z3 := h3.self.frozen 0
          simp at p3
          have HH : Hid (Hd (w3.setCell ⟨p, 0, none⟩ (.slice A3 (a + m + (hs.length - (a + many))) c3)) p (.slice A3 (a + m + (hs.length - (a + many))) c3) (hs.take a ++ ls ++ hs.drop (a + many))) := Lib.hid (by
            have hlen : (hs.take a ++ ls ++ hs.drop (a + many)).length = a + m + (hs.length - (a + many)) := by
              rw [List.length_append, List.length_append, List.length_take, List.length_drop]; omega
            have hfs : Fr (fun k => k = p) w3 (w3.setCell ⟨p, 0, none⟩ (.slice A3 (a + m + (hs.length - (a + many))) c3)) := (Fr.refl (fun k => k = p) w3).setCell (p := ⟨p, 0, none⟩) (.inl rfl) _
            refine ⟨h3.self.put 0 _, ?_, fun u hu => ?_, by omega⟩
            · rw [hlen]
              refine own_fr (own_base (B := w.heap.size) (B' := 0) ?_ (Nat.zero_le _)) hfs (fun k e1 e2 => ?_)
              · rw [List.append_assoc]; exact own3
              · subst e2
                exact own_apart own3 h3.self (by decide) e1
            · rcases List.mem_append.1 hu with hu | hu
              · rcases List.mem_append.1 hu with hu | hu
                · exact hone u (List.mem_of_mem_take hu)
                · exact h1 u hu
              · exact hone u (List.mem_of_mem_drop hu))
          have HF : Hid (Fr (fun k => k = p) w (w3.setCell ⟨p, 0, none⟩ (.slice A3 (a + m + (hs.length - (a + many))) c3))) := Lib.hid (Fr.setCell (S := fun k => k = p) (f3.weak (fun _ _ e => e.elim)) (p := ⟨p, 0, none⟩) (.inl rfl) _)
          have HO : Hid (∀ k, (Value.slice A3 (a + m + (hs.length - (a + many))) c3).ownBlock = some k → w.heap.size ≤ k) := Lib.hid (fun k e => (own3.lt k e).1)
          clear own2 f2 f3 g3 h2 h3 own3 hsl2 hslr hls h1 hone
          go_wp2
          exact ⟨rfl, _, results_none rfl _ _ _, rfl, _, HH.out, HF.out, HO.out⟩
      · rw [if_neg hcc] at hsl2
        go_wp2_with (at_builtin; refine wpList_append_new (w0 := w) rfl _ _ _ rfl 47 (.slice none 0 0) 1 24 Try.underlying30 info_prs rfl (by omega) _ _ _ rfl own2 f2 w2.heap.size _ _ _ (hs.drop (a + many)) rfl (by rw [List.length_drop]; omega) hsl2 (fun u hu => hone u (List.mem_of_mem_drop hu)) (by unfold maxLen; omega) (by omega) ?g1)
        case g1 =>
          intro A3 c3 w3 own3 f3 g3
          have h3 := h.fr f3 (fun e => e) (fun _ _ e => e)
          have p3 := h3.self.cell 0
          have z3 := h3.self.frozen 0
          simp at p3
          have HH : Hid (Hd (w3.setCell ⟨p, 0, none⟩ (.slice A3 (a + m + (hs.length - (a + many))) c3)) p (.slice A3 (a + m + (hs.length - (a + many))) c3) (hs.take a ++ ls ++ hs.drop (a + many))) := Lib.hid (by
            have hlen : (hs.take a ++ ls ++ hs.drop (a + many)).length = a + m + (hs.length - (a + many)) := by
              rw [List.length_append, List.length_append, List.length_take, List.length_drop]; omega
            have hfs : Fr (fun k => k = p) w3 (w3.setCell ⟨p, 0, none⟩ (.slice A3 (a + m + (hs.length - (a + many))) c3)) := (Fr.refl (fun k => k = p) w3).setCell (p := ⟨p, 0, none⟩) (.inl rfl) _
            refine ⟨h3.self.put 0 _, ?_, fun u hu => ?_, by omega⟩
            · rw [hlen]
              refine own_fr (own_base (B := w.heap.size) (B' := 0) ?_ (Nat.zero_le _)) hfs (fun k e1 e2 => ?_)
              · rw [List.append_assoc]; exact own3
              · subst e2
                exact own_apart own3 h3.self (by decide) e1
            · rcases List.mem_append.1 hu with hu | hu
              · rcases List.mem_append.1 hu with hu | hu
                · exact hone u (List.mem_of_mem_take hu)
                · exact h1 u hu
              · exact hone u (List.mem_of_mem_drop hu))
          have HF : Hid (Fr (fun k => k = p) w (w3.setCell ⟨p, 0, none⟩ (.slice A3 (a + m + (hs.length - (a + many))) c3))) := Lib.hid (Fr.setCell (S := fun k => k = p) (f3.weak (fun _ _ e => e.elim)) (p := ⟨p, 0, none⟩) (.inl rfl) _)
          have HO : Hid (∀ k, (Value.slice A3 (a + m + (hs.length - (a + many))) c3).ownBlock = some k → w.heap.size ≤ k) := Lib.hid (fun k e => (own3.lt k e).1)
          clear own2 f2 f3 g3 h2 h3 own3 hsl2 hslr hls h1 hone
          go_wp2
          exact ⟨rfl, _, results_none rfl _ _ _, rfl, _, HH.out, HF.out, HO.out⟩
end Go.Proofs.Ytenmiociinogeaa
