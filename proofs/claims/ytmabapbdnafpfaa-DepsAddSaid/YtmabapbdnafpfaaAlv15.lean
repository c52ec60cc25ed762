/- The document's example of which nodes depend on which. -/
import Derived.Test.YtmabapbdnafpfaaIls15
namespace Go.Proofs.Ytmabapbdnafpfaa
open Go.RowKit

theorem sl_bk15 {V : World} {g : Nat} {t : TypeId} {cs : Array Value} (h : Bk V g t cs) {xs : List Value} (hx : xs = cs.toList) : Sl V V.heap.size (some ⟨g, 0, none⟩) xs := by
  intro _
  refine ⟨_, rfl, h.lt, fun j u hu => ?_⟩
  rw [hx, Array.getElem?_toList] at hu
  have e : (⟨g, 0, none⟩ : Addr).add j = ⟨g, j, none⟩ := by cases j <;> simp [Addr.add]
  rw [e, h.cell]
  exact hu
theorem bkm15 {w : World} {k : Nat} {t : TypeId} {cs : Array Value} (h : k = w.heap.size) : Bk (w.alloc (.cells cs t)) k t cs := by
  subst h
  exact Bk.made w t cs
theorem bka15 {w : World} {k : Nat} {t : TypeId} {cs : Array Value} (h : Bk w k t cs) (o : Obj) : Bk (w.alloc o) k t cs := h.fr ((Fr.refl No w).alloc o) (fun e => e)

def hist15 (H : Nat) : List Ndl := [⟨⟨1, 0, 0, false, [], [(5, 5)]⟩, none, 0, some ⟨H, 0, none⟩, 1⟩, ⟨⟨2, 0, 0, false, [(5, 5)], []⟩, some ⟨H, 0, none⟩, 1, none, 0⟩, ⟨⟨2, 0, 1, false, [], [(6, 6)]⟩, none, 0, some ⟨H + 1, 0, none⟩, 1⟩, ⟨⟨1, 0, 1, false, [(6, 6)], []⟩, some ⟨H + 1, 0, none⟩, 1, none, 0⟩]
def exH15 : List Nd := [⟨1, 0, 0, false, [], [(5, 5)]⟩, ⟨2, 0, 0, false, [(5, 5)], []⟩, ⟨2, 0, 1, false, [], [(6, 6)]⟩, ⟨1, 0, 1, false, [(6, 6)], []⟩]
/-- No node reads or writes more lists than memory holds. -/
def FewN (h : List Ndl) : Prop := ∀ x ∈ h, x.n.rd.length ≤ 1048576 ∧ x.n.wt.length ≤ 1048576
theorem hist15_few (H : Nat) : FewN (hist15 H) := by
  intro x hx
  unfold hist15 at hx
  simp only [List.mem_cons, List.not_mem_nil, or_false] at hx
  rcases hx with rfl | rfl | rfl | rfl <;> exact ⟨by simp, by simp⟩
theorem ndsOf_hist15 (H : Nat) : ndsOf (hist15 H) = exH15 := rfl
theorem ex15_dir : dirB exH15 2 0 = false ∧ dirB exH15 1 0 = true ∧ dirB exH15 2 1 = true ∧ dirB exH15 3 2 = true ∧ dirB exH15 3 0 = true := ⟨by kernel_rfl, by kernel_rfl, by kernel_rfl, by kernel_rfl, by kernel_rfl⟩
theorem ex15_dep : depB exH15 2 0 = true := depB_trans (depB_dir ex15_dir.2.2.1) (depB_dir ex15_dir.2.1)
theorem ex15_len : (depL exH15 3).length = 3 := by
  have h0 : depB exH15 3 0 = true := depB_dir ex15_dir.2.2.2.2
  have h2 : depB exH15 3 2 = true := depB_dir ex15_dir.2.2.2.1
  have h1 : depB exH15 3 1 = true := depB_trans h2 (depB_dir ex15_dir.2.2.1)
  unfold depL
  rw [show List.range 3 = [0, 1, 2] from rfl]
  simp [h0, h1, h2]
def nA15 (H : Nat) : Array Value := #[.int .i64 1, .int .i64 0, .int .i64 0, .bool false, .slice none 0 0, .slice (some ⟨H, 0, none⟩) 1 1, .int .i64 2, .int .i64 0, .int .i64 0, .bool false, .slice (some ⟨H, 0, none⟩) 1 1, .slice none 0 0, .int .i64 2, .int .i64 0, .int .i64 1, .bool false, .slice none 0 0, .slice (some ⟨H + 1, 0, none⟩) 1 1, .int .i64 1, .int .i64 0, .int .i64 1, .bool false, .slice (some ⟨H + 1, 0, none⟩) 1 1, .slice none 0 0]
theorem hist15_nds {V : World} {H : Nat} (h5 : Bk V H 41 #[.int .i64 5, .int .i64 5]) (h6 : Bk V (H + 1) 41 #[.int .i64 6, .int .i64 6]) (hn : Bk V (H + 2) 27 (nA15 H)) : Nds V (some ⟨H + 2, 0, none⟩) (hist15 H) := by
  have hnil : Sl V V.heap.size none (sps []) := fun e => absurd rfl e
  have s5 : Sl V V.heap.size (some ⟨H, 0, none⟩) (sps [(5, 5)]) := sl_bk15 h5 rfl
  have s6 : Sl V V.heap.size (some ⟨H + 1, 0, none⟩) (sps [(6, 6)]) := sl_bk15 h6 rfl
  refine ⟨sl_bk15 hn rfl, fun x hx => ?_⟩
  unfold hist15 at hx
  simp only [List.mem_cons, List.not_mem_nil, or_false] at hx
  rcases hx with rfl | rfl | rfl | rfl
  · exact ⟨hnil, s5⟩
  · exact ⟨s5, hnil⟩
  · exact ⟨hnil, s6⟩
  · exact ⟨s6, hnil⟩
set_option maxRecDepth 100000 in
set_option maxHeartbeats 8000000 in
theorem alive15 (w : World)
    (hof : ∀ (h : List Ndl) A c W, Nds W A h → h.length ≤ 100 → h.length ≤ c → FewN h → Calls Try.prog 10 #[.slice A h.length c] W fun e w' => ∃ L ls lc, e = .returned (.slice L ls.length lc) ∧ Ils w' L ls ∧ OfL (ndsOf h) ls ∧ Fr No W w')
    (hdp : ∀ (h : List Ndl) A c W (i k : Nat), Nds W A h → h.length ≤ 100 → h.length ≤ c → FewN h → i < h.length → k < h.length → Calls Try.prog 14 #[.slice A h.length c, .int .i64 (i : Int), .int .i64 (k : Int)] W (Has W (depB (ndsOf h) i k)))
    (hdr : ∀ (h : List Ndl) A c W (i k : Nat), Nds W A h → h.length ≤ 100 → h.length ≤ c → FewN h → i < h.length → k < h.length → Calls Try.prog 13 #[.slice A h.length c, .int .i64 (i : Int), .int .i64 (k : Int)] W (Has W (dirB (ndsOf h) i k))) :
    Calls Try.prog 7 #[] w (Has w true) := by
  obtain ⟨V, hV⟩ : ∃ V, V = ((w.alloc (.cells #[.int .i64 5, .int .i64 5] 41)).alloc (.cells #[.int .i64 6, .int .i64 6] 41)).alloc (.cells (nA15 w.heap.size) 27) := ⟨_, rfl⟩
  have G0 : Hid (Fr No w V) := Lib.hid (by rw [hV]; exact (((Fr.refl _ _).alloc _).alloc _).alloc _)
  have HN : Nds V (some ⟨w.heap.size + 2, 0, none⟩) (hist15 w.heap.size) := by
    rw [hV]
    exact hist15_nds (bka15 (bka15 (bkm15 rfl) _) _) (bka15 (bkm15 (by simp)) _) (bkm15 (by simp))
  have C1 := Lib.hid (fun W (hW : Fr No V W) => hof (hist15 w.heap.size) (some ⟨w.heap.size + 2, 0, none⟩) 4 W (HN.since hW) (show (4 : Nat) ≤ 100 by decide) (show (4 : Nat) ≤ 4 by decide) (hist15_few _))
  have C2 := Lib.hid (fun W (hW : Fr No V W) => hdp (hist15 w.heap.size) (some ⟨w.heap.size + 2, 0, none⟩) 4 W 2 0 (HN.since hW) (show (4 : Nat) ≤ 100 by decide) (show (4 : Nat) ≤ 4 by decide) (hist15_few _) (show (2 : Nat) < 4 by decide) (show (0 : Nat) < 4 by decide))
  have C3 := Lib.hid (fun W (hW : Fr No V W) => hdr (hist15 w.heap.size) (some ⟨w.heap.size + 2, 0, none⟩) 4 W 2 0 (HN.since hW) (show (4 : Nat) ≤ 100 by decide) (show (4 : Nat) ≤ 4 by decide) (hist15_few _) (show (2 : Nat) < 4 by decide) (show (0 : Nat) < 4 by decide))
  rw [ndsOf_hist15] at C1 C2 C3
  rw [ex15_dep] at C2
  rw [ex15_dir.1] at C3
  unfold nA15 at hV
  clear HN hof hdp hdr
  go_enter Try.func7, Try.ntmps7
  go_wp2_with fail
  rw [← hV]
  clear hV
  refine (C1.out V (Fr.refl _ _)).mono ?_
  rintro e w1 ⟨L, ls, lc, rfl, hI, hO, f1⟩
  have hl : ls.length = 4 := hO.len
  have h3 : 3 < ls.length := by omega
  have hl3 : (ls[3]).l.length = 3 := by rw [hO.at h3]; exact ex15_len
  obtain ⟨ad, rfl, hab, a3⟩ := hI.sl.il h3
  rw [hl3] at a3
  have a4 : w1.cell? ⟨ad.block, ad.off + 3, none⟩ = some (.slice (ls[3]).A 3 (ls[3]).c) := a3
  clear a3
  generalize (ls[3]).A = A3 at *
  generalize (ls[3]).c = c3 at *
  rw [hl]
  have F1 := Lib.hid f1
  clear hI hO f1 hl3
  go_wp2_with fail
  refine (C2.out _ F1.out).mono ?_
  rintro e w2 ⟨rfl, f2⟩
  have F2 := Lib.hid (F1.out.trans' f2 (fun _ _ e => e))
  clear f2
  go_wp2_with fail
  refine (C3.out _ F2.out).mono ?_
  rintro e w3 ⟨rfl, f3⟩
  go_wp2
  go_ret
  exact ⟨rfl, G0.out.trans' (F2.out.trans' f3 (fun _ _ e => e)) (fun _ _ e => e)⟩
end Go.Proofs.Ytmabapbdnafpfaa
