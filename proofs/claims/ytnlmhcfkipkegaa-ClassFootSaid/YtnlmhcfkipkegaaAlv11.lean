/- The document's example of a class. -/
import Derived.Test.YtnlmhcfkipkegaaMy11
namespace Go.Proofs.Ytnlmhcfkipkegaa
open Go.RowKit

theorem alive11 (w : World) : Calls Try.prog 5 #[] w (Has w true) := by
  obtain ⟨W, hW⟩ : ∃ W, Hid (W = ((w.alloc (.cells #[.int .i64 5, .int .i64 0, .int .i64 0, .int .i64 0, .int .i64 0, .int .i64 0, .int .i64 0, .int .i64 0, .int .i64 0] 51)).alloc (.cells #[.slice (some ⟨w.heap.size, 0, none⟩) 1 1, .slice none 0 0] 55)).alloc (.cells #[.slice none 0 0, .slice none 0 0] 55)) := ⟨_, Lib.hid rfl⟩
  have hf : Fr No w W := by rw [hW.out]; exact (((Fr.refl _ _).alloc _).alloc _).alloc _
  have s1 : Sl W W.heap.size (some ⟨w.heap.size, 0, none⟩) ([(⟨5, 0, 0, 0, 0, 0, 0, 0, 0⟩ : Ins)].flatMap Ins.cells) := by
    rw [hW.out]
    exact ((slMade w 51 #[.int .i64 5, .int .i64 0, .int .i64 0, .int .i64 0, .int .i64 0, .int .i64 0, .int .i64 0, .int .i64 0, .int .i64 0] _ _ rfl rfl).since ((Fr.refl _ _).alloc _)).since ((Fr.refl _ _).alloc _)
  have s2 : Sl W W.heap.size (some ⟨w.heap.size + 1, 0, none⟩) ([(⟨some ⟨w.heap.size, 0, none⟩, [⟨5, 0, 0, 0, 0, 0, 0, 0, 0⟩], 1, none, [], 0⟩ : Stp)].flatMap Stp.cells) := by
    rw [hW.out]
    exact (slMade (w.alloc (.cells #[.int .i64 5, .int .i64 0, .int .i64 0, .int .i64 0, .int .i64 0, .int .i64 0, .int .i64 0, .int .i64 0, .int .i64 0] 51)) 55 #[.slice (some ⟨w.heap.size, 0, none⟩) 1 1, .slice none 0 0] _ _ (by simp) rfl).since ((Fr.refl _ _).alloc _)
  have s3 : Sl W W.heap.size (some ⟨w.heap.size + 1 + 1, 0, none⟩) ([(⟨none, [], 0, none, [], 0⟩ : Stp)].flatMap Stp.cells) := by
    rw [hW.out]
    exact slMade _ 55 #[.slice none 0 0, .slice none 0 0] _ _ (by simp) rfl
  have hnil : ∀ B : Nat, Sl W B none ([] : List Value) := fun B h => absurd rfl h
  have hok : Cls.Ok W ⟨⟨#[97]⟩, 0, some ⟨w.heap.size + 1, 0, none⟩, [⟨some ⟨w.heap.size, 0, none⟩, [⟨5, 0, 0, 0, 0, 0, 0, 0, 0⟩], 1, none, [], 0⟩], 1, some ⟨w.heap.size + 1 + 1, 0, none⟩, [⟨none, [], 0, none, [], 0⟩], 1, false⟩ :=
    ⟨⟨s2, fun s hs => by rw [List.mem_singleton.1 hs]; exact ⟨s1, hnil _⟩⟩, ⟨s3, fun s hs => by rw [List.mem_singleton.1 hs]; exact ⟨hnil _, hnil _⟩⟩⟩
  have hfew : Cls.Few ⟨⟨#[97]⟩, 0, some ⟨w.heap.size + 1, 0, none⟩, [⟨some ⟨w.heap.size, 0, none⟩, [⟨5, 0, 0, 0, 0, 0, 0, 0, 0⟩], 1, none, [], 0⟩], 1, some ⟨w.heap.size + 1 + 1, 0, none⟩, [⟨none, [], 0, none, [], 0⟩], 1, false⟩ :=
    ⟨by simp, by simp, fun s hs => by rw [List.mem_singleton.1 hs]; simp, fun s hs => by rw [List.mem_singleton.1 hs]; simp⟩
  have C := may11_any _ W hok hfew
  have hp : (Cls.p ⟨⟨#[97]⟩, 0, some ⟨w.heap.size + 1, 0, none⟩, [⟨some ⟨w.heap.size, 0, none⟩, [⟨5, 0, 0, 0, 0, 0, 0, 0, 0⟩], 1, none, [], 0⟩], 1, some ⟨w.heap.size + 1 + 1, 0, none⟩, [⟨none, [], 0, none, [], 0⟩], 1, false⟩).ok = true := by
    show PC.ok ⟨⟨#[97]⟩, 0, [([⟨5, 0, 0, 0, 0, 0, 0, 0, 0⟩], [])], [([], [])], false⟩ = true
    decide
  rw [hp] at C
  rw [hW.out] at C
  have HC := Lib.hid C
  have Hf := Lib.hid hf
  unfold Cls.agg at HC
  simp only [List.length_cons, List.length_nil, Nat.zero_add] at HC
  clear s1 s2 s3 hnil hok hfew C hp hf
  go_enter Try.func5, Try.ntmps5
  go_wp2_with fail
  refine (HC.out).mono ?_
  rintro e w1 ⟨rfl, f1⟩
  rw [← hW.out] at f1
  go_wp2
  go_ret
  exact ⟨rfl, Hf.out.then0 f1 (fun _ h => h.elim)⟩
end Go.Proofs.Ytnlmhcfkipkegaa
