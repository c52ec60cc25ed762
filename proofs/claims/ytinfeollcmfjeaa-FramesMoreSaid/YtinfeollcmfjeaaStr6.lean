/- Package frames: frames as a stream. -/
import Derived.Test.YtinfeollcmfjeaaSam6
import Derived.Test.YtinfeollcmfjeaaPut6
namespace Go.Proofs.Ytinfeollcmfjeaa
open Go.RowKit

/-- The words of frames as a stream; none, if one may not be. -/
def streamP (e : Int) (l : List Frm) : List Nat := if (l.all frmOk && (l.isEmpty || numOk e)) = true then streamF e 0 l else []
theorem streamF_len_le (e : Int) (l : List Frm) (i : Nat) (h : ∀ f ∈ l, frmOk f = true) : (streamF e i l).length ≤ l.length * 2001 := by
  induction l generalizing i with
  | nil => simp [streamF]
  | cons f r ih =>
    have h1 := ((frmOk_iff f).1 (h f (by simp))).2.2
    have h2 := ih (i + 1) (fun g hg => h g (by simp [hg]))
    simp only [streamF, List.length_append, putW_len, List.length_cons]
    omega

set_option maxRecDepth 100000 in
set_option maxHeartbeats 4000000 in
theorem stream_any (ep : Int) (he : -9223372036854775808 ≤ ep ∧ ep < 9223372036854775808) (xs : List FrV) (n : Nat) (A : Option Addr) (c : Nat) (w : World) (hs : Frs w A xs) (hn : xs.length = n) (hle : n ≤ 1000) :
    Calls Try.prog 20 #[.int .i64 ep, .slice A n c] w (NewL w (streamP ep (xs.map FrV.f))) := by
  have Hn := Lib.hid hn
  have He := Lib.hid he
  have Hs := Lib.hid (fun W (hW : Fr No w W) => hs.since hW)
  clear hn he hs
  go_enter Try.func20, Try.ntmps20
  go_wp2
  go_loopw [5, 11] (fun av iv wr => ∃ (j z : Nat) (B : Option Addr) (cb : Nat), j ≤ n ∧ iv = .int .i64 j ∧ av = .slice B z cb ∧ z ≤ j * 2001 ∧ Hid (∀ x ∈ xs.take j, frmOk x.f = true) ∧ Hid (j = 0 ∨ numOk ep = true) ∧ Hid (z = (streamF ep 0 ((xs.take j).map FrV.f)).length) ∧
    Hid (wr.ownsRow w.heap.size 43 1 (.slice B z cb) z (u64s (streamF ep 0 ((xs.take j).map FrV.f)))) ∧ Hid (Fr No w wr)) (fun _ iv _ => n - (intOf iv).toNat)
  case atStart => exact ⟨0, 0, none, 0, by omega, rfl, rfl, by omega, Lib.hid (by simp), Lib.hid (.inl rfl), Lib.hid rfl, Lib.hid (World.ownsRow_nil _ _ _ _), Lib.hid (Fr.refl _ _)⟩
  case round =>
    obtain ⟨j, z, B, cb, hj, rfl, rfl, hz, Hok, Hep, Hz, Hrow, Hfr⟩ := hrel
    by_cases hlt : j < n
    · have hjx : j < xs.length := by rw [Hn.out]; exact hlt
      obtain ⟨ad, rfl, -, x0, x1⟩ := (Hs.out wr Hfr.out).at hjx
      have hfit := (Hs.out wr Hfr.out).fit _ (List.getElem_mem hjx)
      have Htk : Hid (xs.take (j + 1) = xs.take j ++ [xs[j]]) := Lib.hid (List.take_succ_eq_append_getElem hjx)
      have Hmem : Hid (xs[j] ∈ xs) := Lib.hid (List.getElem_mem hjx)
      generalize xs[j] = x at *
      obtain ⟨xk, xA, xw, xc⟩ := x
      have f1 : Fr No wr (wr.alloc (.cells #[.int .i64 xk, .slice xA xw.length xc] 24)) := (Fr.refl _ _).alloc _
      have Hput := Lib.hid (put_any ep j He.out (by omega) ⟨xk, xA, xw, xc⟩ (wr.alloc (.cells #[.int .i64 xk, .slice xA xw.length xc] 24)) (hfit.since f1))
      simp only [FrV.agg, FrV.f] at x0 x1 Hput
      have hjN : numOk (j : Int) = true := (numOk_iff _).2 (by omega)
      have c0 : (wr.alloc (.cells #[.int .i64 xk, .slice xA xw.length xc] 24)).cell? ⟨wr.heap.size, 0, none⟩ = some (.int .i64 xk) := (Bk.made wr _ _).cell 0
      have c1 : (wr.alloc (.cells #[.int .i64 xk, .slice xA xw.length xc] 24)).cell? ⟨wr.heap.size, 1, none⟩ = some (.slice xA xw.length xc) := (Bk.made wr _ _).cell 1
      by_cases hok : frmOk ⟨xk, xw⟩ = true ∧ numOk ep = true
      · have hp : putP ep j ⟨xk, xw⟩ = putW ep j ⟨xk, xw⟩ := by unfold putP; rw [if_pos ⟨hok.1, hok.2, hjN⟩]
        rw [hp] at Hput
        have hpl := putW_len ep j ⟨xk, xw⟩
        have hwl := ((frmOk_iff _).1 hok.1).2.2
        simp only at hpl hwl
        have Hnx : Hid (streamF ep 0 ((xs.take (j + 1)).map FrV.f) = streamF ep 0 ((xs.take j).map FrV.f) ++ putW ep j ⟨xk, xw⟩) := Lib.hid (by
          have hl : ((xs.take j).map FrV.f).length = j := by simp [Hn.out]; omega
          rw [Htk.out, List.map_append, List.map_singleton, streamF_snoc, hl]
          simp only [FrV.f])
        have Hok1 : Hid (∀ x ∈ xs.take (j + 1), frmOk x.f = true) := Lib.hid (fun y hy => by
          rw [Htk.out, List.mem_append, List.mem_singleton] at hy
          rcases hy with hy | rfl
          · exact Hok.out y hy
          · exact hok.1)
        have HepT := Lib.hid hok.2
        obtain ⟨pw, Hpw⟩ : ∃ pw, Hid (pw = putW ep j ⟨xk, xw⟩) := ⟨_, Lib.hid rfl⟩
        rw [← Hpw.out] at Hput Hnx hpl
        obtain ⟨y, Hy⟩ : ∃ y, Hid (y = pw.length) := ⟨_, Lib.hid rfl⟩
        have hy1 : 1 ≤ y ∧ y ≤ 2001 := by rw [Hy.out]; omega
        have hyz : ¬ y = 0 := by omega
        have hrow1 := fun W (hW : Fr No wr W) => own_fr Hrow.out hW (fun _ _ e => e)
        have HR1 := Lib.hid hrow1
        clear hok hp hpl hwl hjN hfit hrow1
        go_wp2_with (first
          | (at_builtin
             refine append_words rfl _ _ rfl w.heap.size B z cb (streamF ep 0 ((xs.take j).map FrV.f)) rfl _ A2 y c2 pw rfl Hy.out.symm HS.out hrw (by omega) hfw.size ?_
             intro A3 c3 w3 hown3 hf3 hg3
             have HO3 := Lib.hid hown3
             have HF3 := Lib.hid (hfw.trans' hf3 (fun k hk e => by have := hrw.lt k e; omega))
             clear hrw hfw hf3 hg3 hown3 HS)
          | (go_at_call 9
             refine Hput.out.mono ?_
             rintro e w2 ⟨A2, c2, rfl, hown2, f2⟩
             rw [← Hy.out] at hown2 ⊢
             have f3 := f1.trans' f2 (fun _ _ e => e)
             have hrw := HR1.out w2 f3
             have hfw := Hfr.out.trans' f3 (fun _ _ e => e)
             have HS := Lib.hid (Sl.ofOwn hown2)
             clear c0 c1 x0 x1 Hput hown2 f2 f3 f1))
        go_roundw
        case rel =>
          refine ⟨j + 1, z + y, A3, c3, by omega, by go_num, rfl, by omega, Hok1, Lib.hid (.inr HepT.out), Lib.hid ?_, Lib.hid ?_, HF3⟩
          · rw [Hnx.out, List.length_append, ← Hy.out, ← Hz.out]
          · rw [Hnx.out]
            exact HO3.out
        case measure => simp [intOf]; omega
      · have hp : putP ep j ⟨xk, xw⟩ = [] := by unfold putP; rw [if_neg (fun h => hok ⟨h.1, h.2.1⟩)]
        rw [hp] at Hput
        have Hno : Hid (streamP ep (xs.map FrV.f) = []) := Lib.hid (by
          unfold streamP
          rw [if_neg]
          intro h
          simp only [Bool.and_eq_true, List.all_eq_true, List.mem_map, Bool.or_eq_true, List.isEmpty_iff, List.map_eq_nil_iff] at h
          obtain ⟨q1, q2⟩ := h
          have q3 := q1 _ ⟨_, Hmem.out, rfl⟩
          rcases q2 with q2 | q2
          · rw [q2] at hjx
            simp at hjx
          · exact hok ⟨q3, q2⟩)
        clear hok hp hjN hfit
        go_wp2_with (go_at_call 9; refine Hput.out.mono ?_; rintro e w2 ⟨A2, c2, rfl, -, f2⟩; simp only [List.length_nil]; clear c0 c1 x0 x1 Hput)
        go_ret
        rw [Hno.out]
        exact NewL.nil (Hfr.out.trans' (f1.trans' f2 (fun _ _ e => e)) (fun _ _ e => e))
    · have hjn : j = n := by omega
      have Hall : Hid (streamP ep (xs.map FrV.f) = streamF ep 0 ((xs.take j).map FrV.f)) := Lib.hid (by
        have h1 : xs.take j = xs := List.take_of_length_le (by rw [Hn.out]; omega)
        have h2 := Hok.out
        rw [h1] at h2 ⊢
        unfold streamP
        rw [if_pos]
        simp only [Bool.and_eq_true, List.all_eq_true, List.mem_map, Bool.or_eq_true, List.isEmpty_iff, List.map_eq_nil_iff]
        refine ⟨by rintro _ ⟨x, hx, rfl⟩; exact h2 x hx, ?_⟩
        rcases Hep.out with e | e
        · left
          exact List.eq_nil_of_length_eq_zero (by rw [Hn.out]; omega)
        · exact .inr e)
      go_wp2
      go_ret
      rw [Hall.out]
      refine ⟨B, cb, ?_, ?_, Hfr.out⟩
      · rw [← Hz.out]
        rfl
      · rw [← Hz.out]
        exact Hrow.out
end Go.Proofs.Ytinfeollcmfjeaa
