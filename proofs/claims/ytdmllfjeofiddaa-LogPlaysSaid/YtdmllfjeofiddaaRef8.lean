/- The document's own log: are its sectors there; their words. -/
import Derived.Test.YtdmllfjeofiddaaRef3
import Derived.Test.YtdmllfjeofiddaaLog8
import Derived.Test.YtdmllfjeofiddaaWords
import Derived.Test.YtdmllfjeofiddaaLib2
namespace Go.Proofs.Ytdmllfjeofiddaa
open Go.RowKit

/-- Has a device of so many sectors these? -/
def therB (m : Nat) (q n : Int) : Bool := decide (0 ≤ q ∧ 1 ≤ n ∧ q ≤ m ∧ n ≤ m - q)
set_option maxHeartbeats 1000000 in
theorem refThere8_any (r gl gr gd : Nat) (D : Dv) (q n : Int) (hq : -9223372036854775808 ≤ q ∧ q < 9223372036854775808) (hn : -9223372036854775808 ≤ n ∧ n < 9223372036854775808) (hD : D.n ≤ 4096) (w : World) (h : RD w r gl gr gd D) :
    Calls Try.prog 11 #[.pointer (some ⟨r, 0, none⟩), .int .i64 q, .int .i64 n] w fun e w' => e = .returned (.bool (therB D.n q n)) ∧ w = w' := by
  have c1 : w.cell? ⟨r, 1, none⟩ = some (.slice (some ⟨gr, 0, none⟩) D.n D.n) := by rw [h.self.cell 1]; rfl
  clear h
  obtain ⟨bk, Hbk⟩ : ∃ bk, Hid (bk = therB D.n q n) := ⟨_, Lib.hid rfl⟩
  have Hiff : Hid (bk = true ↔ 0 ≤ q ∧ 1 ≤ n ∧ q ≤ D.n ∧ n ≤ D.n - q) := Lib.hid (by rw [Hbk.out]; simp [therB])
  rw [← Hbk.out]
  clear Hbk
  generalize D.n = m at *
  by_cases h1 : 0 ≤ q
  · by_cases h2 : 1 ≤ n
    · by_cases h3 : q ≤ (m : Int)
      · go_enter Try.func11, Try.ntmps11
        go_wp2
        go_ret
        refine ⟨val_bool ?_, rfl⟩
        rw [Hiff.out]
        simp
        omega
      · have hd := decide_eq_false h3
        go_enter Try.func11, Try.ntmps11
        go_wp2
        go_ret
        refine ⟨val_bool ?_, rfl⟩
        rw [Hiff.out]
        simp
        omega
    · have hd := decide_eq_false h2
      go_enter Try.func11, Try.ntmps11
      go_wp2
      go_ret
      refine ⟨val_bool ?_, rfl⟩
      rw [Hiff.out]
      simp
      omega
  · have hd := decide_eq_false h1
    go_enter Try.func11, Try.ntmps11
    go_wp2
    go_ret
    refine ⟨val_bool ?_, rfl⟩
    rw [Hiff.out]
    simp
    omega
theorem RD.word {w : World} {r gl gr gd : Nat} {D : Dv} (h : RD w r gl gr gd D) {i k : Nat} (hi : i < D.n) (hk : k < 8) : w.cell? ⟨gr, i * 8 + k, none⟩ = some (.int .u64 ((D.rd i).getD k 0 : Nat)) := by
  rw [h.rd.cell, secs_at D.n D.rd h.len.2 i k hi hk]
  have hl := h.len.2 i hi
  rw [u64s_at _ k (by omega), List.getD, List.getElem?_eq_getElem (by omega)]
  rfl
/-- The first a words. -/
def wdsTo (f : Nat → List Nat) (q a : Nat) : List Nat := (List.range a).map (wdS f q)
theorem wdsTo_len (f : Nat → List Nat) (q a : Nat) : (wdsTo f q a).length = a := by simp [wdsTo]
theorem wdsTo_succ (f : Nat → List Nat) (q a : Nat) : wdsTo f q (a + 1) = wdsTo f q a ++ [wdS f q a] := by simp [wdsTo, List.range_succ]
set_option maxRecDepth 100000 in
set_option maxHeartbeats 2000000 in
theorem refWords8_any (r gl gr gd : Nat) (D : Dv) (q n : Nat) (hq : q + n ≤ D.n) (hD : D.n ≤ 4096) (w : World) (h : RD w r gl gr gd D) :
    Calls Try.prog 40 #[.pointer (some ⟨r, 0, none⟩), .int .i64 q, .int .i64 n] w (NewL w (partW D.rd q n)) := by
  have Hp : Hid (partW D.rd q n = wdsTo D.rd q (8 * n)) := Lib.hid rfl
  have HD := Lib.hid (fun W (hW : Fr No w W) => h.fr hW (fun _ _ e => e))
  clear h
  go_enter Try.func40, Try.ntmps40
  go_wp2
  go_loopw [7, 8] (fun ov iv wr => ∃ (i a : Nat) (A : Option Addr) (c : Nat), i ≤ n ∧ a = 8 * i ∧ iv = .int .i64 i ∧ ov = .slice A a c ∧ Hid (wr.ownsRow w.heap.size 40 1 ov a (u64s (wdsTo D.rd q a))) ∧ Hid (Fr No w wr)) (fun _ iv _ => n - (intOf iv).toNat)
  case atStart => exact ⟨0, 0, none, 0, by omega, rfl, rfl, rfl, Lib.hid (World.ownsRow_nil _ _ _ _), Lib.hid (Fr.refl _ _)⟩
  case round =>
    obtain ⟨i, a, A, c, hi, ha, rfl, rfl, HO, HF⟩ := hrel
    by_cases hlt : i < n
    · obtain ⟨sz, Hsz⟩ : ∃ sz, Hid (sz = wr.heap.size) := ⟨_, Lib.hid rfl⟩
      go_wp2
      go_loopw [7, 9] (fun ov kv wr => ∃ (k a : Nat) (A : Option Addr) (c : Nat), k ≤ 8 ∧ a = 8 * i + k ∧ kv = .int .i64 k ∧ ov = .slice A a c ∧ Hid (wr.ownsRow w.heap.size 40 1 ov a (u64s (wdsTo D.rd q a))) ∧ Hid (Fr No w wr)) (fun _ kv _ => 8 - (intOf kv).toNat)
      case atStart => exact ⟨0, a, A, c, by omega, by omega, rfl, rfl, HO, HF⟩
      case round =>
        obtain ⟨k, b, B, d, hk, hb, rfl, rfl, HO2, HF2⟩ := hrel
        by_cases hk8 : k < 8
        · have hc := (HD.out wr HF2.out).word (i := q + i) (k := k) (by omega) hk8
          have c1 : wr.cell? ⟨r, 1, none⟩ = some (.slice (some ⟨gr, 0, none⟩) D.n D.n) := by rw [(HD.out wr HF2.out).self.cell 1]; rfl
          have hv : (D.rd (q + i)).getD k 0 = wdS D.rd q b := by
            unfold wdS
            rw [show b / 8 = i by omega, show b % 8 = k by omega]
          rw [hv] at hc
          have Hn := Lib.hid (wdsTo_succ D.rd q b)
          generalize wdS D.rd q b = u at *
          have HB := Lib.hid hb
          clear hv hb
          go_wp2_with (
            at_builtin
            refine append_word rfl _ _ rfl w.heap.size B b d (wdsTo D.rd q b) u _ rfl rfl wr.heap.size rfl rfl HO2.out (by have := HB.out; omega) HF2.out.size ?_
            intro A' c' w' q1 q2 q3)
          go_roundw
          case rel =>
            refine ⟨k + 1, b + 1, A', c', by omega, by have := HB.out; omega, by go_num, by first | rfl | go_num, Lib.hid (by rw [Hn.out]; exact q1), Lib.hid (HF2.out.trans' q2 (fun x hx e => ?_))⟩
            have := (HO2.out.lt x e).1
            omega
          case measure => simp [intOf]; omega
        · obtain rfl : k = 8 := by omega
          go_wp2
          go_roundw
          case rel => exact ⟨i + 1, b, B, d, by omega, by omega, by go_num, rfl, HO2, HF2⟩
          case measure => simp [intOf]; omega
    · obtain rfl : i = n := by omega
      subst ha
      have hO := HO.out
      clear hlt
      go_wp2
      go_ret
      refine ⟨A, c, ?_, ?_, HF.out⟩
      · rw [Hp.out, wdsTo_len]
        simp
      · rw [Hp.out, wdsTo_len]
        exact hO
end Go.Proofs.Ytdmllfjeofiddaa
