/- The law 'KeysSame', whole. -/
import Derived.Test.YthnpgepniiicaaaSame4a
import Derived.Test.YthnpgepniiicaaaSame4b
import Derived.Test.YthnpgepniiicaaaSame4c
namespace Go.Proofs.Ythnpgepniiicaaa
open Go.RowKit

set_option maxRecDepth 100000 in
set_option maxHeartbeats 4000000 in
theorem same4_any (a b : List Span) (A B : Option Addr) (n m c1 c2 : Nat) (x y : Int) (hx1 : -9223372036854775808 ≤ x) (hx2 : x < 9223372036854775808) (hy1 : -9223372036854775808 ≤ y) (hy2 : y < 9223372036854775808) (w : World) (hA : Sl w w.heap.size A (sps a)) (hB : Sl w w.heap.size B (sps b)) (hn : a.length = n) (hm : b.length = m) (hnl : n ≤ 9223372036854775807) (hml : m ≤ 9223372036854775807) :
    Calls Try.prog 5 #[.slice A n c1, .slice B m c2, .agg #[.int .i64 x, .int .i64 y]] w fun e w' => e = .returned (.bool true) ∧ Fr No w w' := by
  by_cases h1 : 40 < n
  · have e1 : decide ((40 : Int) < (n : Int)) = true := by simp; omega
    clear hA hB hn hm hx1 hx2 hy1 hy2
    go_enter Try.func5, Try.ntmps5
    go_wp2_with fail
    refine (alive4_any _).mono ?_
    rintro e w1 ⟨rfl, hf⟩
    have g1 := ((Fr.refl No w).alloc (.cells #[.int .i64 x, .int .i64 y] 30)).trans' hf (fun _ _ e => e)
    go_wp2
    go_ret
    exact ⟨rfl, g1⟩
  · by_cases h2 : 40 < m
    · have e1 : decide ((40 : Int) < (n : Int)) = false := by simp; omega
      have e2 : decide ((40 : Int) < (m : Int)) = true := by simp; omega
      clear hA hB hn hm hx1 hx2 hy1 hy2
      go_enter Try.func5, Try.ntmps5
      go_wp2_with fail
      refine (alive4_any _).mono ?_
      rintro e w1 ⟨rfl, hf⟩
      have g1 := ((Fr.refl No w).alloc (.cells #[.int .i64 x, .int .i64 y] 30)).trans' hf (fun _ _ e => e)
      go_wp2
      go_ret
      exact ⟨rfl, g1⟩
    · cases hb1 : decide (0 ≤ x)
      · exact same4_a a b A B n m c1 c2 x y hx1 hx2 hy1 hy2 w hA hB hn hm hnl hml h1 h2 hb1
      · cases hb2 : decide (y ≤ 999)
        · exact same4_b a b A B n m c1 c2 x y hx1 hx2 hy1 hy2 w hA hB hn hm hnl hml h1 h2 hb1 hb2
        · exact same4_c a b A B n m c1 c2 x y hx1 hx2 hy1 hy2 w hA hB hn hm hnl hml h1 h2 hb1 hb2
end Go.Proofs.Ythnpgepniiicaaa
