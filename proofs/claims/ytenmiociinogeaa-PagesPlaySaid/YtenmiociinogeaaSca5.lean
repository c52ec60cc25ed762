/- Package pages: the pairs of some keys. -/
import Derived.Test.YtenmiociinogeaaIte5
namespace Go.Proofs.Ytenmiociinogeaa
open Go.RowKit Go.Shelf

attribute [local go_sem] Oper.semAt_some

set_option maxHeartbeats 1000000 in
theorem from_in (F : Fence) (n : Nat) (hF : F.fn 34) (hro : F.round = none) (A : Option Addr) (m c : Nat) (lo : Int) (w : World) :
    CallsIn F n Try.prog 34 #[.slice A m c, .int .i64 lo] w fun e w' => e = .returned (.func (.func 45) #[] #[.pointer (some ⟨w.heap.size, 0, none⟩), .pointer (some ⟨w.heap.size + 1, 0, none⟩)]) ∧
      w' = (w.alloc (.cells #[.slice A m c] 26)).alloc (.cells #[.int .i64 lo] 3) := by
  refine callsIn_of_wp Try.func34 rfl hF ?_ hro
  simp only [Try.ntmps34, List.size_toArray, List.length_cons, List.length_nil, Nat.reduceAdd, Nat.reduceSub, Array.replicate_succ, Array.replicate_zero, List.push_toArray, List.append_toArray, List.nil_append, List.cons_append]
  gi_wp2
  go_ret
  exact ⟨rfl, rfl⟩

set_option maxRecDepth 100000 in
set_option maxHeartbeats 4000000 in
theorem from1_none (n l bl bk : Nat) (A : Option Addr) (c : Nat) (lo : Int) (J : List (Nat × Int) → World → Prop) (W : World) (hn : 1 ≤ n) (hJa : AbidesFrom W.heap.size J)
    (b1 : Bk W bl 26 #[.slice A 0 c]) (b2 : Bk W bk 3 #[.int .i64 lo]) (h0 : J [] W) :
    CallsIn Fence.wide n Try.prog 45 #[.func (.yield l) #[] #[], .pointer (some ⟨bl, 0, none⟩), .pointer (some ⟨bk, 0, none⟩)] W fun e W' => (∃ v, e = .returned v) ∧ J [] W' := by
  have x0 : W.cell? ⟨bl, 0, none⟩ = some (.slice A 0 c) := b1.cell 0
  have x1 : W.cell? ⟨bk, 0, none⟩ = some (.int .i64 lo) := b2.cell 0
  have Hb1 := Lib.hid b1
  have Hb2 := Lib.hid b2
  clear b1 b2
  refine callsIn_of_wp Try.func45 rfl trivial ?_ rfl
  simp only [Try.ntmps45, List.size_toArray, List.length_cons, List.length_nil, Nat.reduceAdd, Nat.reduceSub, Array.replicate_succ, Array.replicate_zero, List.push_toArray, List.append_toArray, List.nil_append, List.cons_append]
  gi_wp2_with fail
  gi_cut [12, 13, 14] from 8 (fun s12 s13 s14 wx => (∃ A' c', s12 = .slice A' 0 c') ∧ s13 = .int .i64 0 ∧ s14 = .int .i64 0 ∧ J [] wx)
  case first =>
    first | gi_region_with (first
      | (refine ⟨trivial, ?_⟩
         gi_at_call 37
         refine (callsIn_wide.2 (home_none A c lo _)).mono ?_
         rintro e w1 ⟨rfl, f1⟩
         have F1 := ((Fr.refl No W).drew).trans' f1 (fun _ _ e => e)
         have y0 : w1.cell? ⟨bl, 0, none⟩ = some (.slice A 0 c) := (Hb1.out.fr F1 (fun e => e)).cell 0
         have y1 : w1.cell? ⟨bk, 0, none⟩ = some (.int .i64 lo) := (Hb2.out.fr F1 (fun e => e)).cell 0)) | fail
    all_goals
      have hJ1 := hJa _ _ w1 none h0 F1.grownBy (fun r e => by cases e)
      gi_wp2
      gi_meet
      exact ⟨⟨_, _, rfl⟩, rfl, rfl, hJ1⟩
  case rest =>
    obtain ⟨⟨A', c', rfl⟩, rfl, rfl, hJ0⟩ := hcut
    gi_wp2
    gi_loopw [14] (fun iv wr => iv = .int .i64 0 ∧ J [] wr) (fun _ _ => 0)
    case atStart => exact ⟨rfl, hJ0⟩
    case round =>
      obtain ⟨rfl, hJ⟩ := hrel
      gi_wp2
      go_end0
      exact ⟨⟨_, rfl⟩, hJ⟩

section
variable {w : World} {S : Nat → Prop} {q o c : Nat} {hs : List Pgh} {P : List Pg}
theorem from_stops (n B bl bk : Nat) (lo : Int) (hi : InvP P) (hne : P ≠ []) (hn : 1 ≤ n) (hBW : B ≤ w.heap.size) (hSB : ∀ k, S k → k < B) (h : LsN w S q o c hs P)
    (b1 : Bk w bl 26 #[.slice (some ⟨q, o, none⟩) hs.length c]) (b2 : Bk w bk 3 #[.int .i64 lo]) :
    SeqStopsK Fence.wide n Try.prog 45 #[.pointer (some ⟨bl, 0, none⟩), .pointer (some ⟨bk, 0, none⟩)] encP (KpN B) (fun ys => ys = fromP P.flatten lo) (fun pre => pre <+: fromP P.flatten lo) (fromP P.flatten lo).length w := fun l J Jx W hW hJ _ hY h0 =>
  from1_in n l B bl bk S q o c hs P lo hi hne J Jx W hn hJ (Nat.le_trans hBW hW.size) hSB hY (h.fr (Fr.ofBelow hW (fun _ => False)) (fun _ _ e => e)) ((hW.block bl b1.lt).trans b1) ((hW.block bk b2.lt).trans b2) h0
theorem from_stops0 (n B bl bk : Nat) (A : Option Addr) (lo : Int) (hn : 1 ≤ n) (b1 : Bk w bl 26 #[.slice A 0 c]) (b2 : Bk w bk 3 #[.int .i64 lo]) :
    SeqStopsK Fence.wide n Try.prog 45 #[.pointer (some ⟨bl, 0, none⟩), .pointer (some ⟨bk, 0, none⟩)] encP (KpN B) (fun ys => ys = fromP [] lo) (fun pre => pre <+: fromP [] lo) (fromP [] lo).length w := fun l J _ W hW hJ _ _ h0 =>
  (from1_none n l bl bk A c lo J W hn hJ ((hW.block bl b1.lt).trans b1) ((hW.block bk b2.lt).trans b2) h0).mono (fun _ _ ⟨h1, h2⟩ => ⟨h1, .inl ⟨_, rfl, h2⟩⟩)

theorem bk_own {β : Type} (B g : Nat) (t : TypeId) (cs : Array Value) : OwnFrom B (fun (_ : β) W => Bk W g t cs) := fun _ X Y row hs hg hr =>
  hs.grown hg (fun e => by
    obtain ⟨-, o, ho, hc⟩ := hr g e
    rw [show X.heap[g]? = _ from hs] at ho
    cases ho
    cases hc)
theorem row_own {β : Type} (B n₀ : Nat) (e : TypeId) (size : Nat) (v : Value) (n : Nat) (xs : List Value) : OwnFrom B (fun (_ : β) W => W.ownsRow n₀ e size v n xs) := fun _ X Y row hs hg hr => by
  refine hs.kept hg ?_
  rcases hs.2 with ⟨rfl, _⟩ | ⟨g, cap, cur, rfl, _, hgb, _⟩
  · exact .inl rfl
  · refine .inr fun e' => ?_
    obtain ⟨-, o, ho, hc⟩ := hr g (by simpa [Value.ownBlock] using e'.symm)
    rw [show X.heap[g]? = _ from hgb] at ho
    cases ho
    cases hc

/-- What has come into the list of a scan. -/
def ScI (w : World) (Bl Bh : Nat) (hi' : Int) (pre : List (Nat × Int)) (W : World) : Prop :=
  (∃ v, Boxed W Bl 47 v ∧ W.ownsRow w.heap.size 50 2 v pre.length (prs pre)) ∧ Boxed W Bh 3 (.int .i64 hi') ∧ Below w.heap.size w W
theorem ScI.own (w : World) (Bl Bh : Nat) (hi' : Int) (B : Nat) (hB : w.heap.size ≤ B) : OwnFrom B (ScI w Bl Bh hi') := by
  intro pre X Y row ⟨⟨v, h1, h2⟩, h3, h4⟩ hg hr
  exact ⟨⟨v, bk_own B Bl _ #[v] () X Y row h1 hg hr, row_own B w.heap.size _ 2 v _ _ () X Y row h2 hg hr⟩, bk_own B Bh _ #[.int .i64 hi'] () X Y row h3 hg hr, ownFrom_below (β := Unit) (Nat.le_refl _) hB () X Y row h4 hg hr⟩
theorem scan_from (l : List (Nat × Int)) (lo hi' : Int) : scanP l lo hi' = (fromP l lo).filter fun x => decide ((x.1 : Int) ≤ hi') := by
  unfold scanP fromP
  rw [List.filter_filter]
  congr 1
  funext x
  rw [Bool.and_comm]
theorem scan_done {L : List (Nat × Int)} {hi' : Int} (h : ∀ x ∈ L, (x.1 : Int) ≤ hi') : (L.filter fun x => decide ((x.1 : Int) ≤ hi')) = L := List.filter_eq_self.2 (fun x hx => by simpa using h x hx)
theorem scan_stop {L : List (Nat × Int)} {hi' : Int} (hr : Rise L) {pre : List (Nat × Int)} {x : Nat × Int} (hp : pre ++ [x] <+: L) (h : ∀ y ∈ pre, (y.1 : Int) ≤ hi') (hx : hi' < (x.1 : Int)) : (L.filter fun x => decide ((x.1 : Int) ≤ hi')) = pre := by
  obtain ⟨r, rfl⟩ := hp
  obtain ⟨-, -, h3⟩ := Rise.app hr
  rw [List.append_assoc, List.filter_append, scan_done h]
  have : (([x] ++ r).filter fun x => decide ((x.1 : Int) ≤ hi')) = [] := by
    rw [List.filter_eq_nil_iff]
    intro y hy
    simp only [List.cons_append, List.nil_append, List.mem_cons] at hy
    rcases hy with rfl | hy
    · simpa using hx
    · have := h3 x (by simp) y hy
      simp
      omega
  rw [this, List.append_nil]

/-- How the iterator of a store gives its pairs. -/
def Stops (w : World) (lo : Int) (L : List (Nat × Int)) (A : Option Addr) (n c : Nat) : Prop :=
  ∀ W bl bk, Fr No w W → Bk W bl 26 #[.slice A n c] → Bk W bk 3 #[.int .i64 lo] →
    SeqStopsK Fence.wide 2 Try.prog 45 #[.pointer (some ⟨bl, 0, none⟩), .pointer (some ⟨bk, 0, none⟩)] encP (KpN w.heap.size) (fun ys => ys = L) (fun pre => pre <+: L) L.length W

set_option maxRecDepth 100000 in
set_option maxHeartbeats 4000000 in
theorem scan_wide (p : Option Addr) (lo hi' : Int) (L : List (Nat × Int)) (A : Option Addr) (n c : Nat) (hL : L.length ≤ 1000) (hr : Rise L)
    (hal : ∀ W, Fr No w W → Calls Try.prog 33 #[.pointer p] W fun e w' => e = .returned (.slice A n c) ∧ w' = W) (hst : Stops w lo L A n c) :
    Calls Try.prog 19 #[.pointer p, .int .i64 lo, .int .i64 hi'] w fun e w' => ∃ B cb, e = .returned (.slice B (L.filter fun x => decide ((x.1 : Int) ≤ hi')).length cb) ∧ Sl w' w'.heap.size B (prs (L.filter fun x => decide ((x.1 : Int) ≤ hi'))) ∧ Fr No w w' := by
  refine (callsIn_wide (n := 3)).1 ?_
  have h1 : 1 ≤ 3 := by omega
  obtain ⟨i0, hi, hz0, hz1, hz2⟩ := info_parts info_pair
  have f0 := ((Fr.refl No w).alloc (.cells #[.int .i64 hi'] 3)).alloc (.cells #[.slice none 0 0] 47)
  have q := hal _ f0
  refine callsIn_of_wp_marks Try.func19 rfl trivial ?_ rfl
  simp only [Try.ntmps19, List.size_toArray, List.length_cons, List.length_nil, Nat.reduceAdd, Nat.reduceSub, Array.replicate_succ, Array.replicate_zero, List.push_toArray, List.append_toArray, List.nil_append, List.cons_append]
  gi_wp2_with (first
    | (refine ⟨trivial, ?_⟩; gi_at_call 33; refine (callsIn_wide.2 q).mono ?_; rintro e w1 ⟨rfl, rfl⟩)
    | (refine ⟨trivial, ?_⟩; gi_at_call 34; refine (from_in Fence.wide _ trivial rfl _ _ _ _ _).mono ?_; rintro e w' ⟨rfl, rfl⟩))
  obtain ⟨W0, hW0⟩ : ∃ W0, W0 = ((((w.alloc (.cells #[.int .i64 hi'] 3)).alloc (.cells #[.slice none 0 0] 47)).alloc (.cells #[.slice A n c] 26)).alloc (.cells #[.int .i64 lo] 3)) := ⟨_, rfl⟩
  have hsz : W0.heap.size = w.heap.size + 4 := by rw [hW0]; simp
  have hF0 : Fr No w W0 := by rw [hW0]; exact (f0.alloc _).alloc _
  have bH : Boxed W0 w.heap.size 3 (.int .i64 hi') := by rw [hW0]; exact (((Boxed.new w _ _).alloc _).alloc _).alloc _
  have bL : Boxed W0 (w.heap.size + 1) 47 (.slice none 0 0) := by rw [hW0]; exact (Boxed.alloc (Boxed.alloc (Bk.made1 w _ _ _) _) _)
  have b1 : Bk W0 (w.heap.size + 1 + 1) 26 #[.slice A n c] := by
    rw [hW0]
    have := (Bk.made1 (w.alloc (.cells #[.int .i64 hi'] 3)) (.cells #[.slice none 0 0] 47) 26 #[.slice A n c]).alloc (.cells #[.int .i64 lo] 3)
    rwa [World.size_alloc] at this
  have b2 : Bk W0 (w.heap.size + 1 + 1 + 1) 3 #[.int .i64 lo] := by
    rw [hW0]
    have := Bk.made1 ((w.alloc (.cells #[.int .i64 hi'] 3)).alloc (.cells #[.slice none 0 0] 47)) (.cells #[.slice A n c] 26) 3 #[.int .i64 lo]
    rwa [World.size_alloc, World.size_alloc] at this
  have hB0 : w.heap.size ≤ W0.heap.size := by omega
  rw [← hW0]
  clear hW0 q f0
  refine wpIn_rangeFunc_ownH rfl h1 (gf := 45) (lb := #[.pointer (some ⟨w.heap.size + 1 + 1, 0, none⟩), .pointer (some ⟨w.heap.size + 1 + 1 + 1, 0, none⟩)]) rfl trivial (enters_of Try.func45 (by kernel_rfl) rfl)
    (hst W0 (w.heap.size + 1 + 1) (w.heap.size + 1 + 1 + 1) hF0 b1 b2) KpN.trans (KpN.putObj hB0) (Below.refl _ _) (fun _ => rfl)
    (fun pre W => (∀ y ∈ pre, (y.1 : Int) ≤ hi') ∧ ScI w (w.heap.size + 1) w.heap.size hi' pre W)
    (fun cd pre W => cd = .exit 0 ∧ ∃ pre0 x, pre = pre0 ++ [x] ∧ hi' < (x.1 : Int) ∧ (∀ y ∈ pre0, (y.1 : Int) ≤ hi') ∧ ScI w (w.heap.size + 1) w.heap.size hi' pre0 W)
    (OwnFrom.and (ownFrom_pure _ _) (ScI.own _ _ _ _ _ hB0))
    (fun cd pre X Y row hs hg hr => by
      obtain ⟨e, pre0, x, a1, a2, a3, a4⟩ := hs
      exact ⟨e, pre0, x, a1, a2, a3, ScI.own _ _ _ _ _ hB0 pre0 X Y row a4 hg hr⟩)
    ⟨(fun y hy => by cases hy), ⟨_, bL, World.ownsRow_nil _ _ _ _⟩, bH, hF0.below0⟩
    (fun x a' W => ∃ Bx, w.heap.size + 1 < Bx ∧ Bk W Bx 50 #[.int .i64 (x.1 : Int), .int .i64 x.2] ∧ a' = { tmps := #[.pointer p, .int .i64 lo, .int .i64 hi', undef, undef,
          .pointer (some ⟨w.heap.size, 0, none⟩), .slice none 0 0, .pointer (some ⟨w.heap.size + 1, 0, none⟩), .pointer (some ⟨Bx, 0, none⟩), .pointer p, .slice A n c, .int .i64 lo,
          .func (.func 45) #[] #[.pointer (some ⟨w.heap.size + 1 + 1, 0, none⟩), .pointer (some ⟨w.heap.size + 1 + 1 + 1, 0, none⟩)], .agg #[.int .i64 (x.1 : Int), .int .i64 x.2], undef, undef, undef, undef, undef, undef, undef, undef, undef], defers := [] })
    (fun x a' _ X Y row hs hg hr => by
      obtain ⟨Bx, a1, a2, a3⟩ := hs
      exact ⟨Bx, a1, bk_own _ Bx _ _ () X Y row a2 hg hr, a3⟩)
    ?assign ?body ?done ?stop
  case assign =>
    rintro l pre x W K ⟨hle, ⟨v, hv, hrow⟩, hb, hB⟩ hK
    have hx0 : Bk (W.alloc (.cells #[.int .i64 (x.1 : Int), .int .i64 x.2] 50)) W.heap.size 50 #[.int .i64 (x.1 : Int), .int .i64 x.2] := Bk.made W _ _
    have hlt := hv.lt
    unfold encP
    gi_wp2
    exact hK _ _ ((KeepsOthers.alloc _ _).from _) ((KpN.refl _ W).alloc hB.size _) ⟨hle, ⟨v, hv.alloc _, hrow.alloc _⟩, hb.alloc _, hB.alloc hB.size _⟩ ⟨W.heap.size, by omega, hx0, rfl⟩
  case body =>
    rintro l pre ⟨xk, xv⟩ a' W hl ⟨r, hr⟩ ⟨hle, ⟨v, hv, hrow⟩, hb, hB⟩ ⟨Bx, hBx, hbx, rfl⟩ hlt
    have hc := hv.cell
    have hch := hb.cell
    have y0 : W.cell? ⟨Bx, 0, none⟩ = some (.int .i64 (xk : Int)) := hbx.cell 0
    have y1 : W.cell? ⟨Bx, 1, none⟩ = some (.int .i64 xv) := hbx.cell 1
    have hpl : pre.length ≤ 1000 := by omega
    by_cases hgt : hi' < (xk : Int)
    · have hX : Hid (∃ pre0 x, pre ++ [(xk, xv)] = pre0 ++ [x] ∧ hi' < (x.1 : Int) ∧ (∀ y ∈ pre0, (y.1 : Int) ≤ hi') ∧ ScI w (w.heap.size + 1) w.heap.size hi' pre0 W) := Lib.hid ⟨pre, (xk, xv), rfl, hgt, hle, ⟨v, hv, hrow⟩, hb, hB⟩
      clear hle hv hrow hb hB hbx
      gi_wp2
      exact ⟨(KeepsOthers.refl _).from _, rfl, hX.out⟩
    · have HL2 : Hid (∀ y ∈ pre ++ [(xk, xv)], (y.1 : Int) ≤ hi') := Lib.hid (fun y hy => by
        rcases List.mem_append.1 hy with hy | hy
        · exact hle y hy
        · rw [List.mem_singleton.1 hy]
          show (xk : Int) ≤ hi'
          omega)
      gi_wp2_with (gi_at_builtin; refine wpListIn_append_own _ rfl _ _ 47 rfl w.heap.size 50 i0 (.agg #[.int .i64 0, .int .i64 0]) 2 16 Try.underlying47 hi hz0 hz1 hz2 rfl (by decide) _ _ _ rfl (hrow.alloc _) ⟨W.heap.size, 0, none⟩ 1 1 [.int .i64 (xk : Int), .int .i64 xv] rfl rfl (World.news_of_block (Bk.made W 50 #[.int .i64 (xk : Int), .int .i64 xv])) (by intro u hu; simp at hu; rcases hu with rfl | rfl <;> rfl) (by unfold maxLen; omega) (by omega) (by have := hB.size; simp; omega) ?_; intro v' w2 hown' hgrow _; obtain ⟨g', cap', rfl⟩ := ownsRow_succ hown'; obtain ⟨hv1, hv2, hr2, hk2, hb2⟩ := hv.appended (by decide) hrow hB.size (by omega) hown' hgrow; have hc1 := hv1.cell; have hf1 := hv1.frozen)
      have hneB : ∀ k, v.ownBlock = some k → ∀ g t cs, (t = 26 ∨ t = 3) → Bk W g t cs → g ≠ k := fun k hk g t cs ht hbk e => own_apart hrow hbk (by rcases ht with rfl | rfl <;> decide) (e ▸ hk)
      have hKp : KpN w.heap.size W (w2.setCell ⟨w.heap.size + 1, 0, none⟩ (.slice (some ⟨g', 0, none⟩) (pre.length + 1) cap')) := ⟨hb2, fun g t cs ht hbk => by
        have hne : g ≠ w.heap.size + 1 := Bk.apart hbk hv (by rcases ht with rfl | rfl <;> decide)
        refine Bk.setCell_other (Bk.grown (hbk.alloc (.cells #[.int .i64 (xk : Int), .int .i64 xv] 50)) hgrow ?_) hne _
        exact own_apart hrow hbk (by rcases ht with rfl | rfl <;> decide)⟩
      refine ⟨hk2.from _, hKp, by first | exact HL2.out | simpa using HL2.out, ⟨_, hv2, ?_⟩, ?_, hB.trans hb2⟩
      · have e : (pre ++ [(xk, xv)]).length = pre.length + 1 := by simp
        rw [prs_app, e]
        exact hr2
      · exact hKp.2 _ _ _ (.inr rfl) hb
  case done =>
    rintro D zs W hD rfl ⟨hle, ⟨v, hv, hrow⟩, hb, hB⟩ hK
    have hc := hv.cell
    obtain ⟨A', c', rfl, -, -, -⟩ := own_shape hrow
    have Hsd := Lib.hid (scan_done hle)
    have HF := Lib.hid (fun o' => hB.trans (belowK_b (w := w) (Nat.le_refl _) W D _ o' (by omega) hK rfl rfl))
    have Hsl := Lib.hid (fun o' => Sl.ofOwn (ownsRow_putObj hrow o' hK rfl))
    clear hle hB hv hb
    gi_wp2
    refine ⟨by simp, .inl ⟨_, _, rfl, run_takeDeferred hK, ?_⟩⟩
    exact ⟨_, results_tmp rfl _ _ _, A', c', by rw [Hsd.out]; rfl, by rw [Hsd.out]; exact Hsl.out _, Fr.ofBelow (HF.out _) _⟩
  case stop =>
    rintro D cd pre W hD hpre ⟨rfl, pre0, x, rfl, hx, hle, ⟨v, hv, hrow⟩, hb, hB⟩ hK
    have hc := hv.cell
    obtain ⟨A', c', rfl, -, -, -⟩ := own_shape hrow
    have Hsd := Lib.hid (scan_stop hr hpre hle hx)
    have HF := Lib.hid (fun o' => hB.trans (belowK_b (w := w) (Nat.le_refl _) W D _ o' (by omega) hK rfl rfl))
    have Hsl := Lib.hid (fun o' => Sl.ofOwn (ownsRow_putObj hrow o' hK rfl))
    clear hle hB hv hb hpre hx
    gi_wp2
    refine ⟨by simp, .inl ⟨_, _, rfl, run_takeDeferred hK, ?_⟩⟩
    exact ⟨_, results_tmp rfl _ _ _, A', c', by rw [Hsd.out]; rfl, by rw [Hsd.out]; exact Hsl.out _, Fr.ofBelow (HF.out _) _⟩
end
end Go.Proofs.Ytenmiociinogeaa
