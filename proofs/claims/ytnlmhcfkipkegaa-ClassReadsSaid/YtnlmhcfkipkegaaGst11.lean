/- Package class: a step that is read; what stands while a class is read. -/
import Derived.Deep.RegionLaw
import Derived.Test.YtnlmhcfkipkegaaRdq11
import Derived.Test.YtnlmhcfkipkegaaGtf10
import Derived.Test.YtnlmhcfkipkegaaPrs11
import Derived.Test.YtnlmhcfkipkegaaMy11
namespace Go.Proofs.Ytnlmhcfkipkegaa
open Go.RowKit

theorem step_append_elem {P : Program} {w : World} {ops : Array Oper} {o : Oper} {a : Act} {K : Act → World → Prop} {Q : Exit → Act → World → Prop} {E : Prop} (hgd : o.guard = none) (s x : Operand) (t : TypeId)
    (ho : o.op = .call { callee := .builtin .append, args := #[s, x], argTypes := #[t, t] })
    (base : Nat) (e : TypeId) (z : Value) (size bytes : Nat) (ht : P.underlying t = some (.slice e)) (hinfo : (P.info? e).map (fun i => (i.zero, i.size, i.bytes)) = some (some z, size, bytes)) (hzs : z.cells.size = size) (hsz : 0 < size)
    (v : Value) (n : Nat) (xs : List Value) (us : Array Value) (hus : us.size = size) (hu : ∀ u ∈ us.toList, u.oneCell' = true) (hs : a.eval s = v) (H : Nat) (hH : w.heap.size = H) (hx : a.eval x = .slice (some ⟨H, 0, none⟩) 1 1) (hown : w.ownsRow base e size v n xs)
    (h63 : n + 1 ≤ maxLen) (hbytes : (n + 1) * bytes ≤ 140737488355328) (hbase : base ≤ w.heap.size)
    (h : ∀ A' c' w', w'.ownsRow base e size (.slice A' (n + 1) c') (n + 1) (xs ++ us.toList) → Fr (fun k => v.ownBlock = some k) w w' →
      ((Value.slice A' (n + 1) c').ownBlock = v.ownBlock ∨ ∃ k, (Value.slice A' (n + 1) c').ownBlock = some k ∧ w.heap.size ≤ k) → K (a.put o.dst (.slice A' (n + 1) c')) w') :
    if Region.wanted o (yielded ops a.tmps) = true then Oper.wp P o a (w.alloc (.cells us e)) K Q else E := by
  subst hH
  obtain ⟨i, hi, hz, hz1, hz2⟩ := info_parts hinfo
  refine step_append_src _ hgd s x t ho base e i z size bytes ht hi hz hz1 hz2 hzs hsz v n xs hs (hown.alloc _) (w.heap.size + 1) _ 1 1 us.toList hx (by simp [hus]) (Sl.made w e us) hu h63 hbytes (by simp; omega) ?_
  intro v' w' q1 q2 q3
  obtain ⟨A', c', rfl, -, -, -⟩ := own_shape q1
  refine h A' c' w' q1 (((Fr.refl _ w).alloc _).grown q2 (fun k hk => .inl hk)) ?_
  rcases q3 with q3 | q3
  · exact .inl q3
  · exact .inr ⟨_, q3, by simp⟩

variable {G : Nat → Prop}
/-- A step that was read. -/
def GotS (G : Nat → Prop) (w : World) (p : Nat) (st : Option (List Nat)) (e : Ending) (w' : World) : Prop :=
  ∃ s : Stp, e = .returned s.agg ∧ s.p = pV st ∧ s.Own w' w.heap.size ∧ Rdq G w' p (pS st) ∧ Fr (Only p) w w'
set_option maxHeartbeats 2000000 in
theorem getStep_any (p : Nat) (st : Option (List Nat)) (w : World) (hr : Rdq G w p st) (hG : ∀ k, G k → k < w.heap.size) : Calls Try.prog 41 #[.pointer (some ⟨p, 0, none⟩)] w (GotS G w p st) := by
  have hpl := hr.lt
  have f0 : Fr No w (w.alloc (.cells #[.slice none 0 0, .slice none 0 0] 55)) := (Fr.refl _ _).alloc _
  have b0 := Bk.made w 55 #[.slice none 0 0, .slice none 0 0]
  have C1 := Lib.hid (get_own p st _ (hr.frG f0 (fun e => e) (fun _ _ e => e)) (fun k hk => by have := hG k hk; simp; omega))
  have HG := Lib.hid hG
  clear hr hG
  go_enter Try.func41, Try.ntmps41
  go_wp2_with fail
  refine (C1.out).mono ?_
  rintro e w1 ⟨A1, c1, rfl, o1, r1, f1⟩
  obtain ⟨t1, ht1⟩ : ∃ z, Hid (z = gotL st) := ⟨_, Lib.hid rfl⟩
  obtain ⟨p1, hp1⟩ : ∃ z, Hid (z = gotS st) := ⟨_, Lib.hid rfl⟩
  rw [← ht1.out] at o1 ⊢
  rw [← hp1.out] at r1
  have b1 := b0.fr f1 (fun e => by have e : w.heap.size = p := e; omega)
  have hs1 := f1.size
  simp at hs1
  have C2 := Lib.hid (get10_own p p1 w1 r1 (fun k hk => by have := HG.out k hk; omega))
  have O1 := Lib.hid o1
  have F1 := Lib.hid ((f0.weak (S' := Only p) (fun _ _ h => h.elim)).trans' f1 (fun _ _ h => h))
  have B1 := Lib.hid b1
  clear r1 f1 o1 b1 b0 C1 f0
  go_wp2_with fail
  refine (C2.out).mono ?_
  rintro e w2 ⟨A2, c2, rfl, o2, r2, f2⟩
  obtain ⟨t2, ht2⟩ : ∃ z, Hid (z = gotFL p1) := ⟨_, Lib.hid rfl⟩
  obtain ⟨p2, hp2⟩ : ∃ z, Hid (z = gotFS p1) := ⟨_, Lib.hid rfl⟩
  rw [← ht2.out] at o2 ⊢
  rw [← hp2.out] at r2
  have b2 := B1.out.fr f2 (fun e => by have e : w.heap.size = p := e; omega)
  have l2 := b2.lt
  have x0 := b2.cell 0
  have x1 := b2.cell 1
  have z0 := b2.frozen 0
  have z1 := b2.frozen 1
  simp at x0 x1
  have fX : Fr (Only w.heap.size) w2 ((w2.setCell ⟨w.heap.size, 0, none⟩ (.slice A1 t1.length c1)).setCell ⟨w.heap.size, 1, none⟩ (.slice A2 t2.length c2)) := ((Fr.refl (Only w.heap.size) w2).setCell (p := ⟨w.heap.size, 0, none⟩) (.inl rfl) _).setCell (p := ⟨w.heap.size, 1, none⟩) (.inl rfl) _
  have hO : (⟨A1, t1, c1, A2, t2, c2⟩ : Stp).Own w2 w.heap.size := ⟨own_fr (own_weak O1.out (by simp)) f2 (fun i hi e => by have e : i = p := e; have := (O1.out.lt i hi).1; simp at this; omega), own_weak o2 (by omega)⟩
  have HFin : Hid (GotS G w p st (.returned (.agg #[.slice A1 t1.length c1, .slice A2 t2.length c2])) ((w2.setCell ⟨w.heap.size, 0, none⟩ (.slice A1 t1.length c1)).setCell ⟨w.heap.size, 1, none⟩ (.slice A2 t2.length c2))) := Lib.hid (by
    refine ⟨⟨A1, t1, c1, A2, t2, c2⟩, rfl, ?_, hO.var fX b2, ?_, (F1.out.trans' f2 (fun _ _ h => h)).trans' fX (fun i hi e => by have e : i = w.heap.size := e; omega)⟩
    · simp [Stp.p, pV, ht1.out, ht2.out, hp1.out]
    · have e1 : pS st = p2 := by rw [pS, hp2.out, hp1.out]
      rw [e1]
      exact r2.frG fX (fun e => by have e : p = w.heap.size := e; omega) (fun k hk e => by have e : k = w.heap.size := e; have := HG.out k hk; omega))
  have b3 : Bk ((w2.setCell ⟨w.heap.size, 0, none⟩ (.slice A1 t1.length c1)).setCell ⟨w.heap.size, 1, none⟩ (.slice A2 t2.length c2)) w.heap.size 55 #[.slice A1 t1.length c1, .slice A2 t2.length c2] := (b2.put 0 _).put 1 _
  have B3 := Lib.hid b3
  clear o2 r2 f2 b2 fX hO b3 C2
  go_wp2
  have m0 := B3.out.cell 0
  have m1 := B3.out.cell 1
  simp at m0 m1
  exact bodyPost_ret (v := .agg #[.slice A1 t1.length c1, .slice A2 t2.length c2]) (by simp [results, Try.results41, go_sem, m0, m1]) rfl HFin.out

/-- What stands while the steps of a class are read: the class, its two rows, the reader. -/
structure K11 (G : Nat → Prop) (w0 w : World) (C p : Nat) (nm : ByteArray) (a : Int) (sA : Option Addr) (sc : Nat) (uA : Option Addr) (uc : Nat) (ss us : List Stp) (k j : Nat) (st : Option (List Nat)) : Prop where
  res : Bk w w0.heap.size 31 #[.string ⟨#[]⟩, .int .i64 0, .slice none 0 0, .slice none 0 0, .bool false]
  cls : Bk w C 31 #[.string nm, .int .i64 a, .slice sA k sc, .slice uA j uc, .bool false]
  own1 : w.ownsRow w0.heap.size 55 2 (.slice sA k sc) k (ss.flatMap Stp.cells)
  own2 : w.ownsRow w0.heap.size 55 2 (.slice uA j uc) j (us.flatMap Stp.cells)
  apart : ∀ i, (Value.slice sA k sc).ownBlock = some i → (Value.slice uA j uc).ownBlock ≠ some i
  in1 : ∀ s ∈ ss, s.Own w w0.heap.size
  in2 : ∀ s ∈ us, s.Own w w0.heap.size
  rr : Rdq G w p st
  fr : Fr (Only p) w0 w
  hC : w0.heap.size < C
variable {w0 w w' : World} {C p k j sc uc : Nat} {nm : ByteArray} {a : Int} {sA uA : Option Addr} {ss us : List Stp} {st st' : Option (List Nat)} {x y : Stp}
theorem K11.call (h : K11 G w0 w C p nm a sA sc uA uc ss us k j st) (hp : p < w0.heap.size) (hf : Fr (Only p) w w') (hr : Rdq G w' p st') : K11 G w0 w' C p nm a sA sc uA uc ss us k j st' := by
  have hC := h.hC
  exact ⟨h.res.fr hf (fun e => by have e : w0.heap.size = p := e; omega), h.cls.fr hf (fun e => by have e : C = p := e; omega), own_fr h.own1 hf (fun i hi e => by have e : i = p := e; have := (h.own1.lt i hi).1; omega), own_fr h.own2 hf (fun i hi e => by have e : i = p := e; have := (h.own2.lt i hi).1; omega), h.apart, fun s hs => (h.in1 s hs).call hf hp, fun s hs => (h.in2 s hs).call hf hp, hr, h.fr.trans' hf (fun _ _ e => e), hC⟩
theorem K11.quiet (h : K11 G w0 w C p nm a sA sc uA uc ss us k j st) (hf : Fr No w w') : K11 G w0 w' C p nm a sA sc uA uc ss us k j st :=
  ⟨h.res.fr hf (fun e => e), h.cls.fr hf (fun e => e), own_fr h.own1 hf (fun _ _ e => e), own_fr h.own2 hf (fun _ _ e => e), h.apart, fun s hs => (h.in1 s hs).quiet hf, fun s hs => (h.in2 s hs).quiet hf, h.rr.frG hf (fun e => e) (fun _ _ e => e), h.fr.trans' hf (fun _ _ e => e.elim), h.hC⟩
/-- A step more. -/
theorem K11.appS {A : Option Addr} {c : Nat} (h : K11 G w0 w C p nm a sA sc uA uc ss us k j st) (hp : p < w0.heap.size) (hG : ∀ k, G k → k < w0.heap.size) (hx : x.Own w w0.heap.size) (ho : w'.ownsRow w0.heap.size 55 2 (.slice A (k + 1) c) (k + 1) (ss.flatMap Stp.cells ++ x.cells)) (hf : Fr (fun i => (Value.slice sA k sc).ownBlock = some i) w w')
    (hg : (Value.slice A (k + 1) c).ownBlock = (Value.slice sA k sc).ownBlock ∨ ∃ i, (Value.slice A (k + 1) c).ownBlock = some i ∧ w.heap.size ≤ i) :
    Bk w' C 31 #[.string nm, .int .i64 a, .slice sA k sc, .slice uA j uc, .bool false] ∧ K11 G w0 (w'.setCell ⟨C, 2, none⟩ (.slice A (k + 1) c)) C p nm a A c uA uc (ss ++ [x]) us (k + 1) j st := by
  have hC := h.hC
  have hX : Fr (Only C) w' (w'.setCell ⟨C, 2, none⟩ (.slice A (k + 1) c)) := (Fr.refl (Only C) w').setCell (p := ⟨C, 2, none⟩) (.inl rfl) _
  have hc := h.cls.fr hf (fun e => own_apart h.own1 h.cls (by decide) e)
  have hr := h.res.fr hf (fun e => own_apart h.own1 h.res (by decide) e)
  have h2 := own_fr h.own2 hf (fun i hi e => h.apart i e hi)
  have ho2 : w'.ownsRow w0.heap.size 55 2 (.slice A (k + 1) c) (k + 1) ((ss ++ [x]).flatMap Stp.cells) := by simpa using ho
  refine ⟨hc, hr.fr hX (fun e => by have e : w0.heap.size = C := e; omega), hc.put 2 _, own_fr ho2 hX (fun i hi e => by have e : i = C := e; subst e; exact own_apart ho2 hc (by decide) hi), own_fr h2 hX (fun i hi e => by have e : i = C := e; subst e; exact own_apart h2 hc (by decide) hi), fun i hi e => ?_, fun s hs => ?_, fun s hs => ((h.in2 s hs).row hf h.own1).varC hX hc, (h.rr.frG hf (fun e => by have := (h.own1.lt _ e).1; omega) (fun i hi e => by have := (h.own1.lt _ e).1; have := hG i hi; omega)).frG hX (fun e => by have e : p = C := e; omega) (fun i hi e => by have e : i = C := e; have := hG i hi; omega), (h.fr.trans' hf (fun i hi e => by have := (h.own1.lt _ e).1; omega)).trans' hX (fun i hi e => by have e : i = C := e; omega), hC⟩
  · rcases hg with hg | ⟨l, hg, hl⟩
    · rw [hg] at hi
      exact h.apart i hi e
    · rw [hg] at hi
      injection hi with hi
      have := (h.own2.lt _ e).2
      omega
  · rw [List.mem_append, List.mem_singleton] at hs
    rcases hs with hs | rfl
    · exact ((h.in1 s hs).row hf h.own1).varC hX hc
    · exact (hx.row hf h.own1).varC hX hc
theorem K11.appU {A : Option Addr} {c : Nat} (h : K11 G w0 w C p nm a sA sc uA uc ss us k j st) (hp : p < w0.heap.size) (hG : ∀ k, G k → k < w0.heap.size) (hx : x.Own w w0.heap.size) (ho : w'.ownsRow w0.heap.size 55 2 (.slice A (j + 1) c) (j + 1) (us.flatMap Stp.cells ++ x.cells)) (hf : Fr (fun i => (Value.slice uA j uc).ownBlock = some i) w w')
    (hg : (Value.slice A (j + 1) c).ownBlock = (Value.slice uA j uc).ownBlock ∨ ∃ i, (Value.slice A (j + 1) c).ownBlock = some i ∧ w.heap.size ≤ i) :
    Bk w' C 31 #[.string nm, .int .i64 a, .slice sA k sc, .slice uA j uc, .bool false] ∧ K11 G w0 (w'.setCell ⟨C, 3, none⟩ (.slice A (j + 1) c)) C p nm a sA sc A c ss (us ++ [x]) k (j + 1) st := by
  have hC := h.hC
  have hX : Fr (Only C) w' (w'.setCell ⟨C, 3, none⟩ (.slice A (j + 1) c)) := (Fr.refl (Only C) w').setCell (p := ⟨C, 3, none⟩) (.inl rfl) _
  have hc := h.cls.fr hf (fun e => own_apart h.own2 h.cls (by decide) e)
  have hr := h.res.fr hf (fun e => own_apart h.own2 h.res (by decide) e)
  have h2 := own_fr h.own1 hf (fun i hi e => h.apart i hi e)
  have ho2 : w'.ownsRow w0.heap.size 55 2 (.slice A (j + 1) c) (j + 1) ((us ++ [x]).flatMap Stp.cells) := by simpa using ho
  refine ⟨hc, hr.fr hX (fun e => by have e : w0.heap.size = C := e; omega), hc.put 3 _, own_fr h2 hX (fun i hi e => by have e : i = C := e; subst e; exact own_apart h2 hc (by decide) hi), own_fr ho2 hX (fun i hi e => by have e : i = C := e; subst e; exact own_apart ho2 hc (by decide) hi), fun i hi e => ?_, fun s hs => ((h.in1 s hs).row hf h.own2).varC hX hc, fun s hs => ?_, (h.rr.frG hf (fun e => by have := (h.own2.lt _ e).1; omega) (fun i hi e => by have := (h.own2.lt _ e).1; have := hG i hi; omega)).frG hX (fun e => by have e : p = C := e; omega) (fun i hi e => by have e : i = C := e; have := hG i hi; omega), (h.fr.trans' hf (fun i hi e => by have := (h.own2.lt _ e).1; omega)).trans' hX (fun i hi e => by have e : i = C := e; omega), hC⟩
  · rcases hg with hg | ⟨l, hg, hl⟩
    · rw [hg] at e
      exact h.apart i hi e
    · rw [hg] at e
      injection e with e
      have := (h.own1.lt _ hi).2
      omega
  · rw [List.mem_append, List.mem_singleton] at hs
    rcases hs with hs | rfl
    · exact ((h.in2 s hs).row hf h.own2).varC hX hc
    · exact (hx.row hf h.own2).varC hX hc
end Go.Proofs.Ytnlmhcfkipkegaa
