/-
  Written: prologuekeep.knows(1) by its contract. Own work of the verifier.
-/
import Derived.Test.YtgfliildindkgaaGreatDoorWrtRead
import Derived.Test.YtgfliildindkgaaGreatDoorTblLaw
import Derived.Test.YtgfliildindkgaaGreatDoorPrtLaw
namespace Go.Proofs.YtgfliildindkgaaGreatDoor
open Go.RowKit

structure Env (w : World) : Prop where
  u8 : U8 w
  it : Itm w
  er : ErrTy w
  tb : Tabs w
theorem Env.below {w w' : World} (h : Env w) (hb : Below w.heap.size w w') : Env w' :=
  ⟨h.u8.below hb h.u8.lt, h.it.grown (gb_of_below (row := some w.heap.size) hb) (Nat.ne_of_lt h.it.lt), h.er.below hb (lt_of_cell h.er), h.tb.below hb h.tb.gb⟩
/-- Three lists that may be read, and sliced. -/
structure L3 (w : World) (va vr vs : Value) (ag rs ss : List Int) : Prop where
  a : Rs w va ag
  r : Rs w vr rs
  s : Rs w vs ss
  ca : ∀ a n cap, va = .slice a n cap → n ≤ cap
  cr : ∀ a n cap, vr = .slice a n cap → n ≤ cap
  cs : ∀ a n cap, vs = .slice a n cap → n ≤ cap
theorem L3.below {w w' : World} {va vr vs : Value} {ag rs ss : List Int} (h : L3 w va vr vs ag rs ss) (hb : Below w.heap.size w w') : L3 w' va vr vs ag rs ss := ⟨h.a.below hb, h.r.below hb, h.s.below hb, h.ca, h.cr, h.cs⟩
theorem tab_bounds {r sp lk t0 t1 : Int} {ag rs ss : List Int} {al sh by_ : Int} (h : tabB r sp lk t0 t1 ag rs ss al sh by_ = true) : (okN r ∧ okN sp ∧ okN lk ∧ okN t0 ∧ okN t1 ∧ okN al ∧ okN sh ∧ okN by_) ∧ (okI ag ∧ okI rs ∧ okI ss) ∧ ag.length + rs.length + ss.length ≤ 4000000 := by
  unfold tabB at h
  simp only [Bool.and_eq_true] at h
  obtain ⟨⟨h1, h2⟩, h3⟩ := h
  have n1 := of_decide_eq_true h1
  have n2 := of_decide_eq_true h2
  unfold regsOkB at h3
  simp only [Bool.and_eq_true] at h3
  obtain ⟨⟨⟨⟨⟨k0, k1, -⟩, k2, -⟩, k3, -⟩, -⟩, -⟩ := h3
  have m0 := regs_mem k0
  have own : (0 ≤ sp ∧ sp < r) ∧ (0 ≤ t0 ∧ t0 < r) ∧ (0 ≤ t1 ∧ t1 < r) ∧ (lk = -1 ∨ (0 ≤ lk ∧ lk < r)) := by
    unfold ownL at m0
    by_cases hk : lk = -1
    · rw [if_pos hk] at m0
      exact ⟨m0 sp (by simp), m0 t0 (by simp), m0 t1 (by simp), Or.inl hk⟩
    · rw [if_neg hk] at m0
      exact ⟨m0 sp (by simp), m0 t0 (by simp), m0 t1 (by simp), Or.inr (m0 lk (by simp))⟩
  have each : ∀ l : List Int, (∀ n ∈ l, 0 ≤ n ∧ n < r) → okI l := fun l hl n hn => by have := hl n hn; omega
  unfold okN
  refine ⟨⟨by omega, by omega, by omega, by omega, by omega, by omega, by omega, by omega⟩, ⟨each _ (regs_mem k1), each _ (regs_mem k2), each _ (regs_mem k3)⟩, by omega⟩
theorem tb_of {w : World} {r sp lk t0 t1 : Int} {va vr vs : Value} {al sh by_ : Int} {ag rs ss : List Int} (hE : Env w) (h : tabB r sp lk t0 t1 ag rs ss al sh by_ = true) (hl : L3 w va vr vs ag rs ss) : Tb w r sp lk t0 t1 va vr vs al sh by_ ag rs ss :=
  have b := tab_bounds h
  ⟨hE.tb, b.1, b.2.1, ⟨hl.a, hl.r, hl.s⟩, b.2.2⟩
/-- A table that may be, printed, is parsed as it was. -/
theorem reparse_c {r sp lk t0 t1 : Int} {ag rs ss : List Int} {al sh by_ : Int} (pr : Bool) (h : tabB r sp lk t0 t1 ag rs ss al sh by_ = true) (w : World) (hE : Env w) :
    Calls Tryz.prog 6 #[.string ⟨(printText r sp lk t0 t1 ag rs ss al sh by_ pr).toArray⟩] w fun e w' => Below w.heap.size w w' ∧ ∃ a4 n4 p4 a5 n5 p5 a6 n6 p6, e = .returned (.tuple #[.agg (boxOf r sp lk t0 t1 (.slice a4 n4 p4) (.slice a5 n5 p5) (.slice a6 n6 p6) al sh by_ pr), flt 0 (-1) (-1) (-1)]) ∧ L3 w' (.slice a4 n4 p4) (.slice a5 n5 p5) (.slice a6 n6 p6) ag rs ss := by
  obtain ⟨S, hS, v0, v1, v2, v3, v4, v5, v6, v7, v8, v9, v10⟩ := parse_print (pr := pr) h
  refine (plparse_c _ w hE.u8 hE.it hE.er).mono ?_
  rintro e w' ⟨hb, hm⟩
  rw [hS] at hm
  simp only at hm
  obtain ⟨u4, u5, u6, rfl, r4, r5, r6, -⟩ := hm
  rw [v4] at r4
  rw [v5] at r5
  rw [v6] at r6
  obtain ⟨a4, n4, p4, rfl⟩ := own_shape r4
  obtain ⟨a5, n5, p5, rfl⟩ := own_shape r5
  obtain ⟨a6, n6, p6, rfl⟩ := own_shape r6
  refine ⟨hb, a4, n4, p4, a5, n5, p5, a6, n6, p6, ?_, rs_of_own r4, rs_of_own r5, rs_of_own r6, cap_of_own r4, cap_of_own r5, cap_of_own r6⟩
  unfold tabV
  rw [v0, v1, v2, v3, v7, v8, v9, v10]
  rfl
theorem parse_none : parseF ⟨#[]⟩ = .inl (1, 0) := by rfl
theorem parse_none_c (w : World) (hE : Env w) : Calls Tryz.prog 6 #[.string ⟨#[]⟩] w fun e w' => e = .returned (.tuple #[zeroT, flt 1 (-1) (-1) 0]) ∧ Below w.heap.size w w' := by
  refine (plparse_c _ w hE.u8 hE.it hE.er).mono ?_
  rintro e w' ⟨hb, hm⟩
  rw [parse_none] at hm
  exact ⟨hm, hb⟩
theorem sample0_c (w : World) (hE : Env w) : Calls Tryz.prog 8 #[.int .i64 0] w fun e w' => Below w.heap.size w w' ∧ ∃ a4 n4 p4 a5 n5 p5 a6 n6 p6, e = .returned (.tuple #[.agg (boxOf 12 11 (-1) 9 10 (.slice a4 n4 p4) (.slice a5 n5 p5) (.slice a6 n6 p6) 16 0 2 false), flt 0 (-1) (-1) (-1)]) ∧ L3 w' (.slice a4 n4 p4) (.slice a5 n5 p5) (.slice a6 n6 p6) [0, 1, 2, 3] [0, 1] [5, 6, 7] := by
  refine (plsampleU 0 (by omega) w hE.u8 hE.it hE.er).mono ?_
  rintro e w' ⟨hb, v4, v5, v6, rfl, r4, r5, r6, -⟩
  obtain ⟨a4, n4, p4, rfl⟩ := own_shape r4
  obtain ⟨a5, n5, p5, rfl⟩ := own_shape r5
  obtain ⟨a6, n6, p6, rfl⟩ := own_shape r6
  exact ⟨hb, a4, n4, p4, a5, n5, p5, a6, n6, p6, rfl, rs_of_own (ns := [0, 1, 2, 3]) r4, rs_of_own (ns := [0, 1]) r5, rs_of_own (ns := [5, 6, 7]) r6, cap_of_own r4, cap_of_own r5, cap_of_own r6⟩
theorem tab0_ok : tabB 12 11 (-1) 9 10 [0, 1, 2, 3] [0, 1] [5, 6, 7] 16 0 2 = true := by kernel_rfl
theorem zero_no : tabB 0 0 0 0 0 [] [] [] 0 0 0 = false := by kernel_rfl
theorem nil3 (w : World) : L3 w (.slice none 0 0) (.slice none 0 0) (.slice none 0 0) [] [] [] :=
  ⟨Or.inl ⟨rfl, _, _, rfl⟩, Or.inl ⟨rfl, _, _, rfl⟩, Or.inl ⟨rfl, _, _, rfl⟩, fun _ _ _ e => by injection e with _ e2 e3; omega, fun _ _ _ e => by injection e with _ e2 e3; omega, fun _ _ _ e => by injection e with _ e2 e3; omega⟩
theorem plchk {r sp lk t0 t1 : Int} {va vr vs : Value} {al sh by_ : Int} (pr : Bool) {ag rs ss : List Int} (w : World) (hE : Env w) (hl : L3 w va vr vs ag rs ss) : Calls Tryz.prog 5 #[.agg (boxOf r sp lk t0 t1 va vr vs al sh by_ pr)] w fun e w' => e = .returned (flt (chkN (tabB r sp lk t0 t1 ag rs ss al sh by_)) (-1) (-1) (-1)) ∧ Below w.heap.size w w' :=
  plcheck_c r sp lk t0 t1 va vr vs al sh by_ pr ag rs ss w hE.er hl.a hl.r hl.s hl.ca hl.cr hl.cs
set_option maxHeartbeats 2000000 in
set_option maxRecDepth 100000 in
theorem keepSmall_c (w : World) : Calls Tryz.prog 9 #[] w fun e w' => (∃ b, e = .returned (.agg #[.slice (some ⟨b, 0, none⟩) 1 1, .slice none 0 0])) ∧ Below w.heap.size w w' := by
  go_enter Tryz.func9, Tryz.ntmps9
  go_wp2
  go_returns
  exact ⟨⟨_, rfl⟩, by go_grown⟩
end Go.Proofs.YtgfliildindkgaaGreatDoor
