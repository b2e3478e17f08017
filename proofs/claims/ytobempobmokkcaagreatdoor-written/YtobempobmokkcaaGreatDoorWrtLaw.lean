/-
  Own work of the verifier: WrtKnow, WrtKnow2, WrtLaw, as one text.
-/
import Derived.Test.YtobempobmokkcaaGreatDoorWrtRead
import Derived.Test.YtobempobmokkcaaGreatDoorTblLaw
import Derived.Test.YtobempobmokkcaaGreatDoorPrtLaw
namespace Go.Proofs.YtobempobmokkcaaGreatDoor
open Go.RowKit

structure Env (w : World) : Prop where
  u8 : U8 w
  it : Itm w
  er : ErrTy w
  tb : Tabs w
theorem Env.below {w w' : World} (h : Env w) (hb : Below w.heap.size w w') : Env w' :=
  ⟨h.u8.below hb h.u8.lt, h.it.grown (gb_of_below (row := some w.heap.size) hb) (Nat.ne_of_lt h.it.lt), h.er.below hb (lt_of_cell h.er), h.tb.below hb h.tb.gb⟩
/-- Three lists that may be read, and sliced. -/
structure L3 (w : World) (va vr vs : Value) (ag rs ss : List Int) : Prop where
  a : Rs w va ag
  r : Rs w vr rs
  s : Rs w vs ss
  ca : ∀ a n cap, va = .slice a n cap → n ≤ cap
  cr : ∀ a n cap, vr = .slice a n cap → n ≤ cap
  cs : ∀ a n cap, vs = .slice a n cap → n ≤ cap
theorem L3.below {w w' : World} {va vr vs : Value} {ag rs ss : List Int} (h : L3 w va vr vs ag rs ss) (hb : Below w.heap.size w w') : L3 w' va vr vs ag rs ss := ⟨h.a.below hb, h.r.below hb, h.s.below hb, h.ca, h.cr, h.cs⟩
theorem tab_bounds {r sp lk t0 t1 : Int} {ag rs ss : List Int} {al sh by_ : Int} (h : tabB r sp lk t0 t1 ag rs ss al sh by_ = true) : (okN r ∧ okN sp ∧ okN lk ∧ okN t0 ∧ okN t1 ∧ okN al ∧ okN sh ∧ okN by_) ∧ (okI ag ∧ okI rs ∧ okI ss) ∧ ag.length + rs.length + ss.length ≤ 4000000 := by
  unfold tabB at h
  simp only [Bool.and_eq_true] at h
  obtain ⟨⟨h1, h2⟩, h3⟩ := h
  have n1 := of_decide_eq_true h1
  have n2 := of_decide_eq_true h2
  unfold regsOkB at h3
  simp only [Bool.and_eq_true] at h3
  obtain ⟨⟨⟨⟨⟨k0, k1, -⟩, k2, -⟩, k3, -⟩, -⟩, -⟩ := h3
  have m0 := regs_mem k0
  have own : (0 ≤ sp ∧ sp < r) ∧ (0 ≤ t0 ∧ t0 < r) ∧ (0 ≤ t1 ∧ t1 < r) ∧ (lk = -1 ∨ (0 ≤ lk ∧ lk < r)) := by
    unfold ownL at m0
    by_cases hk : lk = -1
    · rw [if_pos hk] at m0
      exact ⟨m0 sp (by simp), m0 t0 (by simp), m0 t1 (by simp), Or.inl hk⟩
    · rw [if_neg hk] at m0
      exact ⟨m0 sp (by simp), m0 t0 (by simp), m0 t1 (by simp), Or.inr (m0 lk (by simp))⟩
  have each : ∀ l : List Int, (∀ n ∈ l, 0 ≤ n ∧ n < r) → okI l := fun l hl n hn => by have := hl n hn; omega
  unfold okN
  refine ⟨⟨by omega, by omega, by omega, by omega, by omega, by omega, by omega, by omega⟩, ⟨each _ (regs_mem k1), each _ (regs_mem k2), each _ (regs_mem k3)⟩, by omega⟩
theorem tb_of {w : World} {r sp lk t0 t1 : Int} {va vr vs : Value} {al sh by_ : Int} {ag rs ss : List Int} (hE : Env w) (h : tabB r sp lk t0 t1 ag rs ss al sh by_ = true) (hl : L3 w va vr vs ag rs ss) : Tb w r sp lk t0 t1 va vr vs al sh by_ ag rs ss :=
  have b := tab_bounds h
  ⟨hE.tb, b.1, b.2.1, ⟨hl.a, hl.r, hl.s⟩, b.2.2⟩
/-- A table that may be, printed, is parsed as it was. -/
theorem reparse_c {r sp lk t0 t1 : Int} {ag rs ss : List Int} {al sh by_ : Int} (pr : Bool) (h : tabB r sp lk t0 t1 ag rs ss al sh by_ = true) (w : World) (hE : Env w) :
    Calls Tryz.prog 6 #[.string ⟨(printText r sp lk t0 t1 ag rs ss al sh by_ pr).toArray⟩] w fun e w' => Below w.heap.size w w' ∧ ∃ a4 n4 p4 a5 n5 p5 a6 n6 p6, e = .returned (.tuple #[.agg (boxOf r sp lk t0 t1 (.slice a4 n4 p4) (.slice a5 n5 p5) (.slice a6 n6 p6) al sh by_ pr), flt 0 (-1) (-1) (-1)]) ∧ L3 w' (.slice a4 n4 p4) (.slice a5 n5 p5) (.slice a6 n6 p6) ag rs ss := by
  obtain ⟨S, hS, v0, v1, v2, v3, v4, v5, v6, v7, v8, v9, v10⟩ := parse_print (pr := pr) h
  refine (plparse_c _ w hE.u8 hE.it hE.er).mono ?_
  rintro e w' ⟨hb, hm⟩
  rw [hS] at hm
  simp only at hm
  obtain ⟨u4, u5, u6, rfl, r4, r5, r6, -⟩ := hm
  rw [v4] at r4
  rw [v5] at r5
  rw [v6] at r6
  obtain ⟨a4, n4, p4, rfl⟩ := own_shape r4
  obtain ⟨a5, n5, p5, rfl⟩ := own_shape r5
  obtain ⟨a6, n6, p6, rfl⟩ := own_shape r6
  refine ⟨hb, a4, n4, p4, a5, n5, p5, a6, n6, p6, ?_, rs_of_own r4, rs_of_own r5, rs_of_own r6, cap_of_own r4, cap_of_own r5, cap_of_own r6⟩
  unfold tabV
  rw [v0, v1, v2, v3, v7, v8, v9, v10]
  rfl
theorem parse_none : parseF ⟨#[]⟩ = .inl (1, 0) := by rfl
theorem parse_none_c (w : World) (hE : Env w) : Calls Tryz.prog 6 #[.string ⟨#[]⟩] w fun e w' => e = .returned (.tuple #[zeroT, flt 1 (-1) (-1) 0]) ∧ Below w.heap.size w w' := by
  refine (plparse_c _ w hE.u8 hE.it hE.er).mono ?_
  rintro e w' ⟨hb, hm⟩
  rw [parse_none] at hm
  exact ⟨hm, hb⟩
theorem sample0_c (w : World) (hE : Env w) : Calls Tryz.prog 8 #[.int .i64 0] w fun e w' => Below w.heap.size w w' ∧ ∃ a4 n4 p4 a5 n5 p5 a6 n6 p6, e = .returned (.tuple #[.agg (boxOf 12 11 (-1) 9 10 (.slice a4 n4 p4) (.slice a5 n5 p5) (.slice a6 n6 p6) 16 0 2 false), flt 0 (-1) (-1) (-1)]) ∧ L3 w' (.slice a4 n4 p4) (.slice a5 n5 p5) (.slice a6 n6 p6) [0, 1, 2, 3] [0, 1] [5, 6, 7] := by
  refine (plsampleU 0 (by omega) w hE.u8 hE.it hE.er).mono ?_
  rintro e w' ⟨hb, v4, v5, v6, rfl, r4, r5, r6, -⟩
  obtain ⟨a4, n4, p4, rfl⟩ := own_shape r4
  obtain ⟨a5, n5, p5, rfl⟩ := own_shape r5
  obtain ⟨a6, n6, p6, rfl⟩ := own_shape r6
  exact ⟨hb, a4, n4, p4, a5, n5, p5, a6, n6, p6, rfl, rs_of_own (ns := [0, 1, 2, 3]) r4, rs_of_own (ns := [0, 1]) r5, rs_of_own (ns := [5, 6, 7]) r6, cap_of_own r4, cap_of_own r5, cap_of_own r6⟩
theorem tab0_ok : tabB 12 11 (-1) 9 10 [0, 1, 2, 3] [0, 1] [5, 6, 7] 16 0 2 = true := by kernel_rfl
theorem zero_no : tabB 0 0 0 0 0 [] [] [] 0 0 0 = false := by kernel_rfl
theorem nil3 (w : World) : L3 w (.slice none 0 0) (.slice none 0 0) (.slice none 0 0) [] [] [] :=
  ⟨Or.inl ⟨rfl, _, _, rfl⟩, Or.inl ⟨rfl, _, _, rfl⟩, Or.inl ⟨rfl, _, _, rfl⟩, fun _ _ _ e => by injection e with _ e2 e3; omega, fun _ _ _ e => by injection e with _ e2 e3; omega, fun _ _ _ e => by injection e with _ e2 e3; omega⟩
theorem plchk {r sp lk t0 t1 : Int} {va vr vs : Value} {al sh by_ : Int} (pr : Bool) {ag rs ss : List Int} (w : World) (hE : Env w) (hl : L3 w va vr vs ag rs ss) : Calls Tryz.prog 5 #[.agg (boxOf r sp lk t0 t1 va vr vs al sh by_ pr)] w fun e w' => e = .returned (flt (chkN (tabB r sp lk t0 t1 ag rs ss al sh by_)) (-1) (-1) (-1)) ∧ Below w.heap.size w w' :=
  plcheck_c r sp lk t0 t1 va vr vs al sh by_ pr ag rs ss w hE.er hl.a hl.r hl.s hl.ca hl.cr hl.cs
set_option maxHeartbeats 2000000 in
set_option maxRecDepth 100000 in
theorem keepSmall_c (w : World) : Calls Tryz.prog 9 #[] w fun e w' => (∃ b, e = .returned (.agg #[.slice (some ⟨b, 0, none⟩) 1 1, .slice none 0 0])) ∧ Below w.heap.size w w' := by
  go_enter Tryz.func9, Tryz.ntmps9
  go_wp2
  go_returns
  exact ⟨⟨_, rfl⟩, by go_grown⟩
end Go.Proofs.YtobempobmokkcaaGreatDoor
namespace Go.Proofs.YtobempobmokkcaaGreatDoor
open Go.RowKit

theorem fld0 (n f b a : Int) (W : World) : (Instr.field 28 (.agg #[.int .i64 n, .int .i64 f, .int .i64 b, .int .i64 a]) 0).run Tryz.prog W = .ok (.int .i64 n) W := by kernel_rfl
set_option maxHeartbeats 8000000 in
set_option maxRecDepth 100000 in
theorem knows_c (w : World) (hE : Env w) : Calls Tryz.prog 4 #[.int .i64 1] w fun e w' => e = .returned (.bool true) ∧ Below w.heap.size w w' := by
  have HE := hideQ hE
  have hf0 := fld0
  clear hE
  go_enter Tryz.func4, Tryz.ntmps4
  go_wp2_with fail
  refine (sample0_c w (unhideQ HE)).mono ?_
  rintro e w1 ⟨hb1, xa4, xn4, xp4, xa5, xn5, xp5, xa6, xn6, xp6, rfl, hL1⟩
  have hz1 := hb1.size
  have HB1 := hideQ hb1
  have HL1 := hideQ hL1
  clear hb1 hL1
  unfold boxOf
  have hx1 := al_two w1 (.cells #[.int .i64 12, .int .i64 11, .int .i64 (-1), .int .i64 9, .int .i64 10, .slice xa4 xn4 xp4, .slice xa5 xn5 xp5, .slice xa6 xn6 xp6, .int .i64 16, .int .i64 0, .int .i64 2, .bool false] 25) (.cells #[.int .i64 0, .int .i64 (-1), .int .i64 (-1), .int .i64 (-1)] 28)
  have HX1 := hideQ hx1
  clear hx1
  go_wp2_with fail
  have hx1 := unhideQ HX1
  clear HX1
  generalize World.alloc (World.alloc w1 _) _ = V1 at hx1 ⊢
  obtain ⟨pA1, pF1, hbV1, hzV1⟩ := hx1
  have HBV1 := hideQ ((unhideQ HB1).trans (hbV1.mono (by omega)))
  have HPR := hideQ (pr17 (w := V1) false (tb_of ((unhideQ HE).below (unhideQ HBV1)) tab0_ok ((unhideQ HL1).below hbV1)))
  unfold boxOf at HPR
  have HPA1 := hideQ pA1
  have HPF1 := hideQ pF1
  clear pA1 pF1 hbV1
  refine (unhideQ HPR).mono ?_
  rintro e w2 ⟨rfl, hb2⟩
  have hz2 := hb2.size
  have HB2 := hideQ hb2
  have HBW2 := hideQ ((unhideQ HBV1).trans (hb2.mono (by omega)))
  clear hb2 HPR
  go_wp2_with fail
  refine (reparse_c false tab0_ok w2 ((unhideQ HE).below (unhideQ HBW2))).mono ?_
  rintro e w3 ⟨hb3, ya4, yn4, yp4, ya5, yn5, yp5, ya6, yn6, yp6, rfl, -⟩
  have hz3 := hb3.size
  have HB3 := hideQ hb3
  have HBW3 := hideQ ((unhideQ HBW2).trans (hb3.mono (by omega)))
  clear hb3
  unfold boxOf
  have hx3 := al_two w3 (.cells #[.int .i64 12, .int .i64 11, .int .i64 (-1), .int .i64 9, .int .i64 10, .slice ya4 yn4 yp4, .slice ya5 yn5 yp5, .slice ya6 yn6 yp6, .int .i64 16, .int .i64 0, .int .i64 2, .bool false] 25) (.cells #[.int .i64 0, .int .i64 (-1), .int .i64 (-1), .int .i64 (-1)] 28)
  have HX3 := hideQ hx3
  clear hx3
  go_wp2_with fail
  have hx3 := unhideQ HX3
  clear HX3
  generalize World.alloc (World.alloc w3 _) _ = V3 at hx3 ⊢
  obtain ⟨pA3, pF3, hbV3, hzV3⟩ := hx3
  have HBV3 := hideQ ((unhideQ HBW3).trans (hbV3.mono (by omega)))
  have HPA3 := hideQ pA3
  have HPF3 := hideQ pF3
  have HB3V := hideQ hbV3
  clear pA3 pF3 hbV3
  refine (parse_none_c V3 ((unhideQ HE).below (unhideQ HBV3))).mono ?_
  rintro e w4 ⟨rfl, hb4⟩
  have hz4 := hb4.size
  have HB4 := hideQ hb4
  have HBW4 := hideQ ((unhideQ HBV3).trans (hb4.mono (by omega)))
  clear hb4
  unfold zeroT boxOf
  have hx4 := al_two w4 (.cells #[.int .i64 0, .int .i64 0, .int .i64 0, .int .i64 0, .int .i64 0, .slice none 0 0, .slice none 0 0, .slice none 0 0, .int .i64 0, .int .i64 0, .int .i64 0, .bool false] 25) (.cells #[.int .i64 1, .int .i64 (-1), .int .i64 (-1), .int .i64 0] 28)
  have HX4 := hideQ hx4
  clear hx4
  have hbq := (unhideQ HX4).2.2.1
  have q1 := fun q (h : q < V1.heap.size) => (hbq.block q (by omega)).trans (((unhideQ HB4).block q (by omega)).trans (((unhideQ HB3V).block q (by omega)).trans (((unhideQ HB3).block q (by omega)).trans ((unhideQ HB2).block q h))))
  have q3 := fun q (h : q < V3.heap.size) => (hbq.block q (by omega)).trans ((unhideQ HB4).block q h)
  have d0 := (cells_of ((q1 (w1.heap.size + 1) (by omega)).trans (unhideQ HPF1))).1 0
  have d1 := (cells_of ((q3 (w3.heap.size + 1) (by omega)).trans (unhideQ HPF3))).1 0
  have d2 := (cells_of ((q1 w1.heap.size (by omega)).trans (unhideQ HPA1))).1 0
  have d3 := (cells_of ((q3 w3.heap.size (by omega)).trans (unhideQ HPA3))).1 0
  simp at d0 d1 d2 d3
  clear q1 q3 hbq
  have HCK := hideQ (fun V h => plchk (r := 0) (sp := 0) (lk := 0) (t0 := 0) (t1 := 0) (al := 0) (sh := 0) (by_ := 0) false V h (nil3 V))
  rw [zero_no] at HCK
  unfold boxOf chkN at HCK
  simp only at HCK
  have HBV4 := hideQ (fun X Y => (unhideQ HBW4).trans ((((Below.refl w4.heap.size w4).alloc (Nat.le_refl _) X).alloc (by simp) Y).mono (by omega)))
  clear HX4
  go_wp2_with fail
  refine (unhideQ HCK _ ((unhideQ HE).below (unhideQ HBV4 _ _))).mono ?_
  rintro e w5 ⟨rfl, hb5⟩
  have HBW5 := hideQ ((unhideQ HBV4 _ _).trans (hb5.mono (by simp; omega)))
  have hz5 := (unhideQ HBW5).size
  clear hb5 d0 d1 d2 d3
  go_wp2_with fail
  refine (keepSmall_c w5).mono ?_
  rintro e w6 ⟨⟨bb, rfl⟩, hb6⟩
  have HBW6 := hideQ ((unhideQ HBW5).trans (hb6.mono (by omega)))
  have hz6 := hb6.size
  clear hb6
  have HBV6 := hideQ (fun X => (unhideQ HBW6).trans (((Below.refl w6.heap.size w6).alloc (Nat.le_refl _) X).mono (by omega)))
  go_wp2
  go_ret
  exact ⟨rfl, unhideQ HBV6 _⟩
end Go.Proofs.YtobempobmokkcaaGreatDoor
namespace Go.Proofs.YtobempobmokkcaaGreatDoor
open Go.RowKit

theorem flow4 {P : Program} {ops : Array Oper} {Q : Exit → Act → World → Prop} {id : Nat} (hm : P.follows .mixedOrders = true) (d : Nat → Nat) (hinj : ∀ i j, d i = d j → i = j) (keep : Nat → Prop) (hkeep : ∀ t, keep t → ∀ i, d i ≠ t) (a0 : Act) (Ok : Nat → Value → World → Prop) (S : World → Prop) (R : World → World → Prop)
    (hd : ∀ (i : Nat) (o : Oper), ops[i]? = some o → (o.dst = some (d i) ∨ o.dst = none))
    (hw : ∀ (i : Nat) (o : Oper), ops[i]? = some o → ∀ (a : Act) (w : World), a.tmps.size = a0.tmps.size → (∀ e ∈ o.after, Region.binds .any e = true → (∃ o', ops[e.on]? = some o' ∧ o'.dst = some (d e.on)) → Ok e.on (a.eval (.tmp (d e.on))) w) → Region.wanted o (yielded ops a.tmps) = true)
    (hsz : ∀ (i : Nat) (o : Oper), ops[i]? = some o → o.dst = some (d i) → d i < a0.tmps.size)
    (hle : ∀ (i : Nat) (o : Oper), ops[i]? = some o → ∀ e ∈ o.after, Region.binds .any e = true → e.on < i)
    (stab : ∀ i v w w', Ok i v w → R w w' → Ok i v w')
    (stabS : ∀ w w', S w → R w w' → S w')
    (step : ∀ (i : Nat) (o : Oper), ops[i]? = some o → ∀ (a : Act) (w : World), S w → (∀ t, keep t → a.eval (.tmp t) = a0.eval (.tmp t)) → (∀ e ∈ o.after, Region.binds .any e = true → (∃ o', ops[e.on]? = some o' ∧ o'.dst = some (d e.on)) → Ok e.on (a.eval (.tmp (d e.on))) w) →
      o.wp P a w (fun a' w' => ∃ v, a' = a.put o.dst v ∧ R w w' ∧ Ok i v w') Q)
    (fin : ∀ (a : Act) (w : World), S w → a.defers = a0.defers → a.tmps.size = a0.tmps.size → (∀ t, keep t → a.eval (.tmp t) = a0.eval (.tmp t)) → (∀ (i : Nat) (o : Oper), ops[i]? = some o → o.dst = some (d i) → Ok i (a.eval (.tmp (d i))) w) → (∀ (i : Nat) (o : Oper), ops[i]? = some o → o.dst = none → ∃ v, Ok i v w) → Q .normal a w)
    {w : World} (hS : S w.drew) : (Code.region id ops true).wp P Q a0 w := by
  refine wp_region_any hm (wpAny_inv (fun L a w => S w ∧ L.size = ops.size ∧ a.defers = a0.defers ∧ a.tmps.size = a0.tmps.size ∧ (∀ t, keep t → a.eval (.tmp t) = a0.eval (.tmp t)) ∧ (∀ i, i < ops.size → L.getD i true = true → ∀ o, ops[i]? = some o → o.dst = some (d i) → Ok i (a.eval (.tmp (d i))) w) ∧ (∀ (i : Nat) (o : Oper), ops[i]? = some o → o.dst = none → (L.getD i true = true → ∃ v, Ok i v w))) ?_ ?_ _ _ _ _ ?_ ?_)
  · rintro L a w i ⟨h1, h2, h3, h4, h5, h6, h7⟩ hi
    obtain ⟨hl, o, ho, hdeps⟩ := mem_ready.1 hi
    have hlt : i < ops.size := (Array.getElem?_eq_some_iff.1 ho).1
    have hdst := hd i o ho
    have hdd : ∀ e ∈ o.after, Region.binds .any e = true → (∃ o', ops[e.on]? = some o' ∧ o'.dst = some (d e.on)) → Ok e.on (a.eval (.tmp (d e.on))) w := (fun e he hb hh => by
      obtain ⟨o', ho', hdo⟩ := hh
      have hel : L.getD e.on true = true := by
        have := hdeps e he hb
        have hes : e.on < L.size := by have := hle i o ho e he hb; omega
        simpa [hes] using this
      exact h6 e.on (Nat.lt_trans (hle i o ho e he hb) hlt) hel o' ho' hdo)
    have hwp := step i o ho a w h1 (fun t ht => h5 t ht) hdd
    unfold wpOp
    simp only [ho]
    rw [if_pos (hw i o ho a w h4 hdd)]
    refine Or.inl ?_
    refine Oper.wp_mono ?_ hwp
    rintro a' w' ⟨v, rfl, hbl, hok⟩
    have key : (fun a' w' => S w' ∧ (L.setIfInBounds i true).size = ops.size ∧ a'.defers = a0.defers ∧ a'.tmps.size = a0.tmps.size ∧ (∀ t, keep t → a'.eval (.tmp t) = a0.eval (.tmp t)) ∧ (∀ j, j < ops.size → (L.setIfInBounds i true).getD j true = true → ∀ o, ops[j]? = some o → o.dst = some (d j) → Ok j (a'.eval (.tmp (d j))) w') ∧ (∀ (j : Nat) (o : Oper), ops[j]? = some o → o.dst = none → ((L.setIfInBounds i true).getD j true = true → ∃ v, Ok j v w'))) (a.put o.dst v) w' := by
      rcases hdst with hdst | hdst
      · simp only [hdst]
        refine ⟨stabS _ _ h1 hbl, by simpa using h2, by simpa [Act.put] using h3, by simpa [Act.put] using h4, fun t ht => ?_, fun j hj hlj o' ho' hdo => ?_, fun j o' ho' hdo => ?_⟩
        · rw [eval_put_ne _ _ _ _ (fun e => hkeep t ht i (by first | exact e | exact e.symm))]; exact h5 t ht
        · by_cases hji : j = i
          · subst hji; rw [eval_put_same _ _ _ (by have := hsz j o' ho' hdo; omega)]; exact hok
          · rw [eval_put_ne _ _ _ _ (fun e => hji (by first | exact hinj _ _ e | exact (hinj _ _ e).symm))]
            exact stab _ _ _ _ (h6 j hj (by simpa [Array.getElem?_setIfInBounds, Ne.symm hji] using hlj) o' ho' hdo) hbl
        · have hji : ¬ j = i := fun e => by subst e; rw [ho'] at ho; injection ho with ho; subst ho; rw [hdo] at hdst; cases hdst
          intro hlj
          obtain ⟨v', hv'⟩ := (h7 j o' ho' hdo) (by simpa [Array.getElem?_setIfInBounds, Ne.symm hji] using hlj)
          exact ⟨v', stab _ _ _ _ hv' hbl⟩
      · simp only [hdst, Act.put]
        refine ⟨stabS _ _ h1 hbl, by simpa using h2, h3, h4, h5, fun j hj hlj o' ho' hdo => ?_, fun j o' ho' hdo hlj => ?_⟩
        · have hji : ¬ j = i := fun e => by subst e; rw [ho'] at ho; injection ho with ho; subst ho; rw [hdo] at hdst; cases hdst
          exact stab _ _ _ _ (h6 j hj (by simpa [Array.getElem?_setIfInBounds, Ne.symm hji] using hlj) o' ho' hdo) hbl
        · by_cases hji : j = i
          · subst hji; exact ⟨v, hok⟩
          · obtain ⟨v', hv'⟩ := (h7 j o' ho' hdo) (by simpa [Array.getElem?_setIfInBounds, Ne.symm hji] using hlj)
            exact ⟨v', stab _ _ _ _ hv' hbl⟩
    exact key
  · rintro L a w ⟨h1, h2, h3, h4, h5, h6, h7⟩ hr
    have all : ∀ n j, j < n → j < ops.size → L.getD j true = true := by
      intro n
      induction n with
      | zero => intro j hj; omega
      | succ n ih =>
        intro j hj hjs
        cases hlj : L.getD j true with
        | true => rfl
        | false =>
          exfalso
          have ho : ops[j]? = some ops[j] := Array.getElem?_eq_getElem hjs
          have : j ∈ Region.ready .any ops L := mem_ready.2 ⟨hlj, ops[j], ho, fun e he hb => by
            have hlt := hle j _ ho e he hb
            have := ih e.on (by omega) (by omega)
            have hes : e.on < L.size := by omega
            simpa [hes] using this⟩
          rw [hr] at this
          cases this
    exact fin a w h1 h3 h4 h5 (fun i o ho hdo => h6 i (Array.getElem?_eq_some_iff.1 ho).1 (all (i + 1) i (by omega) (Array.getElem?_eq_some_iff.1 ho).1) o ho hdo) (fun i o ho hdo => (h7 i o ho hdo) (all (i + 1) i (by omega) (Array.getElem?_eq_some_iff.1 ho).1))
  · unfold unl
    exact Nat.le_trans List.countP_le_length (by simp)
  · exact ⟨hS, by simp, rfl, rfl, fun _ _ => rfl, fun i hi h => by simp [hi] at h, fun i o ho _ h => by simp [(Array.getElem?_eq_some_iff.1 ho).1] at h⟩
def OkW (bx by' : Array Value) (tx : ByteArray) (T4 : Nat) (i : Nat) (v : Value) : Prop :=
  match i with
  | 0 => v = .pointer (some ⟨T4, 0, none⟩)
  | 1 => v = .int .i64 0
  | 2 => v = .bool true
  | 3 => v = .bool true
  | 4 => v = .agg by'
  | 5 => v = .string tx
  | 6 => v = .agg bx
  | 7 => v = .string tx
  | 8 => v = .bool true
  | 9 => v = .bool true
  | 10 => v = .bool true
  | 11 => v = .agg by'
  | 12 => v = flt 0 (-1) (-1) (-1)
  | 13 => v = .int .i64 0
  | 14 => v = .bool true
  | 15 => v = .bool true
  | 16 => v = .bool true
  | _ => True
def dW (i : Nat) : Nat := if i < 16 then 17 + i else if i = 16 then 2 else i + 100
theorem dW_inj (i j : Nat) (h : dW i = dW j) : i = j := by unfold dW at h; split at h <;> split at h <;> (try split at h) <;> (try split at h) <;> omega
theorem dW_keep (t : Nat) (ht : t = 1 ∨ t = 3 ∨ t = 4) (i : Nat) : dW i ≠ t := by unfold dW; split <;> (try split) <;> omega
set_option maxHeartbeats 8000000 in
set_option maxRecDepth 100000 in
theorem written_walk (r sp lk t0 t1 : Int) (va vr vs : Value) (al sh by_ : Int) (pr : Bool) (ag rs ss : List Int) (w : World) (hE : Env w) (hl : L3 w va vr vs ag rs ss) : Calls Tryz.prog 3 #[.agg (boxOf r sp lk t0 t1 va vr vs al sh by_ pr)] w fun e w' => e = .returned (.bool true) ∧ Below w.heap.size w w' := by
  have hb0 : ∀ X, Below w.heap.size w (w.alloc X) := fun X => (Below.refl w.heap.size w).alloc (Nat.le_refl _) X
  have HKN := hideQ (fun X => knows_c (w.alloc X) (hE.below (hb0 X)))
  have HCK := hideQ (fun V (h : Below w.heap.size w V) => plchk (r := r) (sp := sp) (lk := lk) (t0 := t0) (t1 := t1) (al := al) (sh := sh) (by_ := by_) pr V (hE.below h) (hl.below h))
  have HPX0 := hideQ (fun (hb : tabB r sp lk t0 t1 ag rs ss al sh by_ = true) V (h : Below w.heap.size w V) => pr17 (w := V) pr (tb_of (hE.below h) hb (hl.below h)))
  have HRP := hideQ (fun (hb : tabB r sp lk t0 t1 ag rs ss al sh by_ = true) V (h : Below w.heap.size w V) => reparse_c pr hb V (hE.below h))
  have HEN := hideQ hE
  obtain ⟨a4, n4, p4, rfl⟩ := hl.a.slice
  obtain ⟨a5, n5, p5, rfl⟩ := hl.r.slice
  obtain ⟨a6, n6, p6, rfl⟩ := hl.s.slice
  have HB0 := hideQ hb0
  have hf0 := fld0
  clear hE hl hb0
  unfold boxOf at HCK HPX0 ⊢
  go_enter Tryz.func3, Tryz.ntmps3
  go_wp2_with fail
  refine (unhideQ HKN _).mono ?_
  rintro e w1 ⟨rfl, hb1⟩
  have hz1 := hb1.size
  simp only [World.size_alloc] at hz1
  have pX := (hb1.block w.heap.size (by simp)).trans (heap_alloc_new w _)
  have HB1 := hideQ ((unhideQ HB0 _).trans (hb1.mono (by simp)))
  have c0 := (cells_of pX).1 0
  have c1 := (cells_of pX).1 1
  have c2 := (cells_of pX).1 2
  have c3 := (cells_of pX).1 3
  have c4 := (cells_of pX).1 4
  have c5 := (cells_of pX).1 5
  have c6 := (cells_of pX).1 6
  have c7 := (cells_of pX).1 7
  have c8 := (cells_of pX).1 8
  have c9 := (cells_of pX).1 9
  have c10 := (cells_of pX).1 10
  have c11 := (cells_of pX).1 11
  simp at c0 c1 c2 c3 c4 c5 c6 c7 c8 c9 c10 c11
  have HPX1 := hideQ pX
  clear hb1 pX
  go_wp2_with fail
  clear c0 c1 c2 c3 c4 c5 c6 c7 c8 c9 c10 c11
  refine (unhideQ HCK w1 (unhideQ HB1)).mono ?_
  rintro e w2 ⟨rfl, hb2⟩
  have hz2 := hb2.size
  have HB2 := hideQ ((unhideQ HB1).trans (hb2.mono (by omega)))
  have pX := (hb2.block w.heap.size (by omega)).trans (unhideQ HPX1)
  have c0 := (cells_of pX).1 0
  have c1 := (cells_of pX).1 1
  have c2 := (cells_of pX).1 2
  have c3 := (cells_of pX).1 3
  have c4 := (cells_of pX).1 4
  have c5 := (cells_of pX).1 5
  have c6 := (cells_of pX).1 6
  have c7 := (cells_of pX).1 7
  have c8 := (cells_of pX).1 8
  have c9 := (cells_of pX).1 9
  have c10 := (cells_of pX).1 10
  have c11 := (cells_of pX).1 11
  simp at c0 c1 c2 c3 c4 c5 c6 c7 c8 c9 c10 c11
  have HPX2 := hideQ pX
  clear hb2 pX HPX1
  cases hbb : tabB r sp lk t0 t1 ag rs ss al sh by_ with
  | false =>
    unfold chkN
    simp only
    clear hbb
    go_wp2
    go_ret
    exact ⟨rfl, unhideQ HB2⟩
  | true =>
    have HBB := hideQ hbb
    clear hbb
    unfold chkN
    simp only
    go_wp2_with fail
    clear c0 c1 c2 c3 c4 c5 c6 c7 c8 c9 c10 c11
    refine (unhideQ HPX0 (unhideQ HBB) w2 (unhideQ HB2)).mono ?_
    rintro e w3 ⟨rfl, hb3⟩
    have hz3 := hb3.size
    have HB3 := hideQ ((unhideQ HB2).trans (hb3.mono (by omega)))
    have HPX3 := hideQ ((hb3.block w.heap.size (by omega)).trans (unhideQ HPX2))
    clear hb3
    go_wp2_with fail
    refine (unhideQ HRP (unhideQ HBB) w3 (unhideQ HB3)).mono ?_
    rintro e w4 ⟨hb4, ya4, yn4, yp4, ya5, yn5, yp5, ya6, yn6, yp6, rfl, hLY⟩
    have hz4 := hb4.size
    have HB4 := hideQ ((unhideQ HB3).trans (hb4.mono (by omega)))
    have HPX4 := hideQ ((hb4.block w.heap.size (by omega)).trans (unhideQ HPX3))
    have HLY := hideQ hLY
    clear hb4 hLY HPX3
    unfold boxOf
    have hx4 := al_two w4 (.cells #[.int .i64 r, .int .i64 sp, .int .i64 lk, .int .i64 t0, .int .i64 t1, .slice ya4 yn4 yp4, .slice ya5 yn5 yp5, .slice ya6 yn6 yp6, .int .i64 al, .int .i64 sh, .int .i64 by_, .bool pr] 25) (.cells #[.int .i64 0, .int .i64 (-1), .int .i64 (-1), .int .i64 (-1)] 28)
    have HX4 := hideQ hx4
    clear hx4
    go_wp2_with fail
    have hx4 := unhideQ HX4
    clear HX4
    generalize World.alloc (World.alloc w4 _) _ = V4 at hx4 ⊢
    obtain ⟨pA4, pF4, hbV4, hzV4⟩ := hx4
    have HBV4 := hideQ ((unhideQ HB4).trans (hbV4.mono (by omega)))
    have HPA4 := hideQ pA4
    have HPF4 := hideQ pF4
    have HPX := hideQ ((hbV4.block w.heap.size (by omega)).trans (unhideQ HPX4))
    have HPRX := hideQ (fun u (h : Below V4.heap.size V4 u) => unhideQ HPX0 (unhideQ HBB) u ((unhideQ HBV4).trans (h.mono (by omega))))
    have HPRY := hideQ (fun u (h : Below V4.heap.size V4 u) => pr17 (w := u) pr (tb_of ((unhideQ HEN).below ((unhideQ HBV4).trans (h.mono (by omega)))) (unhideQ HBB) ((unhideQ HLY).below (hbV4.trans (h.mono (by omega))))))
    have HCKY := hideQ (fun u (h : Below V4.heap.size V4 u) => plchk (r := r) (sp := sp) (lk := lk) (t0 := t0) (t1 := t1) (al := al) (sh := sh) (by_ := by_) pr u ((unhideQ HEN).below ((unhideQ HBV4).trans (h.mono (by omega)))) ((unhideQ HLY).below (hbV4.trans (h.mono (by omega)))))
    rw [unhideQ HBB] at HCKY
    unfold boxOf chkN at HCKY
    simp only at HCKY
    unfold boxOf at HPRY
    clear pA4 pF4 hbV4
    refine flow4 (by kernel_rfl) dW dW_inj (fun t => t = 1 ∨ t = 3 ∨ t = 4) dW_keep _ (fun i v _ => OkW #[.int .i64 r, .int .i64 sp, .int .i64 lk, .int .i64 t0, .int .i64 t1, .slice a4 n4 p4, .slice a5 n5 p5, .slice a6 n6 p6, .int .i64 al, .int .i64 sh, .int .i64 by_, .bool pr] #[.int .i64 r, .int .i64 sp, .int .i64 lk, .int .i64 t0, .int .i64 t1, .slice ya4 yn4 yp4, .slice ya5 yn5 yp5, .slice ya6 yn6 yp6, .int .i64 al, .int .i64 sh, .int .i64 by_, .bool pr] ⟨(printText r sp lk t0 t1 ag rs ss al sh by_ pr).toArray⟩ (w4.heap.size + 1) i v) (fun u => Below V4.heap.size V4 u) (fun u u' => Below u.heap.size u u') ?hd ?hw ?hsz ?hle (fun i v u u' h _ => h) (fun u u' h hr => h.trans (hr.mono h.size)) ?step ?fin (below_drew1 V4)
    case hd =>
      intro i o ho
      have hi : i < 17 := (Array.getElem?_eq_some_iff.1 ho).1
      match i, hi with
      | 0, _ => obtain rfl := (Option.some.inj ho).symm; exact Or.inl rfl
      | 1, _ => obtain rfl := (Option.some.inj ho).symm; exact Or.inl rfl
      | 2, _ => obtain rfl := (Option.some.inj ho).symm; exact Or.inl rfl
      | 3, _ => obtain rfl := (Option.some.inj ho).symm; exact Or.inl rfl
      | 4, _ => obtain rfl := (Option.some.inj ho).symm; exact Or.inl rfl
      | 5, _ => obtain rfl := (Option.some.inj ho).symm; exact Or.inl rfl
      | 6, _ => obtain rfl := (Option.some.inj ho).symm; exact Or.inl rfl
      | 7, _ => obtain rfl := (Option.some.inj ho).symm; exact Or.inl rfl
      | 8, _ => obtain rfl := (Option.some.inj ho).symm; exact Or.inl rfl
      | 9, _ => obtain rfl := (Option.some.inj ho).symm; exact Or.inl rfl
      | 10, _ => obtain rfl := (Option.some.inj ho).symm; exact Or.inl rfl
      | 11, _ => obtain rfl := (Option.some.inj ho).symm; exact Or.inl rfl
      | 12, _ => obtain rfl := (Option.some.inj ho).symm; exact Or.inl rfl
      | 13, _ => obtain rfl := (Option.some.inj ho).symm; exact Or.inl rfl
      | 14, _ => obtain rfl := (Option.some.inj ho).symm; exact Or.inl rfl
      | 15, _ => obtain rfl := (Option.some.inj ho).symm; exact Or.inl rfl
      | 16, _ => obtain rfl := (Option.some.inj ho).symm; exact Or.inl rfl
    case hw =>
      intro i o ho a u hts hdp
      have hi : i < 17 := (Array.getElem?_eq_some_iff.1 ho).1
      match i, hi with
      | 0, _ => obtain rfl := (Option.some.inj ho).symm; rfl
      | 1, _ => obtain rfl := (Option.some.inj ho).symm; rfl
      | 2, _ => obtain rfl := (Option.some.inj ho).symm; rfl
      | 3, _ => obtain rfl := (Option.some.inj ho).symm; rfl
      | 4, _ => obtain rfl := (Option.some.inj ho).symm; exact wanted_of (j := 3) (s := 20) (b := true) rfl rfl rfl (by rw [hts]; show 20 < 33; decide) (hdp ⟨3, .guard⟩ (by simp) rfl ⟨_, rfl, rfl⟩)
      | 5, _ => obtain rfl := (Option.some.inj ho).symm; exact wanted_of (j := 3) (s := 20) (b := true) rfl rfl rfl (by rw [hts]; show 20 < 33; decide) (hdp ⟨3, .guard⟩ (by simp) rfl ⟨_, rfl, rfl⟩)
      | 6, _ => obtain rfl := (Option.some.inj ho).symm; exact wanted_of (j := 3) (s := 20) (b := true) rfl rfl rfl (by rw [hts]; show 20 < 33; decide) (hdp ⟨3, .guard⟩ (by simp) rfl ⟨_, rfl, rfl⟩)
      | 7, _ => obtain rfl := (Option.some.inj ho).symm; exact wanted_of (j := 3) (s := 20) (b := true) rfl rfl rfl (by rw [hts]; show 20 < 33; decide) (hdp ⟨3, .guard⟩ (by simp) rfl ⟨_, rfl, rfl⟩)
      | 8, _ => obtain rfl := (Option.some.inj ho).symm; exact wanted_of (j := 3) (s := 20) (b := true) rfl rfl rfl (by rw [hts]; show 20 < 33; decide) (hdp ⟨3, .guard⟩ (by simp) rfl ⟨_, rfl, rfl⟩)
      | 9, _ => obtain rfl := (Option.some.inj ho).symm; rfl
      | 10, _ => obtain rfl := (Option.some.inj ho).symm; rfl
      | 11, _ => obtain rfl := (Option.some.inj ho).symm; exact wanted_of (j := 10) (s := 27) (b := true) rfl rfl rfl (by rw [hts]; show 27 < 33; decide) (hdp ⟨10, .guard⟩ (by simp) rfl ⟨_, rfl, rfl⟩)
      | 12, _ => obtain rfl := (Option.some.inj ho).symm; exact wanted_of (j := 10) (s := 27) (b := true) rfl rfl rfl (by rw [hts]; show 27 < 33; decide) (hdp ⟨10, .guard⟩ (by simp) rfl ⟨_, rfl, rfl⟩)
      | 13, _ => obtain rfl := (Option.some.inj ho).symm; exact wanted_of (j := 10) (s := 27) (b := true) rfl rfl rfl (by rw [hts]; show 27 < 33; decide) (hdp ⟨10, .guard⟩ (by simp) rfl ⟨_, rfl, rfl⟩)
      | 14, _ => obtain rfl := (Option.some.inj ho).symm; exact wanted_of (j := 10) (s := 27) (b := true) rfl rfl rfl (by rw [hts]; show 27 < 33; decide) (hdp ⟨10, .guard⟩ (by simp) rfl ⟨_, rfl, rfl⟩)
      | 15, _ => obtain rfl := (Option.some.inj ho).symm; rfl
      | 16, _ => obtain rfl := (Option.some.inj ho).symm; rfl
    case hsz =>
      intro i o ho hdo
      have hi : i < 17 := (Array.getElem?_eq_some_iff.1 ho).1
      match i, hi with
      | 0, _ => show dW 0 < 33; decide
      | 1, _ => show dW 1 < 33; decide
      | 2, _ => show dW 2 < 33; decide
      | 3, _ => show dW 3 < 33; decide
      | 4, _ => show dW 4 < 33; decide
      | 5, _ => show dW 5 < 33; decide
      | 6, _ => show dW 6 < 33; decide
      | 7, _ => show dW 7 < 33; decide
      | 8, _ => show dW 8 < 33; decide
      | 9, _ => show dW 9 < 33; decide
      | 10, _ => show dW 10 < 33; decide
      | 11, _ => show dW 11 < 33; decide
      | 12, _ => show dW 12 < 33; decide
      | 13, _ => show dW 13 < 33; decide
      | 14, _ => show dW 14 < 33; decide
      | 15, _ => show dW 15 < 33; decide
      | 16, _ => show dW 16 < 33; decide
    case hle =>
      intro i o ho
      have hi : i < 17 := (Array.getElem?_eq_some_iff.1 ho).1
      match i, hi with
      | 0, _ => obtain rfl := (Option.some.inj ho).symm; decide
      | 1, _ => obtain rfl := (Option.some.inj ho).symm; decide
      | 2, _ => obtain rfl := (Option.some.inj ho).symm; decide
      | 3, _ => obtain rfl := (Option.some.inj ho).symm; decide
      | 4, _ => obtain rfl := (Option.some.inj ho).symm; decide
      | 5, _ => obtain rfl := (Option.some.inj ho).symm; decide
      | 6, _ => obtain rfl := (Option.some.inj ho).symm; decide
      | 7, _ => obtain rfl := (Option.some.inj ho).symm; decide
      | 8, _ => obtain rfl := (Option.some.inj ho).symm; decide
      | 9, _ => obtain rfl := (Option.some.inj ho).symm; decide
      | 10, _ => obtain rfl := (Option.some.inj ho).symm; decide
      | 11, _ => obtain rfl := (Option.some.inj ho).symm; decide
      | 12, _ => obtain rfl := (Option.some.inj ho).symm; decide
      | 13, _ => obtain rfl := (Option.some.inj ho).symm; decide
      | 14, _ => obtain rfl := (Option.some.inj ho).symm; decide
      | 15, _ => obtain rfl := (Option.some.inj ho).symm; decide
      | 16, _ => obtain rfl := (Option.some.inj ho).symm; decide
    case step =>
      intro i o ho a u hS hfr hdp
      have hi : i < 17 := (Array.getElem?_eq_some_iff.1 ho).1
      match i, hi with
      | 0, _ =>
        obtain rfl := (Option.some.inj ho).symm
        have f0 : a.eval (.tmp 4) = .pointer (some ⟨w4.heap.size + 1, 0, none⟩) := hfr 4 (by simp)
        refine opRun (F := fun v w' => _ ∧ _) (v := .pointer (some ⟨w4.heap.size + 1, 0, none⟩)) (w' := u) ?_ ⟨Below.refl _ _, rfl⟩
        simp [Act.eval] at f0
        clear hdp hfr ho hS
        simp [execOp, f0, go_sem]
      | 1, _ =>
        obtain rfl := (Option.some.inj ho).symm
        have f0 : a.eval (.tmp 17) = .pointer (some ⟨w4.heap.size + 1, 0, none⟩) := hdp ⟨0, .data⟩ (by simp) rfl ⟨_, rfl, rfl⟩
        have g := ((cells_of ((hS.block (w4.heap.size + 1) (by omega)).trans (unhideQ HPF4))).1 0)
        simp at g
        refine opRun (F := fun v w' => _ ∧ _) (v := .int .i64 0) (w' := u) ?_ ⟨Below.refl _ _, rfl⟩
        simp [Act.eval] at f0
        clear hdp hfr ho hS
        simp [execOp, f0, g, go_sem]
      | 2, _ =>
        obtain rfl := (Option.some.inj ho).symm
        have f0 : a.eval (.tmp 18) = .int .i64 0 := hdp ⟨1, .data⟩ (by simp) rfl ⟨_, rfl, rfl⟩
        refine opRun (F := fun v w' => _ ∧ _) (v := .bool true) (w' := u) ?_ ⟨Below.refl _ _, rfl⟩
        simp [Act.eval] at f0
        clear hdp hfr ho hS
        simp [execOp, f0, go_sem]
      | 3, _ =>
        obtain rfl := (Option.some.inj ho).symm
        have f0 : a.eval (.tmp 19) = .bool true := hdp ⟨2, .data⟩ (by simp) rfl ⟨_, rfl, rfl⟩
        refine opRun (F := fun v w' => _ ∧ _) (v := .bool true) (w' := u) ?_ ⟨Below.refl _ _, rfl⟩
        simp [Act.eval] at f0
        clear hdp hfr ho hS
        simp [execOp, f0, go_sem]
      | 4, _ =>
        obtain rfl := (Option.some.inj ho).symm
        have f0 : a.eval (.tmp 3) = .pointer (some ⟨w4.heap.size, 0, none⟩) := hfr 3 (by simp)
        exact wp_load_row 25 (.tmp 3) rfl (w4.heap.size) f0 25 #[.int .i64 r, .int .i64 sp, .int .i64 lk, .int .i64 t0, .int .i64 t1, .slice ya4 yn4 yp4, .slice ya5 yn5 yp5, .slice ya6 yn6 yp6, .int .i64 al, .int .i64 sh, .int .i64 by_, .bool pr] (0, 0) _ ((hS.block (w4.heap.size) (by omega)).trans (unhideQ HPA4)) Tryz.underlying25 rfl (Tryz.infTab.trans rfl) ⟨_, rfl, Below.refl _ _, rfl⟩
      | 5, _ =>
        obtain rfl := (Option.some.inj ho).symm
        have f0 : a.eval (.tmp 21) = .agg #[.int .i64 r, .int .i64 sp, .int .i64 lk, .int .i64 t0, .int .i64 t1, .slice ya4 yn4 yp4, .slice ya5 yn5 yp5, .slice ya6 yn6 yp6, .int .i64 al, .int .i64 sh, .int .i64 by_, .bool pr] := hdp ⟨4, .data⟩ (by simp) rfl ⟨_, rfl, rfl⟩
        refine opEnter (F := fun v w' => _ ∧ _) (f := 7) (args := #[.agg #[.int .i64 r, .int .i64 sp, .int .i64 lk, .int .i64 t0, .int .i64 t1, .slice ya4 yn4 yp4, .slice ya5 yn5 yp5, .slice ya6 yn6 yp6, .int .i64 al, .int .i64 sh, .int .i64 by_, .bool pr]]) (w1 := u) ?_ ((unhideQ HPRY u hS).mono ?_)
        · clear hdp hfr ho
          simp [Act.eval] at f0
          simp [execOp, f0, go_sem]
        · rintro e u' ⟨rfl, hb⟩
          exact ⟨_, rfl, hb, rfl⟩
      | 6, _ =>
        obtain rfl := (Option.some.inj ho).symm
        have f0 : a.eval (.tmp 1) = .pointer (some ⟨w.heap.size, 0, none⟩) := hfr 1 (by simp)
        exact wp_load_row 25 (.tmp 1) rfl (w.heap.size) f0 25 #[.int .i64 r, .int .i64 sp, .int .i64 lk, .int .i64 t0, .int .i64 t1, .slice a4 n4 p4, .slice a5 n5 p5, .slice a6 n6 p6, .int .i64 al, .int .i64 sh, .int .i64 by_, .bool pr] (0, 0) _ ((hS.block (w.heap.size) (by omega)).trans (unhideQ HPX)) Tryz.underlying25 rfl (Tryz.infTab.trans rfl) ⟨_, rfl, Below.refl _ _, rfl⟩
      | 7, _ =>
        obtain rfl := (Option.some.inj ho).symm
        have f0 : a.eval (.tmp 23) = .agg #[.int .i64 r, .int .i64 sp, .int .i64 lk, .int .i64 t0, .int .i64 t1, .slice a4 n4 p4, .slice a5 n5 p5, .slice a6 n6 p6, .int .i64 al, .int .i64 sh, .int .i64 by_, .bool pr] := hdp ⟨6, .data⟩ (by simp) rfl ⟨_, rfl, rfl⟩
        refine opEnter (F := fun v w' => _ ∧ _) (f := 7) (args := #[.agg #[.int .i64 r, .int .i64 sp, .int .i64 lk, .int .i64 t0, .int .i64 t1, .slice a4 n4 p4, .slice a5 n5 p5, .slice a6 n6 p6, .int .i64 al, .int .i64 sh, .int .i64 by_, .bool pr]]) (w1 := u) ?_ ((unhideQ HPRX u hS).mono ?_)
        · clear hdp hfr ho
          simp [Act.eval] at f0
          simp [execOp, f0, go_sem]
        · rintro e u' ⟨rfl, hb⟩
          exact ⟨_, rfl, hb, rfl⟩
      | 8, _ =>
        obtain rfl := (Option.some.inj ho).symm
        have f0 : a.eval (.tmp 22) = .string ⟨(printText r sp lk t0 t1 ag rs ss al sh by_ pr).toArray⟩ := hdp ⟨5, .data⟩ (by simp) rfl ⟨_, rfl, rfl⟩
        have f1 : a.eval (.tmp 24) = .string ⟨(printText r sp lk t0 t1 ag rs ss al sh by_ pr).toArray⟩ := hdp ⟨7, .data⟩ (by simp) rfl ⟨_, rfl, rfl⟩
        refine opRun (F := fun v w' => _ ∧ _) (v := .bool true) (w' := u) ?_ ⟨Below.refl _ _, rfl⟩
        simp [Act.eval] at f0 f1
        clear hdp hfr ho hS
        simp [execOp, f0, f1, go_sem]
      | 9, _ =>
        obtain rfl := (Option.some.inj ho).symm
        have f0 : a.eval (.tmp 20) = .bool true := hdp ⟨3, .data⟩ (by simp) rfl ⟨_, rfl, rfl⟩
        have f1 : a.eval (.tmp 25) = .bool true := hdp ⟨8, .data⟩ (by simp) rfl ⟨_, rfl, rfl⟩
        refine opRun (F := fun v w' => _ ∧ _) (v := .bool true) (w' := u) ?_ ⟨Below.refl _ _, rfl⟩
        simp [Act.eval] at f0 f1
        clear hdp hfr ho hS
        simp [execOp, f0, f1, go_sem]
      | 10, _ =>
        obtain rfl := (Option.some.inj ho).symm
        have f0 : a.eval (.tmp 26) = .bool true := hdp ⟨9, .data⟩ (by simp) rfl ⟨_, rfl, rfl⟩
        refine opRun (F := fun v w' => _ ∧ _) (v := .bool true) (w' := u) ?_ ⟨Below.refl _ _, rfl⟩
        simp [Act.eval] at f0
        clear hdp hfr ho hS
        simp [execOp, f0, go_sem]
      | 11, _ =>
        obtain rfl := (Option.some.inj ho).symm
        have f0 : a.eval (.tmp 3) = .pointer (some ⟨w4.heap.size, 0, none⟩) := hfr 3 (by simp)
        exact wp_load_row 25 (.tmp 3) rfl (w4.heap.size) f0 25 #[.int .i64 r, .int .i64 sp, .int .i64 lk, .int .i64 t0, .int .i64 t1, .slice ya4 yn4 yp4, .slice ya5 yn5 yp5, .slice ya6 yn6 yp6, .int .i64 al, .int .i64 sh, .int .i64 by_, .bool pr] (0, 0) _ ((hS.block (w4.heap.size) (by omega)).trans (unhideQ HPA4)) Tryz.underlying25 rfl (Tryz.infTab.trans rfl) ⟨_, rfl, Below.refl _ _, rfl⟩
      | 12, _ =>
        obtain rfl := (Option.some.inj ho).symm
        have f0 : a.eval (.tmp 28) = .agg #[.int .i64 r, .int .i64 sp, .int .i64 lk, .int .i64 t0, .int .i64 t1, .slice ya4 yn4 yp4, .slice ya5 yn5 yp5, .slice ya6 yn6 yp6, .int .i64 al, .int .i64 sh, .int .i64 by_, .bool pr] := hdp ⟨11, .data⟩ (by simp) rfl ⟨_, rfl, rfl⟩
        refine opEnter (F := fun v w' => _ ∧ _) (f := 5) (args := #[.agg #[.int .i64 r, .int .i64 sp, .int .i64 lk, .int .i64 t0, .int .i64 t1, .slice ya4 yn4 yp4, .slice ya5 yn5 yp5, .slice ya6 yn6 yp6, .int .i64 al, .int .i64 sh, .int .i64 by_, .bool pr]]) (w1 := u) ?_ ((unhideQ HCKY u hS).mono ?_)
        · clear hdp hfr ho
          simp [Act.eval] at f0
          simp [execOp, f0, go_sem]
        · rintro e u' ⟨rfl, hb⟩
          exact ⟨_, rfl, hb, rfl⟩
      | 13, _ =>
        obtain rfl := (Option.some.inj ho).symm
        have f0 : a.eval (.tmp 29) = flt 0 (-1) (-1) (-1) := hdp ⟨12, .data⟩ (by simp) rfl ⟨_, rfl, rfl⟩
        refine opRun (F := fun v w' => _ ∧ _) (v := .int .i64 0) (w' := u) ?_ ⟨Below.refl _ _, rfl⟩
        simp [Act.eval] at f0
        clear hdp hfr ho hS
        simp [execOp, f0, fld0, go_sem]
      | 14, _ =>
        obtain rfl := (Option.some.inj ho).symm
        have f0 : a.eval (.tmp 30) = .int .i64 0 := hdp ⟨13, .data⟩ (by simp) rfl ⟨_, rfl, rfl⟩
        refine opRun (F := fun v w' => _ ∧ _) (v := .bool true) (w' := u) ?_ ⟨Below.refl _ _, rfl⟩
        simp [Act.eval] at f0
        clear hdp hfr ho hS
        simp [execOp, f0, go_sem]
      | 15, _ =>
        obtain rfl := (Option.some.inj ho).symm
        have f0 : a.eval (.tmp 27) = .bool true := hdp ⟨10, .data⟩ (by simp) rfl ⟨_, rfl, rfl⟩
        have f1 : a.eval (.tmp 31) = .bool true := hdp ⟨14, .data⟩ (by simp) rfl ⟨_, rfl, rfl⟩
        refine opRun (F := fun v w' => _ ∧ _) (v := .bool true) (w' := u) ?_ ⟨Below.refl _ _, rfl⟩
        simp [Act.eval] at f0 f1
        clear hdp hfr ho hS
        simp [execOp, f0, f1, go_sem]
      | 16, _ =>
        obtain rfl := (Option.some.inj ho).symm
        have f0 : a.eval (.tmp 32) = .bool true := hdp ⟨15, .data⟩ (by simp) rfl ⟨_, rfl, rfl⟩
        refine opRun (F := fun v w' => _ ∧ _) (v := .bool true) (w' := u) ?_ ⟨Below.refl _ _, rfl⟩
        simp [Act.eval] at f0
        clear hdp hfr ho hS
        simp [execOp, f0, go_sem]
    case fin =>
      intro a u hS hdf hts hout hok hno
      have e2 : a.eval (.tmp 2) = .bool true := hok 16 _ rfl rfl
      have hbF := (unhideQ HBV4).trans (hS.mono (by omega))
      clear hok hno hout
      go_wp2
      refine bodyPost_ret (v := .bool true) (by simp [Act.eval] at e2; simp [results, Tryz.results3, e2]) hdf ?_
      exact ⟨rfl, hbF⟩
end Go.Proofs.YtobempobmokkcaaGreatDoor
