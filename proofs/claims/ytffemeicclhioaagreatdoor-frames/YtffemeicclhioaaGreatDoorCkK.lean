/-
 Checks: the fields of an instruction, by package program: those that draw no order. Own work of the verifier.
-/
import Derived.Test.YtffemeicclhioaaGreatDoorJ8
namespace Go.Proofs.YtffemeicclhioaaGreatDoor
open Go.RowKit

theorem localsB_1 (f : Zao) (a : Int) : localsB f [a] = localB f a := by simp [localsB, upB, List.range, List.range.loop]
theorem localsB_2 (f : Zao) (a b : Int) : localsB f [a, b] = (localB f a && localB f b) := by simp [localsB, upB, List.range, List.range.loop]
theorem localsB_3 (f : Zao) (a b c : Int) : localsB f [a, b, c] = (localB f a && (localB f b && localB f c)) := by simp [localsB, upB, List.range, List.range.loop]
/-- What a scope holds. -/
structure ScD (w : World) (p : Zap) (f : Zao) (fv ev pv hv sv bv : Value) (A E : Nat → Array Value) (B : Nat → Value) : Prop where
 prog : ProgC w fv ev p A E
 func : FuncD w f pv hv sv bv B
theorem ScD.below {w w' : World} {p : Zap} {f : Zao} {fv ev pv hv sv bv : Value} {A E : Nat → Array Value} {B : Nat → Value} (h : ScD w p f fv ev pv hv sv bv A E B) (hb : Below w.heap.size w w') : ScD w' p f fv ev pv hv sv bv A E B := ⟨h.prog.below hb, h.func.below hb⟩
/-- What stands ahead of the instructions is right. -/
structure FitD (p : Zap) (f : Zao) : Prop where
 slots : numsIn f.slots 1 8 = true
 funcs : ∀ k, k < p.funcs.length → (p.funcs.getD k Zaj).params.length ≤ 8 ∧ (p.funcs.getD k Zaj).results ≤ 4
 externs : ∀ k, k < p.externs.length → (p.externs.getD k ([], 0)).2 ≤ 4
theorem Li.list {w : World} (ns : List Int) (hs : ns.length < short) : Li (w.alloc (.cells (ns.map fun n => Value.int .i64 n).toArray 3 (0, 0))) (.slice (some ⟨w.heap.size, 0, none⟩) ns.length ns.length) ns := Li.new (heap_alloc_new w _) hs
set_option maxHeartbeats 4000000 in
set_option maxRecDepth 100000 in
theorem ff1_c (p : Zap) (f : Zao) (d a bb n fx : Int) (gs : List (Int × Int)) (os : List Int) (fv ev pv hv sv bv av ov : Value) (A E : Nat → Array Value) (B : Nat → Value) (w : World) (hSC : ScD w p f fv ev pv hv sv bv A E B) (ha : LS 2 w av gs.length (fun k => pairA (gs.getD k (0, 0)))) (ho : Li w ov os) (hF : FitD p f) (hn : 0 ≤ n ∧ n < 18446744073709551616) :
 Calls Tryz.prog 76 #[.agg #[fv, ev, pv, .int .i64 f.results, hv, sv, bv], .agg #[.int .i64 1, .int .i64 d, .int .i64 a, .int .i64 bb, .int .u64 n, .int .i64 fx, av, ov]] w fun e w' => e = .returned (.bool (Zah p f ⟨1, d, a, bb, n, fx, gs, os⟩)) ∧ Below w.heap.size w w' := by
 have hx := al0 w (.cells #[fv, ev, pv, .int .i64 f.results, hv, sv, bv] 149 (0, 0))
 generalize hW1 : World.alloc w (.cells #[fv, ev, pv, .int .i64 f.results, hv, sv, bv] 149 (0, 0)) = W1 at hx
 have hx2 := al0 W1 (.cells #[.int .i64 1, .int .i64 d, .int .i64 a, .int .i64 bb, .int .u64 n, .int .i64 fx, av, ov] 76 (0, 0))
 have hs1 := hx.2.2
 have hs2 := hx2.2.2
 have hb12 := Zad hx.2.1 hx2.2.1 (by omega)
 have HSC := Zac (hSC.below hb12)
 have HA := Zac (ha.below hb12)
 have HO := Zac (ho.below hb12)
 have HW := Zac hb12
 have HR1 := Zac ((hx2.2.1.block w.heap.size (by omega)).trans hx.1)
 have hr2 := hx2.1
 rw [hs1] at hr2 hs2
 have HR2 := Zac hr2
 have HZ := Zac hs2
 have HF := Zac hF
 have HNN := Zac hn
 have hl1 : f.homes.length < 9223372036854775808 := hSC.func.hs.lt
 have hl2 : f.slots.length < 9223372036854775808 := hSC.func.ss.lt
 have hl3 : f.blocks.length < 9223372036854775808 := by obtain ⟨_, _, _, _, h, _⟩ := hSC.func.bs; exact h
 have hl4 : p.funcs.length < 9223372036854775808 := by obtain ⟨_, _, _, _, h, _⟩ := hSC.prog.fs; exact h
 have hl5 : p.externs.length < 9223372036854775808 := by obtain ⟨_, _, _, _, h, _⟩ := hSC.prog.es; exact h
 have hl6 : os.length < 9223372036854775808 := ho.lt
 obtain ⟨pf, cf, rfl⟩ := hSC.prog.fs.shape
 obtain ⟨pe, ce, rfl⟩ := hSC.prog.es.shape
 obtain ⟨pp, cp, rfl⟩ := hSC.func.ps.shape
 obtain ⟨ph, ch, rfl⟩ := hSC.func.hs.shape
 obtain ⟨ps, cs, rfl⟩ := hSC.func.ss.shape
 obtain ⟨pb, cb, rfl⟩ := hSC.func.bs.shape
 obtain ⟨pa, ca, rfl⟩ := ha.shape
 obtain ⟨po, co, rfl⟩ := ho.shape
 clear hx hx2 hs1 hs2 hb12 hr2 hSC ha ho hF hn
 subst hW1
 go_enter Tryz.func76, Tryz.ntmps76
 go_wp2_with fail
 generalize World.alloc (World.alloc w _) _ = W at HSC HA HO HW HR1 HR2 HZ ⊢
 have hT := Zaa HZ
 rw [← hT]
 refine (haveLocals_c f _ _ _ _ _ _ _ _ [d] _ ⟨_, _, rfl⟩ hl1 (Li.list (w := W) [d] (by show 1 < short; decide))).mono ?_
 rintro e w2 ⟨rfl, hb⟩
 have HB2 := Zac (Zad (al0 W _).2.1 hb (by simp))
 clear hb hT
 rw [localsB_1]
 have hx := Zac (show Zah p f ⟨1, d, a, bb, n, fx, gs, os⟩ = localB f d by rfl)
 go_wp2
 go_ret
 exact ⟨by rw [Zaa hx]; rfl, Zad (Zaa HW) (Zaa HB2) (by have := Zaa HZ; omega)⟩
set_option maxHeartbeats 4000000 in
set_option maxRecDepth 100000 in
theorem ff2_c (p : Zap) (f : Zao) (d a bb n fx : Int) (gs : List (Int × Int)) (os : List Int) (fv ev pv hv sv bv av ov : Value) (A E : Nat → Array Value) (B : Nat → Value) (w : World) (hSC : ScD w p f fv ev pv hv sv bv A E B) (ha : LS 2 w av gs.length (fun k => pairA (gs.getD k (0, 0)))) (ho : Li w ov os) (hF : FitD p f) (hn : 0 ≤ n ∧ n < 18446744073709551616) :
 Calls Tryz.prog 76 #[.agg #[fv, ev, pv, .int .i64 f.results, hv, sv, bv], .agg #[.int .i64 2, .int .i64 d, .int .i64 a, .int .i64 bb, .int .u64 n, .int .i64 fx, av, ov]] w fun e w' => e = .returned (.bool (Zah p f ⟨2, d, a, bb, n, fx, gs, os⟩)) ∧ Below w.heap.size w w' := by
 have hx := al0 w (.cells #[fv, ev, pv, .int .i64 f.results, hv, sv, bv] 149 (0, 0))
 generalize hW1 : World.alloc w (.cells #[fv, ev, pv, .int .i64 f.results, hv, sv, bv] 149 (0, 0)) = W1 at hx
 have hx2 := al0 W1 (.cells #[.int .i64 2, .int .i64 d, .int .i64 a, .int .i64 bb, .int .u64 n, .int .i64 fx, av, ov] 76 (0, 0))
 have hs1 := hx.2.2
 have hs2 := hx2.2.2
 have hb12 := Zad hx.2.1 hx2.2.1 (by omega)
 have HSC := Zac (hSC.below hb12)
 have HA := Zac (ha.below hb12)
 have HO := Zac (ho.below hb12)
 have HW := Zac hb12
 have HR1 := Zac ((hx2.2.1.block w.heap.size (by omega)).trans hx.1)
 have hr2 := hx2.1
 rw [hs1] at hr2 hs2
 have HR2 := Zac hr2
 have HZ := Zac hs2
 have HF := Zac hF
 have HNN := Zac hn
 have hl1 : f.homes.length < 9223372036854775808 := hSC.func.hs.lt
 have hl2 : f.slots.length < 9223372036854775808 := hSC.func.ss.lt
 have hl3 : f.blocks.length < 9223372036854775808 := by obtain ⟨_, _, _, _, h, _⟩ := hSC.func.bs; exact h
 have hl4 : p.funcs.length < 9223372036854775808 := by obtain ⟨_, _, _, _, h, _⟩ := hSC.prog.fs; exact h
 have hl5 : p.externs.length < 9223372036854775808 := by obtain ⟨_, _, _, _, h, _⟩ := hSC.prog.es; exact h
 have hl6 : os.length < 9223372036854775808 := ho.lt
 obtain ⟨pf, cf, rfl⟩ := hSC.prog.fs.shape
 obtain ⟨pe, ce, rfl⟩ := hSC.prog.es.shape
 obtain ⟨pp, cp, rfl⟩ := hSC.func.ps.shape
 obtain ⟨ph, ch, rfl⟩ := hSC.func.hs.shape
 obtain ⟨ps, cs, rfl⟩ := hSC.func.ss.shape
 obtain ⟨pb, cb, rfl⟩ := hSC.func.bs.shape
 obtain ⟨pa, ca, rfl⟩ := ha.shape
 obtain ⟨po, co, rfl⟩ := ho.shape
 clear hx hx2 hs1 hs2 hb12 hr2 hSC ha ho hF hn
 subst hW1
 go_enter Tryz.func76, Tryz.ntmps76
 go_wp2_with fail
 generalize World.alloc (World.alloc w _) _ = W at HSC HA HO HW HR1 HR2 HZ ⊢
 have hT := Zaa HZ
 rw [← hT]
 refine (haveLocals_c f _ _ _ _ _ _ _ _ [d, a] _ ⟨_, _, rfl⟩ hl1 (Li.list (w := W) [d, a] (by show 2 < short; decide))).mono ?_
 rintro e w2 ⟨rfl, hb⟩
 have HB2 := Zac (Zad (al0 W _).2.1 hb (by simp))
 clear hb hT
 rw [localsB_2]
 have hx := Zac (show Zah p f ⟨2, d, a, bb, n, fx, gs, os⟩ = (localB f d && localB f a) by rfl)
 go_wp2
 go_ret
 exact ⟨by rw [Zaa hx]; rfl, Zad (Zaa HW) (Zaa HB2) (by have := Zaa HZ; omega)⟩
set_option maxHeartbeats 4000000 in
set_option maxRecDepth 100000 in
theorem ff3_c (p : Zap) (f : Zao) (d a bb n fx : Int) (gs : List (Int × Int)) (os : List Int) (fv ev pv hv sv bv av ov : Value) (A E : Nat → Array Value) (B : Nat → Value) (w : World) (hSC : ScD w p f fv ev pv hv sv bv A E B) (ha : LS 2 w av gs.length (fun k => pairA (gs.getD k (0, 0)))) (ho : Li w ov os) (hF : FitD p f) (hn : 0 ≤ n ∧ n < 18446744073709551616) :
 Calls Tryz.prog 76 #[.agg #[fv, ev, pv, .int .i64 f.results, hv, sv, bv], .agg #[.int .i64 3, .int .i64 d, .int .i64 a, .int .i64 bb, .int .u64 n, .int .i64 fx, av, ov]] w fun e w' => e = .returned (.bool (Zah p f ⟨3, d, a, bb, n, fx, gs, os⟩)) ∧ Below w.heap.size w w' := by
 have hx := al0 w (.cells #[fv, ev, pv, .int .i64 f.results, hv, sv, bv] 149 (0, 0))
 generalize hW1 : World.alloc w (.cells #[fv, ev, pv, .int .i64 f.results, hv, sv, bv] 149 (0, 0)) = W1 at hx
 have hx2 := al0 W1 (.cells #[.int .i64 3, .int .i64 d, .int .i64 a, .int .i64 bb, .int .u64 n, .int .i64 fx, av, ov] 76 (0, 0))
 have hs1 := hx.2.2
 have hs2 := hx2.2.2
 have hb12 := Zad hx.2.1 hx2.2.1 (by omega)
 have HSC := Zac (hSC.below hb12)
 have HA := Zac (ha.below hb12)
 have HO := Zac (ho.below hb12)
 have HW := Zac hb12
 have HR1 := Zac ((hx2.2.1.block w.heap.size (by omega)).trans hx.1)
 have hr2 := hx2.1
 rw [hs1] at hr2 hs2
 have HR2 := Zac hr2
 have HZ := Zac hs2
 have HF := Zac hF
 have HNN := Zac hn
 have hl1 : f.homes.length < 9223372036854775808 := hSC.func.hs.lt
 have hl2 : f.slots.length < 9223372036854775808 := hSC.func.ss.lt
 have hl3 : f.blocks.length < 9223372036854775808 := by obtain ⟨_, _, _, _, h, _⟩ := hSC.func.bs; exact h
 have hl4 : p.funcs.length < 9223372036854775808 := by obtain ⟨_, _, _, _, h, _⟩ := hSC.prog.fs; exact h
 have hl5 : p.externs.length < 9223372036854775808 := by obtain ⟨_, _, _, _, h, _⟩ := hSC.prog.es; exact h
 have hl6 : os.length < 9223372036854775808 := ho.lt
 obtain ⟨pf, cf, rfl⟩ := hSC.prog.fs.shape
 obtain ⟨pe, ce, rfl⟩ := hSC.prog.es.shape
 obtain ⟨pp, cp, rfl⟩ := hSC.func.ps.shape
 obtain ⟨ph, ch, rfl⟩ := hSC.func.hs.shape
 obtain ⟨ps, cs, rfl⟩ := hSC.func.ss.shape
 obtain ⟨pb, cb, rfl⟩ := hSC.func.bs.shape
 obtain ⟨pa, ca, rfl⟩ := ha.shape
 obtain ⟨po, co, rfl⟩ := ho.shape
 clear hx hx2 hs1 hs2 hb12 hr2 hSC ha ho hF hn
 subst hW1
 go_enter Tryz.func76, Tryz.ntmps76
 go_wp2_with fail
 generalize World.alloc (World.alloc w _) _ = W at HSC HA HO HW HR1 HR2 HZ ⊢
 have hT := Zaa HZ
 rw [← hT]
 refine (haveLocals_c f _ _ _ _ _ _ _ _ [d, a, bb] _ ⟨_, _, rfl⟩ hl1 (Li.list (w := W) [d, a, bb] (by show 3 < short; decide))).mono ?_
 rintro e w2 ⟨rfl, hb⟩
 have HB2 := Zac (Zad (al0 W _).2.1 hb (by simp))
 clear hb hT
 rw [localsB_3]
 have hx := Zac (show Zah p f ⟨3, d, a, bb, n, fx, gs, os⟩ = (localB f d && (localB f a && localB f bb)) by rfl)
 go_wp2
 go_ret
 exact ⟨by rw [Zaa hx]; rfl, Zad (Zaa HW) (Zaa HB2) (by have := Zaa HZ; omega)⟩
set_option maxHeartbeats 4000000 in
set_option maxRecDepth 100000 in
theorem ff4_c (p : Zap) (f : Zao) (d a bb n fx : Int) (gs : List (Int × Int)) (os : List Int) (fv ev pv hv sv bv av ov : Value) (A E : Nat → Array Value) (B : Nat → Value) (w : World) (hSC : ScD w p f fv ev pv hv sv bv A E B) (ha : LS 2 w av gs.length (fun k => pairA (gs.getD k (0, 0)))) (ho : Li w ov os) (hF : FitD p f) (hn : 0 ≤ n ∧ n < 18446744073709551616) :
 Calls Tryz.prog 76 #[.agg #[fv, ev, pv, .int .i64 f.results, hv, sv, bv], .agg #[.int .i64 4, .int .i64 d, .int .i64 a, .int .i64 bb, .int .u64 n, .int .i64 fx, av, ov]] w fun e w' => e = .returned (.bool (Zah p f ⟨4, d, a, bb, n, fx, gs, os⟩)) ∧ Below w.heap.size w w' := by
 have hx := al0 w (.cells #[fv, ev, pv, .int .i64 f.results, hv, sv, bv] 149 (0, 0))
 generalize hW1 : World.alloc w (.cells #[fv, ev, pv, .int .i64 f.results, hv, sv, bv] 149 (0, 0)) = W1 at hx
 have hx2 := al0 W1 (.cells #[.int .i64 4, .int .i64 d, .int .i64 a, .int .i64 bb, .int .u64 n, .int .i64 fx, av, ov] 76 (0, 0))
 have hs1 := hx.2.2
 have hs2 := hx2.2.2
 have hb12 := Zad hx.2.1 hx2.2.1 (by omega)
 have HSC := Zac (hSC.below hb12)
 have HA := Zac (ha.below hb12)
 have HO := Zac (ho.below hb12)
 have HW := Zac hb12
 have HR1 := Zac ((hx2.2.1.block w.heap.size (by omega)).trans hx.1)
 have hr2 := hx2.1
 rw [hs1] at hr2 hs2
 have HR2 := Zac hr2
 have HZ := Zac hs2
 have HF := Zac hF
 have HNN := Zac hn
 have hl1 : f.homes.length < 9223372036854775808 := hSC.func.hs.lt
 have hl2 : f.slots.length < 9223372036854775808 := hSC.func.ss.lt
 have hl3 : f.blocks.length < 9223372036854775808 := by obtain ⟨_, _, _, _, h, _⟩ := hSC.func.bs; exact h
 have hl4 : p.funcs.length < 9223372036854775808 := by obtain ⟨_, _, _, _, h, _⟩ := hSC.prog.fs; exact h
 have hl5 : p.externs.length < 9223372036854775808 := by obtain ⟨_, _, _, _, h, _⟩ := hSC.prog.es; exact h
 have hl6 : os.length < 9223372036854775808 := ho.lt
 obtain ⟨pf, cf, rfl⟩ := hSC.prog.fs.shape
 obtain ⟨pe, ce, rfl⟩ := hSC.prog.es.shape
 obtain ⟨pp, cp, rfl⟩ := hSC.func.ps.shape
 obtain ⟨ph, ch, rfl⟩ := hSC.func.hs.shape
 obtain ⟨ps, cs, rfl⟩ := hSC.func.ss.shape
 obtain ⟨pb, cb, rfl⟩ := hSC.func.bs.shape
 obtain ⟨pa, ca, rfl⟩ := ha.shape
 obtain ⟨po, co, rfl⟩ := ho.shape
 clear hx hx2 hs1 hs2 hb12 hr2 hSC ha ho hF hn
 subst hW1
 go_enter Tryz.func76, Tryz.ntmps76
 go_wp2_with fail
 generalize World.alloc (World.alloc w _) _ = W at HSC HA HO HW HR1 HR2 HZ ⊢
 have hT := Zaa HZ
 rw [← hT]
 refine (haveLocals_c f _ _ _ _ _ _ _ _ [d, a, bb] _ ⟨_, _, rfl⟩ hl1 (Li.list (w := W) [d, a, bb] (by show 3 < short; decide))).mono ?_
 rintro e w2 ⟨rfl, hb⟩
 have HB2 := Zac (Zad (al0 W _).2.1 hb (by simp))
 clear hb hT
 rw [localsB_3]
 have hx := Zac (show Zah p f ⟨4, d, a, bb, n, fx, gs, os⟩ = (localB f d && (localB f a && localB f bb)) by rfl)
 go_wp2
 go_ret
 exact ⟨by rw [Zaa hx]; rfl, Zad (Zaa HW) (Zaa HB2) (by have := Zaa HZ; omega)⟩
set_option maxHeartbeats 4000000 in
set_option maxRecDepth 100000 in
theorem ff5_c (p : Zap) (f : Zao) (d a bb n fx : Int) (gs : List (Int × Int)) (os : List Int) (fv ev pv hv sv bv av ov : Value) (A E : Nat → Array Value) (B : Nat → Value) (w : World) (hSC : ScD w p f fv ev pv hv sv bv A E B) (ha : LS 2 w av gs.length (fun k => pairA (gs.getD k (0, 0)))) (ho : Li w ov os) (hF : FitD p f) (hn : 0 ≤ n ∧ n < 18446744073709551616) :
 Calls Tryz.prog 76 #[.agg #[fv, ev, pv, .int .i64 f.results, hv, sv, bv], .agg #[.int .i64 5, .int .i64 d, .int .i64 a, .int .i64 bb, .int .u64 n, .int .i64 fx, av, ov]] w fun e w' => e = .returned (.bool (Zah p f ⟨5, d, a, bb, n, fx, gs, os⟩)) ∧ Below w.heap.size w w' := by
 have hx := al0 w (.cells #[fv, ev, pv, .int .i64 f.results, hv, sv, bv] 149 (0, 0))
 generalize hW1 : World.alloc w (.cells #[fv, ev, pv, .int .i64 f.results, hv, sv, bv] 149 (0, 0)) = W1 at hx
 have hx2 := al0 W1 (.cells #[.int .i64 5, .int .i64 d, .int .i64 a, .int .i64 bb, .int .u64 n, .int .i64 fx, av, ov] 76 (0, 0))
 have hs1 := hx.2.2
 have hs2 := hx2.2.2
 have hb12 := Zad hx.2.1 hx2.2.1 (by omega)
 have HSC := Zac (hSC.below hb12)
 have HA := Zac (ha.below hb12)
 have HO := Zac (ho.below hb12)
 have HW := Zac hb12
 have HR1 := Zac ((hx2.2.1.block w.heap.size (by omega)).trans hx.1)
 have hr2 := hx2.1
 rw [hs1] at hr2 hs2
 have HR2 := Zac hr2
 have HZ := Zac hs2
 have HF := Zac hF
 have HNN := Zac hn
 have hl1 : f.homes.length < 9223372036854775808 := hSC.func.hs.lt
 have hl2 : f.slots.length < 9223372036854775808 := hSC.func.ss.lt
 have hl3 : f.blocks.length < 9223372036854775808 := by obtain ⟨_, _, _, _, h, _⟩ := hSC.func.bs; exact h
 have hl4 : p.funcs.length < 9223372036854775808 := by obtain ⟨_, _, _, _, h, _⟩ := hSC.prog.fs; exact h
 have hl5 : p.externs.length < 9223372036854775808 := by obtain ⟨_, _, _, _, h, _⟩ := hSC.prog.es; exact h
 have hl6 : os.length < 9223372036854775808 := ho.lt
 obtain ⟨pf, cf, rfl⟩ := hSC.prog.fs.shape
 obtain ⟨pe, ce, rfl⟩ := hSC.prog.es.shape
 obtain ⟨pp, cp, rfl⟩ := hSC.func.ps.shape
 obtain ⟨ph, ch, rfl⟩ := hSC.func.hs.shape
 obtain ⟨ps, cs, rfl⟩ := hSC.func.ss.shape
 obtain ⟨pb, cb, rfl⟩ := hSC.func.bs.shape
 obtain ⟨pa, ca, rfl⟩ := ha.shape
 obtain ⟨po, co, rfl⟩ := ho.shape
 clear hx hx2 hs1 hs2 hb12 hr2 hSC ha ho hF hn
 subst hW1
 go_enter Tryz.func76, Tryz.ntmps76
 go_wp2_with fail
 generalize World.alloc (World.alloc w _) _ = W at HSC HA HO HW HR1 HR2 HZ ⊢
 have hT := Zaa HZ
 rw [← hT]
 refine (haveLocals_c f _ _ _ _ _ _ _ _ [d, a, bb] _ ⟨_, _, rfl⟩ hl1 (Li.list (w := W) [d, a, bb] (by show 3 < short; decide))).mono ?_
 rintro e w2 ⟨rfl, hb⟩
 have HB2 := Zac (Zad (al0 W _).2.1 hb (by simp))
 clear hb hT
 rw [localsB_3]
 have hx := Zac (show Zah p f ⟨5, d, a, bb, n, fx, gs, os⟩ = (localB f d && (localB f a && localB f bb)) by rfl)
 go_wp2
 go_ret
 exact ⟨by rw [Zaa hx]; rfl, Zad (Zaa HW) (Zaa HB2) (by have := Zaa HZ; omega)⟩
set_option maxHeartbeats 4000000 in
set_option maxRecDepth 100000 in
theorem ff6_c (p : Zap) (f : Zao) (d a bb n fx : Int) (gs : List (Int × Int)) (os : List Int) (fv ev pv hv sv bv av ov : Value) (A E : Nat → Array Value) (B : Nat → Value) (w : World) (hSC : ScD w p f fv ev pv hv sv bv A E B) (ha : LS 2 w av gs.length (fun k => pairA (gs.getD k (0, 0)))) (ho : Li w ov os) (hF : FitD p f) (hn : 0 ≤ n ∧ n < 18446744073709551616) :
 Calls Tryz.prog 76 #[.agg #[fv, ev, pv, .int .i64 f.results, hv, sv, bv], .agg #[.int .i64 6, .int .i64 d, .int .i64 a, .int .i64 bb, .int .u64 n, .int .i64 fx, av, ov]] w fun e w' => e = .returned (.bool (Zah p f ⟨6, d, a, bb, n, fx, gs, os⟩)) ∧ Below w.heap.size w w' := by
 have hx := al0 w (.cells #[fv, ev, pv, .int .i64 f.results, hv, sv, bv] 149 (0, 0))
 generalize hW1 : World.alloc w (.cells #[fv, ev, pv, .int .i64 f.results, hv, sv, bv] 149 (0, 0)) = W1 at hx
 have hx2 := al0 W1 (.cells #[.int .i64 6, .int .i64 d, .int .i64 a, .int .i64 bb, .int .u64 n, .int .i64 fx, av, ov] 76 (0, 0))
 have hs1 := hx.2.2
 have hs2 := hx2.2.2
 have hb12 := Zad hx.2.1 hx2.2.1 (by omega)
 have HSC := Zac (hSC.below hb12)
 have HA := Zac (ha.below hb12)
 have HO := Zac (ho.below hb12)
 have HW := Zac hb12
 have HR1 := Zac ((hx2.2.1.block w.heap.size (by omega)).trans hx.1)
 have hr2 := hx2.1
 rw [hs1] at hr2 hs2
 have HR2 := Zac hr2
 have HZ := Zac hs2
 have HF := Zac hF
 have HNN := Zac hn
 have hl1 : f.homes.length < 9223372036854775808 := hSC.func.hs.lt
 have hl2 : f.slots.length < 9223372036854775808 := hSC.func.ss.lt
 have hl3 : f.blocks.length < 9223372036854775808 := by obtain ⟨_, _, _, _, h, _⟩ := hSC.func.bs; exact h
 have hl4 : p.funcs.length < 9223372036854775808 := by obtain ⟨_, _, _, _, h, _⟩ := hSC.prog.fs; exact h
 have hl5 : p.externs.length < 9223372036854775808 := by obtain ⟨_, _, _, _, h, _⟩ := hSC.prog.es; exact h
 have hl6 : os.length < 9223372036854775808 := ho.lt
 obtain ⟨pf, cf, rfl⟩ := hSC.prog.fs.shape
 obtain ⟨pe, ce, rfl⟩ := hSC.prog.es.shape
 obtain ⟨pp, cp, rfl⟩ := hSC.func.ps.shape
 obtain ⟨ph, ch, rfl⟩ := hSC.func.hs.shape
 obtain ⟨ps, cs, rfl⟩ := hSC.func.ss.shape
 obtain ⟨pb, cb, rfl⟩ := hSC.func.bs.shape
 obtain ⟨pa, ca, rfl⟩ := ha.shape
 obtain ⟨po, co, rfl⟩ := ho.shape
 clear hx hx2 hs1 hs2 hb12 hr2 hSC ha ho hF hn
 subst hW1
 go_enter Tryz.func76, Tryz.ntmps76
 go_wp2_with fail
 generalize World.alloc (World.alloc w _) _ = W at HSC HA HO HW HR1 HR2 HZ ⊢
 have hT := Zaa HZ
 rw [← hT]
 refine (haveLocals_c f _ _ _ _ _ _ _ _ [d, a, bb] _ ⟨_, _, rfl⟩ hl1 (Li.list (w := W) [d, a, bb] (by show 3 < short; decide))).mono ?_
 rintro e w2 ⟨rfl, hb⟩
 have HB2 := Zac (Zad (al0 W _).2.1 hb (by simp))
 clear hb hT
 rw [localsB_3]
 have hx := Zac (show Zah p f ⟨6, d, a, bb, n, fx, gs, os⟩ = (localB f d && (localB f a && localB f bb)) by rfl)
 go_wp2
 go_ret
 exact ⟨by rw [Zaa hx]; rfl, Zad (Zaa HW) (Zaa HB2) (by have := Zaa HZ; omega)⟩
set_option maxHeartbeats 4000000 in
set_option maxRecDepth 100000 in
theorem ff7_c (p : Zap) (f : Zao) (d a bb n fx : Int) (gs : List (Int × Int)) (os : List Int) (fv ev pv hv sv bv av ov : Value) (A E : Nat → Array Value) (B : Nat → Value) (w : World) (hSC : ScD w p f fv ev pv hv sv bv A E B) (ha : LS 2 w av gs.length (fun k => pairA (gs.getD k (0, 0)))) (ho : Li w ov os) (hF : FitD p f) (hn : 0 ≤ n ∧ n < 18446744073709551616) :
 Calls Tryz.prog 76 #[.agg #[fv, ev, pv, .int .i64 f.results, hv, sv, bv], .agg #[.int .i64 7, .int .i64 d, .int .i64 a, .int .i64 bb, .int .u64 n, .int .i64 fx, av, ov]] w fun e w' => e = .returned (.bool (Zah p f ⟨7, d, a, bb, n, fx, gs, os⟩)) ∧ Below w.heap.size w w' := by
 have hx := al0 w (.cells #[fv, ev, pv, .int .i64 f.results, hv, sv, bv] 149 (0, 0))
 generalize hW1 : World.alloc w (.cells #[fv, ev, pv, .int .i64 f.results, hv, sv, bv] 149 (0, 0)) = W1 at hx
 have hx2 := al0 W1 (.cells #[.int .i64 7, .int .i64 d, .int .i64 a, .int .i64 bb, .int .u64 n, .int .i64 fx, av, ov] 76 (0, 0))
 have hs1 := hx.2.2
 have hs2 := hx2.2.2
 have hb12 := Zad hx.2.1 hx2.2.1 (by omega)
 have HSC := Zac (hSC.below hb12)
 have HA := Zac (ha.below hb12)
 have HO := Zac (ho.below hb12)
 have HW := Zac hb12
 have HR1 := Zac ((hx2.2.1.block w.heap.size (by omega)).trans hx.1)
 have hr2 := hx2.1
 rw [hs1] at hr2 hs2
 have HR2 := Zac hr2
 have HZ := Zac hs2
 have HF := Zac hF
 have HNN := Zac hn
 have hl1 : f.homes.length < 9223372036854775808 := hSC.func.hs.lt
 have hl2 : f.slots.length < 9223372036854775808 := hSC.func.ss.lt
 have hl3 : f.blocks.length < 9223372036854775808 := by obtain ⟨_, _, _, _, h, _⟩ := hSC.func.bs; exact h
 have hl4 : p.funcs.length < 9223372036854775808 := by obtain ⟨_, _, _, _, h, _⟩ := hSC.prog.fs; exact h
 have hl5 : p.externs.length < 9223372036854775808 := by obtain ⟨_, _, _, _, h, _⟩ := hSC.prog.es; exact h
 have hl6 : os.length < 9223372036854775808 := ho.lt
 obtain ⟨pf, cf, rfl⟩ := hSC.prog.fs.shape
 obtain ⟨pe, ce, rfl⟩ := hSC.prog.es.shape
 obtain ⟨pp, cp, rfl⟩ := hSC.func.ps.shape
 obtain ⟨ph, ch, rfl⟩ := hSC.func.hs.shape
 obtain ⟨ps, cs, rfl⟩ := hSC.func.ss.shape
 obtain ⟨pb, cb, rfl⟩ := hSC.func.bs.shape
 obtain ⟨pa, ca, rfl⟩ := ha.shape
 obtain ⟨po, co, rfl⟩ := ho.shape
 clear hx hx2 hs1 hs2 hb12 hr2 hSC ha ho hF hn
 subst hW1
 go_enter Tryz.func76, Tryz.ntmps76
 go_wp2_with fail
 generalize World.alloc (World.alloc w _) _ = W at HSC HA HO HW HR1 HR2 HZ ⊢
 have hT := Zaa HZ
 rw [← hT]
 refine (haveLocals_c f _ _ _ _ _ _ _ _ [d, a, bb] _ ⟨_, _, rfl⟩ hl1 (Li.list (w := W) [d, a, bb] (by show 3 < short; decide))).mono ?_
 rintro e w2 ⟨rfl, hb⟩
 have HB2 := Zac (Zad (al0 W _).2.1 hb (by simp))
 clear hb hT
 rw [localsB_3]
 have hx := Zac (show Zah p f ⟨7, d, a, bb, n, fx, gs, os⟩ = (localB f d && (localB f a && localB f bb)) by rfl)
 go_wp2
 go_ret
 exact ⟨by rw [Zaa hx]; rfl, Zad (Zaa HW) (Zaa HB2) (by have := Zaa HZ; omega)⟩
set_option maxHeartbeats 4000000 in
set_option maxRecDepth 100000 in
theorem ff8_c (p : Zap) (f : Zao) (d a bb n fx : Int) (gs : List (Int × Int)) (os : List Int) (fv ev pv hv sv bv av ov : Value) (A E : Nat → Array Value) (B : Nat → Value) (w : World) (hSC : ScD w p f fv ev pv hv sv bv A E B) (ha : LS 2 w av gs.length (fun k => pairA (gs.getD k (0, 0)))) (ho : Li w ov os) (hF : FitD p f) (hn : 0 ≤ n ∧ n < 18446744073709551616) :
 Calls Tryz.prog 76 #[.agg #[fv, ev, pv, .int .i64 f.results, hv, sv, bv], .agg #[.int .i64 8, .int .i64 d, .int .i64 a, .int .i64 bb, .int .u64 n, .int .i64 fx, av, ov]] w fun e w' => e = .returned (.bool (Zah p f ⟨8, d, a, bb, n, fx, gs, os⟩)) ∧ Below w.heap.size w w' := by
 have hx := al0 w (.cells #[fv, ev, pv, .int .i64 f.results, hv, sv, bv] 149 (0, 0))
 generalize hW1 : World.alloc w (.cells #[fv, ev, pv, .int .i64 f.results, hv, sv, bv] 149 (0, 0)) = W1 at hx
 have hx2 := al0 W1 (.cells #[.int .i64 8, .int .i64 d, .int .i64 a, .int .i64 bb, .int .u64 n, .int .i64 fx, av, ov] 76 (0, 0))
 have hs1 := hx.2.2
 have hs2 := hx2.2.2
 have hb12 := Zad hx.2.1 hx2.2.1 (by omega)
 have HSC := Zac (hSC.below hb12)
 have HA := Zac (ha.below hb12)
 have HO := Zac (ho.below hb12)
 have HW := Zac hb12
 have HR1 := Zac ((hx2.2.1.block w.heap.size (by omega)).trans hx.1)
 have hr2 := hx2.1
 rw [hs1] at hr2 hs2
 have HR2 := Zac hr2
 have HZ := Zac hs2
 have HF := Zac hF
 have HNN := Zac hn
 have hl1 : f.homes.length < 9223372036854775808 := hSC.func.hs.lt
 have hl2 : f.slots.length < 9223372036854775808 := hSC.func.ss.lt
 have hl3 : f.blocks.length < 9223372036854775808 := by obtain ⟨_, _, _, _, h, _⟩ := hSC.func.bs; exact h
 have hl4 : p.funcs.length < 9223372036854775808 := by obtain ⟨_, _, _, _, h, _⟩ := hSC.prog.fs; exact h
 have hl5 : p.externs.length < 9223372036854775808 := by obtain ⟨_, _, _, _, h, _⟩ := hSC.prog.es; exact h
 have hl6 : os.length < 9223372036854775808 := ho.lt
 obtain ⟨pf, cf, rfl⟩ := hSC.prog.fs.shape
 obtain ⟨pe, ce, rfl⟩ := hSC.prog.es.shape
 obtain ⟨pp, cp, rfl⟩ := hSC.func.ps.shape
 obtain ⟨ph, ch, rfl⟩ := hSC.func.hs.shape
 obtain ⟨ps, cs, rfl⟩ := hSC.func.ss.shape
 obtain ⟨pb, cb, rfl⟩ := hSC.func.bs.shape
 obtain ⟨pa, ca, rfl⟩ := ha.shape
 obtain ⟨po, co, rfl⟩ := ho.shape
 clear hx hx2 hs1 hs2 hb12 hr2 hSC ha ho hF hn
 subst hW1
 go_enter Tryz.func76, Tryz.ntmps76
 go_wp2_with fail
 generalize World.alloc (World.alloc w _) _ = W at HSC HA HO HW HR1 HR2 HZ ⊢
 have hT := Zaa HZ
 rw [← hT]
 refine (haveLocals_c f _ _ _ _ _ _ _ _ [d, a, bb] _ ⟨_, _, rfl⟩ hl1 (Li.list (w := W) [d, a, bb] (by show 3 < short; decide))).mono ?_
 rintro e w2 ⟨rfl, hb⟩
 have HB2 := Zac (Zad (al0 W _).2.1 hb (by simp))
 clear hb hT
 rw [localsB_3]
 have hx := Zac (show Zah p f ⟨8, d, a, bb, n, fx, gs, os⟩ = (localB f d && (localB f a && localB f bb)) by rfl)
 go_wp2
 go_ret
 exact ⟨by rw [Zaa hx]; rfl, Zad (Zaa HW) (Zaa HB2) (by have := Zaa HZ; omega)⟩
set_option maxHeartbeats 4000000 in
set_option maxRecDepth 100000 in
theorem ff9_c (p : Zap) (f : Zao) (d a bb n fx : Int) (gs : List (Int × Int)) (os : List Int) (fv ev pv hv sv bv av ov : Value) (A E : Nat → Array Value) (B : Nat → Value) (w : World) (hSC : ScD w p f fv ev pv hv sv bv A E B) (ha : LS 2 w av gs.length (fun k => pairA (gs.getD k (0, 0)))) (ho : Li w ov os) (hF : FitD p f) (hn : 0 ≤ n ∧ n < 18446744073709551616) :
 Calls Tryz.prog 76 #[.agg #[fv, ev, pv, .int .i64 f.results, hv, sv, bv], .agg #[.int .i64 9, .int .i64 d, .int .i64 a, .int .i64 bb, .int .u64 n, .int .i64 fx, av, ov]] w fun e w' => e = .returned (.bool (Zah p f ⟨9, d, a, bb, n, fx, gs, os⟩)) ∧ Below w.heap.size w w' := by
 have hx := al0 w (.cells #[fv, ev, pv, .int .i64 f.results, hv, sv, bv] 149 (0, 0))
 generalize hW1 : World.alloc w (.cells #[fv, ev, pv, .int .i64 f.results, hv, sv, bv] 149 (0, 0)) = W1 at hx
 have hx2 := al0 W1 (.cells #[.int .i64 9, .int .i64 d, .int .i64 a, .int .i64 bb, .int .u64 n, .int .i64 fx, av, ov] 76 (0, 0))
 have hs1 := hx.2.2
 have hs2 := hx2.2.2
 have hb12 := Zad hx.2.1 hx2.2.1 (by omega)
 have HSC := Zac (hSC.below hb12)
 have HA := Zac (ha.below hb12)
 have HO := Zac (ho.below hb12)
 have HW := Zac hb12
 have HR1 := Zac ((hx2.2.1.block w.heap.size (by omega)).trans hx.1)
 have hr2 := hx2.1
 rw [hs1] at hr2 hs2
 have HR2 := Zac hr2
 have HZ := Zac hs2
 have HF := Zac hF
 have HNN := Zac hn
 have hl1 : f.homes.length < 9223372036854775808 := hSC.func.hs.lt
 have hl2 : f.slots.length < 9223372036854775808 := hSC.func.ss.lt
 have hl3 : f.blocks.length < 9223372036854775808 := by obtain ⟨_, _, _, _, h, _⟩ := hSC.func.bs; exact h
 have hl4 : p.funcs.length < 9223372036854775808 := by obtain ⟨_, _, _, _, h, _⟩ := hSC.prog.fs; exact h
 have hl5 : p.externs.length < 9223372036854775808 := by obtain ⟨_, _, _, _, h, _⟩ := hSC.prog.es; exact h
 have hl6 : os.length < 9223372036854775808 := ho.lt
 obtain ⟨pf, cf, rfl⟩ := hSC.prog.fs.shape
 obtain ⟨pe, ce, rfl⟩ := hSC.prog.es.shape
 obtain ⟨pp, cp, rfl⟩ := hSC.func.ps.shape
 obtain ⟨ph, ch, rfl⟩ := hSC.func.hs.shape
 obtain ⟨ps, cs, rfl⟩ := hSC.func.ss.shape
 obtain ⟨pb, cb, rfl⟩ := hSC.func.bs.shape
 obtain ⟨pa, ca, rfl⟩ := ha.shape
 obtain ⟨po, co, rfl⟩ := ho.shape
 clear hx hx2 hs1 hs2 hb12 hr2 hSC ha ho hF hn
 subst hW1
 go_enter Tryz.func76, Tryz.ntmps76
 go_wp2_with fail
 generalize World.alloc (World.alloc w _) _ = W at HSC HA HO HW HR1 HR2 HZ ⊢
 have hT := Zaa HZ
 rw [← hT]
 refine (haveLocals_c f _ _ _ _ _ _ _ _ [d, a, bb] _ ⟨_, _, rfl⟩ hl1 (Li.list (w := W) [d, a, bb] (by show 3 < short; decide))).mono ?_
 rintro e w2 ⟨rfl, hb⟩
 have HB2 := Zac (Zad (al0 W _).2.1 hb (by simp))
 clear hb hT
 rw [localsB_3]
 have hx := Zac (show Zah p f ⟨9, d, a, bb, n, fx, gs, os⟩ = (localB f d && (localB f a && localB f bb)) by rfl)
 go_wp2
 go_ret
 exact ⟨by rw [Zaa hx]; rfl, Zad (Zaa HW) (Zaa HB2) (by have := Zaa HZ; omega)⟩
set_option maxHeartbeats 4000000 in
set_option maxRecDepth 100000 in
theorem ff14_c (p : Zap) (f : Zao) (d a bb n fx : Int) (gs : List (Int × Int)) (os : List Int) (fv ev pv hv sv bv av ov : Value) (A E : Nat → Array Value) (B : Nat → Value) (w : World) (hSC : ScD w p f fv ev pv hv sv bv A E B) (ha : LS 2 w av gs.length (fun k => pairA (gs.getD k (0, 0)))) (ho : Li w ov os) (hF : FitD p f) (hn : 0 ≤ n ∧ n < 18446744073709551616) :
 Calls Tryz.prog 76 #[.agg #[fv, ev, pv, .int .i64 f.results, hv, sv, bv], .agg #[.int .i64 14, .int .i64 d, .int .i64 a, .int .i64 bb, .int .u64 n, .int .i64 fx, av, ov]] w fun e w' => e = .returned (.bool (Zah p f ⟨14, d, a, bb, n, fx, gs, os⟩)) ∧ Below w.heap.size w w' := by
 have hx := al0 w (.cells #[fv, ev, pv, .int .i64 f.results, hv, sv, bv] 149 (0, 0))
 generalize hW1 : World.alloc w (.cells #[fv, ev, pv, .int .i64 f.results, hv, sv, bv] 149 (0, 0)) = W1 at hx
 have hx2 := al0 W1 (.cells #[.int .i64 14, .int .i64 d, .int .i64 a, .int .i64 bb, .int .u64 n, .int .i64 fx, av, ov] 76 (0, 0))
 have hs1 := hx.2.2
 have hs2 := hx2.2.2
 have hb12 := Zad hx.2.1 hx2.2.1 (by omega)
 have HSC := Zac (hSC.below hb12)
 have HA := Zac (ha.below hb12)
 have HO := Zac (ho.below hb12)
 have HW := Zac hb12
 have HR1 := Zac ((hx2.2.1.block w.heap.size (by omega)).trans hx.1)
 have hr2 := hx2.1
 rw [hs1] at hr2 hs2
 have HR2 := Zac hr2
 have HZ := Zac hs2
 have HF := Zac hF
 have HNN := Zac hn
 have hl1 : f.homes.length < 9223372036854775808 := hSC.func.hs.lt
 have hl2 : f.slots.length < 9223372036854775808 := hSC.func.ss.lt
 have hl3 : f.blocks.length < 9223372036854775808 := by obtain ⟨_, _, _, _, h, _⟩ := hSC.func.bs; exact h
 have hl4 : p.funcs.length < 9223372036854775808 := by obtain ⟨_, _, _, _, h, _⟩ := hSC.prog.fs; exact h
 have hl5 : p.externs.length < 9223372036854775808 := by obtain ⟨_, _, _, _, h, _⟩ := hSC.prog.es; exact h
 have hl6 : os.length < 9223372036854775808 := ho.lt
 obtain ⟨pf, cf, rfl⟩ := hSC.prog.fs.shape
 obtain ⟨pe, ce, rfl⟩ := hSC.prog.es.shape
 obtain ⟨pp, cp, rfl⟩ := hSC.func.ps.shape
 obtain ⟨ph, ch, rfl⟩ := hSC.func.hs.shape
 obtain ⟨ps, cs, rfl⟩ := hSC.func.ss.shape
 obtain ⟨pb, cb, rfl⟩ := hSC.func.bs.shape
 obtain ⟨pa, ca, rfl⟩ := ha.shape
 obtain ⟨po, co, rfl⟩ := ho.shape
 clear hx hx2 hs1 hs2 hb12 hr2 hSC ha ho hF hn
 subst hW1
 go_enter Tryz.func76, Tryz.ntmps76
 go_wp2_with fail
 generalize World.alloc (World.alloc w _) _ = W at HSC HA HO HW HR1 HR2 HZ ⊢
 refine (hasBlock_c f _ _ _ _ _ _ _ _ _ W hl3).mono ?_
 rintro e w2 ⟨rfl, hb⟩
 have HB2 := Zac hb
 clear hb
 have hx := Zac (show Zah p f ⟨14, d, a, bb, n, fx, gs, os⟩ = inB a 0 (f.blocks.length - 1) by rfl)
 go_wp2
 go_ret
 exact ⟨by rw [Zaa hx]; rfl, Zad (Zaa HW) (Zaa HB2) (by have := Zaa HZ; omega)⟩
set_option maxHeartbeats 4000000 in
set_option maxRecDepth 100000 in
theorem ff18_c (p : Zap) (f : Zao) (d a bb n fx : Int) (gs : List (Int × Int)) (os : List Int) (fv ev pv hv sv bv av ov : Value) (A E : Nat → Array Value) (B : Nat → Value) (w : World) (hSC : ScD w p f fv ev pv hv sv bv A E B) (ha : LS 2 w av gs.length (fun k => pairA (gs.getD k (0, 0)))) (ho : Li w ov os) (hF : FitD p f) (hn : 0 ≤ n ∧ n < 18446744073709551616) :
 Calls Tryz.prog 76 #[.agg #[fv, ev, pv, .int .i64 f.results, hv, sv, bv], .agg #[.int .i64 18, .int .i64 d, .int .i64 a, .int .i64 bb, .int .u64 n, .int .i64 fx, av, ov]] w fun e w' => e = .returned (.bool (Zah p f ⟨18, d, a, bb, n, fx, gs, os⟩)) ∧ Below w.heap.size w w' := by
 have hx := al0 w (.cells #[fv, ev, pv, .int .i64 f.results, hv, sv, bv] 149 (0, 0))
 generalize hW1 : World.alloc w (.cells #[fv, ev, pv, .int .i64 f.results, hv, sv, bv] 149 (0, 0)) = W1 at hx
 have hx2 := al0 W1 (.cells #[.int .i64 18, .int .i64 d, .int .i64 a, .int .i64 bb, .int .u64 n, .int .i64 fx, av, ov] 76 (0, 0))
 have hs1 := hx.2.2
 have hs2 := hx2.2.2
 have hb12 := Zad hx.2.1 hx2.2.1 (by omega)
 have HSC := Zac (hSC.below hb12)
 have HA := Zac (ha.below hb12)
 have HO := Zac (ho.below hb12)
 have HW := Zac hb12
 have HR1 := Zac ((hx2.2.1.block w.heap.size (by omega)).trans hx.1)
 have hr2 := hx2.1
 rw [hs1] at hr2 hs2
 have HR2 := Zac hr2
 have HZ := Zac hs2
 have HF := Zac hF
 have HNN := Zac hn
 have hl1 : f.homes.length < 9223372036854775808 := hSC.func.hs.lt
 have hl2 : f.slots.length < 9223372036854775808 := hSC.func.ss.lt
 have hl3 : f.blocks.length < 9223372036854775808 := by obtain ⟨_, _, _, _, h, _⟩ := hSC.func.bs; exact h
 have hl4 : p.funcs.length < 9223372036854775808 := by obtain ⟨_, _, _, _, h, _⟩ := hSC.prog.fs; exact h
 have hl5 : p.externs.length < 9223372036854775808 := by obtain ⟨_, _, _, _, h, _⟩ := hSC.prog.es; exact h
 have hl6 : os.length < 9223372036854775808 := ho.lt
 obtain ⟨pf, cf, rfl⟩ := hSC.prog.fs.shape
 obtain ⟨pe, ce, rfl⟩ := hSC.prog.es.shape
 obtain ⟨pp, cp, rfl⟩ := hSC.func.ps.shape
 obtain ⟨ph, ch, rfl⟩ := hSC.func.hs.shape
 obtain ⟨ps, cs, rfl⟩ := hSC.func.ss.shape
 obtain ⟨pb, cb, rfl⟩ := hSC.func.bs.shape
 obtain ⟨pa, ca, rfl⟩ := ha.shape
 obtain ⟨po, co, rfl⟩ := ho.shape
 clear hx hx2 hs1 hs2 hb12 hr2 hSC ha ho hF hn
 subst hW1
 go_enter Tryz.func76, Tryz.ntmps76
 go_wp2
 go_ret
 exact ⟨rfl, Zaa HW⟩
set_option maxHeartbeats 4000000 in
set_option maxRecDepth 100000 in
theorem ff15_c (p : Zap) (f : Zao) (d a bb n fx : Int) (gs : List (Int × Int)) (os : List Int) (fv ev pv hv sv bv av ov : Value) (A E : Nat → Array Value) (B : Nat → Value) (w : World) (hSC : ScD w p f fv ev pv hv sv bv A E B) (ha : LS 2 w av gs.length (fun k => pairA (gs.getD k (0, 0)))) (ho : Li w ov os) (hF : FitD p f) (hn : 0 ≤ n ∧ n < 18446744073709551616) :
 Calls Tryz.prog 76 #[.agg #[fv, ev, pv, .int .i64 f.results, hv, sv, bv], .agg #[.int .i64 15, .int .i64 d, .int .i64 a, .int .i64 bb, .int .u64 n, .int .i64 fx, av, ov]] w fun e w' => e = .returned (.bool (Zah p f ⟨15, d, a, bb, n, fx, gs, os⟩)) ∧ Below w.heap.size w w' := by
 have hx := al0 w (.cells #[fv, ev, pv, .int .i64 f.results, hv, sv, bv] 149 (0, 0))
 generalize hW1 : World.alloc w (.cells #[fv, ev, pv, .int .i64 f.results, hv, sv, bv] 149 (0, 0)) = W1 at hx
 have hx2 := al0 W1 (.cells #[.int .i64 15, .int .i64 d, .int .i64 a, .int .i64 bb, .int .u64 n, .int .i64 fx, av, ov] 76 (0, 0))
 have hs1 := hx.2.2
 have hs2 := hx2.2.2
 have hb12 := Zad hx.2.1 hx2.2.1 (by omega)
 have HSC := Zac (hSC.below hb12)
 have HA := Zac (ha.below hb12)
 have HO := Zac (ho.below hb12)
 have HW := Zac hb12
 have HR1 := Zac ((hx2.2.1.block w.heap.size (by omega)).trans hx.1)
 have hr2 := hx2.1
 rw [hs1] at hr2 hs2
 have HR2 := Zac hr2
 have HZ := Zac hs2
 have HF := Zac hF
 have HNN := Zac hn
 have hl1 : f.homes.length < 9223372036854775808 := hSC.func.hs.lt
 have hl2 : f.slots.length < 9223372036854775808 := hSC.func.ss.lt
 have hl3 : f.blocks.length < 9223372036854775808 := by obtain ⟨_, _, _, _, h, _⟩ := hSC.func.bs; exact h
 have hl4 : p.funcs.length < 9223372036854775808 := by obtain ⟨_, _, _, _, h, _⟩ := hSC.prog.fs; exact h
 have hl5 : p.externs.length < 9223372036854775808 := by obtain ⟨_, _, _, _, h, _⟩ := hSC.prog.es; exact h
 have hl6 : os.length < 9223372036854775808 := ho.lt
 obtain ⟨pf, cf, rfl⟩ := hSC.prog.fs.shape
 obtain ⟨pe, ce, rfl⟩ := hSC.prog.es.shape
 obtain ⟨pp, cp, rfl⟩ := hSC.func.ps.shape
 obtain ⟨ph, ch, rfl⟩ := hSC.func.hs.shape
 obtain ⟨ps, cs, rfl⟩ := hSC.func.ss.shape
 obtain ⟨pb, cb, rfl⟩ := hSC.func.bs.shape
 obtain ⟨pa, ca, rfl⟩ := ha.shape
 obtain ⟨po, co, rfl⟩ := ho.shape
 clear hx hx2 hs1 hs2 hb12 hr2 hSC ha ho hF hn
 subst hW1
 go_enter Tryz.func76, Tryz.ntmps76
 go_wp2_with fail
 generalize World.alloc (World.alloc w _) _ = W at HSC HA HO HW HR1 HR2 HZ ⊢
 have hT := Zaa HZ
 rw [← hT]
 refine (haveLocals_c f _ _ _ _ _ _ _ _ [d] _ ⟨_, _, rfl⟩ hl1 (Li.list (w := W) [d] (by show 1 < short; decide))).mono ?_
 rintro e w2 ⟨rfl, hb⟩
 have HB2 := Zac (Zad (al0 W _).2.1 hb (by simp))
 clear hb hT
 rw [localsB_1]
 have hz := Zaa HZ
 have hrs := ((Zaa HB2).block w.heap.size (by omega)).trans (Zaa HR1)
 have hri := ((Zaa HB2).block (w.heap.size + 1) (by omega)).trans (Zaa HR2)
 have s0 := (Zab hrs 0).trans rfl
 have s1 := (Zab hrs 1).trans rfl
 have s2 := (Zab hrs 2).trans rfl
 have s3 := (Zab hrs 3).trans rfl
 have s4 := (Zab hrs 4).trans rfl
 have s5 := (Zab hrs 5).trans rfl
 have s6 := (Zab hrs 6).trans rfl
 have i0 := (Zab hri 0).trans rfl
 have i1 := (Zab hri 1).trans rfl
 have i2 := (Zab hri 2).trans rfl
 have i3 := (Zab hri 3).trans rfl
 have i4 := (Zab hri 4).trans rfl
 have i5 := (Zab hri 5).trans rfl
 have i6 := (Zab hri 6).trans rfl
 have i7 := (Zab hri 7).trans rfl
 clear hz hrs hri
 cases h1 : localB f d with
 | false =>
  have hx := Zac (show Zah p f ⟨15, d, a, bb, n, fx, gs, os⟩ = false by unfold Zah; simp [h1])
  go_wp2
  go_ret
  exact ⟨by rw [Zaa hx]; rfl, Zad (Zaa HW) (Zaa HB2) (by have := Zaa HZ; omega)⟩
 | true =>
  have H1 := Zac h1
  clear h1
  go_wp2_with fail
  refine (hasBlock_c f _ _ _ _ _ _ _ _ a w2 hl3).mono ?_
  rintro e w3 ⟨rfl, hb⟩
  have HB3 := Zac (Zad (Zaa HB2) hb (Zaa HB2).size)
  clear hb s0 s1 s2 s3 s4 s5 s6 i0 i1 i2 i3 i4 i5 i6 i7
  have hz := Zaa HZ
  have hrs := ((Zaa HB3).block w.heap.size (by omega)).trans (Zaa HR1)
  have hri := ((Zaa HB3).block (w.heap.size + 1) (by omega)).trans (Zaa HR2)
  have s0 := (Zab hrs 0).trans rfl
  have s1 := (Zab hrs 1).trans rfl
  have s2 := (Zab hrs 2).trans rfl
  have s3 := (Zab hrs 3).trans rfl
  have s4 := (Zab hrs 4).trans rfl
  have s5 := (Zab hrs 5).trans rfl
  have s6 := (Zab hrs 6).trans rfl
  have i0 := (Zab hri 0).trans rfl
  have i1 := (Zab hri 1).trans rfl
  have i2 := (Zab hri 2).trans rfl
  have i3 := (Zab hri 3).trans rfl
  have i4 := (Zab hri 4).trans rfl
  have i5 := (Zab hri 5).trans rfl
  have i6 := (Zab hri 6).trans rfl
  have i7 := (Zab hri 7).trans rfl
  clear hz hrs hri
  cases h2 : inB a 0 (f.blocks.length - 1) with
  | false =>
   have hx := Zac (show Zah p f ⟨15, d, a, bb, n, fx, gs, os⟩ = false by unfold Zah; simp [h2])
   go_wp2
   go_ret
   exact ⟨by rw [Zaa hx]; rfl, Zad (Zaa HW) (Zaa HB3) (by have := Zaa HZ; omega)⟩
  | true =>
   have H2 := Zac h2
   clear h2
   go_wp2_with fail
   refine (hasBlock_c f _ _ _ _ _ _ _ _ bb w3 hl3).mono ?_
   rintro e w4 ⟨rfl, hb⟩
   have HB4 := Zac (Zad (Zaa HB3) hb (Zaa HB3).size)
   clear hb
   have hx := Zac (show Zah p f ⟨15, d, a, bb, n, fx, gs, os⟩ = inB bb 0 (f.blocks.length - 1) by unfold Zah; simp [Zaa H1, Zaa H2])
   go_wp2
   go_ret
   exact ⟨by rw [Zaa hx]; rfl, Zad (Zaa HW) (Zaa HB4) (by have := Zaa HZ; omega)⟩
set_option maxHeartbeats 4000000 in
set_option maxRecDepth 100000 in
theorem ff10_c (p : Zap) (f : Zao) (d a bb n fx : Int) (gs : List (Int × Int)) (os : List Int) (fv ev pv hv sv bv av ov : Value) (A E : Nat → Array Value) (B : Nat → Value) (w : World) (hSC : ScD w p f fv ev pv hv sv bv A E B) (ha : LS 2 w av gs.length (fun k => pairA (gs.getD k (0, 0)))) (ho : Li w ov os) (hF : FitD p f) (hn : 0 ≤ n ∧ n < 18446744073709551616) :
 Calls Tryz.prog 76 #[.agg #[fv, ev, pv, .int .i64 f.results, hv, sv, bv], .agg #[.int .i64 10, .int .i64 d, .int .i64 a, .int .i64 bb, .int .u64 n, .int .i64 fx, av, ov]] w fun e w' => e = .returned (.bool (Zah p f ⟨10, d, a, bb, n, fx, gs, os⟩)) ∧ Below w.heap.size w w' := by
 have hx := al0 w (.cells #[fv, ev, pv, .int .i64 f.results, hv, sv, bv] 149 (0, 0))
 generalize hW1 : World.alloc w (.cells #[fv, ev, pv, .int .i64 f.results, hv, sv, bv] 149 (0, 0)) = W1 at hx
 have hx2 := al0 W1 (.cells #[.int .i64 10, .int .i64 d, .int .i64 a, .int .i64 bb, .int .u64 n, .int .i64 fx, av, ov] 76 (0, 0))
 have hs1 := hx.2.2
 have hs2 := hx2.2.2
 have hb12 := Zad hx.2.1 hx2.2.1 (by omega)
 have HSC := Zac (hSC.below hb12)
 have HA := Zac (ha.below hb12)
 have HO := Zac (ho.below hb12)
 have HW := Zac hb12
 have HR1 := Zac ((hx2.2.1.block w.heap.size (by omega)).trans hx.1)
 have hr2 := hx2.1
 rw [hs1] at hr2 hs2
 have HR2 := Zac hr2
 have HZ := Zac hs2
 have HF := Zac hF
 have HNN := Zac hn
 have hl1 : f.homes.length < 9223372036854775808 := hSC.func.hs.lt
 have hl2 : f.slots.length < 9223372036854775808 := hSC.func.ss.lt
 have hl3 : f.blocks.length < 9223372036854775808 := by obtain ⟨_, _, _, _, h, _⟩ := hSC.func.bs; exact h
 have hl4 : p.funcs.length < 9223372036854775808 := by obtain ⟨_, _, _, _, h, _⟩ := hSC.prog.fs; exact h
 have hl5 : p.externs.length < 9223372036854775808 := by obtain ⟨_, _, _, _, h, _⟩ := hSC.prog.es; exact h
 have hl6 : os.length < 9223372036854775808 := ho.lt
 obtain ⟨pf, cf, rfl⟩ := hSC.prog.fs.shape
 obtain ⟨pe, ce, rfl⟩ := hSC.prog.es.shape
 obtain ⟨pp, cp, rfl⟩ := hSC.func.ps.shape
 obtain ⟨ph, ch, rfl⟩ := hSC.func.hs.shape
 obtain ⟨ps, cs, rfl⟩ := hSC.func.ss.shape
 obtain ⟨pb, cb, rfl⟩ := hSC.func.bs.shape
 obtain ⟨pa, ca, rfl⟩ := ha.shape
 obtain ⟨po, co, rfl⟩ := ho.shape
 clear hx hx2 hs1 hs2 hb12 hr2 hSC ha ho hF hn
 subst hW1
 go_enter Tryz.func76, Tryz.ntmps76
 go_wp2_with fail
 generalize World.alloc (World.alloc w _) _ = W at HSC HA HO HW HR1 HR2 HZ ⊢
 have hT := Zaa HZ
 rw [← hT]
 refine (haveLocals_c f _ _ _ _ _ _ _ _ [d] _ ⟨_, _, rfl⟩ hl1 (Li.list (w := W) [d] (by show 1 < short; decide))).mono ?_
 rintro e w2 ⟨rfl, hb⟩
 have HB2 := Zac (Zad (al0 W _).2.1 hb (by simp))
 clear hb hT
 rw [localsB_1]
 have hz := Zaa HZ
 have hrs := ((Zaa HB2).block w.heap.size (by omega)).trans (Zaa HR1)
 have hri := ((Zaa HB2).block (w.heap.size + 1) (by omega)).trans (Zaa HR2)
 have s0 := (Zab hrs 0).trans rfl
 have s1 := (Zab hrs 1).trans rfl
 have s2 := (Zab hrs 2).trans rfl
 have s3 := (Zab hrs 3).trans rfl
 have s4 := (Zab hrs 4).trans rfl
 have s5 := (Zab hrs 5).trans rfl
 have s6 := (Zab hrs 6).trans rfl
 have i0 := (Zab hri 0).trans rfl
 have i1 := (Zab hri 1).trans rfl
 have i2 := (Zab hri 2).trans rfl
 have i3 := (Zab hri 3).trans rfl
 have i4 := (Zab hri 4).trans rfl
 have i5 := (Zab hri 5).trans rfl
 have i6 := (Zab hri 6).trans rfl
 have i7 := (Zab hri 7).trans rfl
 clear hz hrs hri
 cases h1 : localB f d with
 | false =>
  have hx := Zac (show Zah p f ⟨10, d, a, bb, n, fx, gs, os⟩ = false by unfold Zah; simp [h1])
  go_wp2
  go_ret
  exact ⟨by rw [Zaa hx]; rfl, Zad (Zaa HW) (Zaa HB2) (by have := Zaa HZ; omega)⟩
 | true =>
  have H1 := Zac h1
  clear h1
  go_wp2_with fail
  refine (slotHas_c f ⟨10, d, a, bb, n, fx, gs, os⟩ _ _ _ _ _ _ _ _ _ w2 ((Zaa HSC).below (Zaa HB2)).func.ss (Zaa HF).slots (Zaa HNN)).mono ?_
  rintro e w3 ⟨rfl, hb⟩
  have HB3 := Zac (Zad (Zaa HB2) hb (Zaa HB2).size)
  clear hb
  have hx := Zac (show Zah p f ⟨10, d, a, bb, n, fx, gs, os⟩ = slotB f ⟨10, d, a, bb, n, fx, gs, os⟩ by unfold Zah; simp [Zaa H1])
  go_wp2
  go_ret
  exact ⟨by rw [Zaa hx]; rfl, Zad (Zaa HW) (Zaa HB3) (by have := Zaa HZ; omega)⟩
set_option maxHeartbeats 4000000 in
set_option maxRecDepth 100000 in
theorem ff11_c (p : Zap) (f : Zao) (d a bb n fx : Int) (gs : List (Int × Int)) (os : List Int) (fv ev pv hv sv bv av ov : Value) (A E : Nat → Array Value) (B : Nat → Value) (w : World) (hSC : ScD w p f fv ev pv hv sv bv A E B) (ha : LS 2 w av gs.length (fun k => pairA (gs.getD k (0, 0)))) (ho : Li w ov os) (hF : FitD p f) (hn : 0 ≤ n ∧ n < 18446744073709551616) :
 Calls Tryz.prog 76 #[.agg #[fv, ev, pv, .int .i64 f.results, hv, sv, bv], .agg #[.int .i64 11, .int .i64 d, .int .i64 a, .int .i64 bb, .int .u64 n, .int .i64 fx, av, ov]] w fun e w' => e = .returned (.bool (Zah p f ⟨11, d, a, bb, n, fx, gs, os⟩)) ∧ Below w.heap.size w w' := by
 have hx := al0 w (.cells #[fv, ev, pv, .int .i64 f.results, hv, sv, bv] 149 (0, 0))
 generalize hW1 : World.alloc w (.cells #[fv, ev, pv, .int .i64 f.results, hv, sv, bv] 149 (0, 0)) = W1 at hx
 have hx2 := al0 W1 (.cells #[.int .i64 11, .int .i64 d, .int .i64 a, .int .i64 bb, .int .u64 n, .int .i64 fx, av, ov] 76 (0, 0))
 have hs1 := hx.2.2
 have hs2 := hx2.2.2
 have hb12 := Zad hx.2.1 hx2.2.1 (by omega)
 have HSC := Zac (hSC.below hb12)
 have HA := Zac (ha.below hb12)
 have HO := Zac (ho.below hb12)
 have HW := Zac hb12
 have HR1 := Zac ((hx2.2.1.block w.heap.size (by omega)).trans hx.1)
 have hr2 := hx2.1
 rw [hs1] at hr2 hs2
 have HR2 := Zac hr2
 have HZ := Zac hs2
 have HF := Zac hF
 have HNN := Zac hn
 have hl1 : f.homes.length < 9223372036854775808 := hSC.func.hs.lt
 have hl2 : f.slots.length < 9223372036854775808 := hSC.func.ss.lt
 have hl3 : f.blocks.length < 9223372036854775808 := by obtain ⟨_, _, _, _, h, _⟩ := hSC.func.bs; exact h
 have hl4 : p.funcs.length < 9223372036854775808 := by obtain ⟨_, _, _, _, h, _⟩ := hSC.prog.fs; exact h
 have hl5 : p.externs.length < 9223372036854775808 := by obtain ⟨_, _, _, _, h, _⟩ := hSC.prog.es; exact h
 have hl6 : os.length < 9223372036854775808 := ho.lt
 obtain ⟨pf, cf, rfl⟩ := hSC.prog.fs.shape
 obtain ⟨pe, ce, rfl⟩ := hSC.prog.es.shape
 obtain ⟨pp, cp, rfl⟩ := hSC.func.ps.shape
 obtain ⟨ph, ch, rfl⟩ := hSC.func.hs.shape
 obtain ⟨ps, cs, rfl⟩ := hSC.func.ss.shape
 obtain ⟨pb, cb, rfl⟩ := hSC.func.bs.shape
 obtain ⟨pa, ca, rfl⟩ := ha.shape
 obtain ⟨po, co, rfl⟩ := ho.shape
 clear hx hx2 hs1 hs2 hb12 hr2 hSC ha ho hF hn
 subst hW1
 go_enter Tryz.func76, Tryz.ntmps76
 go_wp2_with fail
 generalize World.alloc (World.alloc w _) _ = W at HSC HA HO HW HR1 HR2 HZ ⊢
 have hT := Zaa HZ
 rw [← hT]
 refine (haveLocals_c f _ _ _ _ _ _ _ _ [d] _ ⟨_, _, rfl⟩ hl1 (Li.list (w := W) [d] (by show 1 < short; decide))).mono ?_
 rintro e w2 ⟨rfl, hb⟩
 have HB2 := Zac (Zad (al0 W _).2.1 hb (by simp))
 clear hb hT
 rw [localsB_1]
 have hz := Zaa HZ
 have hrs := ((Zaa HB2).block w.heap.size (by omega)).trans (Zaa HR1)
 have hri := ((Zaa HB2).block (w.heap.size + 1) (by omega)).trans (Zaa HR2)
 have s0 := (Zab hrs 0).trans rfl
 have s1 := (Zab hrs 1).trans rfl
 have s2 := (Zab hrs 2).trans rfl
 have s3 := (Zab hrs 3).trans rfl
 have s4 := (Zab hrs 4).trans rfl
 have s5 := (Zab hrs 5).trans rfl
 have s6 := (Zab hrs 6).trans rfl
 have i0 := (Zab hri 0).trans rfl
 have i1 := (Zab hri 1).trans rfl
 have i2 := (Zab hri 2).trans rfl
 have i3 := (Zab hri 3).trans rfl
 have i4 := (Zab hri 4).trans rfl
 have i5 := (Zab hri 5).trans rfl
 have i6 := (Zab hri 6).trans rfl
 have i7 := (Zab hri 7).trans rfl
 clear hz hrs hri
 cases h1 : localB f d with
 | false =>
  have hx := Zac (show Zah p f ⟨11, d, a, bb, n, fx, gs, os⟩ = false by unfold Zah; simp [h1])
  go_wp2
  go_ret
  exact ⟨by rw [Zaa hx]; rfl, Zad (Zaa HW) (Zaa HB2) (by have := Zaa HZ; omega)⟩
 | true =>
  have H1 := Zac h1
  clear h1
  go_wp2_with fail
  refine (slotHas_c f ⟨11, d, a, bb, n, fx, gs, os⟩ _ _ _ _ _ _ _ _ _ w2 ((Zaa HSC).below (Zaa HB2)).func.ss (Zaa HF).slots (Zaa HNN)).mono ?_
  rintro e w3 ⟨rfl, hb⟩
  have HB3 := Zac (Zad (Zaa HB2) hb (Zaa HB2).size)
  clear hb
  have hx := Zac (show Zah p f ⟨11, d, a, bb, n, fx, gs, os⟩ = slotB f ⟨11, d, a, bb, n, fx, gs, os⟩ by unfold Zah; simp [Zaa H1])
  go_wp2
  go_ret
  exact ⟨by rw [Zaa hx]; rfl, Zad (Zaa HW) (Zaa HB3) (by have := Zaa HZ; omega)⟩
set_option maxHeartbeats 4000000 in
set_option maxRecDepth 100000 in
theorem ff16_c (p : Zap) (f : Zao) (d a bb n fx : Int) (gs : List (Int × Int)) (os : List Int) (fv ev pv hv sv bv av ov : Value) (A E : Nat → Array Value) (B : Nat → Value) (w : World) (hSC : ScD w p f fv ev pv hv sv bv A E B) (ha : LS 2 w av gs.length (fun k => pairA (gs.getD k (0, 0)))) (ho : Li w ov os) (hF : FitD p f) (hn : 0 ≤ n ∧ n < 18446744073709551616) :
 Calls Tryz.prog 76 #[.agg #[fv, ev, pv, .int .i64 f.results, hv, sv, bv], .agg #[.int .i64 16, .int .i64 d, .int .i64 a, .int .i64 bb, .int .u64 n, .int .i64 fx, av, ov]] w fun e w' => e = .returned (.bool (Zah p f ⟨16, d, a, bb, n, fx, gs, os⟩)) ∧ Below w.heap.size w w' := by
 have hx := al0 w (.cells #[fv, ev, pv, .int .i64 f.results, hv, sv, bv] 149 (0, 0))
 generalize hW1 : World.alloc w (.cells #[fv, ev, pv, .int .i64 f.results, hv, sv, bv] 149 (0, 0)) = W1 at hx
 have hx2 := al0 W1 (.cells #[.int .i64 16, .int .i64 d, .int .i64 a, .int .i64 bb, .int .u64 n, .int .i64 fx, av, ov] 76 (0, 0))
 have hs1 := hx.2.2
 have hs2 := hx2.2.2
 have hb12 := Zad hx.2.1 hx2.2.1 (by omega)
 have HSC := Zac (hSC.below hb12)
 have HA := Zac (ha.below hb12)
 have HO := Zac (ho.below hb12)
 have HW := Zac hb12
 have HR1 := Zac ((hx2.2.1.block w.heap.size (by omega)).trans hx.1)
 have hr2 := hx2.1
 rw [hs1] at hr2 hs2
 have HR2 := Zac hr2
 have HZ := Zac hs2
 have HF := Zac hF
 have HNN := Zac hn
 have hl1 : f.homes.length < 9223372036854775808 := hSC.func.hs.lt
 have hl2 : f.slots.length < 9223372036854775808 := hSC.func.ss.lt
 have hl3 : f.blocks.length < 9223372036854775808 := by obtain ⟨_, _, _, _, h, _⟩ := hSC.func.bs; exact h
 have hl4 : p.funcs.length < 9223372036854775808 := by obtain ⟨_, _, _, _, h, _⟩ := hSC.prog.fs; exact h
 have hl5 : p.externs.length < 9223372036854775808 := by obtain ⟨_, _, _, _, h, _⟩ := hSC.prog.es; exact h
 have hl6 : os.length < 9223372036854775808 := ho.lt
 obtain ⟨pf, cf, rfl⟩ := hSC.prog.fs.shape
 obtain ⟨pe, ce, rfl⟩ := hSC.prog.es.shape
 obtain ⟨pp, cp, rfl⟩ := hSC.func.ps.shape
 obtain ⟨ph, ch, rfl⟩ := hSC.func.hs.shape
 obtain ⟨ps, cs, rfl⟩ := hSC.func.ss.shape
 obtain ⟨pb, cb, rfl⟩ := hSC.func.bs.shape
 obtain ⟨pa, ca, rfl⟩ := ha.shape
 obtain ⟨po, co, rfl⟩ := ho.shape
 clear hx hx2 hs1 hs2 hb12 hr2 hSC ha ho hF hn
 subst hW1
 go_enter Tryz.func76, Tryz.ntmps76
 by_cases h1 : (os.length : Int) = f.results
 ·
  have z1 : ((os.length : Int) == f.results) = true := by simpa using h1
  go_wp2_with fail
  generalize World.alloc (World.alloc w _) _ = W at HSC HA HO HW HR1 HR2 HZ ⊢
  refine (haveLocals_c f _ _ _ _ _ _ _ _ os W ⟨_, _, rfl⟩ hl1 (Zaa HO)).mono ?_
  rintro e w2 ⟨rfl, hb⟩
  have HB2 := Zac hb
  clear hb
  have hx := Zac (show Zah p f ⟨16, d, a, bb, n, fx, gs, os⟩ = localsB f os by unfold Zah; simp [h1])
  go_wp2
  go_ret
  exact ⟨by rw [Zaa hx]; rfl, Zad (Zaa HW) (Zaa HB2) (by have := Zaa HZ; omega)⟩
 ·
  have z1 : ((os.length : Int) == f.results) = false := by simpa using h1
  have hx := Zac (show Zah p f ⟨16, d, a, bb, n, fx, gs, os⟩ = false by unfold Zah; simp [h1])
  clear h1
  go_wp2
  go_ret
  exact ⟨by rw [Zaa hx]; rfl, Zaa HW⟩
end Go.Proofs.YtffemeicclhioaaGreatDoor

