/-
 Checks: the fields of an instruction, by package program: those that draw no order. Own work of the verifier.
-/
import Derived.Test.YtffemeicclhioaaGreatDoorJ8
namespace Go.Proofs.YtffemeicclhioaaGreatDoor
open Go.RowKit

theorem localsB_1 (f : FuncE) (a : Int) : localsB f [a] = localB f a := by simp [localsB, upB, List.range, List.range.loop]
theorem localsB_2 (f : FuncE) (a b : Int) : localsB f [a, b] = (localB f a && localB f b) := by simp [localsB, upB, List.range, List.range.loop]
theorem localsB_3 (f : FuncE) (a b c : Int) : localsB f [a, b, c] = (localB f a && (localB f b && localB f c)) := by simp [localsB, upB, List.range, List.range.loop]
/-- What a scope holds. -/
structure ScD (w : World) (p : ProgE) (f : FuncE) (fv ev pv hv sv bv : Value) (A E : Nat → Array Value) (B : Nat → Value) : Prop where
 prog : ProgC w fv ev p A E
 func : FuncD w f pv hv sv bv B
theorem ScD.below {w w' : World} {p : ProgE} {f : FuncE} {fv ev pv hv sv bv : Value} {A E : Nat → Array Value} {B : Nat → Value} (h : ScD w p f fv ev pv hv sv bv A E B) (hb : Below w.heap.size w w') : ScD w' p f fv ev pv hv sv bv A E B := ⟨h.prog.below hb, h.func.below hb⟩
/-- What stands ahead of the instructions is right. -/
structure FitD (p : ProgE) (f : FuncE) : Prop where
 slots : numsIn f.slots 1 8 = true
 funcs : ∀ k, k < p.funcs.length → (p.funcs.getD k Zaj).params.length ≤ 8 ∧ (p.funcs.getD k Zaj).results ≤ 4
 externs : ∀ k, k < p.externs.length → (p.externs.getD k ([], 0)).2 ≤ 4
theorem Li.list {w : World} (ns : List Int) (hs : ns.length < short) : Li (w.alloc (.cells (ns.map fun n => Value.int .i64 n).toArray 3 (0, 0))) (.slice (some ⟨w.heap.size, 0, none⟩) ns.length ns.length) ns := Li.new (heap_alloc_new w _) hs
/-- An instruction's fields fit. -/
abbrev FfS (op : Int) : Prop := ∀ (p : ProgE) (f : FuncE) (d a bb n fx : Int) (gs : List (Int × Int)) (os : List Int) (fv ev pv hv sv bv av ov : Value) (A E : Nat → Array Value) (B : Nat → Value) (w : World), ScD w p f fv ev pv hv sv bv A E B → LS 2 w av gs.length (fun k => pairA (gs.getD k (0, 0))) → Li w ov os → FitD p f → 0 ≤ n ∧ n < 18446744073709551616 → Calls Tryz.prog 76 #[.agg #[fv, ev, pv, .int .i64 f.results, hv, sv, bv], .agg #[.int .i64 op, .int .i64 d, .int .i64 a, .int .i64 bb, .int .u64 n, .int .i64 fx, av, ov]] w fun e w' => e = .returned (.bool (Zai p f ⟨op, d, a, bb, n, fx, gs, os⟩)) ∧ Below w.heap.size w w'
theorem ckPre {p : ProgE} {f : FuncE} {gs : List (Int × Int)} {os : List Int} {fv ev pv hv sv bv av ov : Value} {A E : Nat → Array Value} {B : Nat → Value} {w : World} (op d a bb n fx : Int) (hSC : ScD w p f fv ev pv hv sv bv A E B) (ha : LS 2 w av gs.length (fun k => pairA (gs.getD k (0, 0)))) (ho : Li w ov os) (W : World) (hW : W = (w.alloc (.cells #[fv, ev, pv, .int .i64 f.results, hv, sv, bv] 149 (0, 0))).alloc (.cells #[.int .i64 op, .int .i64 d, .int .i64 a, .int .i64 bb, .int .u64 n, .int .i64 fx, av, ov] 76 (0, 0))) :
 ∃ pf cf pe ce pp cp ph ch ps cs pb cb pa ca po co, fv = .slice pf p.funcs.length cf ∧ ev = .slice pe p.externs.length ce ∧ pv = .slice pp f.params.length cp ∧ hv = .slice ph f.homes.length ch ∧ sv = .slice ps f.slots.length cs ∧ bv = .slice pb f.blocks.length cb ∧ av = .slice pa gs.length ca ∧ ov = .slice po os.length co ∧ (f.homes.length < 9223372036854775808 ∧ f.slots.length < 9223372036854775808 ∧ f.blocks.length < 9223372036854775808 ∧ p.funcs.length < 9223372036854775808 ∧ p.externs.length < 9223372036854775808 ∧ os.length < 9223372036854775808) ∧ Hid (ScD W p f fv ev pv hv sv bv A E B) ∧ Hid (LS 2 W av gs.length (fun k => pairA (gs.getD k (0, 0)))) ∧ Hid (Li W ov os) ∧ Hid (Below w.heap.size w W) ∧ Hid (W.heap[w.heap.size]? = some (.cells #[fv, ev, pv, .int .i64 f.results, hv, sv, bv] 149 (0, 0))) ∧ Hid (W.heap[w.heap.size + 1]? = some (.cells #[.int .i64 op, .int .i64 d, .int .i64 a, .int .i64 bb, .int .u64 n, .int .i64 fx, av, ov] 76 (0, 0))) ∧ Hid (W.heap.size = w.heap.size + 1 + 1) := by
 have hx := al0 w (.cells #[fv, ev, pv, .int .i64 f.results, hv, sv, bv] 149 (0, 0))
 generalize hW1 : World.alloc w (.cells #[fv, ev, pv, .int .i64 f.results, hv, sv, bv] 149 (0, 0)) = W1 at hx hW
 have hx2 := al0 W1 (.cells #[.int .i64 op, .int .i64 d, .int .i64 a, .int .i64 bb, .int .u64 n, .int .i64 fx, av, ov] 76 (0, 0))
 rw [← hW] at hx2
 have hs1 := hx.2.2
 have hs2 := hx2.2.2
 have hb12 := Zad hx.2.1 hx2.2.1 (by omega)
 have hr2 := hx2.1
 rw [hs1] at hr2 hs2
 obtain ⟨pf, cf, e1⟩ := hSC.prog.fs.shape
 obtain ⟨pe, ce, e2⟩ := hSC.prog.es.shape
 obtain ⟨pp, cp, e3⟩ := hSC.func.ps.shape
 obtain ⟨ph, ch, e4⟩ := hSC.func.hs.shape
 obtain ⟨ps, cs, e5⟩ := hSC.func.ss.shape
 obtain ⟨pb, cb, e6⟩ := hSC.func.bs.shape
 obtain ⟨pa, ca, e7⟩ := ha.shape
 obtain ⟨po, co, e8⟩ := ho.shape
 exact ⟨pf, cf, pe, ce, pp, cp, ph, ch, ps, cs, pb, cb, pa, ca, po, co, e1, e2, e3, e4, e5, e6, e7, e8, ⟨hSC.func.hs.lt, hSC.func.ss.lt, by obtain ⟨_, _, _, _, h, _⟩ := hSC.func.bs; exact h, by obtain ⟨_, _, _, _, h, _⟩ := hSC.prog.fs; exact h, by obtain ⟨_, _, _, _, h, _⟩ := hSC.prog.es; exact h, ho.lt⟩, Zac (hSC.below hb12), Zac (ha.below hb12), Zac (ho.below hb12), Zac hb12, Zac ((hx2.2.1.block w.heap.size (by omega)).trans hx.1), Zac hr2, Zac hs2⟩
set_option maxHeartbeats 4000000 in
set_option maxRecDepth 100000 in
theorem ff1_c : FfS 1 := by
 intro p f d a bb n fx gs os fv ev pv hv sv bv av ov A E B w hSC ha ho hF hn
 obtain ⟨pf, cf, pe, ce, pp, cp, ph, ch, ps, cs, pb, cb, pa, ca, po, co, rfl, rfl, rfl, rfl, rfl, rfl, rfl, rfl, ⟨hl1, hl2, hl3, hl4, hl5, hl6⟩, HSC, HA, HO, HW, HR1, HR2, HZ⟩ := ckPre 1 d a bb n fx hSC ha ho _ rfl
 have HF := Zac hF
 have HNN := Zac hn
 clear hSC ha ho hF hn
 go_enter Tryz.func76, Tryz.ntmps76
 go_wp2_with fail
 generalize World.alloc (World.alloc w _) _ = W at HSC HA HO HW HR1 HR2 HZ ⊢
 have hT := Zaa HZ
 rw [← hT]
 refine (haveLocals_c f _ _ _ _ _ _ _ _ [d] _ ⟨_, _, rfl⟩ hl1 (Li.list (w := W) [d] (by show 1 < short; decide))).mono ?_
 rintro e w2 ⟨rfl, hb⟩
 have HB2 := Zac (Zad (al0 W _).2.1 hb (by simp))
 clear hb hT
 rw [localsB_1]
 have hx := Zac (show Zai p f ⟨1, d, a, bb, n, fx, gs, os⟩ = localB f d by rfl)
 go_wp2
 go_ret
 exact ⟨by rw [Zaa hx]; rfl, Zad (Zaa HW) (Zaa HB2) (by have := Zaa HZ; omega)⟩
set_option maxHeartbeats 4000000 in
set_option maxRecDepth 100000 in
theorem ff2_c : FfS 2 := by
 intro p f d a bb n fx gs os fv ev pv hv sv bv av ov A E B w hSC ha ho hF hn
 obtain ⟨pf, cf, pe, ce, pp, cp, ph, ch, ps, cs, pb, cb, pa, ca, po, co, rfl, rfl, rfl, rfl, rfl, rfl, rfl, rfl, ⟨hl1, hl2, hl3, hl4, hl5, hl6⟩, HSC, HA, HO, HW, HR1, HR2, HZ⟩ := ckPre 2 d a bb n fx hSC ha ho _ rfl
 have HF := Zac hF
 have HNN := Zac hn
 clear hSC ha ho hF hn
 go_enter Tryz.func76, Tryz.ntmps76
 go_wp2_with fail
 generalize World.alloc (World.alloc w _) _ = W at HSC HA HO HW HR1 HR2 HZ ⊢
 have hT := Zaa HZ
 rw [← hT]
 refine (haveLocals_c f _ _ _ _ _ _ _ _ [d, a] _ ⟨_, _, rfl⟩ hl1 (Li.list (w := W) [d, a] (by show 2 < short; decide))).mono ?_
 rintro e w2 ⟨rfl, hb⟩
 have HB2 := Zac (Zad (al0 W _).2.1 hb (by simp))
 clear hb hT
 rw [localsB_2]
 have hx := Zac (show Zai p f ⟨2, d, a, bb, n, fx, gs, os⟩ = (localB f d && localB f a) by rfl)
 go_wp2
 go_ret
 exact ⟨by rw [Zaa hx]; rfl, Zad (Zaa HW) (Zaa HB2) (by have := Zaa HZ; omega)⟩
set_option maxHeartbeats 4000000 in
set_option maxRecDepth 100000 in
theorem ff3_c : FfS 3 := by
 intro p f d a bb n fx gs os fv ev pv hv sv bv av ov A E B w hSC ha ho hF hn
 obtain ⟨pf, cf, pe, ce, pp, cp, ph, ch, ps, cs, pb, cb, pa, ca, po, co, rfl, rfl, rfl, rfl, rfl, rfl, rfl, rfl, ⟨hl1, hl2, hl3, hl4, hl5, hl6⟩, HSC, HA, HO, HW, HR1, HR2, HZ⟩ := ckPre 3 d a bb n fx hSC ha ho _ rfl
 have HF := Zac hF
 have HNN := Zac hn
 clear hSC ha ho hF hn
 go_enter Tryz.func76, Tryz.ntmps76
 go_wp2_with fail
 generalize World.alloc (World.alloc w _) _ = W at HSC HA HO HW HR1 HR2 HZ ⊢
 have hT := Zaa HZ
 rw [← hT]
 refine (haveLocals_c f _ _ _ _ _ _ _ _ [d, a, bb] _ ⟨_, _, rfl⟩ hl1 (Li.list (w := W) [d, a, bb] (by show 3 < short; decide))).mono ?_
 rintro e w2 ⟨rfl, hb⟩
 have HB2 := Zac (Zad (al0 W _).2.1 hb (by simp))
 clear hb hT
 rw [localsB_3]
 have hx := Zac (show Zai p f ⟨3, d, a, bb, n, fx, gs, os⟩ = (localB f d && (localB f a && localB f bb)) by rfl)
 go_wp2
 go_ret
 exact ⟨by rw [Zaa hx]; rfl, Zad (Zaa HW) (Zaa HB2) (by have := Zaa HZ; omega)⟩
set_option maxHeartbeats 4000000 in
set_option maxRecDepth 100000 in
theorem ff4_c : FfS 4 := by
 intro p f d a bb n fx gs os fv ev pv hv sv bv av ov A E B w hSC ha ho hF hn
 obtain ⟨pf, cf, pe, ce, pp, cp, ph, ch, ps, cs, pb, cb, pa, ca, po, co, rfl, rfl, rfl, rfl, rfl, rfl, rfl, rfl, ⟨hl1, hl2, hl3, hl4, hl5, hl6⟩, HSC, HA, HO, HW, HR1, HR2, HZ⟩ := ckPre 4 d a bb n fx hSC ha ho _ rfl
 have HF := Zac hF
 have HNN := Zac hn
 clear hSC ha ho hF hn
 go_enter Tryz.func76, Tryz.ntmps76
 go_wp2_with fail
 generalize World.alloc (World.alloc w _) _ = W at HSC HA HO HW HR1 HR2 HZ ⊢
 have hT := Zaa HZ
 rw [← hT]
 refine (haveLocals_c f _ _ _ _ _ _ _ _ [d, a, bb] _ ⟨_, _, rfl⟩ hl1 (Li.list (w := W) [d, a, bb] (by show 3 < short; decide))).mono ?_
 rintro e w2 ⟨rfl, hb⟩
 have HB2 := Zac (Zad (al0 W _).2.1 hb (by simp))
 clear hb hT
 rw [localsB_3]
 have hx := Zac (show Zai p f ⟨4, d, a, bb, n, fx, gs, os⟩ = (localB f d && (localB f a && localB f bb)) by rfl)
 go_wp2
 go_ret
 exact ⟨by rw [Zaa hx]; rfl, Zad (Zaa HW) (Zaa HB2) (by have := Zaa HZ; omega)⟩
set_option maxHeartbeats 4000000 in
set_option maxRecDepth 100000 in
theorem ff5_c : FfS 5 := by
 intro p f d a bb n fx gs os fv ev pv hv sv bv av ov A E B w hSC ha ho hF hn
 obtain ⟨pf, cf, pe, ce, pp, cp, ph, ch, ps, cs, pb, cb, pa, ca, po, co, rfl, rfl, rfl, rfl, rfl, rfl, rfl, rfl, ⟨hl1, hl2, hl3, hl4, hl5, hl6⟩, HSC, HA, HO, HW, HR1, HR2, HZ⟩ := ckPre 5 d a bb n fx hSC ha ho _ rfl
 have HF := Zac hF
 have HNN := Zac hn
 clear hSC ha ho hF hn
 go_enter Tryz.func76, Tryz.ntmps76
 go_wp2_with fail
 generalize World.alloc (World.alloc w _) _ = W at HSC HA HO HW HR1 HR2 HZ ⊢
 have hT := Zaa HZ
 rw [← hT]
 refine (haveLocals_c f _ _ _ _ _ _ _ _ [d, a, bb] _ ⟨_, _, rfl⟩ hl1 (Li.list (w := W) [d, a, bb] (by show 3 < short; decide))).mono ?_
 rintro e w2 ⟨rfl, hb⟩
 have HB2 := Zac (Zad (al0 W _).2.1 hb (by simp))
 clear hb hT
 rw [localsB_3]
 have hx := Zac (show Zai p f ⟨5, d, a, bb, n, fx, gs, os⟩ = (localB f d && (localB f a && localB f bb)) by rfl)
 go_wp2
 go_ret
 exact ⟨by rw [Zaa hx]; rfl, Zad (Zaa HW) (Zaa HB2) (by have := Zaa HZ; omega)⟩
set_option maxHeartbeats 4000000 in
set_option maxRecDepth 100000 in
theorem ff6_c : FfS 6 := by
 intro p f d a bb n fx gs os fv ev pv hv sv bv av ov A E B w hSC ha ho hF hn
 obtain ⟨pf, cf, pe, ce, pp, cp, ph, ch, ps, cs, pb, cb, pa, ca, po, co, rfl, rfl, rfl, rfl, rfl, rfl, rfl, rfl, ⟨hl1, hl2, hl3, hl4, hl5, hl6⟩, HSC, HA, HO, HW, HR1, HR2, HZ⟩ := ckPre 6 d a bb n fx hSC ha ho _ rfl
 have HF := Zac hF
 have HNN := Zac hn
 clear hSC ha ho hF hn
 go_enter Tryz.func76, Tryz.ntmps76
 go_wp2_with fail
 generalize World.alloc (World.alloc w _) _ = W at HSC HA HO HW HR1 HR2 HZ ⊢
 have hT := Zaa HZ
 rw [← hT]
 refine (haveLocals_c f _ _ _ _ _ _ _ _ [d, a, bb] _ ⟨_, _, rfl⟩ hl1 (Li.list (w := W) [d, a, bb] (by show 3 < short; decide))).mono ?_
 rintro e w2 ⟨rfl, hb⟩
 have HB2 := Zac (Zad (al0 W _).2.1 hb (by simp))
 clear hb hT
 rw [localsB_3]
 have hx := Zac (show Zai p f ⟨6, d, a, bb, n, fx, gs, os⟩ = (localB f d && (localB f a && localB f bb)) by rfl)
 go_wp2
 go_ret
 exact ⟨by rw [Zaa hx]; rfl, Zad (Zaa HW) (Zaa HB2) (by have := Zaa HZ; omega)⟩
set_option maxHeartbeats 4000000 in
set_option maxRecDepth 100000 in
theorem ff7_c : FfS 7 := by
 intro p f d a bb n fx gs os fv ev pv hv sv bv av ov A E B w hSC ha ho hF hn
 obtain ⟨pf, cf, pe, ce, pp, cp, ph, ch, ps, cs, pb, cb, pa, ca, po, co, rfl, rfl, rfl, rfl, rfl, rfl, rfl, rfl, ⟨hl1, hl2, hl3, hl4, hl5, hl6⟩, HSC, HA, HO, HW, HR1, HR2, HZ⟩ := ckPre 7 d a bb n fx hSC ha ho _ rfl
 have HF := Zac hF
 have HNN := Zac hn
 clear hSC ha ho hF hn
 go_enter Tryz.func76, Tryz.ntmps76
 go_wp2_with fail
 generalize World.alloc (World.alloc w _) _ = W at HSC HA HO HW HR1 HR2 HZ ⊢
 have hT := Zaa HZ
 rw [← hT]
 refine (haveLocals_c f _ _ _ _ _ _ _ _ [d, a, bb] _ ⟨_, _, rfl⟩ hl1 (Li.list (w := W) [d, a, bb] (by show 3 < short; decide))).mono ?_
 rintro e w2 ⟨rfl, hb⟩
 have HB2 := Zac (Zad (al0 W _).2.1 hb (by simp))
 clear hb hT
 rw [localsB_3]
 have hx := Zac (show Zai p f ⟨7, d, a, bb, n, fx, gs, os⟩ = (localB f d && (localB f a && localB f bb)) by rfl)
 go_wp2
 go_ret
 exact ⟨by rw [Zaa hx]; rfl, Zad (Zaa HW) (Zaa HB2) (by have := Zaa HZ; omega)⟩
set_option maxHeartbeats 4000000 in
set_option maxRecDepth 100000 in
theorem ff8_c : FfS 8 := by
 intro p f d a bb n fx gs os fv ev pv hv sv bv av ov A E B w hSC ha ho hF hn
 obtain ⟨pf, cf, pe, ce, pp, cp, ph, ch, ps, cs, pb, cb, pa, ca, po, co, rfl, rfl, rfl, rfl, rfl, rfl, rfl, rfl, ⟨hl1, hl2, hl3, hl4, hl5, hl6⟩, HSC, HA, HO, HW, HR1, HR2, HZ⟩ := ckPre 8 d a bb n fx hSC ha ho _ rfl
 have HF := Zac hF
 have HNN := Zac hn
 clear hSC ha ho hF hn
 go_enter Tryz.func76, Tryz.ntmps76
 go_wp2_with fail
 generalize World.alloc (World.alloc w _) _ = W at HSC HA HO HW HR1 HR2 HZ ⊢
 have hT := Zaa HZ
 rw [← hT]
 refine (haveLocals_c f _ _ _ _ _ _ _ _ [d, a, bb] _ ⟨_, _, rfl⟩ hl1 (Li.list (w := W) [d, a, bb] (by show 3 < short; decide))).mono ?_
 rintro e w2 ⟨rfl, hb⟩
 have HB2 := Zac (Zad (al0 W _).2.1 hb (by simp))
 clear hb hT
 rw [localsB_3]
 have hx := Zac (show Zai p f ⟨8, d, a, bb, n, fx, gs, os⟩ = (localB f d && (localB f a && localB f bb)) by rfl)
 go_wp2
 go_ret
 exact ⟨by rw [Zaa hx]; rfl, Zad (Zaa HW) (Zaa HB2) (by have := Zaa HZ; omega)⟩
set_option maxHeartbeats 4000000 in
set_option maxRecDepth 100000 in
theorem ff9_c : FfS 9 := by
 intro p f d a bb n fx gs os fv ev pv hv sv bv av ov A E B w hSC ha ho hF hn
 obtain ⟨pf, cf, pe, ce, pp, cp, ph, ch, ps, cs, pb, cb, pa, ca, po, co, rfl, rfl, rfl, rfl, rfl, rfl, rfl, rfl, ⟨hl1, hl2, hl3, hl4, hl5, hl6⟩, HSC, HA, HO, HW, HR1, HR2, HZ⟩ := ckPre 9 d a bb n fx hSC ha ho _ rfl
 have HF := Zac hF
 have HNN := Zac hn
 clear hSC ha ho hF hn
 go_enter Tryz.func76, Tryz.ntmps76
 go_wp2_with fail
 generalize World.alloc (World.alloc w _) _ = W at HSC HA HO HW HR1 HR2 HZ ⊢
 have hT := Zaa HZ
 rw [← hT]
 refine (haveLocals_c f _ _ _ _ _ _ _ _ [d, a, bb] _ ⟨_, _, rfl⟩ hl1 (Li.list (w := W) [d, a, bb] (by show 3 < short; decide))).mono ?_
 rintro e w2 ⟨rfl, hb⟩
 have HB2 := Zac (Zad (al0 W _).2.1 hb (by simp))
 clear hb hT
 rw [localsB_3]
 have hx := Zac (show Zai p f ⟨9, d, a, bb, n, fx, gs, os⟩ = (localB f d && (localB f a && localB f bb)) by rfl)
 go_wp2
 go_ret
 exact ⟨by rw [Zaa hx]; rfl, Zad (Zaa HW) (Zaa HB2) (by have := Zaa HZ; omega)⟩
set_option maxHeartbeats 4000000 in
set_option maxRecDepth 100000 in
theorem ff14_c : FfS 14 := by
 intro p f d a bb n fx gs os fv ev pv hv sv bv av ov A E B w hSC ha ho hF hn
 obtain ⟨pf, cf, pe, ce, pp, cp, ph, ch, ps, cs, pb, cb, pa, ca, po, co, rfl, rfl, rfl, rfl, rfl, rfl, rfl, rfl, ⟨hl1, hl2, hl3, hl4, hl5, hl6⟩, HSC, HA, HO, HW, HR1, HR2, HZ⟩ := ckPre 14 d a bb n fx hSC ha ho _ rfl
 have HF := Zac hF
 have HNN := Zac hn
 clear hSC ha ho hF hn
 go_enter Tryz.func76, Tryz.ntmps76
 go_wp2_with fail
 generalize World.alloc (World.alloc w _) _ = W at HSC HA HO HW HR1 HR2 HZ ⊢
 refine (hasBlock_c f _ _ _ _ _ _ _ _ _ W hl3).mono ?_
 rintro e w2 ⟨rfl, hb⟩
 have HB2 := Zac hb
 clear hb
 have hx := Zac (show Zai p f ⟨14, d, a, bb, n, fx, gs, os⟩ = inB a 0 (f.blocks.length - 1) by rfl)
 go_wp2
 go_ret
 exact ⟨by rw [Zaa hx]; rfl, Zad (Zaa HW) (Zaa HB2) (by have := Zaa HZ; omega)⟩
set_option maxHeartbeats 4000000 in
set_option maxRecDepth 100000 in
theorem ff18_c : FfS 18 := by
 intro p f d a bb n fx gs os fv ev pv hv sv bv av ov A E B w hSC ha ho hF hn
 obtain ⟨pf, cf, pe, ce, pp, cp, ph, ch, ps, cs, pb, cb, pa, ca, po, co, rfl, rfl, rfl, rfl, rfl, rfl, rfl, rfl, ⟨hl1, hl2, hl3, hl4, hl5, hl6⟩, HSC, HA, HO, HW, HR1, HR2, HZ⟩ := ckPre 18 d a bb n fx hSC ha ho _ rfl
 have HF := Zac hF
 have HNN := Zac hn
 clear hSC ha ho hF hn
 go_enter Tryz.func76, Tryz.ntmps76
 go_wp2
 go_ret
 exact ⟨rfl, Zaa HW⟩
set_option maxHeartbeats 4000000 in
set_option maxRecDepth 100000 in
theorem ff15_c : FfS 15 := by
 intro p f d a bb n fx gs os fv ev pv hv sv bv av ov A E B w hSC ha ho hF hn
 obtain ⟨pf, cf, pe, ce, pp, cp, ph, ch, ps, cs, pb, cb, pa, ca, po, co, rfl, rfl, rfl, rfl, rfl, rfl, rfl, rfl, ⟨hl1, hl2, hl3, hl4, hl5, hl6⟩, HSC, HA, HO, HW, HR1, HR2, HZ⟩ := ckPre 15 d a bb n fx hSC ha ho _ rfl
 have HF := Zac hF
 have HNN := Zac hn
 clear hSC ha ho hF hn
 go_enter Tryz.func76, Tryz.ntmps76
 go_wp2_with fail
 generalize World.alloc (World.alloc w _) _ = W at HSC HA HO HW HR1 HR2 HZ ⊢
 have hT := Zaa HZ
 rw [← hT]
 refine (haveLocals_c f _ _ _ _ _ _ _ _ [d] _ ⟨_, _, rfl⟩ hl1 (Li.list (w := W) [d] (by show 1 < short; decide))).mono ?_
 rintro e w2 ⟨rfl, hb⟩
 have HB2 := Zac (Zad (al0 W _).2.1 hb (by simp))
 clear hb hT
 rw [localsB_1]
 have hz := Zaa HZ
 have hrs := ((Zaa HB2).block w.heap.size (by omega)).trans (Zaa HR1)
 have hri := ((Zaa HB2).block (w.heap.size + 1) (by omega)).trans (Zaa HR2)
 have s0 := (Zab hrs 0).trans rfl
 have s1 := (Zab hrs 1).trans rfl
 have s2 := (Zab hrs 2).trans rfl
 have s3 := (Zab hrs 3).trans rfl
 have s4 := (Zab hrs 4).trans rfl
 have s5 := (Zab hrs 5).trans rfl
 have s6 := (Zab hrs 6).trans rfl
 have i0 := (Zab hri 0).trans rfl
 have i1 := (Zab hri 1).trans rfl
 have i2 := (Zab hri 2).trans rfl
 have i3 := (Zab hri 3).trans rfl
 have i4 := (Zab hri 4).trans rfl
 have i5 := (Zab hri 5).trans rfl
 have i6 := (Zab hri 6).trans rfl
 have i7 := (Zab hri 7).trans rfl
 clear hz hrs hri
 cases h1 : localB f d with
 | false =>
  have hx := Zac (show Zai p f ⟨15, d, a, bb, n, fx, gs, os⟩ = false by unfold Zai; simp [h1])
  go_wp2
  go_ret
  exact ⟨by rw [Zaa hx]; rfl, Zad (Zaa HW) (Zaa HB2) (by have := Zaa HZ; omega)⟩
 | true =>
  have H1 := Zac h1
  clear h1
  go_wp2_with fail
  refine (hasBlock_c f _ _ _ _ _ _ _ _ a w2 hl3).mono ?_
  rintro e w3 ⟨rfl, hb⟩
  have HB3 := Zac (Zad (Zaa HB2) hb (Zaa HB2).size)
  clear hb s0 s1 s2 s3 s4 s5 s6 i0 i1 i2 i3 i4 i5 i6 i7
  have hz := Zaa HZ
  have hrs := ((Zaa HB3).block w.heap.size (by omega)).trans (Zaa HR1)
  have hri := ((Zaa HB3).block (w.heap.size + 1) (by omega)).trans (Zaa HR2)
  have s0 := (Zab hrs 0).trans rfl
  have s1 := (Zab hrs 1).trans rfl
  have s2 := (Zab hrs 2).trans rfl
  have s3 := (Zab hrs 3).trans rfl
  have s4 := (Zab hrs 4).trans rfl
  have s5 := (Zab hrs 5).trans rfl
  have s6 := (Zab hrs 6).trans rfl
  have i0 := (Zab hri 0).trans rfl
  have i1 := (Zab hri 1).trans rfl
  have i2 := (Zab hri 2).trans rfl
  have i3 := (Zab hri 3).trans rfl
  have i4 := (Zab hri 4).trans rfl
  have i5 := (Zab hri 5).trans rfl
  have i6 := (Zab hri 6).trans rfl
  have i7 := (Zab hri 7).trans rfl
  clear hz hrs hri
  cases h2 : inB a 0 (f.blocks.length - 1) with
  | false =>
   have hx := Zac (show Zai p f ⟨15, d, a, bb, n, fx, gs, os⟩ = false by unfold Zai; simp [h2])
   go_wp2
   go_ret
   exact ⟨by rw [Zaa hx]; rfl, Zad (Zaa HW) (Zaa HB3) (by have := Zaa HZ; omega)⟩
  | true =>
   have H2 := Zac h2
   clear h2
   go_wp2_with fail
   refine (hasBlock_c f _ _ _ _ _ _ _ _ bb w3 hl3).mono ?_
   rintro e w4 ⟨rfl, hb⟩
   have HB4 := Zac (Zad (Zaa HB3) hb (Zaa HB3).size)
   clear hb
   have hx := Zac (show Zai p f ⟨15, d, a, bb, n, fx, gs, os⟩ = inB bb 0 (f.blocks.length - 1) by unfold Zai; simp [Zaa H1, Zaa H2])
   go_wp2
   go_ret
   exact ⟨by rw [Zaa hx]; rfl, Zad (Zaa HW) (Zaa HB4) (by have := Zaa HZ; omega)⟩
set_option maxHeartbeats 4000000 in
set_option maxRecDepth 100000 in
theorem ff10_c : FfS 10 := by
 intro p f d a bb n fx gs os fv ev pv hv sv bv av ov A E B w hSC ha ho hF hn
 obtain ⟨pf, cf, pe, ce, pp, cp, ph, ch, ps, cs, pb, cb, pa, ca, po, co, rfl, rfl, rfl, rfl, rfl, rfl, rfl, rfl, ⟨hl1, hl2, hl3, hl4, hl5, hl6⟩, HSC, HA, HO, HW, HR1, HR2, HZ⟩ := ckPre 10 d a bb n fx hSC ha ho _ rfl
 have HF := Zac hF
 have HNN := Zac hn
 clear hSC ha ho hF hn
 go_enter Tryz.func76, Tryz.ntmps76
 go_wp2_with fail
 generalize World.alloc (World.alloc w _) _ = W at HSC HA HO HW HR1 HR2 HZ ⊢
 have hT := Zaa HZ
 rw [← hT]
 refine (haveLocals_c f _ _ _ _ _ _ _ _ [d] _ ⟨_, _, rfl⟩ hl1 (Li.list (w := W) [d] (by show 1 < short; decide))).mono ?_
 rintro e w2 ⟨rfl, hb⟩
 have HB2 := Zac (Zad (al0 W _).2.1 hb (by simp))
 clear hb hT
 rw [localsB_1]
 have hz := Zaa HZ
 have hrs := ((Zaa HB2).block w.heap.size (by omega)).trans (Zaa HR1)
 have hri := ((Zaa HB2).block (w.heap.size + 1) (by omega)).trans (Zaa HR2)
 have s0 := (Zab hrs 0).trans rfl
 have s1 := (Zab hrs 1).trans rfl
 have s2 := (Zab hrs 2).trans rfl
 have s3 := (Zab hrs 3).trans rfl
 have s4 := (Zab hrs 4).trans rfl
 have s5 := (Zab hrs 5).trans rfl
 have s6 := (Zab hrs 6).trans rfl
 have i0 := (Zab hri 0).trans rfl
 have i1 := (Zab hri 1).trans rfl
 have i2 := (Zab hri 2).trans rfl
 have i3 := (Zab hri 3).trans rfl
 have i4 := (Zab hri 4).trans rfl
 have i5 := (Zab hri 5).trans rfl
 have i6 := (Zab hri 6).trans rfl
 have i7 := (Zab hri 7).trans rfl
 clear hz hrs hri
 cases h1 : localB f d with
 | false =>
  have hx := Zac (show Zai p f ⟨10, d, a, bb, n, fx, gs, os⟩ = false by unfold Zai; simp [h1])
  go_wp2
  go_ret
  exact ⟨by rw [Zaa hx]; rfl, Zad (Zaa HW) (Zaa HB2) (by have := Zaa HZ; omega)⟩
 | true =>
  have H1 := Zac h1
  clear h1
  go_wp2_with fail
  refine (slotHas_c f ⟨10, d, a, bb, n, fx, gs, os⟩ _ _ _ _ _ _ _ _ _ w2 ((Zaa HSC).below (Zaa HB2)).func.ss (Zaa HF).slots (Zaa HNN)).mono ?_
  rintro e w3 ⟨rfl, hb⟩
  have HB3 := Zac (Zad (Zaa HB2) hb (Zaa HB2).size)
  clear hb
  have hx := Zac (show Zai p f ⟨10, d, a, bb, n, fx, gs, os⟩ = slotB f ⟨10, d, a, bb, n, fx, gs, os⟩ by unfold Zai; simp [Zaa H1])
  go_wp2
  go_ret
  exact ⟨by rw [Zaa hx]; rfl, Zad (Zaa HW) (Zaa HB3) (by have := Zaa HZ; omega)⟩
set_option maxHeartbeats 4000000 in
set_option maxRecDepth 100000 in
theorem ff11_c : FfS 11 := by
 intro p f d a bb n fx gs os fv ev pv hv sv bv av ov A E B w hSC ha ho hF hn
 obtain ⟨pf, cf, pe, ce, pp, cp, ph, ch, ps, cs, pb, cb, pa, ca, po, co, rfl, rfl, rfl, rfl, rfl, rfl, rfl, rfl, ⟨hl1, hl2, hl3, hl4, hl5, hl6⟩, HSC, HA, HO, HW, HR1, HR2, HZ⟩ := ckPre 11 d a bb n fx hSC ha ho _ rfl
 have HF := Zac hF
 have HNN := Zac hn
 clear hSC ha ho hF hn
 go_enter Tryz.func76, Tryz.ntmps76
 go_wp2_with fail
 generalize World.alloc (World.alloc w _) _ = W at HSC HA HO HW HR1 HR2 HZ ⊢
 have hT := Zaa HZ
 rw [← hT]
 refine (haveLocals_c f _ _ _ _ _ _ _ _ [d] _ ⟨_, _, rfl⟩ hl1 (Li.list (w := W) [d] (by show 1 < short; decide))).mono ?_
 rintro e w2 ⟨rfl, hb⟩
 have HB2 := Zac (Zad (al0 W _).2.1 hb (by simp))
 clear hb hT
 rw [localsB_1]
 have hz := Zaa HZ
 have hrs := ((Zaa HB2).block w.heap.size (by omega)).trans (Zaa HR1)
 have hri := ((Zaa HB2).block (w.heap.size + 1) (by omega)).trans (Zaa HR2)
 have s0 := (Zab hrs 0).trans rfl
 have s1 := (Zab hrs 1).trans rfl
 have s2 := (Zab hrs 2).trans rfl
 have s3 := (Zab hrs 3).trans rfl
 have s4 := (Zab hrs 4).trans rfl
 have s5 := (Zab hrs 5).trans rfl
 have s6 := (Zab hrs 6).trans rfl
 have i0 := (Zab hri 0).trans rfl
 have i1 := (Zab hri 1).trans rfl
 have i2 := (Zab hri 2).trans rfl
 have i3 := (Zab hri 3).trans rfl
 have i4 := (Zab hri 4).trans rfl
 have i5 := (Zab hri 5).trans rfl
 have i6 := (Zab hri 6).trans rfl
 have i7 := (Zab hri 7).trans rfl
 clear hz hrs hri
 cases h1 : localB f d with
 | false =>
  have hx := Zac (show Zai p f ⟨11, d, a, bb, n, fx, gs, os⟩ = false by unfold Zai; simp [h1])
  go_wp2
  go_ret
  exact ⟨by rw [Zaa hx]; rfl, Zad (Zaa HW) (Zaa HB2) (by have := Zaa HZ; omega)⟩
 | true =>
  have H1 := Zac h1
  clear h1
  go_wp2_with fail
  refine (slotHas_c f ⟨11, d, a, bb, n, fx, gs, os⟩ _ _ _ _ _ _ _ _ _ w2 ((Zaa HSC).below (Zaa HB2)).func.ss (Zaa HF).slots (Zaa HNN)).mono ?_
  rintro e w3 ⟨rfl, hb⟩
  have HB3 := Zac (Zad (Zaa HB2) hb (Zaa HB2).size)
  clear hb
  have hx := Zac (show Zai p f ⟨11, d, a, bb, n, fx, gs, os⟩ = slotB f ⟨11, d, a, bb, n, fx, gs, os⟩ by unfold Zai; simp [Zaa H1])
  go_wp2
  go_ret
  exact ⟨by rw [Zaa hx]; rfl, Zad (Zaa HW) (Zaa HB3) (by have := Zaa HZ; omega)⟩
set_option maxHeartbeats 4000000 in
set_option maxRecDepth 100000 in
theorem ff16_c : FfS 16 := by
 intro p f d a bb n fx gs os fv ev pv hv sv bv av ov A E B w hSC ha ho hF hn
 obtain ⟨pf, cf, pe, ce, pp, cp, ph, ch, ps, cs, pb, cb, pa, ca, po, co, rfl, rfl, rfl, rfl, rfl, rfl, rfl, rfl, ⟨hl1, hl2, hl3, hl4, hl5, hl6⟩, HSC, HA, HO, HW, HR1, HR2, HZ⟩ := ckPre 16 d a bb n fx hSC ha ho _ rfl
 have HF := Zac hF
 have HNN := Zac hn
 clear hSC ha ho hF hn
 go_enter Tryz.func76, Tryz.ntmps76
 by_cases h1 : (os.length : Int) = f.results
 ·
  have z1 : ((os.length : Int) == f.results) = true := by simpa using h1
  go_wp2_with fail
  generalize World.alloc (World.alloc w _) _ = W at HSC HA HO HW HR1 HR2 HZ ⊢
  refine (haveLocals_c f _ _ _ _ _ _ _ _ os W ⟨_, _, rfl⟩ hl1 (Zaa HO)).mono ?_
  rintro e w2 ⟨rfl, hb⟩
  have HB2 := Zac hb
  clear hb
  have hx := Zac (show Zai p f ⟨16, d, a, bb, n, fx, gs, os⟩ = localsB f os by unfold Zai; simp [h1])
  go_wp2
  go_ret
  exact ⟨by rw [Zaa hx]; rfl, Zad (Zaa HW) (Zaa HB2) (by have := Zaa HZ; omega)⟩
 ·
  have z1 : ((os.length : Int) == f.results) = false := by simpa using h1
  have hx := Zac (show Zai p f ⟨16, d, a, bb, n, fx, gs, os⟩ = false by unfold Zai; simp [h1])
  clear h1
  go_wp2
  go_ret
  exact ⟨by rw [Zaa hx]; rfl, Zaa HW⟩
end Go.Proofs.YtffemeicclhioaaGreatDoor

