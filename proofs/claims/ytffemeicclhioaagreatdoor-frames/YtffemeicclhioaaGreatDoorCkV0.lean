/-
 Checks: prologueref.right, where it ends at once. Own work of the verifier.
-/
import Derived.Test.YtffemeicclhioaaGreatDoorJ15
namespace Go.Proofs.YtffemeicclhioaaGreatDoor
open Go.RowKit

set_option maxHeartbeats 16000000 in
set_option maxRecDepth 100000 in
theorem rightN_c (p : ProgE) (f : FuncE) (op d a bb n fx : Int) (gs : List (Int × Int)) (os : List Int) (last : Bool) (fv ev pv hv sv bv av ov : Value) (A E : Nat → Array Value) (B : Nat → Value) (w : World) (hSC : ScD w p f fv ev pv hv sv bv A E B) (ha : LS 2 w av gs.length (fun k => pairA (gs.getD k (0, 0)))) (ho : Li w ov os) (hF : FitD p f) (hn : 0 ≤ n ∧ n < 18446744073709551616) (hbad : ¬ (1 ≤ op ∧ op ≤ 18 ∧ decide (14 ≤ op) = last)) :
 Calls Tryz.prog 23 #[.agg #[fv, ev], .agg #[pv, .int .i64 f.results, hv, sv, bv], .agg #[.int .i64 op, .int .i64 d, .int .i64 a, .int .i64 bb, .int .u64 n, .int .i64 fx, av, ov], .bool last] w fun e w' => e = .returned (.bool (insB p f ⟨op, d, a, bb, n, fx, gs, os⟩ last)) ∧ Below w.heap.size w w' := by
 have HSC := Zac hSC
 have HA := Zac ha
 have HO := Zac ho
 have HF := Zac hF
 have HNN := Zac hn
 have hl1 : f.homes.length < 9223372036854775808 := hSC.func.hs.lt
 have hl2 : f.slots.length < 9223372036854775808 := hSC.func.ss.lt
 have hl3 : f.blocks.length < 9223372036854775808 := by obtain ⟨_, _, _, _, h, _⟩ := hSC.func.bs; exact h
 have hl4 : p.funcs.length < 9223372036854775808 := by obtain ⟨_, _, _, _, h, _⟩ := hSC.prog.fs; exact h
 have hl5 : p.externs.length < 9223372036854775808 := by obtain ⟨_, _, _, _, h, _⟩ := hSC.prog.es; exact h
 have hl6 : os.length < 9223372036854775808 := ho.lt
 have hl7 : gs.length < 9223372036854775808 := by obtain ⟨_, _, _, _, h, _⟩ := ha; exact h
 obtain ⟨pf, cf, rfl⟩ := hSC.prog.fs.shape
 obtain ⟨pe, ce, rfl⟩ := hSC.prog.es.shape
 obtain ⟨pp, cp, rfl⟩ := hSC.func.ps.shape
 obtain ⟨ph, ch, rfl⟩ := hSC.func.hs.shape
 obtain ⟨ps, cs, rfl⟩ := hSC.func.ss.shape
 obtain ⟨pb, cb, rfl⟩ := hSC.func.bs.shape
 obtain ⟨pa, ca, rfl⟩ := ha.shape
 obtain ⟨po, co, rfl⟩ := ho.shape
 clear hSC ha ho hF hn
 have HB3 := Zac (fun X Y Z : Obj => show Below w.heap.size w (((w.alloc X).alloc Y).alloc Z) from (((Below.refl w.heap.size w).alloc (Nat.le_refl _) X).alloc (by simp) Y).alloc (by simp; omega) Z)
 have HB4 := Zac (fun X Y Z U : Obj => show Below w.heap.size w ((((w.alloc X).alloc Y).alloc Z).alloc U) from (Zaa HB3 X Y Z).alloc (by simp; omega) U)
 by_cases hop : 1 ≤ op ∧ op ≤ 18
 ·
  have hin : inB op 1 18 = true := by unfold inB; exact decide_eq_true hop
  by_cases h14 : 14 ≤ op
  ·
   obtain rfl : last = false := by cases last with | false => rfl | true => exact absurd ⟨hop.1, hop.2, decide_eq_true h14⟩ hbad
   have HINS := Zac (show insB p f ⟨op, d, a, bb, n, fx, gs, os⟩ false = false by unfold insB; simp only [hin, Bool.true_and, decide_eq_true h14]; rfl)
   have hd : decide (14 ≤ op) = true := decide_eq_true h14
   clear hbad hop
   go_enter Tryz.func23, Tryz.ntmps23
   go_wp2_with fail
   refine (rin_c op 1 18 _).mono ?_
   rintro e w5 ⟨rfl, h5⟩
   subst w5
   rw [hin]
   go_wp2
   go_ret
   exact ⟨by rw [Zaa HINS]; rfl, Zaa HB4 _ _ _ _⟩
  ·
   obtain rfl : last = true := by cases last with | true => rfl | false => exact absurd ⟨hop.1, hop.2, decide_eq_false h14⟩ hbad
   have HINS := Zac (show insB p f ⟨op, d, a, bb, n, fx, gs, os⟩ true = false by unfold insB; simp only [hin, Bool.true_and, decide_eq_false h14]; rfl)
   have hd : decide (14 ≤ op) = false := decide_eq_false h14
   clear hbad hop
   go_enter Tryz.func23, Tryz.ntmps23
   go_wp2_with fail
   refine (rin_c op 1 18 _).mono ?_
   rintro e w5 ⟨rfl, h5⟩
   subst w5
   rw [hin]
   go_wp2
   go_ret
   exact ⟨by rw [Zaa HINS]; rfl, Zaa HB4 _ _ _ _⟩
 ·
  have hin : inB op 1 18 = false := by unfold inB; exact decide_eq_false hop
  have HINS := Zac (show insB p f ⟨op, d, a, bb, n, fx, gs, os⟩ last = false by unfold insB; simp only [hin, Bool.false_and])
  clear hbad hop
  go_enter Tryz.func23, Tryz.ntmps23
  go_wp2_with fail
  refine (rin_c op 1 18 _).mono ?_
  rintro e w5 ⟨rfl, h5⟩
  subst w5
  rw [hin]
  go_wp2
  go_ret
  exact ⟨by rw [Zaa HINS]; rfl, Zaa HB4 _ _ _ _⟩
end Go.Proofs.YtffemeicclhioaaGreatDoor

