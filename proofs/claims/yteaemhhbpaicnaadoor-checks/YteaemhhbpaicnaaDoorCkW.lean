/-
  Checks: prologueref.right, for all operations. Own work of the verifier.
-/
import Derived.Test.YteaemhhbpaicnaaDoorCkV0
import Derived.Test.YteaemhhbpaicnaaDoorCkV1
import Derived.Test.YteaemhhbpaicnaaDoorCkV2
import Derived.Test.YteaemhhbpaicnaaDoorCkV3
import Derived.Test.YteaemhhbpaicnaaDoorCkV10
import Derived.Test.YteaemhhbpaicnaaDoorCkV12
import Derived.Test.YteaemhhbpaicnaaDoorCkV13
import Derived.Test.YteaemhhbpaicnaaDoorCkV14
import Derived.Test.YteaemhhbpaicnaaDoorCkV15
import Derived.Test.YteaemhhbpaicnaaDoorCkV16
import Derived.Test.YteaemhhbpaicnaaDoorCkV17
import Derived.Test.YteaemhhbpaicnaaDoorCkV18
namespace Go.Proofs.YteaemhhbpaicnaaDoor
open Go.RowKit

theorem right_c (p : ProgE) (f : FuncE) (op d a bb n fx : Int) (gs : List (Int × Int)) (os : List Int) (last : Bool) (fv ev pv hv sv bv av ov : Value) (A E : Nat → Array Value) (B : Nat → Value) (w : World) (hSC : ScD w p f fv ev pv hv sv bv A E B) (ha : LS 2 w av gs.length (fun k => pairA (gs.getD k (0, 0)))) (ho : Li w ov os) (hF : FitD p f) (hFS : FitS p) (hn : 0 ≤ n ∧ n < 18446744073709551616) :
    Calls Tryd.prog 14 #[.agg #[fv, ev], .agg #[pv, .int .i64 f.results, hv, sv, bv], .agg #[.int .i64 op, .int .i64 d, .int .i64 a, .int .i64 bb, .int .u64 n, .int .i64 fx, av, ov], .bool last] w fun e w' => e = .returned (.bool (insB p f ⟨op, d, a, bb, n, fx, gs, os⟩ last)) ∧ Below w.heap.size w w' := by
  by_cases h : 1 ≤ op ∧ op ≤ 18 ∧ decide (14 ≤ op) = last
  · obtain ⟨h1, h2, hel⟩ := h
    have hgrp : op = 1 ∨ op = 2 ∨ (3 ≤ op ∧ op ≤ 9) ∨ (10 ≤ op ∧ op ≤ 11) ∨ op = 12 ∨ op = 13 ∨ op = 14 ∨ op = 15 ∨ op = 16 ∨ op = 17 ∨ op = 18 := by omega
    rcases hgrp with h | h | h | h | h | h | h | h | h | h | h
    · exact right1_c p f op d a bb n fx gs os last fv ev pv hv sv bv av ov A E B w hSC ha ho hF hn h hel
    · exact right2_c p f op d a bb n fx gs os last fv ev pv hv sv bv av ov A E B w hSC ha ho hF hn h hel
    · exact right3_c p f op d a bb n fx gs os last fv ev pv hv sv bv av ov A E B w hSC ha ho hF hn h hel
    · exact right10_c p f op d a bb n fx gs os last fv ev pv hv sv bv av ov A E B w hSC ha ho hF hn h hel
    · exact right12_c p f op d a bb n fx gs os last fv ev pv hv sv bv av ov A E B w hSC ha ho hF hn h hel hFS
    · exact right13_c p f op d a bb n fx gs os last fv ev pv hv sv bv av ov A E B w hSC ha ho hF hn h hel hFS
    · exact right14_c p f op d a bb n fx gs os last fv ev pv hv sv bv av ov A E B w hSC ha ho hF hn h hel
    · exact right15_c p f op d a bb n fx gs os last fv ev pv hv sv bv av ov A E B w hSC ha ho hF hn h hel
    · exact right16_c p f op d a bb n fx gs os last fv ev pv hv sv bv av ov A E B w hSC ha ho hF hn h hel
    · exact right17_c p f op d a bb n fx gs os last fv ev pv hv sv bv av ov A E B w hSC ha ho hF hn h hel hFS
    · exact right18_c p f op d a bb n fx gs os last fv ev pv hv sv bv av ov A E B w hSC ha ho hF hn h hel
  · exact rightN_c p f op d a bb n fx gs os last fv ev pv hv sv bv av ov A E B w hSC ha ho hF hn h
end Go.Proofs.YteaemhhbpaicnaaDoor
