/-
  Own work of the verifier: ClM, ClO, as one text.
-/
import Derived.Test.YtffemeicclhioaaGreatDoorJ26
import Derived.Deep.RegionWith
import Derived.Deep.RegionHeld3
import Derived.Test.YtffemeicclhioaaGreatDoorRows
import Derived.Test.YtffemeicclhioaaGreatDoorCards
import Derived.Test.YtffemeicclhioaaGreatDoorTie
import Derived.ProofKit
import Derived.OpenShut
import Derived.ChangeSame
import Derived.ChangeSlices
import Derived.ChangeVars
import Derived.JoinedOf
import Derived.RowKit
import Derived.RowKitTokens
import Derived.LaidLaws
import Derived.LaidHandle
import Derived.LaidSub
import Derived.Stop.Joined
import Derived.SevenTiedAt
import Derived.SizedLaws
import Derived.WideShapes
import Derived.MakeChecks
import Derived.Lib.LaidU8
import Derived.Lay
import Derived.Test.YtffemeicclhioaaGreatDoorJ13
import Derived.Test.YtffemeicclhioaaGreatDoorClI
import Derived.Test.YtffemeicclhioaaGreatDoorJ45
import Derived.Deep.DeepCutAuto
import Derived.Deep.CutBlock
import Derived.Test.YtffemeicclhioaaGreatDoorJ15
import Derived.Lib.LaidTab
namespace Go.Proofs.YtffemeicclhioaaGreatDoor
open Go.RowKit

structure TbLim (T : TbE) : Prop where
 a : T.ag.length * 8 ≤ 140737488351232
 r : T.rs.length * 8 ≤ 140737488351232
 s : T.ss.length * 8 ≤ 140737488351232
section
variable {P : Program} {ops : Array Oper} {Q : Exit → Act → World → Prop} {md : Region.Mode} {C : World → Prop} {d : Nat}
end
end Go.Proofs.YtffemeicclhioaaGreatDoor
namespace Go.Proofs.YtffemeicclhioaaGreatDoor
open Go.ChangeShapes Go.WideShapes Go.ChangeAt Go.RowKit Go.Deep

section
variable {H : Type} {enc : TypeId × Value → H} {w : World} {held : Bool}
theorem nums_openL {n : Nat} {v : Value} {y : DataW H × List MemPlace} (h : TrE enc w held n 23 [v] y) (hw : Lite 23 y.1) : ∃ ns : List Int, Li w v ns ∧ ns.length * 8 ≤ 140737488351232 := by
 obtain ⟨ps, h1, h2, h3⟩ := list_openC (One := fun q : Array Value × Int => q.1 = #[.int .i64 q.2]) Tryz.underlying23 Tryz.cellsIntE (by decide) (show Tryz.prog.bytesOf 3 = 8 by kernel_rfl) (fun n cs y hl hy _ => by
  match cs, hl with
  | [v], _ =>
   obtain ⟨x, rfl, hx⟩ := int_openE hy
   exact ⟨x, rfl⟩) h hw
 have hl : (ps.map (·.2)).length = ps.length := by simp
 obtain ⟨p, cap, g1, g2, g3, g4⟩ := (h1.congr (B := fun k => #[.int .i64 ((ps.map (·.2)).getD k default)]) (fun i hi => by rw [getD_map2 ps #[]]; exact h2 _ (getD_memC _ _ _ hi))).ones
 exact ⟨ps.map (·.2), ⟨p, cap, by rw [hl]; exact g1, by rw [hl]; exact g2, by rw [hl]; exact g3, fun h0 => by rw [hl] at h0 ⊢; exact g4 h0⟩, by rw [hl]; exact h3⟩
set_option maxRecDepth 100000 in
theorem table_openL {b0 : Nat} {r : Reach} {v : Value} {d : DataW H} {p : List MemPlace} (hv : Value.okWide Tryz.prog w r b0 25 v) (h : DataW.Trod enc Tryz.prog w 0 (fun _ => true) held 25 v d p) (hw : Lite 25 d) :
 ∃ T : TbE, v = .agg T.box ∧ TbO w T ∧ TbLim T := by
 obtain ⟨cs, rfl, hsz⟩ := okWide_struct Tryz.underlying25 hv
 obtain ⟨l⟩ := cs
 obtain ⟨c0, c1, c2, c3, c4, c5, c6, c7, c8, c9, c10, c11, rfl⟩ := list12Q (l := l) (hsz.trans (by kernel_rfl))
 obtain ⟨fuel, hf⟩ := h
 obtain ⟨xs, n, -, hx, -, hxl, hall⟩ := DataW.trod_struct Tryz.underlying25 hf
 obtain ⟨y0, y1, y2, y3, y4, y5, y6, y7, y8, y9, y10, rfl⟩ := list11Q hxl
 have f0 : TrE enc w held n 3 [c0] y0 := field_ofQ hall (i := 0) rfl Tryz.cellsIntQ rfl
 have f1 : TrE enc w held n 3 [c1] y1 := field_ofQ hall (i := 1) rfl Tryz.cellsIntQ rfl
 have f2 : TrE enc w held n 3 [c2] y2 := field_ofQ hall (i := 2) rfl Tryz.cellsIntQ rfl
 have f3 : TrE enc w held n 22 [c3, c4] y3 := field_ofQ hall (i := 3) rfl Tryz.cells2iQ rfl
 have f4 : TrE enc w held n 23 [c5] y4 := field_ofQ hall (i := 4) rfl Tryz.cellsIntsQ rfl
 have f5 : TrE enc w held n 23 [c6] y5 := field_ofQ hall (i := 5) rfl Tryz.cellsIntsQ rfl
 have f6 : TrE enc w held n 23 [c7] y6 := field_ofQ hall (i := 6) rfl Tryz.cellsIntsQ rfl
 have f7 : TrE enc w held n 3 [c8] y7 := field_ofQ hall (i := 7) rfl Tryz.cellsIntQ rfl
 have f8 : TrE enc w held n 3 [c9] y8 := field_ofQ hall (i := 8) rfl Tryz.cellsIntQ rfl
 have f9 : TrE enc w held n 3 [c10] y9 := field_ofQ hall (i := 9) rfl Tryz.cellsIntQ rfl
 have f10 : TrE enc w held n 4 [c11] y10 := field_ofQ hall (i := 10) rfl Tryz.cellsBoolQ rfl
 clear hall
 rw [show d = _ from congrArg Prod.fst hx] at hw
 unfold Lite at hw
 simp only [DataW.weights, Tryz.underlying25, List.map_cons, List.map_nil, DataW.weightsEach, List.mem_append] at hw
 obtain ⟨i0, rfl⟩ := int_openQ (v := c0) (y := y0) f0
 obtain ⟨i1, rfl⟩ := int_openQ (v := c1) (y := y1) f1
 obtain ⟨i2, rfl⟩ := int_openQ (v := c2) (y := y2) f2
 obtain ⟨i3, i4, rfl, rfl⟩ := two_openQ (v0 := c3) (v1 := c4) (y := y3) f3
 obtain ⟨ag, l5, k5⟩ := nums_openL f4 (fun z hz => hw z (by simp only [hz, true_or, or_true]))
 obtain ⟨rs, l6, k6⟩ := nums_openL f5 (fun z hz => hw z (by simp only [hz, true_or, or_true]))
 obtain ⟨ss, l7, k7⟩ := nums_openL f6 (fun z hz => hw z (by simp only [hz, true_or, or_true]))
 obtain ⟨i8, rfl⟩ := int_openQ (v := c8) (y := y7) f7
 obtain ⟨i9, rfl⟩ := int_openQ (v := c9) (y := y8) f8
 obtain ⟨i10, rfl⟩ := int_openQ (v := c10) (y := y9) f9
 obtain ⟨pr, hpr, -⟩ := DataW.trod_bool Tryz.underlying4 (cs := [c11]) (x := y10) f10
 obtain rfl := List.head_eq_of_cons_eq hpr
 have m5 := l5
 have m6 := l6
 have m7 := l7
 obtain ⟨pa, ca, rfl, -⟩ := l5
 obtain ⟨pb, cb, rfl, -⟩ := l6
 obtain ⟨pc, cc, rfl, -⟩ := l7
 exact ⟨⟨i0, i1, i2, i3, i4, pa, ag, ca, pb, rs, cb, pc, ss, cc, i8, i9, i10, pr⟩, rfl, ⟨m5, m6, m7⟩, ⟨k5, k6, k7⟩⟩
end
end Go.Proofs.YtffemeicclhioaaGreatDoor
