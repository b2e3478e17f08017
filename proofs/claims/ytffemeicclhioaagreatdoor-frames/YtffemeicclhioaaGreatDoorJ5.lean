/-
  Own work of the verifier: TblLaw, TblProof, as one text.
-/
import Derived.Test.YtffemeicclhioaaGreatDoorJ3
import Derived.Test.YtffemeicclhioaaGreatDoorProg
import Derived.Tactics
import Derived.Tactics2
import Derived.Defers
import Derived.Laws.Pointers
import Derived.Laws.LoneSync
import Derived.RegionTactic
import Derived.RegionCalls
import Derived.ChangeAlike
import Derived.Test.YtffemeicclhioaaGreatDoorJ0
import Derived.Test.YtffemeicclhioaaGreatDoorTblRef
import Derived.Deep.CutRange
import Derived.Test.YtffemeicclhioaaGreatDoorRows
import Derived.Test.YtffemeicclhioaaGreatDoorCards
import Derived.Test.YtffemeicclhioaaGreatDoorTie
import Derived.ProofKit
import Derived.OpenShut
import Derived.ChangeSame
import Derived.ChangeSlices
import Derived.ChangeVars
import Derived.JoinedOf
import Derived.RowKit
import Derived.RowKitTokens
import Derived.LaidLaws
import Derived.LaidHandle
import Derived.LaidSub
import Derived.Stop.Joined
import Derived.SevenTiedAt
import Derived.SizedLaws
import Derived.WideShapes
import Derived.MakeChecks
import Derived.Lib.LaidU8
import Derived.Lay
namespace Go.Proofs.YtffemeicclhioaaGreatDoor
open Go.RowKit

theorem Rs.slice {w : World} {v : Value} {ns : List Int} (h : Rs w v ns) : ∃ a n p, v = .slice a n p := by
 obtain ⟨p, cap, e⟩ := h.shape
 exact ⟨_, _, _, e⟩
end Go.Proofs.YtffemeicclhioaaGreatDoor
namespace Go.Proofs.YtffemeicclhioaaGreatDoor
open Go.ChangeShapes Go.WideShapes Go.ChangeAt Go.RowKit

theorem Tryz.cellsBoolQ : Tryz.prog.cellsOf 4 = 1 := by kernel_rfl
theorem Tryz.cellsIntQ : Tryz.prog.cellsOf 3 = 1 := by kernel_rfl

theorem field_ofQ {α : Type} {tr : TypeId → List Value → Option α} {fs : Array Field} {cs : List Value} {xs : List α} {c : Nat} {i : Nat} {f : Field} {y : α}
 (hf : ∀ (i : Nat) (f : Field), fs[i]? = some f → tr f.type ((cs.drop f.offset).take (Tryz.prog.cellsOf f.type)) = xs[i]?) (hi : fs[i]? = some f) (hc : Tryz.prog.cellsOf f.type = c) (hy : xs[i]? = some y) : tr f.type ((cs.drop f.offset).take c) = some y := by
 rw [← hy, ← hf i f hi, hc]
theorem list12Q {α : Type} {l : List α} (h : l.length = 12) : ∃ a0 a1 a2 a3 a4 a5 a6 a7 a8 a9 a10 a11, l = [a0, a1, a2, a3, a4, a5, a6, a7, a8, a9, a10, a11] := by
 match l, h with
 | [a0, a1, a2, a3, a4, a5, a6, a7, a8, a9, a10, a11], _ => exact ⟨_, _, _, _, _, _, _, _, _, _, _, _, rfl⟩
theorem list11Q {α : Type} {l : List α} (h : l.length = 11) : ∃ a0 a1 a2 a3 a4 a5 a6 a7 a8 a9 a10, l = [a0, a1, a2, a3, a4, a5, a6, a7, a8, a9, a10] := by
 match l, h with
 | [a0, a1, a2, a3, a4, a5, a6, a7, a8, a9, a10], _ => exact ⟨_, _, _, _, _, _, _, _, _, _, _, rfl⟩
theorem list2Q {α : Type} {l : List α} (h : l.length = 2) : ∃ a0 a1, l = [a0, a1] := by
 match l, h with
 | [a0, a1], _ => exact ⟨_, _, rfl⟩
theorem Tryz.cells2iQ : Tryz.prog.cellsOf 22 = 2 := by kernel_rfl
theorem Tryz.cellsIntsQ : Tryz.prog.cellsOf 23 = 1 := by kernel_rfl
section
variable {H : Type} {enc : TypeId × Value → H} {w : World} {fuel : Nat} {held : Bool}
theorem nums_openQ {v : Value} {y : DataW H × List MemPlace} (h : DataW.trod enc Tryz.prog w 0 (fun _ => true) held fuel 23 [v] = some y) :
 ∃ ns : List Int, Rs w v ns ∧ ∀ a n cap, v = .slice a n cap → n ≤ cap := by
 rcases open_ints Tryz.underlying23 Tryz.underlying3 Tryz.cellsIntQ h with ⟨hcs, rfl⟩ | ⟨a, len, cap, zs, hcs, -, hl, -, hz, rfl, hc, hw⟩
 ·
  simp at hcs
  subst hcs
  exact ⟨[], Or.inl ⟨rfl, _, _, rfl⟩, fun a n cap e => by injection e with _ e2 e3; omega⟩
 ·
  simp at hcs
  subst hcs
  simp at hz
  have ht : (zs.take len).length = len := by simp; omega
  refine ⟨zs.take len, ?_, fun a n cap e => by injection e with _ e2 e3; omega⟩
  rcases Nat.eq_zero_or_pos len with rfl | hpos
  ·
   exact Or.inl ⟨by simp, _, _, rfl⟩
  ·
   obtain ⟨sb, so, spot⟩ := a
   have h0 := hc 0 (by omega)
   have hs : spot = none := by simpa [Addr.add] using World.cell?_spot h0
   subst hs
   refine Or.inr ⟨sb, so, cap, by rw [ht], fun i hi => ?_⟩
   rw [ht] at hi
   have := hc i (by omega)
   rw [Go.WideShapes.add_plain] at this
   rw [this]
   simp [List.getD, hi]
theorem int_openQ {v : Value} {y : DataW H × List MemPlace} (h : DataW.trod enc Tryz.prog w 0 (fun _ => true) held fuel 3 [v] = some y) : ∃ n : Int, v = .int .i64 n := by
 obtain ⟨n, e, -, hw⟩ := DataW.trod_int Tryz.underlying3 h
 exact ⟨n, List.head_eq_of_cons_eq e⟩
set_option maxRecDepth 100000 in
theorem two_openQ {v0 v1 : Value} {y : DataW H × List MemPlace} (h : DataW.trod enc Tryz.prog w 0 (fun _ => true) held fuel 22 [v0, v1] = some y) : ∃ n m : Int, v0 = .int .i64 n ∧ v1 = .int .i64 m := by
 obtain ⟨xs, m, -, -, -, hxl, hall⟩ := DataW.trod_array Tryz.underlying22 h
 obtain ⟨x0, x1, rfl⟩ := list2Q hxl
 have h0 : DataW.trod enc Tryz.prog w 0 (fun _ => true) held m 3 [v0] = some x0 := by
  have := hall 0 (by decide)
  rw [Tryz.cellsIntQ] at this
  exact this
 have h1 : DataW.trod enc Tryz.prog w 0 (fun _ => true) held m 3 [v1] = some x1 := by
  have := hall 1 (by decide)
  rw [Tryz.cellsIntQ] at this
  exact this
 obtain ⟨n, e0⟩ := int_openQ h0
 obtain ⟨k, e1⟩ := int_openQ h1
 exact ⟨n, k, e0, e1⟩
set_option maxRecDepth 100000 in
theorem table_openQ {b0 : Nat} {r : Reach} {v : Value} {d : DataW H} {p : List MemPlace} (hv : Value.okWide Tryz.prog w r b0 25 v) (h : DataW.Trod enc Tryz.prog w 0 (fun _ => true) held 25 v d p) :
 ∃ r sp lk t0 t1 va vr vs al sh by_ ag rs ss pr, v = .agg (boxOf r sp lk t0 t1 va vr vs al sh by_ pr) ∧ (Rs w va ag ∧ Rs w vr rs ∧ Rs w vs ss) ∧ (∀ a n cap, va = .slice a n cap → n ≤ cap) ∧ (∀ a n cap, vr = .slice a n cap → n ≤ cap) ∧ (∀ a n cap, vs = .slice a n cap → n ≤ cap) := by
 obtain ⟨cs, rfl, hsz⟩ := okWide_struct Tryz.underlying25 hv
 obtain ⟨l⟩ := cs
 obtain ⟨c0, c1, c2, c3, c4, c5, c6, c7, c8, c9, c10, c11, rfl⟩ := list12Q (l := l) (hsz.trans (by kernel_rfl))
 obtain ⟨fuel, hf⟩ := h
 obtain ⟨xs, n, -, hx, -, hxl, hall⟩ := DataW.trod_struct Tryz.underlying25 hf
 obtain ⟨y0, y1, y2, y3, y4, y5, y6, y7, y8, y9, y10, rfl⟩ := list11Q hxl
 have f0 : DataW.trod enc Tryz.prog w 0 (fun _ => true) held n 3 [c0] = some y0 := field_ofQ hall (i := 0) rfl Tryz.cellsIntQ rfl
 have f1 : DataW.trod enc Tryz.prog w 0 (fun _ => true) held n 3 [c1] = some y1 := field_ofQ hall (i := 1) rfl Tryz.cellsIntQ rfl
 have f2 : DataW.trod enc Tryz.prog w 0 (fun _ => true) held n 3 [c2] = some y2 := field_ofQ hall (i := 2) rfl Tryz.cellsIntQ rfl
 have f3 : DataW.trod enc Tryz.prog w 0 (fun _ => true) held n 22 [c3, c4] = some y3 := field_ofQ hall (i := 3) rfl Tryz.cells2iQ rfl
 have f4 : DataW.trod enc Tryz.prog w 0 (fun _ => true) held n 23 [c5] = some y4 := field_ofQ hall (i := 4) rfl Tryz.cellsIntsQ rfl
 have f5 : DataW.trod enc Tryz.prog w 0 (fun _ => true) held n 23 [c6] = some y5 := field_ofQ hall (i := 5) rfl Tryz.cellsIntsQ rfl
 have f6 : DataW.trod enc Tryz.prog w 0 (fun _ => true) held n 23 [c7] = some y6 := field_ofQ hall (i := 6) rfl Tryz.cellsIntsQ rfl
 have f7 : DataW.trod enc Tryz.prog w 0 (fun _ => true) held n 3 [c8] = some y7 := field_ofQ hall (i := 7) rfl Tryz.cellsIntQ rfl
 have f8 : DataW.trod enc Tryz.prog w 0 (fun _ => true) held n 3 [c9] = some y8 := field_ofQ hall (i := 8) rfl Tryz.cellsIntQ rfl
 have f9 : DataW.trod enc Tryz.prog w 0 (fun _ => true) held n 3 [c10] = some y9 := field_ofQ hall (i := 9) rfl Tryz.cellsIntQ rfl
 have f10 : DataW.trod enc Tryz.prog w 0 (fun _ => true) held n 4 [c11] = some y10 := field_ofQ hall (i := 10) rfl Tryz.cellsBoolQ rfl
 clear hall
 obtain ⟨i0, rfl⟩ := int_openQ (v := c0) (y := y0) f0
 obtain ⟨i1, rfl⟩ := int_openQ (v := c1) (y := y1) f1
 obtain ⟨i2, rfl⟩ := int_openQ (v := c2) (y := y2) f2
 obtain ⟨i3, i4, rfl, rfl⟩ := two_openQ (v0 := c3) (v1 := c4) (y := y3) f3
 obtain ⟨ag, l5, k5⟩ := nums_openQ (v := c5) (y := y4) f4
 obtain ⟨rs, l6, k6⟩ := nums_openQ (v := c6) (y := y5) f5
 obtain ⟨ss, l7, k7⟩ := nums_openQ (v := c7) (y := y6) f6
 obtain ⟨i8, rfl⟩ := int_openQ (v := c8) (y := y7) f7
 obtain ⟨i9, rfl⟩ := int_openQ (v := c9) (y := y8) f8
 obtain ⟨i10, rfl⟩ := int_openQ (v := c10) (y := y9) f9
 obtain ⟨pr, hpr, -⟩ := DataW.trod_bool Tryz.underlying4 (cs := [c11]) (x := y10) f10
 obtain rfl := List.head_eq_of_cons_eq hpr
 exact ⟨i0, i1, i2, i3, i4, c5, c6, c7, i8, i9, i10, ag, rs, ss, pr, rfl, ⟨l5, l6, l7⟩, k5, k6, k7⟩
end
end Go.Proofs.YtffemeicclhioaaGreatDoor
