/-
  prologuekeep.Written: the row and its tied card. Own work of the verifier, after the guide's worked texts.
-/
import Derived.Test.YtobempobmokkcaaGreatDoorRows
import Derived.Test.YtobempobmokkcaaGreatDoorCards
import Derived.Test.YtobempobmokkcaaGreatDoorTie
import Derived.Test.YtobempobmokkcaaGreatDoorWrtLaw
import Derived.ProofKit
import Derived.OpenShut
import Derived.ChangeSame
import Derived.ChangeSlices
import Derived.ChangeVars
import Derived.JoinedOf
import Derived.RowKit
import Derived.RowKitTokens
import Derived.LaidLaws
import Derived.LaidHandle
import Derived.LaidSub
import Derived.Stop.Joined
import Derived.SevenTiedAt
import Derived.SizedLaws
import Derived.WideShapes
import Derived.MakeChecks
import Derived.Lib.LaidU8
import Derived.Lay
import Derived.Test.YtobempobmokkcaaGreatDoorWrtFive
namespace Go.Proofs.YtobempobmokkcaaGreatDoor
open Go.ChangeShapes Go.WideShapes Go.ChangeAt Go.RowKit

theorem Tryz.ownQ : ownKnob Tryz.prog.godebug = none := by kernel_rfl
theorem Tryz.laidOutQ : laidOutB Tryz.prog = true := by kernel_rfl
theorem Tryz.etQ : Tryz.prog.globalNamed "errors.errorType" = some 0 := by kernel_rfl
theorem Tryz.rtQ : (Tryz.prog.cutTypes.find? (·.1 == "internal/reflectlite.rtype")).map (·.2) = some 195 := by kernel_rfl
theorem Tryz.oneRowQ : ((List.range 529).filter fun t => Tryz.prog.rowNamed t [101, 114, 114, 111, 114]) = [75] := by kernel_rfl
theorem Tryz.sizeQ : Tryz.prog.types.size = 529 := by kernel_rfl
theorem Tryz.handQ : typeHandle Tryz.prog 75 = .pointer (some ⟨9, 75, none⟩) := by kernel_rfl
theorem Tryz.gItemsQ : Tryz.prog.globalNamed "prologue/table.items" = some 1 := by kernel_rfl
theorem Tryz.gItemsTQ : (Tryz.prog.globals[1]?).map (·.type) = some 218 := by kernel_rfl
theorem Tryz.cellsItemQ : Tryz.prog.cellsOf 217 = 5 := by kernel_rfl
theorem Tryz.cellsStrQ : Tryz.prog.cellsOf 9 = 1 := by kernel_rfl
theorem Tryz.cellsBoolQ : Tryz.prog.cellsOf 4 = 1 := by kernel_rfl
theorem Tryz.cellsIntQ : Tryz.prog.cellsOf 3 = 1 := by kernel_rfl

theorem field_ofQ {α : Type} {tr : TypeId → List Value → Option α} {fs : Array Field} {cs : List Value} {xs : List α} {c : Nat} {i : Nat} {f : Field} {y : α}
    (hf : ∀ (i : Nat) (f : Field), fs[i]? = some f → tr f.type ((cs.drop f.offset).take (Tryz.prog.cellsOf f.type)) = xs[i]?) (hi : fs[i]? = some f) (hc : Tryz.prog.cellsOf f.type = c) (hy : xs[i]? = some y) : tr f.type ((cs.drop f.offset).take c) = some y := by
  rw [← hy, ← hf i f hi, hc]
theorem list5Q {α : Type} {l : List α} (h : l.length = 5) : ∃ a0 a1 a2 a3 a4, l = [a0, a1, a2, a3, a4] := by
  match l, h with
  | [a0, a1, a2, a3, a4], _ => exact ⟨_, _, _, _, _, rfl⟩
/-- The k-th item as the row lists it. -/
theorem itemDatumQ (k : Nat) (hk : k < 11) : ∃ l : List (DataW Unit), (Rows.laid_prologue_table_items : DataW Unit) = .agg l ∧ l[k]? = some (.agg [.lit (.string (nm k)), .lit (.int .i64 (loK k)), .lit (.int .i64 (hiK k)), .lit (.bool (decide (k = 2))), .lit (.bool (decide (k = 10)))]) := by
  refine ⟨_, rfl, ?_⟩
  match k, hk with
  | 0, _ | 1, _ | 2, _ | 3, _ | 4, _ | 5, _ | 6, _ | 7, _ | 8, _ | 9, _ | 10, _ => rfl
theorem itm_of_reads {W : World} (h : Lib.VarReads Tryz.prog W "prologue/table.items" Rows.laid_prologue_table_items) : Itm W := by
  obtain ⟨g, t, cs, fuel, p, hg, ht, hv, hd⟩ := h
  obtain rfl := Option.some.inj (Tryz.gItemsQ.symm.trans hg)
  obtain rfl := Option.some.inj (Tryz.gItemsTQ.symm.trans ht)
  obtain ⟨xs, m, -, hx, hl, hxl, hall⟩ := DataW.trod_array Tryz.underlying218 hd
  have key : ∀ k, k < 11 → W.cell? ⟨1, k * 5, none⟩ = some (.string ⟨(nm k).toArray⟩) ∧ W.cell? ⟨1, k * 5 + 1, none⟩ = some (.int .i64 (loK k)) ∧ W.cell? ⟨1, k * 5 + 2, none⟩ = some (.int .i64 (hiK k)) ∧ W.cell? ⟨1, k * 5 + 3, none⟩ = some (.bool (decide (k = 2))) ∧ W.cell? ⟨1, k * 5 + 4, none⟩ = some (.bool (decide (k = 10))) := by
    intro k hk
    obtain ⟨l, hl1, hl2⟩ := itemDatumQ k hk
    rw [hl1] at hx
    have hx1 : l = xs.map (·.1) := by simpa using congrArg Prod.fst hx
    rw [hx1, List.getElem?_map, Option.map_eq_some_iff] at hl2
    obtain ⟨⟨y, py⟩, hy, rfl⟩ := hl2
    have h1 := (hall k hk).trans hy
    rw [Tryz.cellsItemQ] at h1
    obtain ⟨ys, n, -, hz, -, hyl, hf⟩ := DataW.trod_struct Tryz.underlying217 h1
    obtain ⟨y0, y1, y2, y3, y4, rfl⟩ := list5Q hyl
    have hz1 : [.lit (.string (nm k)), .lit (.int .i64 (loK k)), .lit (.int .i64 (hiK k)), .lit (.bool (decide (k = 2))), .lit (.bool (decide (k = 10)))] = [y0, y1, y2, y3, y4].map (·.1) := by simpa using congrArg Prod.fst hz
    simp only [List.map_cons, List.map_nil, List.cons.injEq, and_true] at hz1
    obtain ⟨e0, e1, e2, e3, e4⟩ := hz1
    have f0 : DataW.trod (fun _ => ()) Tryz.prog W 0 (fun _ => true) false n 9 ((((cs.toList.drop (k * 5)).take 5).drop 0).take 1) = some y0 := field_ofQ hf (i := 0) rfl Tryz.cellsStrQ rfl
    have f1 : DataW.trod (fun _ => ()) Tryz.prog W 0 (fun _ => true) false n 3 ((((cs.toList.drop (k * 5)).take 5).drop 1).take 1) = some y1 := field_ofQ hf (i := 1) rfl Tryz.cellsIntQ rfl
    have f2 : DataW.trod (fun _ => ()) Tryz.prog W 0 (fun _ => true) false n 3 ((((cs.toList.drop (k * 5)).take 5).drop 2).take 1) = some y2 := field_ofQ hf (i := 2) rfl Tryz.cellsIntQ rfl
    have f3 : DataW.trod (fun _ => ()) Tryz.prog W 0 (fun _ => true) false n 4 ((((cs.toList.drop (k * 5)).take 5).drop 3).take 1) = some y3 := field_ofQ hf (i := 3) rfl Tryz.cellsBoolQ rfl
    have f4 : DataW.trod (fun _ => ()) Tryz.prog W 0 (fun _ => true) false n 4 ((((cs.toList.drop (k * 5)).take 5).drop 4).take 1) = some y4 := field_ofQ hf (i := 4) rfl Tryz.cellsBoolQ rfl
    clear hf hz
    obtain ⟨s, c0, x0, -⟩ := DataW.trod_string Tryz.underlying9 f0
    obtain ⟨n1, c1, x1, -⟩ := DataW.trod_int Tryz.underlying3 f1
    obtain ⟨n2, c2, x2, -⟩ := DataW.trod_int Tryz.underlying3 f2
    obtain ⟨b3, c3, x3⟩ := DataW.trod_bool Tryz.underlying4 f3
    obtain ⟨b4, c4, x4⟩ := DataW.trod_bool Tryz.underlying4 f4
    subst x0 x1 x2 x3 x4
    have hs : s = ⟨(nm k).toArray⟩ := by
      simp only [DataW.lit.injEq, Lit.string.injEq] at e0
      obtain ⟨⟨sl⟩⟩ := s
      simp at e0
      rw [e0]
    have h1' : n1 = (loK k : Int) := by simpa using e1.symm
    have h2' : n2 = (hiK k : Int) := by simpa using e2.symm
    have h3' : b3 = decide (k = 2) := by simpa using e3.symm
    have h4' : b4 = decide (k = 10) := by simpa using e4.symm
    subst hs
    rw [h1'] at c1
    rw [h2'] at c2
    rw [h3'] at c3
    rw [h4'] at c4
    have g0 := congrArg (·[0]?) c0
    have g1 := congrArg (·[0]?) c1
    have g2 := congrArg (·[0]?) c2
    have g3 := congrArg (·[0]?) c3
    have g4 := congrArg (·[0]?) c4
    simp [List.getElem?_drop] at g0 g1 g2 g3 g4
    refine ⟨?_, ?_, ?_, ?_, ?_⟩
    · rw [World.var?_cell Tryz.gItemsQ hv (k * 5)]; exact g0
    · rw [World.var?_cell Tryz.gItemsQ hv (k * 5 + 1)]; exact g1
    · rw [World.var?_cell Tryz.gItemsQ hv (k * 5 + 2)]; exact g2
    · rw [World.var?_cell Tryz.gItemsQ hv (k * 5 + 3)]; exact g3
    · rw [World.var?_cell Tryz.gItemsQ hv (k * 5 + 4)]; exact g4
  exact ⟨fun k hk => ⟨(key k hk).1, (key k hk).2.2.2.1⟩, fun k hk => (key k hk).2.1, fun k hk => (key k hk).2.2.1, fun k hk => (key k hk).2.2.2.2⟩
theorem Tryz.u8X : U8Extra Tryz.prog Tryz.lays260_ren := by constructor <;> kernel_rfl
theorem firstQ : Rows.laid_unicode_utf8_first = Lib.firstData := by kernel_rfl
theorem acceptQ : (Rows.laid_unicode_utf8_acceptRanges : DataW Unit) = Lib.acceptData := by kernel_rfl

theorem Tryz.gPowTQ : (Tryz.prog.globals[6]?).map (·.type) = some 475 := by kernel_rfl
theorem powDatumQ {H : Type} : (Rows.laid_internal_strconv_uint64pow10 : DataW H) = Lib.tabData .u64 Lib.pow10Tab := by kernel_rfl
theorem pow_of_reads {W : World} (h : Lib.VarReads Tryz.prog W "internal/strconv.uint64pow10" Rows.laid_internal_strconv_uint64pow10) : Lib.TabIs Tryz.prog W "internal/strconv.uint64pow10" .u64 Lib.pow10Tab := by
  obtain ⟨g, t, cs, fuel, p, hg, ht, hv, hd⟩ := h
  obtain rfl := Option.some.inj (Tryz.gPow.symm.trans hg)
  obtain rfl := Option.some.inj (Tryz.gPowTQ.symm.trans ht)
  rw [powDatumQ] at hd
  unfold Lib.TabIs
  rw [hv, ← Lib.cells_of_tab Tryz.underlying475 Tryz.underlying50 (by kernel_rfl) (by kernel_rfl) hd]
/-- What the row lists, as the walk asks for it. -/
theorem written_of_laid {W : World} (h : laidMetH Tryz.prog Rows.writtenRow.laid W) : Env W := by
  obtain ⟨h1, h2⟩ := laidMetH_iff.1 h
  have hI : Itm W := itm_of_reads (Lib.laidMet.reads h1 (List.mem_filter.2 ⟨by simp [Rows.writtenRow], by kernel_rfl⟩))
  refine ⟨?_, hI, ?_, hI.items, pow_of_reads (Lib.laidMet.reads h1 (List.mem_filter.2 ⟨by simp [Rows.writtenRow], by kernel_rfl⟩))⟩
  · refine utf8Tabs_of_reads Tryz.lays260 Tryz.u8X (firstQ ▸ Lib.laidMet.reads h1 (d := Rows.laid_unicode_utf8_first) (List.mem_filter.2 ⟨by simp [Rows.writtenRow], by kernel_rfl⟩)) (acceptQ ▸ Lib.laidMet.reads h1 (d := Rows.laid_unicode_utf8_acceptRanges) (List.mem_filter.2 ⟨by simp [Rows.writtenRow], by kernel_rfl⟩))
  · obtain ⟨name, u, ty, e1, e2, e3, e4, e5⟩ := h2 ("errors.errorType", Rows.laid_errors_errorType) (List.mem_filter.2 ⟨by simp [Rows.writtenRow], by kernel_rfl⟩)
    have en : name = [101, 114, 114, 111, 114] := (Option.some.inj e1).symm
    subst en
    obtain rfl := Option.some.inj (Tryz.rtQ.symm.trans e2)
    have hm : ty ∈ (List.range 529).filter fun t => Tryz.prog.rowNamed t [101, 114, 114, 111, 114] := List.mem_filter.2 ⟨List.mem_range.2 (by rw [← Tryz.sizeQ]; exact e3), e4⟩
    rw [Tryz.oneRowQ] at hm
    obtain rfl := List.mem_singleton.1 hm
    rw [Tryz.handQ] at e5
    simpa using World.var?_cell Tryz.etQ e5 0

def layErrQ (w : World) : World :=
  { w with heap := w.heap.modify 0 fun
      | .cells _ t frozen => .cells #[.iface 195 (.agg #[.pointer (some ⟨9, 75, none⟩)])] t frozen
      | o => o }
abbrev plainQ : List (String × DataW Unit) := Rows.writtenRow.laid.filter fun x => x.2.handleName?.isNone
theorem written_met (os : Os) (args : Array Value) : laidMetH Tryz.prog Rows.writtenRow.laid ((layErrQ (World.laidAll Tryz.prog os plainQ)).forCall (fun _ _ => 0) ⟨#[], args, []⟩).memory :=
  laidMetH_of_parts (laidMet_of_run' 16 (by kernel_rfl) (by kernel_rfl)) (by kernel_rfl)
theorem list12Q {α : Type} {l : List α} (h : l.length = 12) : ∃ a0 a1 a2 a3 a4 a5 a6 a7 a8 a9 a10 a11, l = [a0, a1, a2, a3, a4, a5, a6, a7, a8, a9, a10, a11] := by
  match l, h with
  | [a0, a1, a2, a3, a4, a5, a6, a7, a8, a9, a10, a11], _ => exact ⟨_, _, _, _, _, _, _, _, _, _, _, _, rfl⟩
theorem list11Q {α : Type} {l : List α} (h : l.length = 11) : ∃ a0 a1 a2 a3 a4 a5 a6 a7 a8 a9 a10, l = [a0, a1, a2, a3, a4, a5, a6, a7, a8, a9, a10] := by
  match l, h with
  | [a0, a1, a2, a3, a4, a5, a6, a7, a8, a9, a10], _ => exact ⟨_, _, _, _, _, _, _, _, _, _, _, rfl⟩
theorem list2Q {α : Type} {l : List α} (h : l.length = 2) : ∃ a0 a1, l = [a0, a1] := by
  match l, h with
  | [a0, a1], _ => exact ⟨_, _, rfl⟩
theorem Tryz.cells2iQ : Tryz.prog.cellsOf 22 = 2 := by kernel_rfl
theorem Tryz.cellsIntsQ : Tryz.prog.cellsOf 23 = 1 := by kernel_rfl
section
variable {H : Type} {enc : TypeId × Value → H} {w : World} {fuel : Nat} {held : Bool}
theorem nums_openQ {v : Value} {y : DataW H × List MemPlace} (h : DataW.trod enc Tryz.prog w 0 (fun _ => true) held fuel 23 [v] = some y) :
    ∃ ns : List Int, Rs w v ns ∧ ∀ a n cap, v = .slice a n cap → n ≤ cap := by
  rcases open_ints Tryz.underlying23 Tryz.underlying3 Tryz.cellsIntQ h with ⟨hcs, rfl⟩ | ⟨a, len, cap, zs, hcs, -, hl, -, hz, rfl, hc, hw⟩
  · simp at hcs
    subst hcs
    exact ⟨[], Or.inl ⟨rfl, _, _, rfl⟩, fun a n cap e => by injection e with _ e2 e3; omega⟩
  · simp at hcs
    subst hcs
    simp at hz
    have ht : (zs.take len).length = len := by simp; omega
    refine ⟨zs.take len, ?_, fun a n cap e => by injection e with _ e2 e3; omega⟩
    rcases Nat.eq_zero_or_pos len with rfl | hpos
    · exact Or.inl ⟨by simp, _, _, rfl⟩
    · obtain ⟨sb, so, spot⟩ := a
      have h0 := hc 0 (by omega)
      have hs : spot = none := by simpa [Addr.add] using World.cell?_spot h0
      subst hs
      refine Or.inr ⟨sb, so, cap, by rw [ht], fun i hi => ?_⟩
      rw [ht] at hi
      have := hc i (by omega)
      rw [Go.WideShapes.add_plain] at this
      rw [this]
      simp [List.getD, hi]
theorem int_openQ {v : Value} {y : DataW H × List MemPlace} (h : DataW.trod enc Tryz.prog w 0 (fun _ => true) held fuel 3 [v] = some y) : ∃ n : Int, v = .int .i64 n := by
  obtain ⟨n, e, -, hw⟩ := DataW.trod_int Tryz.underlying3 h
  exact ⟨n, List.head_eq_of_cons_eq e⟩
set_option maxRecDepth 100000 in
theorem two_openQ {v0 v1 : Value} {y : DataW H × List MemPlace} (h : DataW.trod enc Tryz.prog w 0 (fun _ => true) held fuel 22 [v0, v1] = some y) : ∃ n m : Int, v0 = .int .i64 n ∧ v1 = .int .i64 m := by
  obtain ⟨xs, m, -, -, -, hxl, hall⟩ := DataW.trod_array Tryz.underlying22 h
  obtain ⟨x0, x1, rfl⟩ := list2Q hxl
  have h0 : DataW.trod enc Tryz.prog w 0 (fun _ => true) held m 3 [v0] = some x0 := by
    have := hall 0 (by decide)
    rw [Tryz.cellsIntQ] at this
    exact this
  have h1 : DataW.trod enc Tryz.prog w 0 (fun _ => true) held m 3 [v1] = some x1 := by
    have := hall 1 (by decide)
    rw [Tryz.cellsIntQ] at this
    exact this
  obtain ⟨n, e0⟩ := int_openQ h0
  obtain ⟨k, e1⟩ := int_openQ h1
  exact ⟨n, k, e0, e1⟩
set_option maxRecDepth 100000 in
theorem table_openQ {b0 : Nat} {r : Reach} {v : Value} {d : DataW H} {p : List MemPlace} (hv : Value.okWide Tryz.prog w r b0 25 v) (h : DataW.Trod enc Tryz.prog w 0 (fun _ => true) held 25 v d p) :
    ∃ r sp lk t0 t1 va vr vs al sh by_ ag rs ss pr, v = .agg (boxOf r sp lk t0 t1 va vr vs al sh by_ pr) ∧ (Rs w va ag ∧ Rs w vr rs ∧ Rs w vs ss) ∧ (∀ a n cap, va = .slice a n cap → n ≤ cap) ∧ (∀ a n cap, vr = .slice a n cap → n ≤ cap) ∧ (∀ a n cap, vs = .slice a n cap → n ≤ cap) := by
  obtain ⟨cs, rfl, hsz⟩ := okWide_struct Tryz.underlying25 hv
  obtain ⟨l⟩ := cs
  obtain ⟨c0, c1, c2, c3, c4, c5, c6, c7, c8, c9, c10, c11, rfl⟩ := list12Q (l := l) (hsz.trans (by kernel_rfl))
  obtain ⟨fuel, hf⟩ := h
  obtain ⟨xs, n, -, hx, -, hxl, hall⟩ := DataW.trod_struct Tryz.underlying25 hf
  obtain ⟨y0, y1, y2, y3, y4, y5, y6, y7, y8, y9, y10, rfl⟩ := list11Q hxl
  have f0 : DataW.trod enc Tryz.prog w 0 (fun _ => true) held n 3 [c0] = some y0 := field_ofQ hall (i := 0) rfl Tryz.cellsIntQ rfl
  have f1 : DataW.trod enc Tryz.prog w 0 (fun _ => true) held n 3 [c1] = some y1 := field_ofQ hall (i := 1) rfl Tryz.cellsIntQ rfl
  have f2 : DataW.trod enc Tryz.prog w 0 (fun _ => true) held n 3 [c2] = some y2 := field_ofQ hall (i := 2) rfl Tryz.cellsIntQ rfl
  have f3 : DataW.trod enc Tryz.prog w 0 (fun _ => true) held n 22 [c3, c4] = some y3 := field_ofQ hall (i := 3) rfl Tryz.cells2iQ rfl
  have f4 : DataW.trod enc Tryz.prog w 0 (fun _ => true) held n 23 [c5] = some y4 := field_ofQ hall (i := 4) rfl Tryz.cellsIntsQ rfl
  have f5 : DataW.trod enc Tryz.prog w 0 (fun _ => true) held n 23 [c6] = some y5 := field_ofQ hall (i := 5) rfl Tryz.cellsIntsQ rfl
  have f6 : DataW.trod enc Tryz.prog w 0 (fun _ => true) held n 23 [c7] = some y6 := field_ofQ hall (i := 6) rfl Tryz.cellsIntsQ rfl
  have f7 : DataW.trod enc Tryz.prog w 0 (fun _ => true) held n 3 [c8] = some y7 := field_ofQ hall (i := 7) rfl Tryz.cellsIntQ rfl
  have f8 : DataW.trod enc Tryz.prog w 0 (fun _ => true) held n 3 [c9] = some y8 := field_ofQ hall (i := 8) rfl Tryz.cellsIntQ rfl
  have f9 : DataW.trod enc Tryz.prog w 0 (fun _ => true) held n 3 [c10] = some y9 := field_ofQ hall (i := 9) rfl Tryz.cellsIntQ rfl
  have f10 : DataW.trod enc Tryz.prog w 0 (fun _ => true) held n 4 [c11] = some y10 := field_ofQ hall (i := 10) rfl Tryz.cellsBoolQ rfl
  clear hall
  obtain ⟨i0, rfl⟩ := int_openQ (v := c0) (y := y0) f0
  obtain ⟨i1, rfl⟩ := int_openQ (v := c1) (y := y1) f1
  obtain ⟨i2, rfl⟩ := int_openQ (v := c2) (y := y2) f2
  obtain ⟨i3, i4, rfl, rfl⟩ := two_openQ (v0 := c3) (v1 := c4) (y := y3) f3
  obtain ⟨ag, l5, k5⟩ := nums_openQ (v := c5) (y := y4) f4
  obtain ⟨rs, l6, k6⟩ := nums_openQ (v := c6) (y := y5) f5
  obtain ⟨ss, l7, k7⟩ := nums_openQ (v := c7) (y := y6) f6
  obtain ⟨i8, rfl⟩ := int_openQ (v := c8) (y := y7) f7
  obtain ⟨i9, rfl⟩ := int_openQ (v := c9) (y := y8) f8
  obtain ⟨i10, rfl⟩ := int_openQ (v := c10) (y := y9) f9
  obtain ⟨pr, hpr, -⟩ := DataW.trod_bool Tryz.underlying4 (cs := [c11]) (x := y10) f10
  obtain rfl := List.head_eq_of_cons_eq hpr
  exact ⟨i0, i1, i2, i3, i4, c5, c6, c7, i8, i9, i10, ag, rs, ss, pr, rfl, ⟨l5, l6, l7⟩, k5, k6, k7⟩
end
def tbArg : Array Value := #[.agg #[.int .i64 0, .int .i64 0, .int .i64 0, .int .i64 0, .int .i64 0, .slice none 0 0, .slice none 0 0, .slice none 0 0, .int .i64 0, .int .i64 0, .int .i64 0, .bool false]]
set_option maxRecDepth 100000 in
theorem written_lifted (os : Os) (started : os.Started) (H : Type) (enc : TypeId × Value → H) :
    ReturnsInHanded {} Tryz.checked os 3 .any (fun w args => (Rows.writtenSpec.pre enc Tryz.prog Tryz.f3 [] false w args ∧ laidMetH Tryz.prog Rows.writtenRow.laid w) ∧ sizedMet enc Tryz.prog Tryz.f3 (OpenSpec.ofChange Rows.writtenSpec) false w args)
      (Rows.writtenSpec.post enc Tryz.prog Tryz.f3 false true false false) := by
  refine returnsInHanded_of_change_and (C := Tryz.checked) (X := fun w _ => laidMetH Tryz.prog Rows.writtenRow.laid w) (fun _ _ _ hh h => h.of_heap hh) Tryz.ownQ started (by kernel_rfl) Tryz.func3
    (ChangeSpec.witness_at (enc := enc) (C := Tryz.checked) (os := os) (X := fun w _ => laidMetH Tryz.prog Rows.writtenRow.laid w) false (layErrQ (World.laidAll Tryz.prog os plainQ)) tbArg 8 rfl (by kernel_rfl) (by kernel_rfl) (by kernel_rfl) (by kernel_rfl) (by kernel_rfl) (written_met os _)) ?_
  intro W base args ds gs before hval0 hW _ hsz0 hL _
  have hval : ∀ (j : Nat) t v, Tryz.f3.params[j]? = some t → args[j]? = some v → Value.okWide Tryz.prog W .any base t v := hval0
  have hW' := hW
  obtain ⟨p, q, hA0, hV0, rfl, hfz, hnd⟩ := hW
  have hA : DataW.TrodAll enc Tryz.prog W 0 (fun _ => true) true Tryz.f3.params.toList args.toList ds p := hA0
  have hV : DataW.TrodVars enc Tryz.prog W (fun _ => true) [] gs q := hV0
  have hlt := DataW.TrodAll.lt hA
  rw [Tryz.params3] at hA hval
  obtain ⟨v0, vs0, d0, ds0, p0, q0, hargs, rfl, rfl, h0, r0⟩ := trodAll_cons hA
  obtain ⟨rfl, rfl, rfl⟩ := trodAll_nil r0
  obtain rfl : args = #[v0] := by cases args; simp_all
  obtain ⟨rfl, rfl⟩ := trodVars_none hV
  clear hA0 hval0 hV0
  simp only [List.append_nil] at hW' hlt
  have hEnv := written_of_laid hL
  obtain ⟨r, sp, lk, t0, t1, va, vr, vs, al, sh, by_, ag, rs, ss, pr, rfl, ⟨ha, hr, hs⟩, ca, cr, cs⟩ := table_openQ (hval 0 25 v0 rfl rfl) h0
  refine (written_walk r sp lk t0 t1 va vr vs al sh by_ pr ag rs ss W hEnv ⟨ha, hr, hs, ca, cr, cs⟩).mono fun e W' ⟨he, hb⟩ => ?_
  subst he
  have e1 : Rows.writtenSpec.fn H ([d0] ++ []) = { results := [.lit (.bool true)], args := [d0] } := by simp [Rows.writtenSpec]
  refine ⟨_, rfl, _, _, _, [], p0, [], hW', ?_, ?_, ?_, hb.frame _, fun h => by cases h⟩
  · rw [e1]; exact trodAll_cons_mk (shut_bool Tryz.underlying4 _) trodAll_mk0
  · rw [e1]
    have := trodAll_cons_mk (p' := []) (Below.trod Tryz.laidOutQ (by kernel_rfl) (by rw [Tryz.sizeQ]; decide) h0 hb hlt) trodAll_mk0
    rw [List.append_nil] at this
    exact this
  · rw [e1]; rfl

theorem written_w1 : Tryz.pinned.checked.prog.funcNamed Rows.writtenRow.func = some 3 := by kernel_rfl
theorem written_w3 : Tryz.f3.isInstance Tryz.pinned.checked.prog Rows.writtenRow.origin Rows.writtenRow.targs := of_decide_eq_true (by kernel_rfl)
theorem written_w4 : Tryz.f3.isWrapper Tryz.pinned.checked.prog Rows.writtenRow.wrapper Rows.writtenRow.mainSum := by unfold Func.isWrapper; rw [if_neg (of_decide_eq_false (by kernel_rfl))]; exact ⟨rfl, rfl⟩
theorem and_true2 {a b : Bool} (ha : a = true) (hb : b = true) : (a && b) = true := by rw [ha, hb]; rfl
theorem written_j0 : Rows.writtenRow.wf (OpenSpec.ofChange Rows.writtenSpec) = true := by kernel_rfl
theorem written_j1 : laidOutB Tryz.pinned.checked.prog = true := by kernel_rfl
theorem written_j2 : mapsRowed Tryz.pinned.checked.prog = true := by kernel_rfl
theorem written_j3 : Tryz.f3.params.all (Tryz.pinned.checked.prog.readableRec ·) = true := by kernel_rfl
theorem written_j4 : namedTie Tryz.pinned.checked.prog Rows.writtenRow.named Rows.writtenSpec.vars = true := by kernel_rfl
theorem written_j5 : (Rows.writtenRow.stops == []) = true := by kernel_rfl
theorem written_j6 : (Tryz.pinned.checked.prog.stops == []) = true := by kernel_rfl
theorem written_j7 : (Rows.writtenRow.knobs == []) = true := by kernel_rfl
theorem written_j8 : (Tryz.pinned.checked.prog.stopKnobs == []) = true := by kernel_rfl
theorem written_j9 : (Rows.writtenRow.inPlace == Tryz.pinned.checked.prog.inPlace 3) = true := by kernel_rfl
theorem written_j10 : (Rows.writtenRow.unfollowed == Tryz.pinned.checked.prog.unfollowed 3) = true := by kernel_rfl
theorem written_j11 : (Rows.writtenRow.recurses == Tryz.pinned.checked.prog.recurses 3) = true := by kernel_rfl
theorem written_j12 : (Rows.writtenRow.named == Tryz.pinned.checked.prog.varsNamed 3) = true := by kernel_rfl
theorem written_j13 : (Rows.writtenRow.maps == (Tryz.f3.params.toList ++ Rows.writtenSpec.plain.varTypes Tryz.pinned.checked.prog).any (Tryz.pinned.checked.prog.mapsRec ·)) = true := by kernel_rfl
theorem written_j14 : (Rows.writtenRow.ifaces == (Tryz.f3.params.toList ++ Rows.writtenSpec.plain.varTypes Tryz.pinned.checked.prog).any (Tryz.pinned.checked.prog.ifacesRec ·)) = true := by kernel_rfl
theorem written_j15 : (Rows.writtenRow.mapsOut == Tryz.pinned.checked.prog.mapsAmong Tryz.f3.resultTypes.toList) = true := by kernel_rfl
theorem written_j16 : (Rows.writtenRow.loops == (Tryz.f3.params.toList ++ Rows.writtenSpec.plain.varTypes Tryz.pinned.checked.prog).any (Tryz.pinned.checked.prog.loopsFrom ·)) = true := by kernel_rfl
theorem written_j17 : (Rows.writtenRow.wideKeys == (Tryz.f3.params.toList ++ Rows.writtenSpec.plain.varTypes Tryz.pinned.checked.prog ++ Tryz.f3.resultTypes.toList).any (Tryz.pinned.checked.prog.wideKeysFrom ·)) = true := by kernel_rfl
theorem written_jr : (Rows.writtenSpec.vars.all (Tryz.pinned.checked.prog.varReadable ·) && Tryz.f3.resultTypes.all (fun t => Tryz.pinned.checked.prog.readableRec t && decide (t < Tryz.pinned.checked.prog.types.size)) && (Rows.writtenRow.ifacesOut == Tryz.f3.resultTypes.toList.any (Tryz.pinned.checked.prog.ifacesRec ·)) && (Rows.writtenRow.loopsOut == Tryz.f3.resultTypes.toList.any (Tryz.pinned.checked.prog.loopsFrom ·))) = true := by kernel_rfl
theorem written_w2 : joinedFacts Tryz.pinned.checked.prog 3 Tryz.f3 Rows.writtenSpec Rows.writtenRow = true := by
  unfold joinedFacts
  rw [written_j0, written_j1, written_j2, written_j3, written_j4, written_j5, written_j6, written_j7, written_j8, written_j9, written_j10, written_j11, written_j12, written_j13, written_j14, written_j15, written_j16, written_j17]
  simp only [Bool.true_and]
  kernel_rfl
theorem written_row : Rows.WrittenSaid :=
  OpenClaim.holds_of_wide 3 Tryz.f3 rfl rfl rfl rfl rfl rfl rfl ⟨rfl, rfl, rfl, rfl, rfl⟩ rfl rfl rfl rfl rfl written_w1 Tryz.func3 written_w2
    written_w3 written_w4
    (fun os started H enc _ => written_lifted os started H enc)

theorem written_c1 : OpenClaim.wfByText (OpenSpec.ofChange Rows.writtenSpec) Rows.writtenRow = true := by kernel_rfl
theorem written_c2 : Tryz.pinned.checked.prog.mainIs = some (Rows.writtenCard.stood.harness.1, Rows.writtenCard.stood.harness.2.toList) := by kernel_rfl
theorem written_c3 : Rows.writtenCard.stood.looks = Tryz.pinned.checked.prog.looks [] := by kernel_rfl
theorem written_c4 : Tryz.prog.wantsStandIn 25 = false := by kernel_rfl
theorem written_card : Rows.WrittenCardSaid :=
  Claim7.holds_tied_plain_at .later [] _ _ _ _ written_row (fun _ h => by cases h) written_c1 (fun _ h => by cases h) written_row_tie rfl ⟨rfl, rfl⟩ written_c2 rfl
    (fun f fn hf hfn => by
      obtain rfl : f = 3 := Option.some.inj (written_w1.symm.trans hf) |>.symm
      obtain rfl : fn = Tryz.f3 := (Option.some.inj (Tryz.func3.symm.trans hfn)).symm
      exact ⟨written_c3, fun j t ht => by
        rw [Tryz.params3] at ht
        obtain rfl : t = 25 := by simpa using Array.mem_of_getElem? ht
        exact written_c4⟩)
    written_c5
#print axioms written_card
end Go.Proofs.YtobempobmokkcaaGreatDoor
