/-
  prologuelaw.Parses: the row and its tied card. Own work of the verifier, after the guide's worked texts.
-/
import Derived.Test.YtidhncoecfkbfaaDoorRows
import Derived.Test.YtidhncoecfkbfaaDoorCards
import Derived.Test.YtidhncoecfkbfaaDoorTie
import Derived.Test.YtidhncoecfkbfaaDoorPsLaw
import Derived.ProofKit
import Derived.OpenShut
import Derived.ChangeSame
import Derived.ChangeSlices
import Derived.ChangeVars
import Derived.JoinedOf
import Derived.RowKit
import Derived.RowKitTokens
import Derived.LaidLaws
import Derived.LaidHandle
import Derived.LaidSub
import Derived.Stop.Joined
import Derived.SevenTiedAt
import Derived.SizedLaws
import Derived.WideShapes
import Derived.MakeChecks
import Derived.Lib.LaidU8
import Derived.Lay
namespace Go.Proofs.YtidhncoecfkbfaaDoor
open Go.ChangeShapes Go.WideShapes Go.ChangeAt Go.RowKit

theorem Tryd.ownQ : ownKnob Tryd.prog.godebug = none := by kernel_rfl
theorem Tryd.laidOutQ : laidOutB Tryd.prog = true := by kernel_rfl
theorem Tryd.etQ : Tryd.prog.globalNamed "errors.errorType" = some 0 := by kernel_rfl
theorem Tryd.rtQ : (Tryd.prog.cutTypes.find? (·.1 == "internal/reflectlite.rtype")).map (·.2) = some 168 := by kernel_rfl
theorem Tryd.oneRowQ : ((List.range 274).filter fun t => Tryd.prog.rowNamed t [101, 114, 114, 111, 114]) = [62] := by kernel_rfl
theorem Tryd.sizeQ : Tryd.prog.types.size = 274 := by kernel_rfl
theorem Tryd.handQ : typeHandle Tryd.prog 62 = .pointer (some ⟨9, 62, none⟩) := by kernel_rfl
theorem Tryd.gItemsQ : Tryd.prog.globalNamed "prologue/table.items" = some 1 := by kernel_rfl
theorem Tryd.gItemsTQ : (Tryd.prog.globals[1]?).map (·.type) = some 188 := by kernel_rfl
theorem Tryd.cellsItemQ : Tryd.prog.cellsOf 187 = 5 := by kernel_rfl
theorem Tryd.cellsStrQ : Tryd.prog.cellsOf 9 = 1 := by kernel_rfl
theorem Tryd.cellsBoolQ : Tryd.prog.cellsOf 4 = 1 := by kernel_rfl
theorem Tryd.cellsIntQ : Tryd.prog.cellsOf 3 = 1 := by kernel_rfl

theorem field_ofQ {α : Type} {tr : TypeId → List Value → Option α} {fs : Array Field} {cs : List Value} {xs : List α} {c : Nat} {i : Nat} {f : Field} {y : α}
    (hf : ∀ (i : Nat) (f : Field), fs[i]? = some f → tr f.type ((cs.drop f.offset).take (Tryd.prog.cellsOf f.type)) = xs[i]?) (hi : fs[i]? = some f) (hc : Tryd.prog.cellsOf f.type = c) (hy : xs[i]? = some y) : tr f.type ((cs.drop f.offset).take c) = some y := by
  rw [← hy, ← hf i f hi, hc]
theorem list5Q {α : Type} {l : List α} (h : l.length = 5) : ∃ a0 a1 a2 a3 a4, l = [a0, a1, a2, a3, a4] := by
  match l, h with
  | [a0, a1, a2, a3, a4], _ => exact ⟨_, _, _, _, _, rfl⟩
/-- The k-th item as the row lists it. -/
theorem itemDatumQ (k : Nat) (hk : k < 11) : ∃ l : List (DataW Unit), (Rows.laid_prologue_table_items : DataW Unit) = .agg l ∧ l[k]? = some (.agg [.lit (.string (nm k)), .lit (.int .i64 (loK k)), .lit (.int .i64 (hiK k)), .lit (.bool (decide (k = 2))), .lit (.bool (decide (k = 10)))]) := by
  refine ⟨_, rfl, ?_⟩
  match k, hk with
  | 0, _ | 1, _ | 2, _ | 3, _ | 4, _ | 5, _ | 6, _ | 7, _ | 8, _ | 9, _ | 10, _ => rfl
theorem itm_of_reads {W : World} (h : Lib.VarReads Tryd.prog W "prologue/table.items" Rows.laid_prologue_table_items) : Itm W := by
  obtain ⟨g, t, cs, fuel, p, hg, ht, hv, hd⟩ := h
  obtain rfl := Option.some.inj (Tryd.gItemsQ.symm.trans hg)
  obtain rfl := Option.some.inj (Tryd.gItemsTQ.symm.trans ht)
  obtain ⟨xs, m, -, hx, hl, hxl, hall⟩ := DataW.trod_array Tryd.underlying188 hd
  have key : ∀ k, k < 11 → W.cell? ⟨1, k * 5, none⟩ = some (.string ⟨(nm k).toArray⟩) ∧ W.cell? ⟨1, k * 5 + 1, none⟩ = some (.int .i64 (loK k)) ∧ W.cell? ⟨1, k * 5 + 2, none⟩ = some (.int .i64 (hiK k)) ∧ W.cell? ⟨1, k * 5 + 3, none⟩ = some (.bool (decide (k = 2))) ∧ W.cell? ⟨1, k * 5 + 4, none⟩ = some (.bool (decide (k = 10))) := by
    intro k hk
    obtain ⟨l, hl1, hl2⟩ := itemDatumQ k hk
    rw [hl1] at hx
    have hx1 : l = xs.map (·.1) := by simpa using congrArg Prod.fst hx
    rw [hx1, List.getElem?_map, Option.map_eq_some_iff] at hl2
    obtain ⟨⟨y, py⟩, hy, rfl⟩ := hl2
    have h1 := (hall k hk).trans hy
    rw [Tryd.cellsItemQ] at h1
    obtain ⟨ys, n, -, hz, -, hyl, hf⟩ := DataW.trod_struct Tryd.underlying187 h1
    obtain ⟨y0, y1, y2, y3, y4, rfl⟩ := list5Q hyl
    have hz1 : [.lit (.string (nm k)), .lit (.int .i64 (loK k)), .lit (.int .i64 (hiK k)), .lit (.bool (decide (k = 2))), .lit (.bool (decide (k = 10)))] = [y0, y1, y2, y3, y4].map (·.1) := by simpa using congrArg Prod.fst hz
    simp only [List.map_cons, List.map_nil, List.cons.injEq, and_true] at hz1
    obtain ⟨e0, e1, e2, e3, e4⟩ := hz1
    have f0 : DataW.trod (fun _ => ()) Tryd.prog W 0 (fun _ => true) false n 9 ((((cs.toList.drop (k * 5)).take 5).drop 0).take 1) = some y0 := field_ofQ hf (i := 0) rfl Tryd.cellsStrQ rfl
    have f1 : DataW.trod (fun _ => ()) Tryd.prog W 0 (fun _ => true) false n 3 ((((cs.toList.drop (k * 5)).take 5).drop 1).take 1) = some y1 := field_ofQ hf (i := 1) rfl Tryd.cellsIntQ rfl
    have f2 : DataW.trod (fun _ => ()) Tryd.prog W 0 (fun _ => true) false n 3 ((((cs.toList.drop (k * 5)).take 5).drop 2).take 1) = some y2 := field_ofQ hf (i := 2) rfl Tryd.cellsIntQ rfl
    have f3 : DataW.trod (fun _ => ()) Tryd.prog W 0 (fun _ => true) false n 4 ((((cs.toList.drop (k * 5)).take 5).drop 3).take 1) = some y3 := field_ofQ hf (i := 3) rfl Tryd.cellsBoolQ rfl
    have f4 : DataW.trod (fun _ => ()) Tryd.prog W 0 (fun _ => true) false n 4 ((((cs.toList.drop (k * 5)).take 5).drop 4).take 1) = some y4 := field_ofQ hf (i := 4) rfl Tryd.cellsBoolQ rfl
    clear hf hz
    obtain ⟨s, c0, x0, -⟩ := DataW.trod_string Tryd.underlying9 f0
    obtain ⟨n1, c1, x1, -⟩ := DataW.trod_int Tryd.underlying3 f1
    obtain ⟨n2, c2, x2, -⟩ := DataW.trod_int Tryd.underlying3 f2
    obtain ⟨b3, c3, x3⟩ := DataW.trod_bool Tryd.underlying4 f3
    obtain ⟨b4, c4, x4⟩ := DataW.trod_bool Tryd.underlying4 f4
    subst x0 x1 x2 x3 x4
    have hs : s = ⟨(nm k).toArray⟩ := by
      simp only [DataW.lit.injEq, Lit.string.injEq] at e0
      obtain ⟨⟨sl⟩⟩ := s
      simp at e0
      rw [e0]
    have h1' : n1 = (loK k : Int) := by simpa using e1.symm
    have h2' : n2 = (hiK k : Int) := by simpa using e2.symm
    have h3' : b3 = decide (k = 2) := by simpa using e3.symm
    have h4' : b4 = decide (k = 10) := by simpa using e4.symm
    subst hs
    rw [h1'] at c1
    rw [h2'] at c2
    rw [h3'] at c3
    rw [h4'] at c4
    have g0 := congrArg (·[0]?) c0
    have g1 := congrArg (·[0]?) c1
    have g2 := congrArg (·[0]?) c2
    have g3 := congrArg (·[0]?) c3
    have g4 := congrArg (·[0]?) c4
    simp [List.getElem?_drop] at g0 g1 g2 g3 g4
    refine ⟨?_, ?_, ?_, ?_, ?_⟩
    · rw [World.var?_cell Tryd.gItemsQ hv (k * 5)]; exact g0
    · rw [World.var?_cell Tryd.gItemsQ hv (k * 5 + 1)]; exact g1
    · rw [World.var?_cell Tryd.gItemsQ hv (k * 5 + 2)]; exact g2
    · rw [World.var?_cell Tryd.gItemsQ hv (k * 5 + 3)]; exact g3
    · rw [World.var?_cell Tryd.gItemsQ hv (k * 5 + 4)]; exact g4
  exact ⟨fun k hk => ⟨(key k hk).1, (key k hk).2.2.2.1⟩, fun k hk => (key k hk).2.1, fun k hk => (key k hk).2.2.1, fun k hk => (key k hk).2.2.2.2⟩
theorem Tryd.u8X : U8Extra Tryd.prog Tryd.lays260_ren := by constructor <;> kernel_rfl
theorem firstQ : Rows.laid_unicode_utf8_first = Lib.firstData := by kernel_rfl
theorem acceptQ : (Rows.laid_unicode_utf8_acceptRanges : DataW Unit) = Lib.acceptData := by kernel_rfl

/-- What the row lists, as the walk asks for it. -/
theorem parses_of_laid {W : World} (h : laidMetH Tryd.prog Rows.parsesRow.laid W) : U8 W ∧ Itm W ∧ ErrTy W := by
  obtain ⟨h1, h2⟩ := laidMetH_iff.1 h
  refine ⟨?_, ?_, ?_⟩
  · refine utf8Tabs_of_reads Tryd.lays260 Tryd.u8X (firstQ ▸ Lib.laidMet.reads h1 (d := Rows.laid_unicode_utf8_first) (List.mem_filter.2 ⟨by simp [Rows.parsesRow], by kernel_rfl⟩)) (acceptQ ▸ Lib.laidMet.reads h1 (d := Rows.laid_unicode_utf8_acceptRanges) (List.mem_filter.2 ⟨by simp [Rows.parsesRow], by kernel_rfl⟩))
  · exact itm_of_reads (Lib.laidMet.reads h1 (List.mem_filter.2 ⟨by simp [Rows.parsesRow], by kernel_rfl⟩))
  · obtain ⟨name, u, ty, e1, e2, e3, e4, e5⟩ := h2 ("errors.errorType", Rows.laid_errors_errorType) (List.mem_filter.2 ⟨by simp [Rows.parsesRow], by kernel_rfl⟩)
    have en : name = [101, 114, 114, 111, 114] := (Option.some.inj e1).symm
    subst en
    obtain rfl := Option.some.inj (Tryd.rtQ.symm.trans e2)
    have hm : ty ∈ (List.range 274).filter fun t => Tryd.prog.rowNamed t [101, 114, 114, 111, 114] := List.mem_filter.2 ⟨List.mem_range.2 (by rw [← Tryd.sizeQ]; exact e3), e4⟩
    rw [Tryd.oneRowQ] at hm
    obtain rfl := List.mem_singleton.1 hm
    rw [Tryd.handQ] at e5
    simpa using World.var?_cell Tryd.etQ e5 0

def layErrQ (w : World) : World :=
  { w with heap := w.heap.modify 0 fun
      | .cells _ t frozen => .cells #[.iface 168 (.agg #[.pointer (some ⟨9, 62, none⟩)])] t frozen
      | o => o }
abbrev plainQ : List (String × DataW Unit) := Rows.parsesRow.laid.filter fun x => x.2.handleName?.isNone
theorem parses_met (os : Os) (args : Array Value) : laidMetH Tryd.prog Rows.parsesRow.laid ((layErrQ (World.laidAll Tryd.prog os plainQ)).forCall (fun _ _ => 0) ⟨#[], args, []⟩).memory :=
  laidMetH_of_parts (laidMet_of_run' 16 (by kernel_rfl) (by kernel_rfl)) (by kernel_rfl)
set_option maxRecDepth 100000 in
theorem lifted (os : Os) (started : os.Started) (H : Type) (enc : TypeId × Value → H) :
    ReturnsInHanded {} Tryd.checked os 4 .any (fun w args => (Rows.parsesSpec.pre enc Tryd.prog Tryd.f4 [] false w args ∧ laidMetH Tryd.prog Rows.parsesRow.laid w) ∧ sizedMet enc Tryd.prog Tryd.f4 (OpenSpec.ofChange Rows.parsesSpec) false w args)
      (Rows.parsesSpec.post enc Tryd.prog Tryd.f4 false true false false) := by
  refine returnsInHanded_of_change_and (C := Tryd.checked) (X := fun w _ => laidMetH Tryd.prog Rows.parsesRow.laid w) (fun _ _ _ hh h => h.of_heap hh) Tryd.ownQ started (by kernel_rfl) Tryd.func4
    (ChangeSpec.witness_at (enc := enc) (C := Tryd.checked) (os := os) (X := fun w _ => laidMetH Tryd.prog Rows.parsesRow.laid w) false (layErrQ (World.laidAll Tryd.prog os plainQ)) #[.string ByteArray.empty] 8 rfl (by kernel_rfl) (by kernel_rfl) (by kernel_rfl) (by kernel_rfl) (by kernel_rfl) (parses_met os _)) ?_
  intro W base args ds gs before hval0 hW _ hsz0 hL _
  have hval : ∀ (j : Nat) t v, Tryd.f4.params[j]? = some t → args[j]? = some v → Value.okWide Tryd.prog W .any base t v := hval0
  have hW' := hW
  obtain ⟨p, q, hA0, hV0, rfl, hfz, hnd⟩ := hW
  have hA : DataW.TrodAll enc Tryd.prog W 0 (fun _ => true) true Tryd.f4.params.toList args.toList ds p := hA0
  have hV : DataW.TrodVars enc Tryd.prog W (fun _ => true) [] gs q := hV0
  have hlt := DataW.TrodAll.lt hA
  rw [Tryd.params4] at hA hval
  obtain ⟨v0, vs0, d0, ds0, p0, q0, hargs, rfl, rfl, h0, r0⟩ := trodAll_cons hA
  obtain ⟨rfl, rfl, rfl⟩ := trodAll_nil r0
  obtain rfl : args = #[v0] := by cases args; simp_all
  obtain ⟨rfl, rfl⟩ := trodVars_none hV
  clear hA0 hval0 hV0
  simp only [List.append_nil] at hW' hlt
  obtain ⟨hU, hI, hE⟩ := parses_of_laid hL
  obtain ⟨fuel, hf⟩ := h0
  have hc : v0.cells.toList = [v0] := by
    obtain ⟨st, hst⟩ := okWide_string Tryd.underlying9 (hval 0 9 v0 rfl rfl)
    rw [hst]; rfl
  obtain ⟨st, c0, -, -⟩ := DataW.trod_string Tryd.underlying9 hf
  rw [hc] at c0
  obtain rfl := List.head_eq_of_cons_eq c0
  refine (parses_walk st W hU hI hE).mono fun e W' ⟨he, hb⟩ => ?_
  subst he
  have e1 : Rows.parsesSpec.fn H ([d0] ++ []) = { results := [.lit (.bool true)], args := [d0] } := by simp [Rows.parsesSpec]
  refine ⟨_, rfl, _, _, _, [], p0, [], hW', ?_, ?_, ?_, hb.frame _, fun h => by cases h⟩
  · rw [e1]; exact trodAll_cons_mk (shut_bool Tryd.underlying4 _) trodAll_mk0
  · rw [e1]
    have := trodAll_cons_mk (p' := []) (Below.trod Tryd.laidOutQ (by kernel_rfl) (by rw [Tryd.sizeQ]; decide) ⟨fuel, hf⟩ hb hlt) trodAll_mk0
    rw [List.append_nil] at this
    exact this
  · rw [e1]; rfl

theorem parses_row : Rows.ParsesSaid :=
  OpenClaim.holds_of_wide 4 Tryd.f4 rfl rfl rfl rfl rfl rfl rfl ⟨rfl, rfl, rfl, rfl, rfl⟩ rfl rfl rfl rfl rfl (by kernel_rfl) Tryd.func4 (by kernel_rfl)
    (of_decide_eq_true (by kernel_rfl)) (by unfold Func.isWrapper; rw [if_neg (of_decide_eq_false (by kernel_rfl))]; exact ⟨rfl, rfl⟩)
    (fun os started H enc _ => lifted os started H enc)

theorem parses_card : Rows.ParsesCardSaid :=
  Claim7.holds_tied_plain_at .later [] _ _ _ _ parses_row (fun _ h => by cases h) (by kernel_rfl) (fun _ h => by cases h) parses_row_tie rfl ⟨rfl, rfl⟩ (by kernel_rfl) rfl
    (fun f fn hf hfn => by
      obtain rfl : f = 4 := Option.some.inj ((show Tryd.prog.funcNamed "prologue/prologuelaw.Parses" = some 4 by kernel_rfl).symm.trans hf) |>.symm
      obtain rfl : fn = Tryd.f4 := (Option.some.inj (Tryd.func4.symm.trans hfn)).symm
      exact ⟨by kernel_rfl, fun j t ht => by
        rw [Tryd.params4] at ht
        obtain rfl : t = 9 := by simpa using Array.mem_of_getElem? ht
        exact (show Tryd.prog.wantsStandIn 9 = false by kernel_rfl)⟩)
    (by kernel_rfl)
#print axioms parses_card
end Go.Proofs.YtidhncoecfkbfaaDoor
