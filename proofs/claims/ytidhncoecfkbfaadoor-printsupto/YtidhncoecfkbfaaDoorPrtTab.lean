/-
  prologuelaw.Prints: what the row lists, as the walk asks for it. Own work of the verifier.
-/
import Derived.Test.YtidhncoecfkbfaaDoorRows
import Derived.Test.YtidhncoecfkbfaaDoorPrtLaw
import Derived.ProofKit
import Derived.OpenShut
import Derived.ChangeSame
import Derived.ChangeSlices
import Derived.MakeChecks
import Derived.Lib.LaidU8
import Derived.Lay
namespace Go.Proofs.YtidhncoecfkbfaaDoor
open Go.RowKit

theorem Tryd.gItems : Tryd.prog.globalNamed "prologue/table.items" = some 1 := by kernel_rfl
theorem Tryd.gItemsT : (Tryd.prog.globals[1]?).map (·.type) = some 188 := by kernel_rfl
theorem Tryd.gPowT : (Tryd.prog.globals[4]?).map (·.type) = some 214 := by kernel_rfl
theorem Tryd.cellsItem : Tryd.prog.cellsOf 187 = 5 := by kernel_rfl
theorem Tryd.cellsStr : Tryd.prog.cellsOf 9 = 1 := by kernel_rfl
theorem Tryd.cellsBool : Tryd.prog.cellsOf 4 = 1 := by kernel_rfl
theorem Tryd.cellsInt : Tryd.prog.cellsOf 3 = 1 := by kernel_rfl
theorem powDatum {H : Type} : (Rows.laid_internal_strconv_uint64pow10 : DataW H) = Lib.tabData .u64 Lib.pow10Tab := by kernel_rfl

/-- A struct's field, as DataW.trod_struct hands it over. -/
theorem field_of {α : Type} {tr : TypeId → List Value → Option α} {fs : Array Field} {cs : List Value} {xs : List α} {c : Nat} {i : Nat} {f : Field} {y : α}
    (hf : ∀ (i : Nat) (f : Field), fs[i]? = some f → tr f.type ((cs.drop f.offset).take (Tryd.prog.cellsOf f.type)) = xs[i]?) (hi : fs[i]? = some f) (hc : Tryd.prog.cellsOf f.type = c) (hy : xs[i]? = some y) : tr f.type ((cs.drop f.offset).take c) = some y := by
  rw [← hy, ← hf i f hi, hc]
theorem list5 {α : Type} {l : List α} (h : l.length = 5) : ∃ a0 a1 a2 a3 a4, l = [a0, a1, a2, a3, a4] := by
  match l, h with
  | [a0, a1, a2, a3, a4], _ => exact ⟨_, _, _, _, _, rfl⟩
/-- The k-th item as the row lists it. -/
theorem itemDatum (k : Nat) (hk : k < 11) : ∃ l : List (DataW Unit), (Rows.laid_prologue_table_items : DataW Unit) = .agg l ∧ ∃ a b c : DataW Unit, l[k]? = some (.agg [.lit (.string (nm k)), a, b, .lit (.bool (decide (k = 2))), c]) := by
  refine ⟨_, rfl, ?_⟩
  match k, hk with
  | 0, _ | 1, _ | 2, _ | 3, _ | 4, _ | 5, _ | 6, _ | 7, _ | 8, _ | 9, _ | 10, _ => exact ⟨_, _, _, rfl⟩

theorem pow_of_laid {W : World} (h : laidMet Tryd.prog Rows.printsUptoRow.laid W) : Lib.TabIs Tryd.prog W "internal/strconv.uint64pow10" .u64 Lib.pow10Tab := by
  obtain ⟨g, t, cs, fuel, p, hg, ht, hv, hd⟩ := Lib.laidMet.reads h (n := "internal/strconv.uint64pow10") (d := Rows.laid_internal_strconv_uint64pow10) (by simp [Rows.printsUptoRow])
  obtain rfl := Option.some.inj (Tryd.gPow.symm.trans hg)
  obtain rfl := Option.some.inj (Tryd.gPowT.symm.trans ht)
  rw [powDatum] at hd
  unfold Lib.TabIs
  rw [hv, ← Lib.cells_of_tab Tryd.underlying214 Tryd.underlying32 (by kernel_rfl) (by kernel_rfl) hd]

theorem items_of_laid {W : World} (h : laidMet Tryd.prog Rows.printsUptoRow.laid W) : Items W := by
  obtain ⟨g, t, cs, fuel, p, hg, ht, hv, hd⟩ := Lib.laidMet.reads h (n := "prologue/table.items") (d := Rows.laid_prologue_table_items) (by simp [Rows.printsUptoRow])
  obtain rfl := Option.some.inj (Tryd.gItems.symm.trans hg)
  obtain rfl := Option.some.inj (Tryd.gItemsT.symm.trans ht)
  obtain ⟨xs, m, -, hx, hl, hxl, hall⟩ := DataW.trod_array Tryd.underlying188 hd
  intro k hk
  obtain ⟨l, hl1, a, b, c, hl2⟩ := itemDatum k hk
  rw [hl1] at hx
  have hx1 : l = xs.map (·.1) := by simpa using congrArg Prod.fst hx
  rw [hx1, List.getElem?_map, Option.map_eq_some_iff] at hl2
  obtain ⟨⟨y, py⟩, hy, rfl⟩ := hl2
  have h1 := (hall k hk).trans hy
  rw [Tryd.cellsItem] at h1
  obtain ⟨ys, n, -, hz, -, hyl, hf⟩ := DataW.trod_struct Tryd.underlying187 h1
  obtain ⟨y0, y1, y2, y3, y4, rfl⟩ := list5 hyl
  have hz1 : [.lit (.string (nm k)), a, b, .lit (.bool (decide (k = 2))), c] = [y0, y1, y2, y3, y4].map (·.1) := by simpa using congrArg Prod.fst hz
  simp only [List.map_cons, List.map_nil, List.cons.injEq, and_true] at hz1
  obtain ⟨e0, -, -, e3, -⟩ := hz1
  have f0 : DataW.trod (fun _ => ()) Tryd.prog W 0 (fun _ => true) false n 9 ((((cs.toList.drop (k * 5)).take 5).drop 0).take 1) = some y0 := field_of hf (i := 0) rfl Tryd.cellsStr rfl
  have f3 : DataW.trod (fun _ => ()) Tryd.prog W 0 (fun _ => true) false n 4 ((((cs.toList.drop (k * 5)).take 5).drop 3).take 1) = some y3 := field_of hf (i := 3) rfl Tryd.cellsBool rfl
  clear hf hz
  obtain ⟨s, c0, x0, -⟩ := DataW.trod_string Tryd.underlying9 f0
  obtain ⟨bb, c3, x3⟩ := DataW.trod_bool Tryd.underlying4 f3
  subst x0 x3
  have hs : s = ⟨(nm k).toArray⟩ := by
    simp only [DataW.lit.injEq, Lit.string.injEq] at e0
    obtain ⟨⟨sl⟩⟩ := s
    simp at e0
    rw [e0]
  have hb : bb = decide (k = 2) := by simpa using e3.symm
  subst hs
  rw [hb] at c3
  have g0 := congrArg (·[0]?) c0
  have g3 := congrArg (·[0]?) c3
  simp [List.getElem?_drop] at g0 g3
  refine ⟨?_, ?_⟩
  · rw [World.var?_cell Tryd.gItems hv (k * 5)]; exact g0
  · rw [World.var?_cell Tryd.gItems hv (k * 5 + 3)]; exact g3

theorem tabs_of_laid {W : World} (h : laidMetH Tryd.prog Rows.printsUptoRow.laid W) : Tabs W := by
  rw [MakeChecks.laidMetH_plain _ _ _ (by kernel_rfl)] at h
  exact ⟨items_of_laid h, pow_of_laid h⟩
end Go.Proofs.YtidhncoecfkbfaaDoor
