/-
  What the rows of Encodes and Decodes list, as the walks ask for it; a world that holds it. Own work of the verifier.
-/
import Derived.Test.YthnmdbddfmgdlaaDoorRows
import Derived.Test.YthnmdbddfmgdlaaDoorEncB
import Derived.Test.YthnmdbddfmgdlaaDoorFault
import Derived.ProofKit
import Derived.OpenShut
import Derived.LaidLaws
import Derived.LaidHandle
import Derived.LaidSub
import Derived.SizedLaws
import Derived.WideShapes
import Derived.Lib.LaidTab
import Derived.Lib.LaidU8
import Derived.Lay
namespace Go.Proofs.YthnmdbddfmgdlaaDoor
open Go.ChangeShapes Go.WideShapes Go.ChangeAt Go.RowKit

theorem Tryd.ownE : ownKnob Tryd.prog.godebug = none := by kernel_rfl
theorem Tryd.laidOutE : laidOutB Tryd.prog = true := by kernel_rfl
theorem Tryd.etE : Tryd.prog.globalNamed "errors.errorType" = some 0 := by kernel_rfl
theorem Tryd.rtE : (Tryd.prog.cutTypes.find? (·.1 == "internal/reflectlite.rtype")).map (·.2) = some 123 := by kernel_rfl
theorem Tryd.oneRowE : ((List.range 200).filter fun t => Tryd.prog.rowNamed t [101, 114, 114, 111, 114]) = [43] := by kernel_rfl
theorem Tryd.sizeE : Tryd.prog.types.size = 200 := by kernel_rfl
theorem Tryd.handE : typeHandle Tryd.prog 43 = .pointer (some ⟨2, 43, none⟩) := by kernel_rfl
theorem Tryd.gNeedE : Tryd.prog.globalNamed "prologue/program.needed" = some 1 := by kernel_rfl
theorem Tryd.gNeedTE : (Tryd.prog.globals[1]?).map (·.type) = some 167 := by kernel_rfl
theorem Tryd.cellsFieldsE : Tryd.prog.cellsOf 157 = 1 := by kernel_rfl
theorem Tryd.cellsNeedE : Tryd.prog.cellsOf 167 = 19 := by kernel_rfl
theorem needDataE : (Rows.laid_prologue_program_needed : DataW Unit) = Lib.tabData .u8 needL := by kernel_rfl
theorem needs_of_reads {W : World} (h : Lib.VarReads Tryd.prog W "prologue/program.needed" Rows.laid_prologue_program_needed) : NeedsAt W := by
  obtain ⟨g, t, cs, fuel, p, hg, ht, hv, hd⟩ := h
  obtain rfl := Option.some.inj (Tryd.gNeedE.symm.trans hg)
  obtain rfl := Option.some.inj (Tryd.gNeedTE.symm.trans ht)
  rw [needDataE] at hd
  have hc := Lib.cells_of_tab Tryd.underlying167 Tryd.underlying157 Tryd.cellsFieldsE Tryd.cellsNeedE hd
  intro k hk
  rw [World.var?_cell Tryd.gNeedE hv k]
  have h1 : cs[k]? = (needL.map fun z => Value.int .u8 z)[k]? := by rw [← hc]; simp
  rw [h1, List.getElem?_map]
  have h2 : needL[k]? = some (needL.getD k 0) := by
    have : k < needL.length := hk
    simp [List.getD, this]
  rw [h2]
  rfl
theorem errTy_of {W : World} {l : List (String × DataW Unit)} (h : laidMetH Tryd.prog l W) (hm : ("errors.errorType", Rows.laid_errors_errorType) ∈ l.filter fun x => x.2.handleName?.isSome) : ErrTy W := by
  obtain ⟨-, h2⟩ := laidMetH_iff.1 h
  obtain ⟨name, u, ty, e1, e2, e3, e4, e5⟩ := h2 ("errors.errorType", Rows.laid_errors_errorType) hm
  have en : name = [101, 114, 114, 111, 114] := (Option.some.inj e1).symm
  subst en
  obtain rfl := Option.some.inj (Tryd.rtE.symm.trans e2)
  have hm : ty ∈ (List.range 200).filter fun t => Tryd.prog.rowNamed t [101, 114, 114, 111, 114] := List.mem_filter.2 ⟨List.mem_range.2 (by rw [← Tryd.sizeE]; exact e3), e4⟩
  rw [Tryd.oneRowE] at hm
  obtain rfl := List.mem_singleton.1 hm
  rw [Tryd.handE] at e5
  simpa using World.var?_cell Tryd.etE e5 0
def layErrE (w : World) : World :=
  { w with heap := w.heap.modify 0 fun
      | .cells _ t frozen => .cells #[.iface 123 (.agg #[.pointer (some ⟨2, 43, none⟩)])] t frozen
      | o => o }
end Go.Proofs.YthnmdbddfmgdlaaDoor
