/-
  Own work of the verifier: EncI, EncY, EncM, EncLd, as one text.
-/
import Derived.Test.YtffemeicclhioaaDoorM1
import Derived.Defers
import Derived.Test.YtffemeicclhioaaDoorEncX
import Derived.Test.YtffemeicclhioaaDoorM3
import Derived.Laws.CopyOwn
import Derived.RegionCalls
import Derived.Test.YtffemeicclhioaaDoorRows
import Derived.Deep.RegionWith
import Derived.Deep.Onto
import Derived.ProofKit
import Derived.OpenShut
import Derived.LaidLaws
import Derived.LaidHandle
import Derived.LaidSub
import Derived.SizedLaws
import Derived.WideShapes
import Derived.Lib.LaidTab
import Derived.Lib.LaidU8
import Derived.Lay
namespace Go.Proofs.YtffemeicclhioaaDoor
open Go.RowKit

theorem RsB.mono {w : World} {b b' : Nat} {v : Value} {ns : List Int} (h : RsB w b v ns) (hb : b ≤ b') : RsB w b' v ns := by
  rcases h with h | ⟨sb, so, cap, h1, h2, h3⟩
  · exact Or.inl h
  · exact Or.inr ⟨sb, so, cap, h1, by omega, h3⟩
theorem LsB.mono {α : Type} {size : Nat} {w : World} {b b' : Nat} {v : Value} {ps : List (Array Value × α)} (h : LsB size w b v ps) (hb : b ≤ b') : LsB size w b' v ps := by
  rcases h with h | ⟨sb, so, cap, h1, h2, h3⟩
  · exact Or.inl h
  · exact Or.inr ⟨sb, so, cap, h1, by omega, h3⟩
end Go.Proofs.YtffemeicclhioaaDoor
namespace Go.Proofs.YtffemeicclhioaaDoor
open Go.RowKit

section
variable {w w' : World} {b : Nat}
abbrev SameLow (b : Nat) (w w' : World) : Prop := ∀ k, k < b → w'.heap[k]? = w.heap[k]?
theorem RsB.same {v : Value} {ns : List Int} (h : RsB w b v ns) (hw : SameLow b w w') : RsB w' b v ns := by
  rcases h with h | ⟨sb, so, cap, h1, h2, h3⟩
  · exact Or.inl h
  · exact Or.inr ⟨sb, so, cap, h1, h2, fun i hi => (World.cell?_of_block (a := ⟨sb, so + i, none⟩) (hw sb h2)).trans (h3 i hi)⟩
theorem LsB.same {α : Type} {size : Nat} {v : Value} {ps : List (Array Value × α)} (h : LsB size w b v ps) (hw : SameLow b w w') : LsB size w' b v ps := by
  rcases h with h | ⟨sb, so, cap, h1, h2, h3⟩
  · exact Or.inl h
  · exact Or.inr ⟨sb, so, cap, h1, h2, fun i hi j x hx => (World.cell?_of_block (a := ⟨sb, so + i * size + j, none⟩) (hw sb h2)).trans (h3 i hi j x hx)⟩
end
end Go.Proofs.YtffemeicclhioaaDoor
namespace Go.Proofs.YtffemeicclhioaaDoor
open Go.RowKit

set_option maxHeartbeats 1000000 in
theorem agrees_sameE (e f b a : Int) (w : World) : Calls Tryd.prog 9 #[flt e f b a, flt e f b a] w fun x w' => x = .returned (.bool true) ∧ Below w.heap.size w w' := by
  unfold flt
  go_enter Tryd.func9, Tryd.ntmps9
  go_wp2
  go_ret
  exact ⟨rfl, by go_grown⟩
theorem al1 (w : World) (X : Obj) : (w.alloc X).heap[w.heap.size]? = some X ∧ Below w.heap.size w (w.alloc X) ∧ (w.alloc X).heap.size = w.heap.size + 1 :=
  ⟨heap_alloc_new w _, (Below.refl w.heap.size w).alloc (Nat.le_refl _) _, by simp⟩
end Go.Proofs.YtffemeicclhioaaDoor
namespace Go.Proofs.YtffemeicclhioaaDoor
open Go.ChangeShapes Go.WideShapes Go.ChangeAt Go.RowKit

theorem Tryd.ownE : ownKnob Tryd.prog.godebug = none := by kernel_rfl
theorem Tryd.laidOutE : laidOutB Tryd.prog = true := by kernel_rfl
theorem Tryd.etE : Tryd.prog.globalNamed "errors.errorType" = some 0 := by kernel_rfl
theorem Tryd.rtE : (Tryd.prog.cutTypes.find? (·.1 == "internal/reflectlite.rtype")).map (·.2) = some 93 := by kernel_rfl
theorem Tryd.oneRowE : ((List.range 140).filter fun t => Tryd.prog.rowNamed t [101, 114, 114, 111, 114]) = [49] := by kernel_rfl
theorem Tryd.sizeE : Tryd.prog.types.size = 140 := by kernel_rfl
theorem Tryd.handE : typeHandle Tryd.prog 49 = .pointer (some ⟨1, 49, none⟩) := by kernel_rfl
theorem errTy_of {W : World} {l : List (String × DataW Unit)} (h : laidMetH Tryd.prog l W) (hm : ("errors.errorType", Rows.laid_errors_errorType) ∈ l.filter fun x => x.2.handleName?.isSome) : ErrTy W := by
  obtain ⟨-, h2⟩ := laidMetH_iff.1 h
  obtain ⟨name, u, ty, e1, e2, e3, e4, e5⟩ := h2 ("errors.errorType", Rows.laid_errors_errorType) hm
  have en : name = [101, 114, 114, 111, 114] := (Option.some.inj e1).symm
  subst en
  obtain rfl := Option.some.inj (Tryd.rtE.symm.trans e2)
  have hm : ty ∈ (List.range 140).filter fun t => Tryd.prog.rowNamed t [101, 114, 114, 111, 114] := List.mem_filter.2 ⟨List.mem_range.2 (by rw [← Tryd.sizeE]; exact e3), e4⟩
  rw [Tryd.oneRowE] at hm
  obtain rfl := List.mem_singleton.1 hm
  rw [Tryd.handE] at e5
  simpa using World.var?_cell Tryd.etE e5 0
def layErrE (w : World) : World :=
  { w with heap := w.heap.modify 0 fun
      | .cells _ t frozen => .cells #[.iface 93 (.agg #[.pointer (some ⟨1, 49, none⟩)])] t frozen
      | o => o }
end Go.Proofs.YtffemeicclhioaaDoor
