/-
  Own work of the verifier: EncI, EncY, EncZa, EncM, EncLd, EncN, as one text.
-/
import Derived.Test.YteaemhhbpaicnaaDoorM1
import Derived.Defers
import Derived.Test.YteaemhhbpaicnaaDoorEncX
import Derived.Test.YteaemhhbpaicnaaDoorM3
import Derived.Laws.CopyOwn
import Derived.RegionCalls
import Derived.Test.YteaemhhbpaicnaaDoorRows
import Derived.ProofKit
import Derived.OpenShut
import Derived.LaidLaws
import Derived.LaidHandle
import Derived.LaidSub
import Derived.SizedLaws
import Derived.WideShapes
import Derived.Lib.LaidTab
import Derived.Lib.LaidU8
import Derived.Lay
import Derived.Test.YteaemhhbpaicnaaDoorCards
import Derived.Test.YteaemhhbpaicnaaDoorTie
import Derived.Test.YteaemhhbpaicnaaDoorEncO
import Derived.WalkKit
import Derived.Carry
import Derived.Deep.DeepHandedRow
import Derived.SevenTiedAt
namespace Go.Proofs.YteaemhhbpaicnaaDoor
open Go.RowKit

theorem RsB.mono {w : World} {b b' : Nat} {v : Value} {ns : List Int} (h : RsB w b v ns) (hb : b ≤ b') : RsB w b' v ns := by
  rcases h with h | ⟨sb, so, cap, h1, h2, h3⟩
  · exact Or.inl h
  · exact Or.inr ⟨sb, so, cap, h1, by omega, h3⟩
theorem LsB.mono {α : Type} {size : Nat} {w : World} {b b' : Nat} {v : Value} {ps : List (Array Value × α)} (h : LsB size w b v ps) (hb : b ≤ b') : LsB size w b' v ps := by
  rcases h with h | ⟨sb, so, cap, h1, h2, h3⟩
  · exact Or.inl h
  · exact Or.inr ⟨sb, so, cap, h1, by omega, h3⟩
theorem VsB.mono {α : Type} {w : World} {b b' : Nat} {v : Value} {ps : List (Value × α)} (h : VsB w b v ps) (hb : b ≤ b') : VsB w b' v ps := by
  rcases h with h | ⟨sb, so, cap, h1, h2, h3⟩
  · exact Or.inl h
  · exact Or.inr ⟨sb, so, cap, h1, by omega, h3⟩
theorem InsAt.mono {w : World} {b b' : Nat} {p : Array Value × InsE} (h : InsAt w b p) (hb : b ≤ b') : InsAt w b' p := by
  obtain ⟨av, ov, pa, h1, h2, h3, h4, h5, h6⟩ := h
  exact ⟨av, ov, pa, h1, h2, h3, h4.mono hb, h5.mono hb, h6⟩
theorem BlkAt.mono {w : World} {b b' : Nat} {p : Value × List InsE} (h : BlkAt w b p) (hb : b ≤ b') : BlkAt w b' p := by
  obtain ⟨ps, h1, h2, h3, h4⟩ := h
  exact ⟨ps, h1, h2.mono hb, fun q hq => (h3 q hq).mono hb, h4⟩
theorem FuncV.mono {w : World} {b b' : Nat} {f : FuncE} {pv hv sv bv : Value} {pp : List (Array Value × (Int × Int))} {pb : List (Value × List InsE)} (h : FuncV w b f pv hv sv bv pp pb) (hb : b ≤ b') : FuncV w b' f pv hv sv bv pp pb :=
  ⟨h.params, h.vals, h.pls.mono hb, h.hls.mono hb, h.sls.mono hb, h.bls.mono hb, h.blocks, fun q hq => (h.each q hq).mono hb, h.lens⟩
theorem FuncAt.mono {w : World} {b b' : Nat} {p : Array Value × FuncE} (h : FuncAt w b p) (hb : b ≤ b') : FuncAt w b' p := by
  obtain ⟨pv, hv, sv, bv, pp, pb, h1, h2⟩ := h
  exact ⟨pv, hv, sv, bv, pp, pb, h1, h2.mono hb⟩
theorem SigAt.mono {w : World} {b b' : Nat} {p : Array Value × (List Int × Int)} (h : SigAt w b p) (hb : b ≤ b') : SigAt w b' p := by
  obtain ⟨lv, h1, h2, h3⟩ := h
  exact ⟨lv, h1, h2.mono hb, h3⟩
theorem ProgV.mono {w : World} {b b' : Nat} {p : ProgE} {fv ev : Value} {pf : List (Array Value × FuncE)} {pe : List (Array Value × (List Int × Int))} (h : ProgV w b p fv ev pf pe) (hb : b ≤ b') : ProgV w b' p fv ev pf pe :=
  ⟨h.fls.mono hb, h.els.mono hb, h.funcs, h.externs, fun q hq => (h.feach q hq).mono hb, fun q hq => (h.eeach q hq).mono hb, h.lens⟩
end Go.Proofs.YteaemhhbpaicnaaDoor
namespace Go.Proofs.YteaemhhbpaicnaaDoor
open Go.RowKit

theorem penL_len {α : Type} (lo hi : Int) (one : α → Pr) (xs : List α) : (penL lo hi one xs).1.length = 1 + (penAll one xs).1.length := by
  simp only [penL, penSeq, penNum, List.length_append, List.length_singleton]
section
variable {w w' : World} {b : Nat}
abbrev SameLow (b : Nat) (w w' : World) : Prop := ∀ k, k < b → w'.heap[k]? = w.heap[k]?
theorem RsB.same {v : Value} {ns : List Int} (h : RsB w b v ns) (hw : SameLow b w w') : RsB w' b v ns := by
  rcases h with h | ⟨sb, so, cap, h1, h2, h3⟩
  · exact Or.inl h
  · exact Or.inr ⟨sb, so, cap, h1, h2, fun i hi => (World.cell?_of_block (a := ⟨sb, so + i, none⟩) (hw sb h2)).trans (h3 i hi)⟩
theorem LsB.same {α : Type} {size : Nat} {v : Value} {ps : List (Array Value × α)} (h : LsB size w b v ps) (hw : SameLow b w w') : LsB size w' b v ps := by
  rcases h with h | ⟨sb, so, cap, h1, h2, h3⟩
  · exact Or.inl h
  · exact Or.inr ⟨sb, so, cap, h1, h2, fun i hi j x hx => (World.cell?_of_block (a := ⟨sb, so + i * size + j, none⟩) (hw sb h2)).trans (h3 i hi j x hx)⟩
theorem VsB.same {α : Type} {v : Value} {ps : List (Value × α)} (h : VsB w b v ps) (hw : SameLow b w w') : VsB w' b v ps := by
  rcases h with h | ⟨sb, so, cap, h1, h2, h3⟩
  · exact Or.inl h
  · exact Or.inr ⟨sb, so, cap, h1, h2, fun i hi => (World.cell?_of_block (a := ⟨sb, so + i, none⟩) (hw sb h2)).trans (h3 i hi)⟩
theorem InsAt.same {p : Array Value × InsE} (h : InsAt w b p) (hw : SameLow b w w') : InsAt w' b p := by
  obtain ⟨av, ov, pa, h1, h2, h3, h4, h5, h6⟩ := h
  exact ⟨av, ov, pa, h1, h2, h3, h4.same hw, h5.same hw, h6⟩
theorem BlkAt.same {p : Value × List InsE} (h : BlkAt w b p) (hw : SameLow b w w') : BlkAt w' b p := by
  obtain ⟨ps, h1, h2, h3, h4⟩ := h
  exact ⟨ps, h1, h2.same hw, fun q hq => (h3 q hq).same hw, h4⟩
theorem FuncV.same {f : FuncE} {pv hv sv bv : Value} {pp : List (Array Value × (Int × Int))} {pb : List (Value × List InsE)} (h : FuncV w b f pv hv sv bv pp pb) (hw : SameLow b w w') : FuncV w' b f pv hv sv bv pp pb :=
  ⟨h.params, h.vals, h.pls.same hw, h.hls.same hw, h.sls.same hw, h.bls.same hw, h.blocks, fun q hq => (h.each q hq).same hw, h.lens⟩
theorem SigAt.same {p : Array Value × (List Int × Int)} (h : SigAt w b p) (hw : SameLow b w w') : SigAt w' b p := by
  obtain ⟨lv, h1, h2, h3⟩ := h
  exact ⟨lv, h1, h2.same hw, h3⟩
theorem FuncAt.same {p : Array Value × FuncE} (h : FuncAt w b p) (hw : SameLow b w w') : FuncAt w' b p := by
  obtain ⟨pv, hv, sv, bv, pp, pb, h1, h2⟩ := h
  exact ⟨pv, hv, sv, bv, pp, pb, h1, h2.same hw⟩
theorem ProgV.same {p : ProgE} {fv ev : Value} {pf : List (Array Value × FuncE)} {pe : List (Array Value × (List Int × Int))} (h : ProgV w b p fv ev pf pe) (hw : SameLow b w w') : ProgV w' b p fv ev pf pe :=
  ⟨h.fls.same hw, h.els.same hw, h.funcs, h.externs, fun q hq => (h.feach q hq).same hw, fun q hq => (h.eeach q hq).same hw, h.lens⟩
end
end Go.Proofs.YteaemhhbpaicnaaDoor
namespace Go.Proofs.YteaemhhbpaicnaaDoor
open Go.RowKit

theorem penNum_len (lo hi x : Int) : (penNum lo hi x).1.length = 1 := rfl
end Go.Proofs.YteaemhhbpaicnaaDoor
namespace Go.Proofs.YteaemhhbpaicnaaDoor
open Go.RowKit

set_option maxHeartbeats 1000000 in
theorem agrees_sameE (e f b a : Int) (w : World) : Calls Tryd.prog 5 #[flt e f b a, flt e f b a] w fun x w' => x = .returned (.bool true) ∧ Below w.heap.size w w' := by
  unfold flt
  go_enter Tryd.func5, Tryd.ntmps5
  go_wp2
  go_ret
  exact ⟨rfl, by go_grown⟩
theorem al1 (w : World) (X : Obj) : (w.alloc X).heap[w.heap.size]? = some X ∧ Below w.heap.size w (w.alloc X) ∧ (w.alloc X).heap.size = w.heap.size + 1 :=
  ⟨heap_alloc_new w _, (Below.refl w.heap.size w).alloc (Nat.le_refl _) _, by simp⟩
end Go.Proofs.YteaemhhbpaicnaaDoor
namespace Go.Proofs.YteaemhhbpaicnaaDoor
open Go.ChangeShapes Go.WideShapes Go.ChangeAt Go.RowKit

theorem Tryd.ownE : ownKnob Tryd.prog.godebug = none := by kernel_rfl
theorem Tryd.laidOutE : laidOutB Tryd.prog = true := by kernel_rfl
theorem Tryd.etE : Tryd.prog.globalNamed "errors.errorType" = some 0 := by kernel_rfl
theorem Tryd.rtE : (Tryd.prog.cutTypes.find? (·.1 == "internal/reflectlite.rtype")).map (·.2) = some 104 := by kernel_rfl
theorem Tryd.oneRowE : ((List.range 170).filter fun t => Tryd.prog.rowNamed t [101, 114, 114, 111, 114]) = [39] := by kernel_rfl
theorem Tryd.sizeE : Tryd.prog.types.size = 170 := by kernel_rfl
theorem Tryd.handE : typeHandle Tryd.prog 39 = .pointer (some ⟨2, 39, none⟩) := by kernel_rfl
theorem Tryd.gNeedE : Tryd.prog.globalNamed "prologue/program.needed" = some 1 := by kernel_rfl
theorem Tryd.gNeedTE : (Tryd.prog.globals[1]?).map (·.type) = some 132 := by kernel_rfl
theorem Tryd.cellsFieldsE : Tryd.prog.cellsOf 128 = 1 := by kernel_rfl
theorem Tryd.cellsNeedE : Tryd.prog.cellsOf 132 = 19 := by kernel_rfl
theorem needDataE : (Rows.laid_prologue_program_needed : DataW Unit) = Lib.tabData .u8 needL := by kernel_rfl
theorem needs_of_reads {W : World} (h : Lib.VarReads Tryd.prog W "prologue/program.needed" Rows.laid_prologue_program_needed) : NeedsAt W := by
  obtain ⟨g, t, cs, fuel, p, hg, ht, hv, hd⟩ := h
  obtain rfl := Option.some.inj (Tryd.gNeedE.symm.trans hg)
  obtain rfl := Option.some.inj (Tryd.gNeedTE.symm.trans ht)
  rw [needDataE] at hd
  have hc := Lib.cells_of_tab Tryd.underlying132 Tryd.underlying128 Tryd.cellsFieldsE Tryd.cellsNeedE hd
  intro k hk
  rw [World.var?_cell Tryd.gNeedE hv k]
  have h1 : cs[k]? = (needL.map fun z => Value.int .u8 z)[k]? := by rw [← hc]; simp
  rw [h1, List.getElem?_map]
  have h2 : needL[k]? = some (needL.getD k 0) := by
    have : k < needL.length := hk
    simp [List.getD, this]
  rw [h2]
  rfl
theorem errTy_of {W : World} {l : List (String × DataW Unit)} (h : laidMetH Tryd.prog l W) (hm : ("errors.errorType", Rows.laid_errors_errorType) ∈ l.filter fun x => x.2.handleName?.isSome) : ErrTy W := by
  obtain ⟨-, h2⟩ := laidMetH_iff.1 h
  obtain ⟨name, u, ty, e1, e2, e3, e4, e5⟩ := h2 ("errors.errorType", Rows.laid_errors_errorType) hm
  have en : name = [101, 114, 114, 111, 114] := (Option.some.inj e1).symm
  subst en
  obtain rfl := Option.some.inj (Tryd.rtE.symm.trans e2)
  have hm : ty ∈ (List.range 170).filter fun t => Tryd.prog.rowNamed t [101, 114, 114, 111, 114] := List.mem_filter.2 ⟨List.mem_range.2 (by rw [← Tryd.sizeE]; exact e3), e4⟩
  rw [Tryd.oneRowE] at hm
  obtain rfl := List.mem_singleton.1 hm
  rw [Tryd.handE] at e5
  simpa using World.var?_cell Tryd.etE e5 0
def layErrE (w : World) : World :=
  { w with heap := w.heap.modify 0 fun
      | .cells _ t frozen => .cells #[.iface 104 (.agg #[.pointer (some ⟨2, 39, none⟩)])] t frozen
      | o => o }
end Go.Proofs.YteaemhhbpaicnaaDoor
namespace Go.Proofs.YteaemhhbpaicnaaDoor
open Go.ChangeShapes Go.WideShapes Go.ChangeAt Go.RowKit

theorem penAll_len1 {α : Type} (one : α → Pr) (c : Nat) (h : ∀ x, (one x).1.length = c) : ∀ xs : List α, (penAll one xs).1.length = c * xs.length
  | [] => by simp [penAll]
  | x :: xs => by
    have h1 := h x
    have h2 := penAll_len1 one c h xs
    simp only [penAll, penSeq, List.length_append, List.length_cons, Nat.mul_succ]
    omega
theorem shapeLs_le (op : Int) : (shapeLs op).length ≤ 4 := by
  have hall : ∀ x ∈ shapeL, x.toList.length ≤ 4 := by decide
  unfold shapeLs shapeB
  split
  · have : shapeL.getD op.toNat #[63] ∈ shapeL ∨ shapeL.getD op.toNat #[63] = #[63] := by
      rcases Nat.lt_or_ge op.toNat shapeL.length with h | h
      · left
        have e : shapeL.getD op.toNat #[63] = shapeL[op.toNat] := by simp [List.getD, h]
        rw [e]
        exact List.getElem_mem h
      · right
        simp [List.getD, List.getElem?_eq_none h]
    rcases this with h | h
    · exact hall _ h
    · simp only [h]; decide
  · decide
theorem penPart_le (i : InsE) (c : UInt8) : (penPart i c).1.length ≤ 9 + 2 * i.args.length + i.outs.length := by
  have ha : (penL 0 8 penArg i.args).1.length = 1 + 2 * i.args.length := by rw [penL_len, penAll_len1 penArg 2 (fun _ => rfl)]
  have ho : (penL 0 4 (penNum 0 255) i.outs).1.length = 1 + 1 * i.outs.length := by rw [penL_len, penAll_len1 (penNum 0 255) 1 (fun _ => rfl)]
  have hn : (opB i.n 8).length = 8 := by simp [opB]
  unfold penPart
  repeat' split
  all_goals first | (simp only [penNum_len]; omega) | (rw [ha]; omega) | (rw [ho]; omega) | (show (opB i.n 8).length ≤ _; rw [hn]; omega) | (show (1 : Nat) ≤ _; omega) | (show (0 : Nat) ≤ _; omega)
theorem penIns_le (i : InsE) : (penIns i).1.length ≤ 8 * mIns i := by
  have h1 := shapeLs_le i.op
  have h2 : ∀ ls : List UInt8, (penAll (penPart i) ls).1.length ≤ (9 + 2 * i.args.length + i.outs.length) * ls.length := by
    intro ls
    induction ls with
    | nil => simp [penAll]
    | cons c cs ih =>
      have := penPart_le i c
      simp only [penAll, penSeq, List.length_append, List.length_cons, Nat.mul_succ]
      omega
  have h3 := h2 (shapeLs i.op)
  have h4 : (9 + 2 * i.args.length + i.outs.length) * (shapeLs i.op).length ≤ (9 + 2 * i.args.length + i.outs.length) * 4 := Nat.mul_le_mul_left _ h1
  simp only [penIns, penSeq, List.length_append, penNum_len, List.length_nil, mIns]
  omega
end Go.Proofs.YteaemhhbpaicnaaDoor
