/-
  Own work of the verifier: EncI, EncY, EncZa, EncM, EncLd, EncN, CkU, ClRep, ClA, ClB, ClC, ClD, as one text.
-/
import Derived.Test.YtffemeicclhioaaGreatDoorJ0
import Derived.Defers
import Derived.Test.YtffemeicclhioaaGreatDoorEncX
import Derived.Test.YtffemeicclhioaaGreatDoorJ3
import Derived.Laws.CopyOwn
import Derived.RegionCalls
import Derived.Test.YtffemeicclhioaaGreatDoorRows
import Derived.ProofKit
import Derived.OpenShut
import Derived.LaidLaws
import Derived.LaidHandle
import Derived.LaidSub
import Derived.SizedLaws
import Derived.WideShapes
import Derived.Lib.LaidTab
import Derived.Lib.LaidU8
import Derived.Lay
import Derived.Test.YtffemeicclhioaaGreatDoorCards
import Derived.Test.YtffemeicclhioaaGreatDoorTie
import Derived.WalkKit
import Derived.Carry
import Derived.Deep.DeepHandedRow
import Derived.SevenTiedAt
import Derived.Test.YtffemeicclhioaaGreatDoorJ13
import Derived.Deep.CutRange
import Derived.Test.YtffemeicclhioaaGreatDoorTblRef
import Derived.Laws.AppendOwn
import Derived.Laws.OwnMore
namespace Go.Proofs.YtffemeicclhioaaGreatDoor
open Go.RowKit

theorem RsB.mono {w : World} {b b' : Nat} {v : Value} {ns : List Int} (h : RsB w b v ns) (hb : b ≤ b') : RsB w b' v ns := by
 rcases h with h | ⟨sb, so, cap, h1, h2, h3⟩
 ·
  exact Or.inl h
 ·
  exact Or.inr ⟨sb, so, cap, h1, by omega, h3⟩
theorem LsB.mono {α : Type} {size : Nat} {w : World} {b b' : Nat} {v : Value} {ps : List (Array Value × α)} (h : LsB size w b v ps) (hb : b ≤ b') : LsB size w b' v ps := by
 rcases h with h | ⟨sb, so, cap, h1, h2, h3⟩
 ·
  exact Or.inl h
 ·
  exact Or.inr ⟨sb, so, cap, h1, by omega, h3⟩
end Go.Proofs.YtffemeicclhioaaGreatDoor
namespace Go.Proofs.YtffemeicclhioaaGreatDoor
open Go.RowKit

theorem penL_len {α : Type} (lo hi : Int) (one : α → Pr) (xs : List α) : (penL lo hi one xs).1.length = 1 + (penAll one xs).1.length := by
 simp only [penL, penSeq, penNum, List.length_append, List.length_singleton]
section
variable {w w' : World} {b : Nat}
abbrev SameLow (b : Nat) (w w' : World) : Prop := ∀ k, k < b → w'.heap[k]? = w.heap[k]?
theorem RsB.same {v : Value} {ns : List Int} (h : RsB w b v ns) (hw : SameLow b w w') : RsB w' b v ns := by
 rcases h with h | ⟨sb, so, cap, h1, h2, h3⟩
 ·
  exact Or.inl h
 ·
  exact Or.inr ⟨sb, so, cap, h1, h2, fun i hi => (World.cell?_of_block (a := ⟨sb, so + i, none⟩) (hw sb h2)).trans (h3 i hi)⟩
theorem LsB.same {α : Type} {size : Nat} {v : Value} {ps : List (Array Value × α)} (h : LsB size w b v ps) (hw : SameLow b w w') : LsB size w' b v ps := by
 rcases h with h | ⟨sb, so, cap, h1, h2, h3⟩
 ·
  exact Or.inl h
 ·
  exact Or.inr ⟨sb, so, cap, h1, h2, fun i hi j x hx => (World.cell?_of_block (a := ⟨sb, so + i * size + j, none⟩) (hw sb h2)).trans (h3 i hi j x hx)⟩
end
end Go.Proofs.YtffemeicclhioaaGreatDoor
namespace Go.Proofs.YtffemeicclhioaaGreatDoor
open Go.RowKit

theorem Pn.seq {w : World} {b : Nat} {l : List UInt8} {bad : Bool} {X A : Pr} (h : Pn w b (l ++ X.1 ++ A.1) (bad || X.2 || A.2)) : Pn w b (l ++ (penSeq X A).1) (bad || (penSeq X A).2) := by
 simpa only [penSeq, ← List.append_assoc, ← Bool.or_assoc] using h
theorem penNum_len (lo hi x : Int) : (penNum lo hi x).1.length = 1 := rfl
end Go.Proofs.YtffemeicclhioaaGreatDoor
namespace Go.Proofs.YtffemeicclhioaaGreatDoor
open Go.RowKit

set_option maxHeartbeats 1000000 in
theorem agrees_sameE (e f b a : Int) (w : World) : Calls Tryz.prog 7 #[flt e f b a, flt e f b a] w fun x w' => x = .returned (.bool true) ∧ Below w.heap.size w w' := by
 unfold flt
 go_enter Tryz.func7, Tryz.ntmps7
 go_wp2
 go_ret
 exact ⟨rfl, by go_grown⟩
theorem al1 (w : World) (X : Obj) : (w.alloc X).heap[w.heap.size]? = some X ∧ Below w.heap.size w (w.alloc X) ∧ (w.alloc X).heap.size = w.heap.size + 1 :=
 ⟨heap_alloc_new w _, (Below.refl w.heap.size w).alloc (Nat.le_refl _) _, by simp⟩
end Go.Proofs.YtffemeicclhioaaGreatDoor
namespace Go.Proofs.YtffemeicclhioaaGreatDoor
open Go.ChangeShapes Go.WideShapes Go.ChangeAt Go.RowKit

theorem Tryz.ownE : ownKnob Tryz.prog.godebug = none := by kernel_rfl
theorem Tryz.laidOutE : laidOutB Tryz.prog = true := by kernel_rfl
theorem Tryz.etE : Tryz.prog.globalNamed "errors.errorType" = some 0 := by kernel_rfl
theorem Tryz.rtE : (Tryz.prog.cutTypes.find? (·.1 == "internal/reflectlite.rtype")).map (·.2) = some 129 := by kernel_rfl
theorem Tryz.oneRowE : ((List.range 208).filter fun t => Tryz.prog.rowNamed t [101, 114, 114, 111, 114]) = [45] := by kernel_rfl
theorem Tryz.sizeE : Tryz.prog.types.size = 208 := by kernel_rfl
theorem Tryz.handE : typeHandle Tryz.prog 45 = .pointer (some ⟨2, 45, none⟩) := by kernel_rfl
theorem Tryz.gNeedE : Tryz.prog.globalNamed "prologue/program.needed" = some 1 := by kernel_rfl
theorem Tryz.gNeedTE : (Tryz.prog.globals[1]?).map (·.type) = some 168 := by kernel_rfl
theorem Tryz.cellsFieldsE : Tryz.prog.cellsOf 159 = 1 := by kernel_rfl
theorem Tryz.cellsNeedE : Tryz.prog.cellsOf 168 = 19 := by kernel_rfl
theorem needDataE : (Rows.laid_prologue_program_needed : DataW Unit) = Lib.tabData .u8 needL := by kernel_rfl
theorem needs_of_reads {W : World} (h : Lib.VarReads Tryz.prog W "prologue/program.needed" Rows.laid_prologue_program_needed) : NeedsAt W := by
 obtain ⟨g, t, cs, fuel, p, hg, ht, hv, hd⟩ := h
 obtain rfl := Option.some.inj (Tryz.gNeedE.symm.trans hg)
 obtain rfl := Option.some.inj (Tryz.gNeedTE.symm.trans ht)
 rw [needDataE] at hd
 have hc := Lib.cells_of_tab Tryz.underlying168 Tryz.underlying159 Tryz.cellsFieldsE Tryz.cellsNeedE hd
 intro k hk
 rw [World.var?_cell Tryz.gNeedE hv k]
 have h1 : cs[k]? = (needL.map fun z => Value.int .u8 z)[k]? := by rw [← hc]; simp
 rw [h1, List.getElem?_map]
 have h2 : needL[k]? = some (needL.getD k 0) := by
  have : k < needL.length := hk
  simp [List.getD, this]
 rw [h2]
 rfl
theorem errTy_of {W : World} {l : List (String × DataW Unit)} (h : laidMetH Tryz.prog l W) (hm : ("errors.errorType", Rows.laid_errors_errorType) ∈ l.filter fun x => x.2.handleName?.isSome) : ErrTy W := by
 obtain ⟨-, h2⟩ := laidMetH_iff.1 h
 obtain ⟨name, u, ty, e1, e2, e3, e4, e5⟩ := h2 ("errors.errorType", Rows.laid_errors_errorType) hm
 have en : name = [101, 114, 114, 111, 114] := (Option.some.inj e1).symm
 subst en
 obtain rfl := Option.some.inj (Tryz.rtE.symm.trans e2)
 have hm : ty ∈ (List.range 208).filter fun t => Tryz.prog.rowNamed t [101, 114, 114, 111, 114] := List.mem_filter.2 ⟨List.mem_range.2 (by rw [← Tryz.sizeE]; exact e3), e4⟩
 rw [Tryz.oneRowE] at hm
 obtain rfl := List.mem_singleton.1 hm
 rw [Tryz.handE] at e5
 simpa using World.var?_cell Tryz.etE e5 0
def layErrE (w : World) : World :=
 { w with heap := w.heap.modify 0 fun
  | .cells _ t frozen => .cells #[.iface 129 (.agg #[.pointer (some ⟨2, 45, none⟩)])] t frozen
  | o => o }
end Go.Proofs.YtffemeicclhioaaGreatDoor
namespace Go.Proofs.YtffemeicclhioaaGreatDoor
open Go.ChangeShapes Go.WideShapes Go.ChangeAt Go.RowKit

theorem penAll_len1 {α : Type} (one : α → Pr) (c : Nat) (h : ∀ x, (one x).1.length = c) : ∀ xs : List α, (penAll one xs).1.length = c * xs.length
 | [] => by simp [penAll]
 | x :: xs => by
  have h1 := h x
  have h2 := penAll_len1 one c h xs
  simp only [penAll, penSeq, List.length_append, List.length_cons, Nat.mul_succ]
  omega
theorem shapeLs_le (op : Int) : (Zao op).length ≤ 4 := by
 have hall : ∀ x ∈ shapeL, x.toList.length ≤ 4 := by decide
 unfold Zao shapeB
 split
 ·
  have : shapeL.getD op.toNat #[63] ∈ shapeL ∨ shapeL.getD op.toNat #[63] = #[63] := by
   rcases Nat.lt_or_ge op.toNat shapeL.length with h | h
   ·
    left
    have e : shapeL.getD op.toNat #[63] = shapeL[op.toNat] := by simp [List.getD, h]
    rw [e]
    exact List.getElem_mem h
   ·
    right
    simp [List.getD, List.getElem?_eq_none h]
  rcases this with h | h
  ·
   exact hall _ h
  ·
   simp only [h]; decide
 ·
  decide
theorem penPart_le (i : InsE) (c : UInt8) : (penPart i c).1.length ≤ 9 + 2 * i.args.length + i.outs.length := by
 have ha : (penL 0 8 penArg i.args).1.length = 1 + 2 * i.args.length := by rw [penL_len, penAll_len1 penArg 2 (fun _ => rfl)]
 have ho : (penL 0 4 (penNum 0 255) i.outs).1.length = 1 + 1 * i.outs.length := by rw [penL_len, penAll_len1 (penNum 0 255) 1 (fun _ => rfl)]
 have hn : (opB i.n 8).length = 8 := by simp [opB]
 unfold penPart
 repeat' split
 all_goals first | (simp only [penNum_len]; omega) | (rw [ha]; omega) | (rw [ho]; omega) | (show (opB i.n 8).length ≤ _; rw [hn]; omega) | (show (1 : Nat) ≤ _; omega) | (show (0 : Nat) ≤ _; omega)
theorem penIns_le (i : InsE) : (penIns i).1.length ≤ 8 * mIns i := by
 have h1 := shapeLs_le i.op
 have h2 : ∀ ls : List UInt8, (penAll (penPart i) ls).1.length ≤ (9 + 2 * i.args.length + i.outs.length) * ls.length := by
  intro ls
  induction ls with
  | nil => simp [penAll]
  | cons c cs ih =>
   have := penPart_le i c
   simp only [penAll, penSeq, List.length_append, List.length_cons, Nat.mul_succ]
   omega
 have h3 := h2 (Zao i.op)
 have h4 : (9 + 2 * i.args.length + i.outs.length) * (Zao i.op).length ≤ (9 + 2 * i.args.length + i.outs.length) * 4 := Nat.mul_le_mul_left _ h1
 simp only [penIns, penSeq, List.length_append, penNum_len, List.length_nil, mIns]
 omega
end Go.Proofs.YtffemeicclhioaaGreatDoor
namespace Go.Proofs.YtffemeicclhioaaGreatDoor
open Go.RowKit

/-- No signature has a number below nothing. -/
structure FitS (p : ProgE) : Prop where
 funcs : ∀ k, k < p.funcs.length → numsIn (sigE (p.funcs.getD k Zaj)).1 0 8 = true
 externs : ∀ k, k < p.externs.length → numsIn (p.externs.getD k ([], 0)).1 0 8 = true
theorem Li.setRow {w : World} {T : Nat} {cs : Array Value} {v : Value} {ns : List Int} (h : Li w v ns) (hne : ∀ sb so n c, v = .slice (some ⟨sb, so, none⟩) n c → 0 < ns.length → sb ≠ T) : Li (w.setRow T cs) v ns := by
 obtain ⟨p, cap, h1, h2, h3, h4⟩ := h
 refine ⟨p, cap, h1, h2, h3, fun h0 => ?_⟩
 obtain ⟨sb, so, e, hc⟩ := h4 h0
 subst e
 have hn := hne sb so _ _ h1 h0
 refine ⟨sb, so, rfl, fun i hi => ?_⟩
 rw [← hc i hi]
 unfold World.cell?
 simp only [setRow_other w T sb cs hn]
def nz (z : Int) : Int := if z = 0 then 0 else 1
theorem cont_snoc (xs : List UInt8) (c L : UInt8) (h : xs.contains L = false) : (xs ++ [c]).contains L = decide (c = L) := by
 have h2 : ¬ (L ∈ xs) := by simpa using h
 simp only [List.contains_eq_mem, List.mem_append, List.mem_singleton]
 simp [h2, eq_comm]
theorem u8_eq (c L : UInt8) : decide (c = L) = ((c.toNat : Int) == (L.toNat : Int)) := by
 rw [show ((c.toNat : Int) == (L.toNat : Int)) = decide ((c.toNat : Int) = (L.toNat : Int)) from rfl]
 exact decide_eq_decide.2 ⟨fun h => by rw [h], fun h => UInt8.toNat_inj.1 (by omega)⟩
def okc (ls : List UInt8) (na no : Nat) (k : Nat) : Bool := if k = 0 then !(decide (0 < na) && !ls.contains 82) else !(decide (0 < no) && !ls.contains 79)
def zn (ls : List UInt8) (n : Int) : Int := if ls.contains 110 then 0 else n
/-- Where the walk of right stands: the row at T is what is looked at. -/
structure RSk (W wc : World) (T : Nat) (Y : Array Value) : Prop where
 low : Below T W wc
 row : wc.heap[T]? = some (.cells Y 76 (0, 0))
theorem RSk.set {W wc : World} {T : Nat} {Y : Array Value} (h : RSk W wc T Y) (j : Nat) (v : Value) : RSk W (wc.setCell ⟨T, j, none⟩ v) T (Y.setIfInBounds j v) :=
 ⟨⟨h.low.os, h.low.tape, h.low.output, by simpa using h.low.size, fun q hq => (heap_setCell_other _ _ _ _ (by show q ≠ T; omega)).trans (h.low.block q hq)⟩, heap_setCell_same _ _ _ _ _ _ h.row⟩
theorem RSk.cell {W wc : World} {T : Nat} {Y : Array Value} (h : RSk W wc T Y) (j : Nat) : wc.cell? ⟨T, j, none⟩ = Y[j]? := Zab h.row j
theorem RSk.fz {W wc : World} {T : Nat} {Y : Array Value} (h : RSk W wc T Y) (j : Nat) : wc.frozen? ⟨T, j, none⟩ = false := frozen_of_row _ _ j _ _ h.row
theorem RSk.low_row {W wc : World} {T g : Nat} {Y : Array Value} {o : Obj} (h : RSk W wc T Y) (hg : g < T) (hr : W.heap[g]? = some o) : wc.heap[g]? = some o := (h.low.block g hg).trans hr
theorem spare_tab : ∀ k : Fin 18, ∀ b0 b1 b2 b3 b4 b5 b6 : Bool, (bits .andNot .u8 (fillU [b0, b1, b2, b3, b4, b5, b6] 7) (needL.getD (k.val + 1) 0) != 0) = ((b0 && !((shapeL.getD (k.val + 1) #[63]).toList.contains 68)) || (b1 && !((shapeL.getD (k.val + 1) #[63]).toList.contains 65)) || (b2 && !((shapeL.getD (k.val + 1) #[63]).toList.contains 66)) || (b3 && !((shapeL.getD (k.val + 1) #[63]).toList.contains 110 || (shapeL.getD (k.val + 1) #[63]).toList.contains 78)) || (b4 && !((shapeL.getD (k.val + 1) #[63]).toList.contains 70)) || (b5 && !((shapeL.getD (k.val + 1) #[63]).toList.contains 82)) || (b6 && !((shapeL.getD (k.val + 1) #[63]).toList.contains 79))) := by decide +kernel
theorem spare_eq {op d a bb n fx : Int} {gs : List (Int × Int)} {os : List Int} (h1 : 1 ≤ op) (h2 : op ≤ 18) : InsE.spare ⟨op, d, a, bb, n, fx, gs, os⟩ = (((d != 0) && !((Zao op).contains 68)) || ((a != 0) && !((Zao op).contains 65)) || ((bb != 0) && !((Zao op).contains 66)) || ((n != 0) && !((Zao op).contains 110 || (Zao op).contains 78)) || ((fx != 0) && !((Zao op).contains 70)) || (((gs.length : Int) != 0) && !((Zao op).contains 82)) || (((os.length : Int) != 0) && !((Zao op).contains 79))) := by
 obtain ⟨k, rfl⟩ : ∃ k : Fin 18, op = (k.val : Int) + 1 := ⟨⟨(op - 1).toNat, by omega⟩, by simp; omega⟩
 have e1 : ((k.val : Int) + 1).toNat = k.val + 1 := by omega
 have e2 : Zao ((k.val : Int) + 1) = (shapeL.getD (k.val + 1) #[63]).toList := by unfold Zao shapeB; rw [if_pos (by omega), e1]
 rw [e2]
 show (bits .andNot .u8 (fillU [d != 0, a != 0, bb != 0, n != 0, fx != 0, (gs.length : Int) != 0, (os.length : Int) != 0] 7) (needL.getD ((k.val : Int) + 1).toNat 0) != 0) = _
 rw [e1]
 exact spare_tab k _ _ _ _ _ _ _
theorem spare_list0 {op d a bb n fx : Int} {gs : List (Int × Int)} {os : List Int} {ls : List UInt8} (h1 : 1 ≤ op) (h2 : op ≤ 18) (hl : ls = Zao op) (hc : ls.contains 82 = false) (hg : 0 < gs.length) : InsE.spare ⟨op, d, a, bb, n, fx, gs, os⟩ = true := by
 rw [spare_eq h1 h2, ← hl, hc]
 have : ((gs.length : Int) != 0) = true := by simp; intro h; rw [h] at hg; simp at hg
 rw [this]
 simp
theorem spare_list1 {op d a bb n fx : Int} {gs : List (Int × Int)} {os : List Int} {ls : List UInt8} (h1 : 1 ≤ op) (h2 : op ≤ 18) (hl : ls = Zao op) (hc : ls.contains 79 = false) (hg : 0 < os.length) : InsE.spare ⟨op, d, a, bb, n, fx, gs, os⟩ = true := by
 rw [spare_eq h1 h2, ← hl, hc]
 have : ((os.length : Int) != 0) = true := by simp; intro h; rw [h] at hg; simp at hg
 rw [this]
 simp
theorem nz_in (z : Int) : (penNum 0 255 (nz z)).2 = false := by unfold penNum nz; split <;> decide
theorem pen_bad (op d a bb n0 fx : Int) (h1 : 1 ≤ op) (h2 : op ≤ 18) (h255 : (Zao op).contains 110 = true → n0 = 0) : (penIns ⟨op, nz d, nz a, nz bb, n0, nz fx, [], []⟩).2 = !restB ⟨op, nz d, nz a, nz bb, n0, nz fx, [], []⟩ (Zao op) := by
 have hp : ∀ c ∈ Zao op, (penPart ⟨op, nz d, nz a, nz bb, n0, nz fx, [], []⟩ c).2 = false := fun c hc => by
  by_cases hc1 : c = 110
  ·
   subst hc1
   have h0 := h255 (by simpa using hc)
   subst h0
   rfl
  ·
   unfold penPart
   repeat' split
   all_goals first | exact nz_in _ | rfl | contradiction
 have ha : ∀ ls : List UInt8, (∀ c ∈ ls, (penPart ⟨op, nz d, nz a, nz bb, n0, nz fx, [], []⟩ c).2 = false) → (penAll (penPart ⟨op, nz d, nz a, nz bb, n0, nz fx, [], []⟩) ls).2 = false := fun ls => by
  induction ls with
  | nil => intro _; rfl
  | cons c cs ih => intro h; simp only [penAll, penSeq]; rw [h c (by simp), ih (fun x hx => h x (by simp [hx]))]; rfl
 simp only [penIns, penSeq]
 rw [ha _ hp]
 have : (penNum 1 18 op).2 = false := by unfold penNum; simp; omega
 rw [this]
 rfl
theorem zap_nz (ls : List UInt8) (c : UInt8) (x : Int) : (zap ls c (nz x) == 0) = !((x != 0) && !(ls.contains c)) := by
 unfold zap nz
 cases ls.contains c with
 | true => simp
 | false =>
  by_cases h : x = 0
  ·
   simp [h]
  ·
   simp [h]
theorem zapN_zn (ls : List UInt8) (n : Int) : (zapN ls (zn ls n) == 0) = !((n != 0) && !(ls.contains 110 || ls.contains 78)) := by
 unfold zapN zn
 cases ls.contains 110 with
 | true => simp
 | false =>
  cases ls.contains 78 with
  | true => simp
  | false =>
   show (n == 0) = !((n != 0) && !(false || false))
   cases h : (n == 0) <;> simp [bne, h]
theorem bad_eq {op d a bb n fx n0 : Int} {gs : List (Int × Int)} {os : List Int} {ls : List UInt8} (h1 : 1 ≤ op) (h2 : op ≤ 18) (hl : ls = Zao op) (hn : zn ls n = n0) (h8 : okc ls gs.length os.length 0 = true) (h9 : okc ls gs.length os.length 1 = true) : (penIns ⟨op, nz d, nz a, nz bb, n0, nz fx, [], []⟩).2 = InsE.spare ⟨op, d, a, bb, n, fx, gs, os⟩ := by
 rw [pen_bad op d a bb n0 fx h1 h2 (fun h => by rw [← hl] at h; rw [← hn]; unfold zn; rw [h]; rfl), spare_eq h1 h2, ← hl]
 have g8 : (((gs.length : Int) != 0) && !(ls.contains 82)) = false := by
  unfold okc at h8
  rw [if_pos rfl] at h8
  have e : ((gs.length : Int) != 0) = decide (0 < gs.length) := by
   rcases Nat.eq_zero_or_pos gs.length with h | h
   ·
    simp [h]
   ·
    have : ((gs.length : Int) != 0) = true := by simp; intro hh; rw [hh] at h; simp at h
    rw [this, decide_eq_true h]
  rw [e]
  simpa only [Bool.not_eq_true'] using h8
 have g9 : (((os.length : Int) != 0) && !(ls.contains 79)) = false := by
  unfold okc at h9
  rw [if_neg (by decide)] at h9
  have e : ((os.length : Int) != 0) = decide (0 < os.length) := by
   rcases Nat.eq_zero_or_pos os.length with h | h
   ·
    simp [h]
   ·
    have : ((os.length : Int) != 0) = true := by simp; intro hh; rw [hh] at h; simp at h
    rw [this, decide_eq_true h]
  rw [e]
  simpa only [Bool.not_eq_true'] using h9
 rw [g8, g9]
 subst hn
 have e82 : ((zapL ls 82 ([] : List (Int × Int)).length : Int) == 0) = true := by unfold zapL; split <;> rfl
 have e79 : ((zapL ls 79 ([] : List Int).length : Int) == 0) = true := by unfold zapL; split <;> rfl
 show (!nothingB (zap ls 68 (nz d)) (zap ls 65 (nz a)) (zap ls 66 (nz bb)) (zapN ls (zn ls n)) (zap ls 70 (nz fx)) (zapL ls 82 ([] : List (Int × Int)).length) (zapL ls 79 ([] : List Int).length)) = _
 unfold nothingB
 rw [zap_nz, zap_nz, zap_nz, zapN_zn, zap_nz, e82, e79]
 generalize ((d != 0) && !(ls.contains 68)) = b0
 generalize ((a != 0) && !(ls.contains 65)) = b1
 generalize ((bb != 0) && !(ls.contains 66)) = b2
 generalize ((n != 0) && !(ls.contains 110 || ls.contains 78)) = b3
 generalize ((fx != 0) && !(ls.contains 70)) = b4
 cases b0 <;> cases b1 <;> cases b2 <;> cases b3 <;> cases b4 <;> rfl
theorem okc0_t {ls : List UInt8} {na no : Nat} (h : ls.contains 82 = true) : okc ls na no 0 = true := by
 unfold okc
 rw [if_pos rfl, h]
 cases decide (0 < na) <;> rfl
theorem okc1_t {ls : List UInt8} {na no : Nat} (h : ls.contains 79 = true) : okc ls na no 1 = true := by
 unfold okc
 rw [if_neg (by decide), h]
 cases decide (0 < no) <;> rfl
theorem okc0_n {ls : List UInt8} {na no : Nat} (h : ¬ 0 < na) : okc ls na no 0 = true := by
 unfold okc
 rw [if_pos rfl, decide_eq_false h]
 rfl
theorem okc1_n {ls : List UInt8} {na no : Nat} (h : ¬ 0 < no) : okc ls na no 1 = true := by
 unfold okc
 rw [if_neg (by decide), decide_eq_false h]
 rfl
theorem rows5 (w : World) (X0 X1 X2 X3 X4 : Obj) : (((((w.alloc X0).alloc X1).alloc X2).alloc X3).alloc X4).heap[w.heap.size]? = some X0 ∧ (((((w.alloc X0).alloc X1).alloc X2).alloc X3).alloc X4).heap[w.heap.size + 1]? = some X1 ∧ (((((w.alloc X0).alloc X1).alloc X2).alloc X3).alloc X4).heap[w.heap.size + 1 + 1]? = some X2 ∧ (((((w.alloc X0).alloc X1).alloc X2).alloc X3).alloc X4).heap[w.heap.size + 1 + 1 + 1]? = some X3 ∧ (((((w.alloc X0).alloc X1).alloc X2).alloc X3).alloc X4).heap.size = w.heap.size + 1 + 1 + 1 + 1 + 1 := by
 obtain ⟨r0, b0, s0⟩ := al0 w X0
 obtain ⟨r1, b1, s1⟩ := al0 (w.alloc X0) X1
 obtain ⟨r2, b2, s2⟩ := al0 ((w.alloc X0).alloc X1) X2
 obtain ⟨r3, b3, s3⟩ := al0 (((w.alloc X0).alloc X1).alloc X2) X3
 obtain ⟨r4, b4, s4⟩ := al0 ((((w.alloc X0).alloc X1).alloc X2).alloc X3) X4
 rw [s0] at r1
 rw [s1, s0] at r2
 rw [s2, s1, s0] at r3
 exact ⟨(b4.block _ (by omega)).trans ((b3.block _ (by omega)).trans ((b2.block _ (by omega)).trans ((b1.block _ (by omega)).trans r0))), (b4.block _ (by omega)).trans ((b3.block _ (by omega)).trans ((b2.block _ (by omega)).trans r1)), (b4.block _ (by omega)).trans ((b3.block _ (by omega)).trans r2), (b4.block _ (by omega)).trans r3, by omega⟩
end Go.Proofs.YtffemeicclhioaaGreatDoor
namespace Go.Proofs.YtffemeicclhioaaGreatDoor
open Go.RowKit

/-- A table, with its lists. -/
structure TbE where
 r : Int
 sp : Int
 lk : Int
 t0 : Int
 t1 : Int
 pa : Option Addr
 ag : List Int
 ca : Nat
 pr : Option Addr
 rs : List Int
 cr : Nat
 ps : Option Addr
 ss : List Int
 cs : Nat
 al : Int
 sh : Int
 br : Int
 pairs : Bool
def TbE.box (T : TbE) : Array Value := #[.int .i64 T.r, .int .i64 T.sp, .int .i64 T.lk, .int .i64 T.t0, .int .i64 T.t1, .slice T.pa T.ag.length T.ca, .slice T.pr T.rs.length T.cr, .slice T.ps T.ss.length T.cs, .int .i64 T.al, .int .i64 T.sh, .int .i64 T.br, .bool T.pairs]
/-- Its lists lie below b. -/
structure TbR (w : World) (b : Nat) (T : TbE) : Prop where
 a : RsB w b (.slice T.pa T.ag.length T.ca) T.ag
 r : RsB w b (.slice T.pr T.rs.length T.cr) T.rs
 s : RsB w b (.slice T.ps T.ss.length T.cs) T.ss
theorem RsB.at {w : World} {b : Nat} {p : Option Addr} {c : Nat} {ns : List Int} (h : RsB w b (.slice p ns.length c) ns) {k : Nat} (hk : k < ns.length) : ∃ sb so, p = some ⟨sb, so, none⟩ ∧ sb < b ∧ ∀ i, i < ns.length → w.cell? ⟨sb, so + i, none⟩ = some (.int .i64 (ns.getD i 0)) := by
 rcases h with ⟨e, -⟩ | ⟨sb, so, cap, hv, hb, hc⟩
 ·
  rw [e] at hk; simp at hk
 ·
  injection hv with h1 h2 h3
  exact ⟨sb, so, h1, hb, hc⟩
theorem TbR.gb {w w' : World} {b : Nat} {T : TbE} (h : TbR w b T) (hw : w.grownBy w' (some b)) (hb : b < w.heap.size) : TbR w' b T := ⟨h.a.gb hw hb, h.r.gb hw hb, h.s.gb hw hb⟩
/-- What is giving places. -/
def givA (T : TbE) (s : GivS) : Array Value := #[.int .i64 T.r, .int .i64 T.sp, .int .i64 T.lk, .int .i64 T.t0, .int .i64 T.t1, .slice T.pa T.ag.length T.ca, .slice T.pr T.rs.length T.cr, .slice T.ps T.ss.length T.cs, .int .i64 T.al, .int .i64 T.sh, .int .i64 T.br, .bool T.pairs, .int .i64 s.u, .int .i64 s.c, .int .i64 s.p]
def GivR (w : World) (G : Nat) (T : TbE) (s : GivS) : Prop := w.heap[G]? = some (.cells (givA T s) 164 (0, 0))
def PlO (w : World) (B : Nat) (v : Value) (xs : List (Int × Int)) : Prop := w.ownsRow B 119 2 v xs.length (plC xs)
def noSpt : SptE := ⟨[], false, 0⟩
def spsC (pvs : List Value) (sps : List SptE) : List Value := (pvs.zip sps).flatMap fun x => [x.1, .bool x.2.ref, .int .i64 x.2.at_]
structure LayO (w : World) (B : Nat) (av rv : Value) (l : LayE) (pvs : List Value) : Prop where
 len : pvs.length = l.args.length
 args : w.ownsRow B 118 3 av l.args.length (spsC pvs l.args)
 each : ∀ k, k < l.args.length → PlO w B (pvs.getD k undef) (l.args.getD k noSpt).pl
 res : PlO w B rv l.res
theorem spsC_snoc (pvs : List Value) (sps : List SptE) (pv : Value) (sp : SptE) (h : pvs.length = sps.length) : spsC (pvs ++ [pv]) (sps ++ [sp]) = spsC pvs sps ++ [pv, .bool sp.ref, .int .i64 sp.at_] := by
 unfold spsC
 rw [List.zip_append h]
 simp
/-- What a world keeps of its rows, all but one. -/
theorem own_gb {w w' : World} {B n size : Nat} {e : TypeId} {v : Value} {xs : List Value} {o : Option Nat} (h : w.ownsRow B e size v n xs) (hg : w.grownBy w' o) (hne : ∀ g, v.ownBlock = some g → o ≠ some g) : w'.ownsRow B e size v n xs :=
 h.kept hg (by
  cases hv : v.ownBlock with
  | none => exact Or.inl rfl
  | some g => exact Or.inr (fun e => hne g hv e.symm))
theorem gbc_set {w u : World} {b j : Nat} {v : Value} (h : w.grownBy u (some b)) : w.grownBy (u.setCell ⟨b, j, none⟩ v) (some b) :=
 ⟨h.os, h.tape, h.output, by simpa using h.size, fun q hq hne => (heap_setCell_other _ _ _ _ (by intro e; exact hne (by rw [e]))).trans (h.block q hq hne)⟩
theorem gbc_new {w u : World} {b : Nat} (X : Obj) (h : w.grownBy u (some b)) : w.grownBy (u.alloc X) (some b) :=
 ⟨h.os, h.tape, h.output, by have := h.size; simp; omega, fun q hq hne => ((al0 u X).2.1.block q (Nat.lt_of_lt_of_le hq h.size)).trans (h.block q hq hne)⟩
theorem gbc_self (w : World) (o : Option Nat) : w.grownBy w o := ⟨rfl, rfl, rfl, Nat.le_refl _, fun _ _ _ => rfl⟩
theorem GivR.lt {w : World} {G : Nat} {T : TbE} {s : GivS} (h : GivR w G T s) : G < w.heap.size := row_lt h
theorem GivR.new {w : World} {G : Nat} {T : TbE} {s : GivS} (h : GivR w G T s) (X : Obj) : GivR (w.alloc X) G T s := ((al0 w X).2.1.block G h.lt).trans h
theorem GivR.gb {w w' : World} {G : Nat} {T : TbE} {s : GivS} (h : GivR w G T s) (hg : w.grownBy w' none) : GivR w' G T s := (hg.block G h.lt (by simp)).trans h
theorem GivR.u {w : World} {G : Nat} {T : TbE} {s : GivS} (h : GivR w G T s) (n : Nat) : GivR (w.setCell ⟨G, 12, none⟩ (.int .i64 n)) G T ⟨n, s.c, s.p⟩ := heap_setCell_same _ _ _ _ _ _ h
theorem GivR.c {w : World} {G : Nat} {T : TbE} {s : GivS} (h : GivR w G T s) (n : Int) : GivR (w.setCell ⟨G, 13, none⟩ (.int .i64 n)) G T ⟨s.u, n, s.p⟩ := heap_setCell_same _ _ _ _ _ _ h
theorem GivR.p {w : World} {G : Nat} {T : TbE} {s : GivS} (h : GivR w G T s) (n : Int) : GivR (w.setCell ⟨G, 14, none⟩ (.int .i64 n)) G T ⟨s.u, s.c, n⟩ := heap_setCell_same _ _ _ _ _ _ h
theorem GivR.cell {w : World} {G : Nat} {T : TbE} {s : GivS} (h : GivR w G T s) (j : Nat) : w.cell? ⟨G, j, none⟩ = (givA T s)[j]? := Zab h j
theorem GivR.oth {w : World} {G b j : Nat} {v : Value} {T : TbE} {s : GivS} (h : GivR w G T s) (hne : G ≠ b) : GivR (w.setCell ⟨b, j, none⟩ v) G T s := (heap_setCell_other _ _ _ _ hne).trans h
theorem gbc_oth {w u : World} {b j : Nat} {v : Value} {o : Option Nat} (h : w.grownBy u o) (hb : w.heap.size ≤ b) : w.grownBy (u.setCell ⟨b, j, none⟩ v) o :=
 ⟨h.os, h.tape, h.output, by simpa using h.size, fun q hq hne => (heap_setCell_other _ _ _ _ (by show q ≠ b; omega)).trans (h.block q hq hne)⟩
theorem gbc_row {w u : World} {T : Nat} {cs : Array Value} {o : Option Nat} (h : w.grownBy u o) (hb : w.heap.size ≤ T) : w.grownBy (u.setRow T cs) o :=
 ⟨h.os, h.tape, h.output, by have := h.size; simpa [World.setRow] using this, fun q hq hne => (setRow_other u T q cs (by omega)).trans (h.block q hq hne)⟩
theorem gbc_drew {w u : World} {o : Option Nat} (h : w.grownBy u o) (k : Nat) : w.grownBy (u.drewN k) o := ⟨h.os, h.tape, h.output, h.size, h.block⟩
theorem GivR.k5 {w : World} {G : Nat} {T : TbE} {s : GivS} (h : GivR w G T s) : w.cell? ⟨G, 5, none⟩ = some (.slice T.pa T.ag.length T.ca) := Zab h 5
theorem GivR.k6 {w : World} {G : Nat} {T : TbE} {s : GivS} (h : GivR w G T s) : w.cell? ⟨G, 6, none⟩ = some (.slice T.pr T.rs.length T.cr) := Zab h 6
theorem GivR.k10 {w : World} {G : Nat} {T : TbE} {s : GivS} (h : GivR w G T s) : w.cell? ⟨G, 10, none⟩ = some (.int .i64 T.br) := Zab h 10
theorem GivR.k11 {w : World} {G : Nat} {T : TbE} {s : GivS} (h : GivR w G T s) : w.cell? ⟨G, 11, none⟩ = some (.bool T.pairs) := Zab h 11
theorem GivR.k12 {w : World} {G : Nat} {T : TbE} {s : GivS} (h : GivR w G T s) : w.cell? ⟨G, 12, none⟩ = some (.int .i64 s.u) := Zab h 12
theorem GivR.k13 {w : World} {G : Nat} {T : TbE} {s : GivS} (h : GivR w G T s) : w.cell? ⟨G, 13, none⟩ = some (.int .i64 s.c) := Zab h 13
theorem GivR.k14 {w : World} {G : Nat} {T : TbE} {s : GivS} (h : GivR w G T s) : w.cell? ⟨G, 14, none⟩ = some (.int .i64 s.p) := Zab h 14
theorem GivR.fz {w : World} {G : Nat} {T : TbE} {s : GivS} (h : GivR w G T s) (j : Nat) : w.frozen? ⟨G, j, none⟩ = false := frozen_of_row _ _ j _ _ h
theorem gbc_trans {a b c : World} {o : Option Nat} (h : a.grownBy b o) (k : b.grownBy c o) : a.grownBy c o :=
 ⟨k.os.trans h.os, k.tape.trans h.tape, k.output.trans h.output, Nat.le_trans h.size k.size, fun q hq hne => (k.block q (Nat.lt_of_lt_of_le hq h.size) hne).trans (h.block q hq hne)⟩
theorem gb_ofB {a b : World} {o : Option Nat} (h : Below a.heap.size a b) : a.grownBy b o := ⟨h.os, h.tape, h.output, h.size, fun q hq _ => h.block q hq⟩
end Go.Proofs.YtffemeicclhioaaGreatDoor
namespace Go.Proofs.YtffemeicclhioaaGreatDoor
open Go.RowKit

def plW (ag : List Int) (s : GivS) : Int × Int := if s.u < ag.length then (ag.getD s.u 0, 0) else (-1, s.c)
def nxW (ag : List Int) (s : GivS) : GivS := if s.u < ag.length then ⟨s.u + 1, s.c, s.p⟩ else ⟨s.u, s.c + 8, s.p⟩
set_option maxHeartbeats 1000000 in
theorem gcell_c (T : TbE) (s : GivS) (G : Nat) (w : World) (hG : GivR w G T s) (hc0 : -1000000 ≤ s.c) (hc1 : s.c ≤ 1000000) :
 Calls Tryz.prog 90 #[.pointer (some ⟨G, 0, none⟩)] w fun e w' => e = .returned (.agg #[.int .i64 (-1), .int .i64 s.c]) ∧ GivR w' G T ⟨s.u, s.c + 8, s.p⟩ ∧ w.grownBy w' (some G) := by
 have HG := Zac hG
 have y := fun X : Obj => (hG.new X).k13
 have fz := fun X : Obj => (hG.new X).fz 13
 clear hG
 go_enter Tryz.func90, Tryz.ntmps90
 go_wp2
 go_returns
 have hlt := (Zaa HG).lt
 exact ⟨rfl, ((((Zaa HG).new _).c _).oth (by omega)).oth (by omega), gbc_oth (gbc_oth (gbc_set (gbc_new _ (gbc_self w _))) (Nat.le_refl _)) (Nat.le_refl _)⟩
set_option maxHeartbeats 1000000 in
theorem gcopy_c (T : TbE) (s : GivS) (G : Nat) (n : Int) (w : World) (hG : GivR w G T s) (hc0 : 0 ≤ s.p) (hc1 : s.p ≤ 1000000) (hn0 : 0 ≤ n) (hn1 : n ≤ 1000) :
 Calls Tryz.prog 88 #[.pointer (some ⟨G, 0, none⟩), .int .i64 n] w fun e w' => e = .returned (.int .i64 s.p) ∧ GivR w' G T ⟨s.u, s.c, s.p + 8 * n⟩ ∧ w.grownBy w' (some G) := by
 have HG := Zac hG
 have y := hG.k14
 have fz := hG.fz 14
 clear hG
 go_enter Tryz.func88, Tryz.ntmps88
 go_wp2
 go_ret
 exact ⟨rfl, (Zaa HG).p _, gbc_set (gbc_self w _)⟩
theorem Tryz.infPlK : (Tryz.prog.info? 119).map (·.size) = some 2 := by kernel_rfl
set_option maxHeartbeats 2000000 in
theorem gword_c (T : TbE) (s : GivS) (G : Nat) (w : World) (hG : GivR w G T s) (hT : TbR w G T) (hL : T.ag.length ≤ 1000000) (hu : s.u ≤ 1000000) (hc0 : -1000000 ≤ s.c) (hc1 : s.c ≤ 1000000) :
 Calls Tryz.prog 87 #[.pointer (some ⟨G, 0, none⟩)] w fun e w' => e = .returned (.agg #[.int .i64 (plW T.ag s).1, .int .i64 (plW T.ag s).2]) ∧ GivR w' G T (nxW T.ag s) ∧ w.grownBy w' (some G) := by
 have HG := Zac hG
 have HT := Zac hT
 have hlt := hG.lt
 have y := fun X : Obj => (hG.new X).k12
 have y5 := fun X : Obj => (hG.new X).k5
 have hl : T.ag.length < 9223372036854775808 := by omega
 clear hG hT
 go_enter Tryz.func87, Tryz.ntmps87
 go_wp2_with fail
 go_quiet (fail)
 clear y y5
 obtain ⟨hR, hB, hs⟩ := al0 w (.cells #[.int .i64 0, .int .i64 0] 119 (0, 0))
 have HGV := Zac (fun k : Nat => show GivR ((w.alloc (.cells #[.int .i64 0, .int .i64 0] 119 (0, 0))).drewN k) G T s from (Zaa HG).new _)
 have HTV := Zac (fun k : Nat => (Zaa HT).gb (gb_ofB (o := some G) (Zah hB k)) hlt)
 have HRV := Zac (fun k : Nat => show ((w.alloc (.cells #[.int .i64 0, .int .i64 0] 119 (0, 0))).drewN k).heap[w.heap.size]? = _ from hR)
 have HBV := Zac (fun k : Nat => gb_ofB (o := some G) (Zah hB k))
 have HSV := Zac (fun k : Nat => show ((w.alloc (.cells #[.int .i64 0, .int .i64 0] 119 (0, 0))).drewN k).heap.size = w.heap.size + 1 from hs)
 clear hR hB hs HG HT
 generalize World.alloc w _ = V0 at HGV HTV HRV HBV HSV ⊢
 generalize hk : V0.drewN _ = V
 obtain ⟨hGV, hTV, hRV, hBV, hSV⟩ : GivR V G T s ∧ TbR V G T ∧ V.heap[w.heap.size]? = some (.cells #[.int .i64 0, .int .i64 0] 119 (0, 0)) ∧ w.grownBy V (some G) ∧ V.heap.size = w.heap.size + 1 := by
  subst hk
  exact ⟨Zaa HGV _, Zaa HTV _, Zaa HRV _, Zaa HBV _, Zaa HSV _⟩
 clear hk HGV HTV HRV HBV HSV
 have HG := Zac hGV
 have HR := Zac hRV
 have HB := Zac hBV
 by_cases h : s.u < T.ag.length
 ·
  have HP := Zac (show plW T.ag s = (T.ag.getD s.u 0, 0) by unfold plW; rw [if_pos h])
  have HX := Zac (show nxW T.ag s = ⟨s.u + 1, s.c, s.p⟩ by unfold nxW; rw [if_pos h])
  obtain ⟨sb, so, hpa, -, hc⟩ := hTV.a.at h
  have c := hc s.u h
  have y := hGV.k12
  have y5 := hGV.k5
  rw [hpa] at y5
  have fz := hGV.fz 12
  have r0 := (Zab hRV 0).trans rfl
  have r1 := (Zab hRV 1).trans rfl
  have z0 := frozen_of_row _ _ 0 _ _ hRV
  have z1 := frozen_of_row _ _ 1 _ _ hRV
  clear hGV hTV hRV hBV hc
  generalize T.ag.getD s.u 0 = x at HP c
  go_wp2_with fail
  go_quiet (fail)
  go_wp2
  refine bodyPost_ret (resultsK (fn := Tryz.f87) (q := 2) (uy := 119) rfl _ _ w.heap.size 119 #[.int .i64 x, .int .i64 0] (0, 0) _ rfl (heap_setCell_same _ _ 1 _ _ _ (heap_setCell_same _ _ 0 _ _ _ ((heap_setCell_other _ _ _ _ (by show w.heap.size ≠ G; omega)).trans (Zaa HR)))) Tryz.underlying119 rfl (Tryz.infPlK.trans rfl)) rfl ?_
  refine ⟨by rw [Zaa HP], ?_, ?_⟩
  ·
   rw [Zaa HX]
   exact ((GivR.u (w := V.drewN _) (s := s) (Zaa HG) (s.u + 1)).oth (by omega)).oth (by omega)
  ·
   exact gbc_oth (gbc_oth (gbc_set (gbc_drew (Zaa HB) _)) (Nat.le_refl _)) (Nat.le_refl _)
 ·
  have HP := Zac (show plW T.ag s = (-1, s.c) by unfold plW; rw [if_neg h])
  have HX := Zac (show nxW T.ag s = ⟨s.u, s.c + 8, s.p⟩ by unfold nxW; rw [if_neg h])
  clear hGV hTV hRV hBV
  go_wp2_with fail
  refine (gcell_c T s G _ (Zaa HG) hc0 hc1).mono ?_
  rintro e w2 ⟨rfl, hg2, hgb⟩
  have hs2 := hgb.size
  have HR2 := Zac ((hgb.block w.heap.size (by omega) (by intro e; injection e with e; omega)).trans (Zaa HR))
  have HG2 := Zac hg2
  have HGB := Zac (gbc_trans (Zaa HB) hgb)
  clear hgb hg2 hs2
  go_wp2_with (refine wpList_store_row rfl 119 _ _ rfl w.heap.size #[.int .i64 (-1), .int .i64 s.c] rfl rfl 119 _ (Zaa HR2) (Tryz.infPlK.trans rfl) rfl (by simp [Value.oneCell']) ?_)
  refine bodyPost_ret (resultsK (fn := Tryz.f87) (q := 2) (uy := 119) rfl _ _ w.heap.size 119 #[.int .i64 (-1), .int .i64 s.c] (0, 0) _ rfl (setRow_heap _ _ _ _ _ _ (Zaa HR2)) Tryz.underlying119 rfl (Tryz.infPlK.trans rfl)) rfl ?_
  refine ⟨by rw [Zaa HP], ?_, ?_⟩
  ·
   rw [Zaa HX]
   exact (setRow_other _ _ _ _ (by omega)).trans (Zaa HG2)
  ·
   exact gbc_row (Zaa HGB) (Nat.le_refl _)
end Go.Proofs.YtffemeicclhioaaGreatDoor
namespace Go.Proofs.YtffemeicclhioaaGreatDoor
open Go.RowKit

theorem plC_of {xs : List Value} {n : Nat} (f : Nat → Int × Int) (hl : xs.length = n * 2) (h : ∀ j, j < n → xs[j * 2]? = some (.int .i64 (f j).1) ∧ xs[j * 2 + 1]? = some (.int .i64 (f j).2)) : xs = plC ((List.range n).map f) := by
 apply List.ext_getElem?
 intro i
 have hlen : (plC ((List.range n).map f)).length = n * 2 := by rw [plC_len]; simp
 by_cases hi : i < n * 2
 ·
  have hg := plC_get ((List.range n).map f) (i / 2) (by simp; omega)
  have hd : ((List.range n).map f).getD (i / 2) (0, 0) = f (i / 2) := by simp [List.getD, show i / 2 < n by omega]
  rw [hd] at hg
  have hx := h (i / 2) (by omega)
  rcases Nat.mod_two_eq_zero_or_one i with hm | hm
  ·
   have e : i = i / 2 * 2 := by omega
   rw [e, hx.1, hg.1]
  ·
   have e : i = i / 2 * 2 + 1 := by omega
   rw [e, hx.2, hg.2]
 ·
  rw [List.getElem?_eq_none (by omega), List.getElem?_eq_none (by omega)]
/-- How far a block's places are. -/
def blkS (L n : Nat) (u1 : Nat) (s : GivS) (k : Nat) : GivS := ⟨if rgS L n u1 = true then u1 + k else L, if rgS L n u1 = true then s.c else s.c + 8 * k, s.p⟩
theorem blk_word {ag : List Int} {n u1 : Nat} {s : GivS} {k : Nat} (hk : k < n) : plW ag (blkS ag.length n u1 s k) = plS ag (rgS ag.length n u1) u1 s.c k ∧ nxW ag (blkS ag.length n u1 s k) = blkS ag.length n u1 s (k + 1) := by
 unfold plW nxW blkS plS
 cases hr : rgS ag.length n u1 with
 | true =>
  have : u1 + n ≤ ag.length := by unfold rgS at hr; exact of_decide_eq_true hr
  simp only [if_true]
  rw [if_pos (by omega), if_pos (by omega)]
  exact ⟨rfl, rfl⟩
 | false =>
  simp only [Bool.false_eq_true, if_false]
  rw [if_neg (by omega), if_neg (by omega)]
  refine ⟨rfl, ?_⟩
  simp only [GivS.mk.injEq, true_and, and_true]
  omega
theorem Tryz.infoPl : (Tryz.prog.info? 119).map (fun i => (i.zero, i.size, i.bytes)) = some (some (.agg #[.int .i64 0, .int .i64 0]), 2, 16) := by kernel_rfl
theorem mkPl (n : Nat) (hn : n ≤ 1000) (w : World) : (Instr.makeSlice 83 (.int .i64 (n : Int)) (.int .i64 (n : Int))).run Tryz.prog w = .ok (.slice (some ⟨w.heap.size, 0, none⟩) n n) (w.alloc (.cells (madeCells #[.int .i64 0, .int .i64 0] (n * 2)) 119)) := by
 obtain ⟨ti, hti, hz0, hz1, hz2⟩ := info_K Tryz.infoPl
 have h := run_make (P := Tryz.prog) w 83 119 ti _ Tryz.underlying83 hti hz0 .i64 .i64 (n : Int) (n : Int) (by omega) (Int.le_refl _) (by rw [hz2]; omega) (by omega)
 rw [hz1, Int.toNat_natCast] at h
 exact h
set_option maxHeartbeats 4000000 in
set_option maxRecDepth 100000 in
theorem gblock_c (T : TbE) (s : GivS) (G n : Nat) (w : World) (hG : GivR w G T s) (hT : TbR w G T) (hn1 : 1 ≤ n) (hn8 : n ≤ 8) (hu : s.u ≤ T.ag.length) (hL : T.ag.length ≤ 1000) (hc0 : 0 ≤ s.c) (hc1 : s.c ≤ 1000) :
 Calls Tryz.prog 89 #[.pointer (some ⟨G, 0, none⟩), .int .i64 n] w fun e w' => ∃ v, e = .returned v ∧ PlO w' w.heap.size v ((List.range n).map (plS T.ag (rgS T.ag.length n (u1S T.pairs n s.u)) (u1S T.pairs n s.u) s.c)) ∧ GivR w' G T (blkS T.ag.length n (u1S T.pairs n s.u) s n) ∧ w.grownBy w' (some G) := by
 obtain ⟨ti, hti, hz0, hz1, hz2⟩ := info_K Tryz.infoPl
 have HG := Zac hG
 have HT := Zac hT
 have hlt := hG.lt
 have hu1 : u1S T.pairs n s.u ≤ s.u + 1 := by unfold u1S; split <;> omega
 clear hG hT
 go_enter Tryz.func89, Tryz.ntmps89
 go_upto_region 1 with fail
 go_cut [23] from 7 (fun b wc => wc = w ∧ b = .bool (decide (1 < n) && (T.pairs && decide (s.u % 2 = 1))))
 case first =>
  have y12 := (Zaa HG).k12
  have y11 := (Zaa HG).k11
  have HN := Zac (True.intro)
  cases hp : T.pairs with
  | false =>
   rw [hp] at y11
   have HPP := Zac hp
   clear hp
   go_wp2
   go_meet
   case rel => exact ⟨rfl, by rw [Zaa HPP]; simp⟩
  | true =>
   rw [hp] at y11
   have HPP := Zac hp
   clear hp
   by_cases h2 : 2 ≤ n
   ·
    by_cases h3 : s.u % 2 = 1
    ·
     have zz : ((s.u : Int) % 2 == 1) = true := by simp; omega
     have hx := Zac h3
     clear h3
     go_wp2
     go_meet
     case rel => exact ⟨rfl, by rw [Zaa HPP, decide_eq_true (Zaa hx), decide_eq_true (show 1 < n by omega)]; rfl⟩
    ·
     have zz : ((s.u : Int) % 2 == 1) = false := by simp; omega
     have hx := Zac h3
     clear h3
     go_wp2
     go_meet
     case rel => exact ⟨rfl, by rw [decide_eq_false (Zaa hx)]; simp⟩
   ·
    go_wp2
    go_meet
    case rel => exact ⟨rfl, by rw [decide_eq_false (show ¬ 1 < n by omega)]; rfl⟩
 case rest =>
  obtain ⟨hwc, rfl⟩ := hcut
  subst wc
  go_upto_if 23 with fail
  go_cut [] from 7 (fun wd => GivR wd G T ⟨u1S T.pairs n s.u, s.c, s.p⟩ ∧ w.grownBy wd (some G))
  case first =>
   have y12 := (Zaa HG).k12
   have fz := (Zaa HG).fz 12
   cases hb : (decide (1 < n) && (T.pairs && decide (s.u % 2 = 1))) with
   | false =>
    have hx := Zac (show GivR w G T ⟨u1S T.pairs n s.u, s.c, s.p⟩ ∧ w.grownBy w (some G) by rw [show u1S T.pairs n s.u = s.u by unfold u1S; rw [hb]; rfl]; exact ⟨Zaa HG, gbc_self w _⟩)
    clear hb
    go_wp2
    go_meet
    case rel => exact Zaa hx
   | true =>
    have hx := Zac (show GivR (w.setCell ⟨G, 12, none⟩ (.int .i64 ((s.u + 1 : Nat) : Int))) G T ⟨u1S T.pairs n s.u, s.c, s.p⟩ ∧ w.grownBy (w.setCell ⟨G, 12, none⟩ (.int .i64 ((s.u + 1 : Nat) : Int))) (some G) by rw [show u1S T.pairs n s.u = s.u + 1 by unfold u1S; rw [hb]; rfl]; exact ⟨(Zaa HG).u _, gbc_set (gbc_self w _)⟩)
    clear hb
    go_wp2
    go_meet
    case rel => exact Zaa hx
  case rest =>
   obtain ⟨hG1, hgb1⟩ := hcut
   have HG1 := Zac hG1
   have HGB1 := Zac hgb1
   obtain ⟨u1, hue⟩ : ∃ u1, u1 = u1S T.pairs n s.u := ⟨_, rfl⟩
   rw [← hue] at hG1 HG1 hu1
   have HUE := Zac hue
   clear hue
   have y12 := (Zaa HG1).k12
   have y5 := (Zaa HG1).k5
   go_wp2_with fail
   go_quiet (fail)
   clear y12 y5
   generalize hk : World.drewN _ _ = wq
   obtain ⟨hGq, hgbq⟩ : GivR wq G T ⟨u1, s.c, s.p⟩ ∧ w.grownBy wq (some G) := by subst hk; exact ⟨Zaa HG1, gbc_drew (Zaa HGB1) _⟩
   have HGq := Zac hGq
   have HGBq := Zac hgbq
   clear hk hGq hgbq HG1 HGB1 hG1 hgb1
   go_upto_if 43 with fail
   go_cut [] from 31 (fun wd => GivR wd G T (blkS T.ag.length n u1 s 0) ∧ w.grownBy wd (some G))
   case first =>
    have fz := (Zaa HGq).fz 12
    have y12 := (Zaa HGq).k12
    have y5 := (Zaa HGq).k5
    by_cases h : u1 + n ≤ T.ag.length
    ·
     have hx := Zac (show GivR wq G T (blkS T.ag.length n u1 s 0) ∧ w.grownBy wq (some G) by rw [show blkS T.ag.length n u1 s 0 = ⟨u1, s.c, s.p⟩ by unfold blkS rgS; simp [h]]; exact ⟨Zaa HGq, Zaa HGBq⟩)
     go_wp2
     go_meet
     case rel => exact Zaa hx
    ·
     have hx := Zac (show GivR (wq.setCell ⟨G, 12, none⟩ (.int .i64 (T.ag.length : Int))) G T (blkS T.ag.length n u1 s 0) ∧ w.grownBy (wq.setCell ⟨G, 12, none⟩ (.int .i64 (T.ag.length : Int))) (some G) by rw [show blkS T.ag.length n u1 s 0 = ⟨T.ag.length, s.c, s.p⟩ by unfold blkS rgS; simp [h]]; exact ⟨(Zaa HGq).u _, gbc_set (Zaa HGBq)⟩)
     go_wp2
     go_meet
     case rel => exact Zaa hx
   case rest =>
    obtain ⟨hG2, hgb2⟩ := hcut
    have HG2 := Zac hG2
    have HGB2 := Zac hgb2
    clear hG2 hgb2
    have hmk := fun V => mkPl n (by omega) V
    go_wp2_with fail
    clear hmk
    obtain ⟨hR, hB, hs⟩ := al0 wc (.cells (madeCells #[.int .i64 0, .int .i64 0] (n * 2)) 119 (0, 0))
    have hgs := (Zaa HGB2).size
    have hwT : w.heap.size ≤ wc.heap.size := hgs
    have HGB3 := Zac (gbc_trans (Zaa HGB2) (gb_ofB (o := some G) hB))
    have HG3 := Zac ((Zaa HG2).new (.cells (madeCells #[.int .i64 0, .int .i64 0] (n * 2)) 119 (0, 0)))
    have HR3 := Zac hR
    clear HG2 HGB2 hR hB hgs HGq HGBq
    generalize hTp : wc.heap.size = Tp at HR3 hs hwT ⊢
    generalize World.alloc wc _ = V at HG3 HGB3 HR3 hs ⊢
    clear hTp
    go_loopw [57] (fun j w' => ∃ (k : Nat) (cs : Array Value), j = .int .i64 k ∧ k ≤ n ∧ w'.heap[Tp]? = some (.cells cs 119 (0, 0)) ∧ cs.size = n * 2 ∧ (∀ q, q < k → cs[q * 2]? = some (.int .i64 (plS T.ag (rgS T.ag.length n u1) u1 s.c q).1) ∧ cs[q * 2 + 1]? = some (.int .i64 (plS T.ag (rgS T.ag.length n u1) u1 s.c q).2)) ∧ GivR w' G T (blkS T.ag.length n u1 s k) ∧ w.grownBy w' (some G)) (fun j _ => n - (intOf j).toNat)
    case atStart => exact ⟨0, _, rfl, by omega, Zaa HR3, size_madeCells _ _, fun q hq => by omega, Zaa HG3, Zaa HGB3⟩
    case round =>
     clear HG3 HGB3 HR3
     obtain ⟨k, cs, rfl, hk, hrow, hsz, hcs, hGk, hgb⟩ := hrel
     have HRW := Zac hrow
     have HCS := Zac hcs
     have HGK := Zac hGk
     have HGB := Zac hgb
     have hgsz := hgb.size
     have hTw := row_lt hrow
     clear hrow hcs hGk hgb
     by_cases hk2 : k < n
     ·
      have hw1 := (blk_word (ag := T.ag) (u1 := u1) (s := s) hk2).1
      have hw2 := (blk_word (ag := T.ag) (u1 := u1) (s := s) hk2).2
      have HC := Zac (gword_c T (blkS T.ag.length n u1 s k) G wr (Zaa HGK) ((Zaa HT).gb (Zaa HGB) hlt) (by omega) (by unfold blkS; simp only; split <;> omega) (by unfold blkS; simp only; split <;> omega) (by unfold blkS; simp only; split <;> omega))
      rw [hw1, hw2] at HC
      have HW2 := Zac hw2
      clear hw1 hw2
      generalize hpl : plS T.ag (rgS T.ag.length n u1) u1 s.c k = xy at HC
      have HPL := Zac hpl
      clear hpl
      obtain ⟨x, y⟩ := xy
      simp only at HC
      go_wp2_with fail
      refine (Zaa HC).mono ?_
      rintro e w2 ⟨rfl, hG5, hgb5⟩
      have hTG : Tp ≠ G := by omega
      have hr5 := (hgb5.block Tp hTw (by intro e; injection e with e; omega)).trans (Zaa HRW)
      obtain ⟨x0, hx0⟩ : ∃ x0, cs[k * 2]? = some x0 := ⟨_, Array.getElem?_eq_getElem (by omega)⟩
      obtain ⟨x1, hx1⟩ : ∃ x1, cs[k * 2 + 1]? = some x1 := ⟨_, Array.getElem?_eq_getElem (by omega)⟩
      have c0 := (Zab hr5 (k * 2)).trans hx0
      have c1 := (Zab hr5 (k * 2 + 1)).trans hx1
      have z0 := frozen_of_row _ _ (k * 2) _ _ hr5
      have z1 := frozen_of_row _ _ (k * 2 + 1) _ _ hr5
      have HR6 := Zac (heap_setCell_same _ _ (k * 2 + 1) _ _ (.int .i64 y) (heap_setCell_same _ _ (k * 2) _ _ (.int .i64 x) hr5))
      have HG6 := Zac ((hG5.oth (b := Tp) (j := k * 2) (v := .int .i64 x) (by omega)).oth (b := Tp) (j := k * 2 + 1) (v := .int .i64 y) (by omega))
      have HGB6 := Zac (gbc_oth (b := Tp) (j := k * 2 + 1) (v := .int .i64 y) (gbc_oth (b := Tp) (j := k * 2) (v := .int .i64 x) (gbc_trans (Zaa HGB) hgb5) (by omega)) (by omega))
      have HNX := Zac (show ∀ q, q < k + 1 → ((cs.setIfInBounds (k * 2) (.int .i64 x)).setIfInBounds (k * 2 + 1) (.int .i64 y))[q * 2]? = some (.int .i64 (plS T.ag (rgS T.ag.length n u1) u1 s.c q).1) ∧ ((cs.setIfInBounds (k * 2) (.int .i64 x)).setIfInBounds (k * 2 + 1) (.int .i64 y))[q * 2 + 1]? = some (.int .i64 (plS T.ag (rgS T.ag.length n u1) u1 s.c q).2) from fun q hq => by
       by_cases hqk : q = k
       ·
        subst hqk
        rw [Zaa HPL]
        refine ⟨?_, ?_⟩
        ·
         rw [Array.getElem?_setIfInBounds_ne (by omega), Array.getElem?_setIfInBounds_self_of_lt (by omega)]
        ·
         rw [Array.getElem?_setIfInBounds_self_of_lt (by simp; omega)]
       ·
        have h := Zaa HCS q (by omega)
        refine ⟨?_, ?_⟩
        ·
         rw [Array.getElem?_setIfInBounds_ne (by omega), Array.getElem?_setIfInBounds_ne (by omega)]; exact h.1
        ·
         rw [Array.getElem?_setIfInBounds_ne (by omega), Array.getElem?_setIfInBounds_ne (by omega)]; exact h.2)
      clear hr5 hx0 hx1 hG5 hgb5
      go_wp2
      go_roundw
      case rel => exact ⟨k + 1, _, by go_num, by omega, Zaa HR6, by simp; omega, Zaa HNX, Zaa HG6, Zaa HGB6⟩
      case measure => simp [intOf]; omega
     ·
      obtain rfl : k = n := by omega
      go_wp2
      go_ret
      rw [← Zaa HUE]
      have he := plC_of (xs := cs.toList) (n := k) (plS T.ag (rgS T.ag.length k u1) u1 s.c) (by simp; omega) (fun j hj => by have h := Zaa HCS j hj; simpa using h)
      refine ⟨_, rfl, ⟨by rw [plC_len], Or.inr ⟨Tp, k, cs, by simp, hwT, Zaa HRW, by simp, by simp [maxLen]; omega, hsz, ?_⟩⟩, Zaa HGK, Zaa HGB⟩
      rw [← he]
      simp only [List.length_map, List.length_range]
      rw [List.take_of_length_le (by simp; omega)]
end Go.Proofs.YtffemeicclhioaaGreatDoor
namespace Go.Proofs.YtffemeicclhioaaGreatDoor
open Go.RowKit

theorem Tryz.infSpK : (Tryz.prog.info? 118).map (·.size) = some 3 := by kernel_rfl
theorem PlO_one {V : World} {B b : Nat} {x : Int × Int} (h : V.heap[b]? = some (.cells #[.int .i64 x.1, .int .i64 x.2] 119 (0, 0))) (hb : B ≤ b) : PlO V B (.slice (some ⟨b, 0, none⟩) 1 1) [x] :=
 ⟨rfl, Or.inr ⟨b, 1, _, rfl, hb, h, Nat.le_refl _, by simp [maxLen], rfl, rfl⟩⟩
/-- A row that is none of its own may be written. -/
theorem PlO_row {V : World} {B B' T : Nat} {cs : Array Value} {v : Value} {xs : List (Int × Int)} (h : PlO V B v xs) (hb : T < B) (hB : B' ≤ B) : PlO (V.setRow T cs) B' v xs := by
 obtain ⟨h1, h2 | ⟨g, cap, cur, e1, e2, e3, e4⟩⟩ := h
 ·
  exact ⟨h1, Or.inl h2⟩
 ·
  exact ⟨h1, Or.inr ⟨g, cap, cur, e1, Nat.le_trans hB e2, (setRow_other _ _ _ _ (by omega)).trans e3, e4⟩⟩
theorem spot_word {ag : List Int} {br : Int} {pr : Bool} {n : Int} {s : GivS} (h : n = 0 ∨ br < n) : spotS ag br pr n s = ⟨[plW ag s], decide (br < n), if br < n then s.p else 0⟩ ∧ stepS ag.length br pr n s = ⟨(nxW ag s).u, (nxW ag s).c, if br < n then s.p + 8 * n else s.p⟩ := by
 have hw : wdS br n = 1 := by unfold wdS; rw [if_pos h]
 unfold spotS stepS
 rw [hw, u1S_one]
 have hr : rgS ag.length 1 s.u = decide (s.u < ag.length) := by unfold rgS; exact decide_eq_decide.2 (by omega)
 rw [hr]
 by_cases hu : s.u < ag.length
 ·
  simp only [decide_eq_true hu, if_true]
  refine ⟨?_, ?_⟩
  ·
   simp only [List.range_succ, List.range_zero, List.nil_append, List.map_cons, List.map_nil, plS, plW, if_pos hu, if_true, Nat.add_zero]
  ·
   simp only [nxW, if_pos hu]
 ·
  simp only [decide_eq_false hu, Bool.false_eq_true, if_false]
  refine ⟨?_, ?_⟩
  ·
   simp only [List.range_succ, List.range_zero, List.nil_append, List.map_cons, List.map_nil, plS, plW, if_neg hu, Bool.false_eq_true, if_false]
   simp
  ·
   simp only [nxW, if_neg hu]
   simp
theorem spot_block {ag : List Int} {br : Int} {pr : Bool} {n : Nat} {s : GivS} (h0 : 0 < n) (h1 : (n : Int) ≤ br) (hu : s.u ≤ ag.length) : spotS ag br pr n s = ⟨(List.range n).map (plS ag (rgS ag.length n (u1S pr n s.u)) (u1S pr n s.u) s.c), false, 0⟩ ∧ stepS ag.length br pr n s = blkS ag.length n (u1S pr n s.u) s n := by
 have hw : wdS br n = n := by unfold wdS; rw [if_neg (by omega)]; omega
 unfold spotS stepS blkS
 rw [hw]
 refine ⟨?_, ?_⟩
 ·
  rw [decide_eq_false (by omega), if_neg (by omega)]
 ·
  cases hr : rgS ag.length n (u1S pr n s.u) with
  | true => simp only [if_true]; rw [if_neg (show ¬ br < (n : Int) by omega)]
  | false =>
   simp only [Bool.false_eq_true, if_false]
   rw [if_neg (show ¬ br < (n : Int) by omega)]
   by_cases h2 : 1 < n
   ·
    rw [if_pos h2]
   ·
    obtain rfl : n = 1 := by omega
    rw [if_neg (by omega)]
    rw [u1S_one] at hr ⊢
    unfold rgS at hr
    have := of_decide_eq_false hr
    rw [show s.u = ag.length by omega]
set_option maxHeartbeats 4000000 in
set_option maxRecDepth 100000 in
theorem garg_c (T : TbE) (s : GivS) (G : Nat) (n : Int) (w : World) (hG : GivR w G T s) (hT : TbR w G T) (hn0 : 0 ≤ n) (hn8 : n ≤ 8) (hu : s.u ≤ T.ag.length) (hL : T.ag.length ≤ 1000) (hc0 : 0 ≤ s.c) (hc1 : s.c ≤ 1000) (hp0 : 0 ≤ s.p) (hp1 : s.p ≤ 1000) :
 Calls Tryz.prog 77 #[.pointer (some ⟨G, 0, none⟩), .int .i64 n] w fun e w' => ∃ pv, e = .returned (.agg #[pv, .bool (spotS T.ag T.br T.pairs n s).ref, .int .i64 (spotS T.ag T.br T.pairs n s).at_]) ∧ PlO w' w.heap.size pv (spotS T.ag T.br T.pairs n s).pl ∧ GivR w' G T (stepS T.ag.length T.br T.pairs n s) ∧ w.grownBy w' (some G) := by
 have HG := Zac hG
 have HT := Zac hT
 have hlt := hG.lt
 have y10 := fun X : Obj => (hG.new X).k10
 have HW := Zac (fun V (hg : GivR V G T s) (hgb : w.grownBy V (some G)) => gword_c T s G V hg (hT.gb hgb hlt) (by omega) (by omega) (by omega) (by omega))
 clear hG hT
 obtain ⟨hR, hB, hs⟩ := al0 w (.cells #[.slice none 0 0, .bool false, .int .i64 0] 118 (0, 0))
 have HR := Zac hR
 have HB := Zac (gb_ofB (o := some G) hB)
 have HG0 := Zac ((Zaa HG).new (.cells #[.slice none 0 0, .bool false, .int .i64 0] 118 (0, 0)))
 clear hR hB HG
 by_cases h1 : T.br < n
 ·
  have hs9 := spot_word (ag := T.ag) (pr := T.pairs) (s := s) (Or.inr h1)
  rw [hs9.1, hs9.2]
  clear hs9
  simp only [decide_eq_true h1, if_pos h1]
  have hp2 : (nxW T.ag s).p = s.p := by unfold nxW; split <;> rfl
  generalize plW T.ag s = xy at HW ⊢
  generalize nxW T.ag s = s2 at HW hp2 ⊢
  obtain ⟨x, y⟩ := xy
  simp only at HW
  go_enter Tryz.func77, Tryz.ntmps77
  go_wp2_with fail
  clear y10
  generalize World.alloc w _ = W at HR HB HG0 hs ⊢
  refine (Zaa HW W (Zaa HG0) (Zaa HB)).mono ?_
  rintro e w2 ⟨rfl, hG2, hgb2⟩
  have hz2 := hgb2.size
  obtain ⟨hR3, hB3, hs3⟩ := al0 w2 (.cells #[.int .i64 x, .int .i64 y] 119 (0, 0))
  have HC := Zac (gcopy_c T s2 G n _ (hG2.new (.cells #[.int .i64 x, .int .i64 y] 119 (0, 0))) (by omega) (by omega) hn0 (by omega))
  have HRA := Zac ((hB3.block w.heap.size (by omega)).trans ((hgb2.block w.heap.size (by omega) (by intro e; injection e with e; omega)).trans (Zaa HR)))
  have HRB := Zac hR3
  have HGB := Zac (gbc_trans (Zaa HB) (gbc_trans hgb2 (gb_ofB (o := some G) hB3)))
  clear hG2 hgb2 hR3 hB3 HW
  go_wp2_with fail
  generalize hTb : w2.heap.size = Tb at HRB hs3 hz2 ⊢
  generalize World.alloc w2 _ = W3 at HC HRA HRB HGB hs3 ⊢
  refine (Zaa HC).mono ?_
  rintro e w4 ⟨rfl, hG4, hgb4⟩
  rw [hp2] at hG4 ⊢
  have HR4 := Zac ((hgb4.block w.heap.size (by omega) (by intro e; injection e with e; omega)).trans (Zaa HRA))
  have HP4 := Zac ((hgb4.block Tb (by omega) (by intro e; injection e with e; omega)).trans (Zaa HRB))
  have HG4 := Zac hG4
  have HGB4 := Zac (gbc_trans (Zaa HGB) hgb4)
  clear hG4 hgb4 HC HRA HRB HGB
  go_wp2_with (refine wpList_store_row rfl 118 _ _ rfl w.heap.size #[.slice (some ⟨Tb, 0, none⟩) 1 1, .bool true, .int .i64 s.p] rfl rfl 118 _ (Zaa HR4) (Tryz.infSpK.trans rfl) rfl (by simp [Value.oneCell']) ?_)
  refine bodyPost_ret (resultsK (fn := Tryz.f77) (q := 4) (uy := 118) rfl _ _ w.heap.size 118 #[.slice (some ⟨Tb, 0, none⟩) 1 1, .bool true, .int .i64 s.p] (0, 0) _ rfl (setRow_heap _ _ _ _ _ _ (Zaa HR4)) Tryz.underlying118 rfl (Tryz.infSpK.trans rfl)) rfl ?_
  exact ⟨_, rfl, PlO_one ((setRow_other _ _ _ _ (by omega)).trans (Zaa HP4)) (by omega), (setRow_other _ _ _ _ (by omega)).trans (Zaa HG4), gbc_row (Zaa HGB4) (Nat.le_refl _)⟩
 ·
  by_cases h2 : 0 < n
  ·
   obtain ⟨m, rfl⟩ : ∃ m : Nat, n = m := ⟨n.toNat, by omega⟩
   have hs9 := spot_block (ag := T.ag) (pr := T.pairs) (s := s) (show 0 < m by omega) (show (m : Int) ≤ T.br by omega) hu
   rw [hs9.1, hs9.2]
   clear hs9 HW
   simp only
   go_enter Tryz.func77, Tryz.ntmps77
   go_wp2_with fail
   clear y10
   generalize World.alloc w _ = W at HR HB HG0 hs ⊢
   refine (gblock_c T s G m W (Zaa HG0) ((Zaa HT).gb (Zaa HB) hlt) (by omega) (by omega) hu hL hc0 hc1).mono ?_
   rintro e w2 ⟨v, rfl, hP2, hG2, hgb2⟩
   obtain ⟨pb, pn, pc, hv⟩ : ∃ pb pn pc, v = .slice pb pn pc := by
    rcases hP2.2 with ⟨e, _⟩ | ⟨g, cap, cur, e, _⟩
    ·
     exact ⟨_, _, _, e⟩
    ·
     exact ⟨_, _, _, e⟩
   subst hv
   have HR4 := Zac ((hgb2.block w.heap.size (by omega) (by intro e; injection e with e; omega)).trans (Zaa HR))
   have HP4 := Zac hP2
   have HG4 := Zac hG2
   have HGB4 := Zac (gbc_trans (Zaa HB) hgb2)
   clear hP2 hG2 hgb2
   go_wp2_with (refine wpList_store_row rfl 118 _ _ rfl w.heap.size #[.slice pb pn pc, .bool false, .int .i64 0] rfl rfl 118 _ (Zaa HR4) (Tryz.infSpK.trans rfl) rfl (by simp [Value.oneCell']) ?_)
   refine bodyPost_ret (resultsK (fn := Tryz.f77) (q := 4) (uy := 118) rfl _ _ w.heap.size 118 #[.slice pb pn pc, .bool false, .int .i64 0] (0, 0) _ rfl (setRow_heap _ _ _ _ _ _ (Zaa HR4)) Tryz.underlying118 rfl (Tryz.infSpK.trans rfl)) rfl ?_
   exact ⟨_, rfl, PlO_row (Zaa HP4) (by omega) (by omega), (setRow_other _ _ _ _ (by omega)).trans (Zaa HG4), gbc_row (Zaa HGB4) (Nat.le_refl _)⟩
  ·
   obtain rfl : n = 0 := by omega
   have hs9 := spot_word (ag := T.ag) (br := T.br) (pr := T.pairs) (n := 0) (s := s) (Or.inl rfl)
   rw [hs9.1, hs9.2]
   clear hs9
   simp only [decide_eq_false h1, if_neg h1]
   have hp2 : (nxW T.ag s).p = s.p := by unfold nxW; split <;> rfl
   generalize plW T.ag s = xy at HW ⊢
   generalize nxW T.ag s = s2 at HW hp2 ⊢
   obtain ⟨x, y⟩ := xy
   simp only at HW
   go_enter Tryz.func77, Tryz.ntmps77
   go_wp2_with fail
   clear y10
   generalize World.alloc w _ = W at HR HB HG0 hs ⊢
   refine (Zaa HW W (Zaa HG0) (Zaa HB)).mono ?_
   rintro e w2 ⟨rfl, hG2, hgb2⟩
   have hz2 := hgb2.size
   obtain ⟨hR3, hB3, hs3⟩ := al0 w2 (.cells #[.int .i64 x, .int .i64 y] 119 (0, 0))
   have HR4 := Zac ((hB3.block w.heap.size (by omega)).trans ((hgb2.block w.heap.size (by omega) (by intro e; injection e with e; omega)).trans (Zaa HR)))
   have HP4 := Zac hR3
   have HG4 := Zac (hG2.new (.cells #[.int .i64 x, .int .i64 y] 119 (0, 0)))
   have HGB4 := Zac (gbc_trans (Zaa HB) (gbc_trans hgb2 (gb_ofB (o := some G) hB3)))
   clear hG2 hgb2 hR3 hB3 HW
   go_wp2_with (refine wpList_store_row rfl 118 _ _ rfl w.heap.size #[.slice (some ⟨w2.heap.size, 0, none⟩) 1 1, .bool false, .int .i64 0] rfl rfl 118 _ (Zaa HR4) (Tryz.infSpK.trans rfl) rfl (by simp [Value.oneCell']) ?_)
   refine bodyPost_ret (resultsK (fn := Tryz.f77) (q := 4) (uy := 118) rfl _ _ w.heap.size 118 #[.slice (some ⟨w2.heap.size, 0, none⟩) 1 1, .bool false, .int .i64 0] (0, 0) _ rfl (setRow_heap _ _ _ _ _ _ (Zaa HR4)) Tryz.underlying118 rfl (Tryz.infSpK.trans rfl)) rfl ?_
   refine ⟨_, rfl, PlO_one ((setRow_other _ _ _ _ (by omega)).trans (Zaa HP4)) (by omega), ?_, gbc_row (Zaa HGB4) (Nat.le_refl _)⟩
   rw [← hp2]
   exact (setRow_other _ _ _ _ (by omega)).trans (Zaa HG4)
end Go.Proofs.YtffemeicclhioaaGreatDoor
namespace Go.Proofs.YtffemeicclhioaaGreatDoor
open Go.RowKit

theorem row_set2 {cs : Array Value} {n k : Nat} {f : Nat → Int × Int} {x y : Int} (hsz : cs.size = n * 2) (hk : k < n) (hxy : f k = (x, y)) (hcs : ∀ q, q < k → cs[q * 2]? = some (.int .i64 (f q).1) ∧ cs[q * 2 + 1]? = some (.int .i64 (f q).2)) :
 ∀ q, q < k + 1 → ((cs.setIfInBounds (k * 2) (.int .i64 x)).setIfInBounds (k * 2 + 1) (.int .i64 y))[q * 2]? = some (.int .i64 (f q).1) ∧ ((cs.setIfInBounds (k * 2) (.int .i64 x)).setIfInBounds (k * 2 + 1) (.int .i64 y))[q * 2 + 1]? = some (.int .i64 (f q).2) := fun q hq => by
 by_cases hqk : q = k
 ·
  subst hqk
  rw [hxy]
  refine ⟨?_, ?_⟩
  ·
   rw [Array.getElem?_setIfInBounds_ne (by omega), Array.getElem?_setIfInBounds_self_of_lt (by omega)]
  ·
   rw [Array.getElem?_setIfInBounds_self_of_lt (by simp; omega)]
 ·
  have h := hcs q (by omega)
  refine ⟨?_, ?_⟩
  ·
   rw [Array.getElem?_setIfInBounds_ne (by omega), Array.getElem?_setIfInBounds_ne (by omega)]; exact h.1
  ·
   rw [Array.getElem?_setIfInBounds_ne (by omega), Array.getElem?_setIfInBounds_ne (by omega)]; exact h.2
set_option maxHeartbeats 4000000 in
set_option maxRecDepth 100000 in
theorem gres_c (T : TbE) (s : GivS) (G n : Nat) (w : World) (hG : GivR w G T s) (hT : TbR w G T) (hn4 : n ≤ 8) (hL : T.rs.length ≤ 1000) (hc0 : 0 ≤ s.c) (hc1 : s.c ≤ 1000) :
 Calls Tryz.prog 78 #[.pointer (some ⟨G, 0, none⟩), .int .i64 n] w fun e w' => ∃ v, e = .returned v ∧ PlO w' w.heap.size v ((List.range n).map (resS T.rs s.c)) ∧ GivR w' G T ⟨s.u, resC T.rs s.c n, s.p⟩ ∧ w.grownBy w' (some G) := by
 have HG := Zac hG
 have HT := Zac hT
 have hlt := hG.lt
 have hmk := fun V => mkPl n (by omega) V
 clear hG hT
 go_enter Tryz.func78, Tryz.ntmps78
 go_wp2_with fail
 clear hmk
 obtain ⟨hR, hB, hs⟩ := al0 w (.cells (madeCells #[.int .i64 0, .int .i64 0] (n * 2)) 119 (0, 0))
 have HGB3 := Zac (gb_ofB (o := some G) hB)
 have HG3 := Zac ((Zaa HG).new (.cells (madeCells #[.int .i64 0, .int .i64 0] (n * 2)) 119 (0, 0)))
 have HR3 := Zac hR
 clear hR hB
 generalize World.alloc w _ = V at HG3 HGB3 HR3 hs ⊢
 go_loopw [11] (fun j w' => ∃ (k : Nat) (cs : Array Value), j = .int .i64 k ∧ k ≤ n ∧ w'.heap[w.heap.size]? = some (.cells cs 119 (0, 0)) ∧ cs.size = n * 2 ∧ (∀ q, q < k → cs[q * 2]? = some (.int .i64 (resS T.rs s.c q).1) ∧ cs[q * 2 + 1]? = some (.int .i64 (resS T.rs s.c q).2)) ∧ GivR w' G T ⟨s.u, resC T.rs s.c k, s.p⟩ ∧ w.grownBy w' (some G)) (fun j _ => n - (intOf j).toNat)
 case atStart => exact ⟨0, _, rfl, by omega, Zaa HR3, size_madeCells _ _, fun q hq => by omega, by rw [show resC T.rs s.c 0 = s.c by unfold resC; simp]; exact Zaa HG3, Zaa HGB3⟩
 case round =>
  clear HG3 HGB3 HR3
  obtain ⟨k, cs, rfl, hk, hrow, hsz, hcs, hGk, hgb⟩ := hrel
  have HRW := Zac hrow
  have HCS := Zac hcs
  have HGK := Zac hGk
  have HGB := Zac hgb
  have hgsz := hgb.size
  have hTw := row_lt hrow
  by_cases hk2 : k < n
  ·
   have y6 := hGk.k6
   obtain ⟨x0, hx0⟩ : ∃ x0, cs[k * 2]? = some x0 := ⟨_, Array.getElem?_eq_getElem (by omega)⟩
   obtain ⟨x1, hx1⟩ : ∃ x1, cs[k * 2 + 1]? = some x1 := ⟨_, Array.getElem?_eq_getElem (by omega)⟩
   by_cases hr : k < T.rs.length
   ·
    have hrs := (Zaa HT).gb hgb hlt
    obtain ⟨sb, so, hpa, -, hc⟩ := hrs.r.at hr
    have c := hc k hr
    rw [hpa] at y6
    have hres : resS T.rs s.c k = (T.rs.getD k 0, 0) := by unfold resS; rw [if_pos hr]
    have hrc : resC T.rs s.c (k + 1) = resC T.rs s.c k := by unfold resC; rw [show k + 1 - T.rs.length = 0 by omega, show k - T.rs.length = 0 by omega]
    generalize T.rs.getD k 0 = x at hres c
    have c0 := (Zab hrow (k * 2)).trans hx0
    have c1 := (Zab hrow (k * 2 + 1)).trans hx1
    have z0 := frozen_of_row _ _ (k * 2) _ _ hrow
    have z1 := frozen_of_row _ _ (k * 2 + 1) _ _ hrow
    have HR6 := Zac (heap_setCell_same _ _ (k * 2 + 1) _ _ (.int .i64 0) (heap_setCell_same _ _ (k * 2) _ _ (.int .i64 x) hrow))
    have HG6 := Zac (show GivR _ G T ⟨s.u, resC T.rs s.c (k + 1), s.p⟩ by rw [hrc]; exact (hGk.oth (b := w.heap.size) (j := k * 2) (v := .int .i64 x) (by omega)).oth (b := w.heap.size) (j := k * 2 + 1) (v := .int .i64 0) (by omega))
    have HGB6 := Zac (gbc_oth (b := w.heap.size) (j := k * 2 + 1) (v := .int .i64 0) (gbc_oth (b := w.heap.size) (j := k * 2) (v := .int .i64 x) hgb (Nat.le_refl _)) (Nat.le_refl _))
    have HNX := Zac (row_set2 hsz hk2 hres hcs)
    clear hrow hx0 hx1 hcs hGk hgb hres hrc hc hrs
    go_wp2
    go_roundw
    case rel => exact ⟨k + 1, _, by go_num, by omega, Zaa HR6, by simp; omega, Zaa HNX, Zaa HG6, Zaa HGB6⟩
    case measure => simp [intOf]; omega
   ·
    have hres : resS T.rs s.c k = (-1, resC T.rs s.c k) := by unfold resS resC; rw [if_neg hr]
    have hrc : resC T.rs s.c (k + 1) = resC T.rs s.c k + 8 := by unfold resC; rw [show k + 1 - T.rs.length = (k - T.rs.length) + 1 by omega]; omega
    have hrb : 0 ≤ resC T.rs s.c k ∧ resC T.rs s.c k ≤ 2000 := by unfold resC; omega
    have HNX := Zac (row_set2 hsz hk2 hres hcs)
    have HRC := Zac hrc
    clear hres hrc hrow hcs hGk hgb
    generalize resC T.rs s.c k = y at HNX HRC HGK hrb
    go_wp2_with fail
    refine (gcell_c T ⟨s.u, y, s.p⟩ G wr (Zaa HGK) (by show -1000000 ≤ y; omega) (by show y ≤ 1000000; omega)).mono ?_
    rintro e w2 ⟨rfl, hG5, hgb5⟩
    have hr5 := (hgb5.block w.heap.size hTw (by intro e; injection e with e; omega)).trans (Zaa HRW)
    have c0 := (Zab hr5 (k * 2)).trans hx0
    have c1 := (Zab hr5 (k * 2 + 1)).trans hx1
    have z0 := frozen_of_row _ _ (k * 2) _ _ hr5
    have z1 := frozen_of_row _ _ (k * 2 + 1) _ _ hr5
    have HR6 := Zac (heap_setCell_same _ _ (k * 2 + 1) _ _ (.int .i64 y) (heap_setCell_same _ _ (k * 2) _ _ (.int .i64 (-1)) hr5))
    have HG6 := Zac (show GivR _ G T ⟨s.u, resC T.rs s.c (k + 1), s.p⟩ by rw [Zaa HRC]; exact (hG5.oth (b := w.heap.size) (j := k * 2) (v := .int .i64 (-1)) (by omega)).oth (b := w.heap.size) (j := k * 2 + 1) (v := .int .i64 y) (by omega))
    have HGB6 := Zac (gbc_oth (b := w.heap.size) (j := k * 2 + 1) (v := .int .i64 y) (gbc_oth (b := w.heap.size) (j := k * 2) (v := .int .i64 (-1)) (gbc_trans (Zaa HGB) hgb5) (Nat.le_refl _)) (Nat.le_refl _))
    clear hr5 hG5 hgb5 hx0 hx1 y6
    go_wp2
    go_roundw
    case rel => exact ⟨k + 1, _, by go_num, by omega, Zaa HR6, by simp; omega, Zaa HNX, Zaa HG6, Zaa HGB6⟩
    case measure => simp [intOf]; omega
  ·
   obtain rfl : k = n := by omega
   clear hrow hcs hGk hgb
   go_wp2
   go_ret
   have he := plC_of (xs := cs.toList) (n := k) (resS T.rs s.c) (by simp; omega) (fun j hj => by have h := Zaa HCS j hj; simpa using h)
   refine ⟨_, rfl, ⟨by rw [plC_len], Or.inr ⟨w.heap.size, k, cs, by simp, Nat.le_refl _, Zaa HRW, by simp, by simp [maxLen]; omega, hsz, ?_⟩⟩, Zaa HGK, Zaa HGB⟩
   rw [← he]
   simp only [List.length_map, List.length_range]
   rw [List.take_of_length_le (by simp; omega)]
end Go.Proofs.YtffemeicclhioaaGreatDoor
