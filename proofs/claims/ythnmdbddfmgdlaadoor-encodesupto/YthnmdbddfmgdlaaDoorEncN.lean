/-
  prologuelaw.Encodes, where what it reads is of the form's bulk: the row and its tied card. Own work of the verifier, after the guide's worked texts.
-/
import Derived.Test.YthnmdbddfmgdlaaDoorCards
import Derived.Test.YthnmdbddfmgdlaaDoorTie
import Derived.Test.YthnmdbddfmgdlaaDoorEncM
import Derived.Test.YthnmdbddfmgdlaaDoorEncO
import Derived.Test.YthnmdbddfmgdlaaDoorEncLd
import Derived.WalkKit
import Derived.ProofKit
import Derived.OpenShut
import Derived.Carry
import Derived.Deep.DeepHandedRow
import Derived.Lib.LaidTab
import Derived.Lay
import Derived.SevenTiedAt
namespace Go.Proofs.YthnmdbddfmgdlaaDoor
open Go.ChangeShapes Go.WideShapes Go.ChangeAt Go.RowKit

theorem penAll_le {α : Type} (one : α → Pr) (m : α → Nat) (h : ∀ x, (one x).1.length ≤ 8 * m x) : ∀ xs : List α, (penAll one xs).1.length ≤ 8 * (xs.map m).sum
  | [] => by simp [penAll]
  | x :: xs => by
    have h1 := h x
    have h2 := penAll_le one m h xs
    simp only [penAll, penSeq, List.length_append, List.map_cons, List.sum_cons]
    omega
theorem penAll_len1 {α : Type} (one : α → Pr) (c : Nat) (h : ∀ x, (one x).1.length = c) : ∀ xs : List α, (penAll one xs).1.length = c * xs.length
  | [] => by simp [penAll]
  | x :: xs => by
    have h1 := h x
    have h2 := penAll_len1 one c h xs
    simp only [penAll, penSeq, List.length_append, List.length_cons, Nat.mul_succ]
    omega
theorem shapeLs_le (op : Int) : (shapeLs op).length ≤ 4 := by
  have hall : ∀ x ∈ shapeL, x.toList.length ≤ 4 := by decide
  unfold shapeLs shapeB
  split
  · have : shapeL.getD op.toNat #[63] ∈ shapeL ∨ shapeL.getD op.toNat #[63] = #[63] := by
      rcases Nat.lt_or_ge op.toNat shapeL.length with h | h
      · left
        have e : shapeL.getD op.toNat #[63] = shapeL[op.toNat] := by simp [List.getD, h]
        rw [e]
        exact List.getElem_mem h
      · right
        simp [List.getD, List.getElem?_eq_none h]
    rcases this with h | h
    · exact hall _ h
    · simp only [h]; decide
  · decide
theorem penPart_le (i : InsE) (c : UInt8) : (penPart i c).1.length ≤ 9 + 2 * i.args.length + i.outs.length := by
  have ha : (penL 0 8 penArg i.args).1.length = 1 + 2 * i.args.length := by rw [penL_len, penAll_len1 penArg 2 (fun _ => rfl)]
  have ho : (penL 0 4 (penNum 0 255) i.outs).1.length = 1 + 1 * i.outs.length := by rw [penL_len, penAll_len1 (penNum 0 255) 1 (fun _ => rfl)]
  have hn : (opB i.n 8).length = 8 := by simp [opB]
  unfold penPart
  repeat' split
  all_goals first | (simp only [penNum_len]; omega) | (rw [ha]; omega) | (rw [ho]; omega) | (show (opB i.n 8).length ≤ _; rw [hn]; omega) | (show (1 : Nat) ≤ _; omega) | (show (0 : Nat) ≤ _; omega)
theorem penIns_le (i : InsE) : (penIns i).1.length ≤ 8 * mIns i := by
  have h1 := shapeLs_le i.op
  have h2 : ∀ ls : List UInt8, (penAll (penPart i) ls).1.length ≤ (9 + 2 * i.args.length + i.outs.length) * ls.length := by
    intro ls
    induction ls with
    | nil => simp [penAll]
    | cons c cs ih =>
      have := penPart_le i c
      simp only [penAll, penSeq, List.length_append, List.length_cons, Nat.mul_succ]
      omega
  have h3 := h2 (shapeLs i.op)
  have h4 : (9 + 2 * i.args.length + i.outs.length) * (shapeLs i.op).length ≤ (9 + 2 * i.args.length + i.outs.length) * 4 := Nat.mul_le_mul_left _ h1
  simp only [penIns, penSeq, List.length_append, penNum_len, List.length_nil, mIns]
  omega
theorem penBlock_le (l : List InsE) : (penBlock l).1.length ≤ 8 * mBlock l := by
  have := penAll_le penIns mIns penIns_le l
  unfold penBlock mBlock
  rw [penL_len]
  omega
theorem penFunc_le (f : FuncE) : (penFunc f).1.length ≤ 8 * mFunc f := by
  have h := penAll_le penBlock mBlock penBlock_le f.blocks
  simp only [penFunc, penSeq, List.length_append, penL_len, penNum_len, mFunc]
  rw [penAll_len1 penArg 2 (fun _ => rfl), penAll_len1 (penNum (-1) 15) 1 (fun _ => rfl), penAll_len1 (penNum 1 8) 1 (fun _ => rfl)]
  omega
theorem penProg_le (p : ProgE) : (penProg p).1.length ≤ 8 * mProg p := by
  have h1 := penAll_le penFunc mFunc penFunc_le p.funcs
  have h2 := penAll_le penSig mSig (fun s => by rw [penSig_len]; unfold mSig; omega) p.externs
  simp only [penProg, penSeq, List.length_append, penL_len, List.length_cons, List.length_nil, mProg]
  omega
theorem encodes_of_laid {W : World} (h : laidMetH Tryd.prog Rows.encodesUptoRow.laid W) : NeedsAt W ∧ ErrTy W :=
  ⟨needs_of_reads (Lib.laidMet.reads (laidMetH_iff.1 h).1 (List.mem_filter.2 ⟨by simp [Rows.encodesUptoRow], by kernel_rfl⟩)), errTy_of h (List.mem_filter.2 ⟨by simp [Rows.encodesUptoRow], by kernel_rfl⟩)⟩
set_option maxRecDepth 100000 in
theorem encodes_contract (H : Type) (enc : TypeId × Value → H) (W : World) (base : Nat) (args : Array Value) (ds gs : List (DataW H)) (before : List MemPlace)
    (hval : ∀ (j : Nat) t v, Tryd.f3.params[j]? = some t → args[j]? = some v → Value.okWide Tryd.prog W .any base t v)
    (hW : DataW.Whole enc Tryd.prog Tryd.f3.params.toList Rows.encodesSpec.vars false W args.toList ds gs before) (hcond : Rows.uptoSmall H (ds ++ gs) = true) (hL : laidMetH Tryd.prog Rows.encodesUptoRow.laid W) :
    Calls Tryd.prog 3 args W fun e W' => ∃ v, e = .returned v ∧ Rows.encodesSpec.post enc Tryd.prog Tryd.f3 false true false false W args v W' := by
  have hW' := hW
  obtain ⟨p, q, hA0, hV, rfl, hfz, hnd⟩ := hW
  have hA : DataW.TrodAll enc Tryd.prog W 0 (fun _ => true) true Tryd.f3.params.toList args.toList ds p := hA0
  have hlt := DataW.TrodAll.lt hA
  rw [Tryd.params3] at hA hval
  obtain ⟨v0, vs0, d0, ds0, p0, q0, hargs, rfl, rfl, h0, r0⟩ := trodAll_cons hA
  obtain ⟨rfl, rfl, rfl⟩ := trodAll_nil r0
  obtain rfl : args = #[v0] := by cases args; simp_all
  obtain ⟨rfl, rfl⟩ := trodVars_none hV
  clear hA0
  simp only [List.append_nil] at hW' hlt
  have hb : Rows.uptoBulkAll [d0] ≤ 1048576 := by simpa [Rows.uptoSmall] using hcond
  obtain ⟨fv, ev, P, pf, pe, rfl, hP, hok, hm⟩ := prog_openE (hval 0 25 v0 rfl rfl) h0
  obtain ⟨hN, hE⟩ := encodes_of_laid hL
  have hpl : (penProg P).1.length < 9223372036854775807 := by
    have h1 := penProg_le P
    simp only [Rows.uptoBulkAll] at hb
    omega
  have h1h : 1 < W.heap.size := World.block_lt_of_cell? W _ (hN 0 (by decide))
  refine (encodes_walk P fv ev pf pe W hE hN h1h hP (fun f hf l hl i hi => ((hok.funcs f hf).blocks l hl i hi).n) hpl).mono fun e W' ⟨he, hb⟩ => ?_
  subst he
  have e1 : Rows.encodesSpec.fn H ([d0] ++ []) = { results := [.lit (.bool true)], args := [d0] } := by simp [Rows.encodesSpec]
  refine ⟨_, rfl, _, _, _, [], p0, [], hW', ?_, ?_, ?_, hb.frame _, fun h => by cases h⟩
  · rw [e1]; exact trodAll_cons_mk (shut_bool Tryd.underlying4 _) trodAll_mk0
  · rw [e1]
    have := trodAll_cons_mk (p' := []) (Below.trod Tryd.laidOutE (by kernel_rfl) (by rw [Tryd.sizeE]; decide) h0 hb hlt) trodAll_mk0
    rw [List.append_nil] at this
    exact this
  · rw [e1]; rfl

abbrev plainE : List (String × DataW Unit) := Rows.encodesUptoRow.laid.filter fun x => x.2.handleName?.isNone
def enArg : Array Value := #[.agg #[.slice none 0 0, .slice none 0 0]]
theorem encodes_met (os : Os) (args : Array Value) : laidMetH Tryd.prog Rows.encodesUptoRow.laid ((layErrE (World.laidAll Tryd.prog os plainE)).forCall (fun _ _ => 0) ⟨#[], args, []⟩).memory :=
  laidMetH_of_parts (laidMet_of_run' 16 (by kernel_rfl) (by kernel_rfl)) (by kernel_rfl)
theorem encodes_reads (os : Os) {H : Type} (enc : TypeId × Value → H) : ∃ places, DataW.whole enc Tryd.prog ((layErrE (World.laidAll Tryd.prog os plainE)).forCall (fun _ _ => 0) ⟨#[], enArg, []⟩).memory Tryd.f3.params.toList Rows.encodesSpec.vars false enArg.toList 8 =
    some ([.agg [.nil, .nil]], [], places) :=
  ⟨[], by kernel_rfl⟩

set_option maxRecDepth 100000 in
theorem encodes_lifted (os : Os) (started : os.Started) (H : Type) (enc : TypeId × Value → H) (F : Stop.Interp) :
    ReturnsInHanded {} Tryd.checked os 3 .any ((Rows.OpenSpec.upto Rows.encodesSpec).preRow enc Tryd.prog Tryd.f3 Rows.encodesUptoRow.domain false Rows.encodesUptoRow.laid) (((Rows.OpenSpec.upto Rows.encodesSpec).at F).post enc Tryd.prog Tryd.f3 false true false false) := by
  obtain ⟨places, hx⟩ := encodes_reads os enc
  refine returnsInHanded_of_row (C := Tryd.checked) (s := Rows.OpenSpec.upto Rows.encodesSpec) Tryd.ownE started (by kernel_rfl) Tryd.func3
    (witness_row_at (enc := enc) (C := Tryd.checked) false (layErrE (World.laidAll Tryd.prog os plainE)) enArg (World.laidAll_os _ _ _) (by kernel_rfl) (by kernel_rfl) (by kernel_rfl)
      (OpenSpec.preRow_of_cond 8 hx (by kernel_rfl) (fun k hk => by cases hk; kernel_rfl) (by kernel_rfl) (encodes_met os _))) ?_
  intro W base args ds gs before hval hW _ hcond _ hL _ _
  exact encodes_contract H enc W base args ds gs before hval hW (hcond _ rfl) hL

theorem encodes_row : Rows.EncodesUptoSaid :=
  OpenClaim.holds_of_cond 3 Tryd.f3 rfl rfl rfl rfl rfl rfl rfl ⟨rfl, rfl, rfl, rfl, rfl⟩ rfl rfl rfl rfl rfl (by kernel_rfl) Tryd.func3 (by kernel_rfl)
    (of_decide_eq_true (by kernel_rfl)) (by unfold Func.isWrapper; first | (rw [if_pos (by decide +kernel)]; kernel_rfl) | (rw [if_neg (by decide +kernel)]; exact ⟨rfl, rfl⟩))
    (fun os started H enc _ F => by rw [OpenClaim.pre_eq_preRow]; exact encodes_lifted os started H enc F)

theorem encodes_card : Rows.EncodesUptoCardSaid :=
  Claim7.holds_tied_plain_at .later [] _ _ _ _ encodes_row (fun _ h => by cases h) (by kernel_rfl) (fun _ h => by cases h) encodesUpto_row_tie rfl ⟨rfl, rfl⟩ (by kernel_rfl) rfl
    (fun f fn hf hfn => by
      obtain rfl : f = 3 := Option.some.inj ((show Tryd.prog.funcNamed "prologue/prologuelaw.Encodes" = some 3 by kernel_rfl).symm.trans hf) |>.symm
      obtain rfl : fn = Tryd.f3 := (Option.some.inj (Tryd.func3.symm.trans hfn)).symm
      exact ⟨by kernel_rfl, fun j t ht => by
        rw [Tryd.params3] at ht
        obtain rfl : t = 25 := by simpa using Array.mem_of_getElem? ht
        exact (show Tryd.prog.wantsStandIn 25 = false by kernel_rfl)⟩)
    (by kernel_rfl)
#print axioms encodes_card
end Go.Proofs.YthnmdbddfmgdlaaDoor
