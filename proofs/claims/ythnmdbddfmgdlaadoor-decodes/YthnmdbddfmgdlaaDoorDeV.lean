/-
  prologuelaw.Decodes: the row and its tied card. Own work of the verifier, after the guide's worked texts.
-/
import Derived.Test.YthnmdbddfmgdlaaDoorRows
import Derived.Test.YthnmdbddfmgdlaaDoorCards
import Derived.Test.YthnmdbddfmgdlaaDoorTie
import Derived.ProofKit
import Derived.OpenShut
import Derived.ChangeSame
import Derived.ChangeSlices
import Derived.ChangeVars
import Derived.JoinedOf
import Derived.RowKit
import Derived.RowKitTokens
import Derived.LaidLaws
import Derived.LaidHandle
import Derived.LaidSub
import Derived.Stop.Joined
import Derived.SevenTiedAt
import Derived.SizedLaws
import Derived.WideShapes
import Derived.MakeChecks
import Derived.Lib.LaidU8
import Derived.Lay
import Derived.Test.YthnmdbddfmgdlaaDoorDeU
import Derived.Test.YthnmdbddfmgdlaaDoorEncLd
import Derived.Lib.LaidTab
namespace Go.Proofs.YthnmdbddfmgdlaaDoor
open Go.ChangeShapes Go.WideShapes Go.ChangeAt Go.RowKit

theorem decodes_of_laid {W : World} (h : laidMetH Tryd.prog Rows.decodesRow.laid W) : NeedsAt W ∧ ErrTy W :=
  ⟨needs_of_reads (Lib.laidMet.reads (laidMetH_iff.1 h).1 (List.mem_filter.2 ⟨by simp [Rows.decodesRow], by kernel_rfl⟩)), errTy_of h (List.mem_filter.2 ⟨by simp [Rows.decodesRow], by kernel_rfl⟩)⟩
abbrev plainD : List (String × DataW Unit) := Rows.decodesRow.laid.filter fun x => x.2.handleName?.isNone
theorem decodes_met (os : Os) (args : Array Value) : laidMetH Tryd.prog Rows.decodesRow.laid ((layErrE (World.laidAll Tryd.prog os plainD)).forCall (fun _ _ => 0) ⟨#[], args, []⟩).memory :=
  laidMetH_of_parts (laidMet_of_run' 16 (by kernel_rfl) (by kernel_rfl)) (by kernel_rfl)
set_option maxRecDepth 100000 in
theorem decodes_lifted (os : Os) (started : os.Started) (H : Type) (enc : TypeId × Value → H) :
    ReturnsInHanded {} Tryd.checked os 4 .any (fun w args => (Rows.decodesSpec.pre enc Tryd.prog Tryd.f4 [] false w args ∧ laidMetH Tryd.prog Rows.decodesRow.laid w) ∧ sizedMet enc Tryd.prog Tryd.f4 (OpenSpec.ofChange Rows.decodesSpec) false w args)
      (Rows.decodesSpec.post enc Tryd.prog Tryd.f4 false true false false) := by
  refine returnsInHanded_of_change_and (C := Tryd.checked) (X := fun w _ => laidMetH Tryd.prog Rows.decodesRow.laid w) (fun _ _ _ hh h => h.of_heap hh) Tryd.ownE started (by kernel_rfl) Tryd.func4
    (ChangeSpec.witness_at (enc := enc) (C := Tryd.checked) (os := os) (X := fun w _ => laidMetH Tryd.prog Rows.decodesRow.laid w) false (layErrE (World.laidAll Tryd.prog os plainD)) #[.string ByteArray.empty] 8 rfl (by kernel_rfl) (by kernel_rfl) (by kernel_rfl) (by kernel_rfl) (by kernel_rfl) (decodes_met os _)) ?_
  intro W base args ds gs before hval0 hW _ hsz0 hL _
  have hval : ∀ (j : Nat) t v, Tryd.f4.params[j]? = some t → args[j]? = some v → Value.okWide Tryd.prog W .any base t v := hval0
  have hW' := hW
  obtain ⟨p, q, hA0, hV0, rfl, hfz, hnd⟩ := hW
  have hA : DataW.TrodAll enc Tryd.prog W 0 (fun _ => true) true Tryd.f4.params.toList args.toList ds p := hA0
  have hV : DataW.TrodVars enc Tryd.prog W (fun _ => true) [] gs q := hV0
  have hlt := DataW.TrodAll.lt hA
  rw [Tryd.params4] at hA hval
  obtain ⟨v0, vs0, d0, ds0, p0, q0, hargs, rfl, rfl, h0, r0⟩ := trodAll_cons hA
  obtain ⟨rfl, rfl, rfl⟩ := trodAll_nil r0
  obtain rfl : args = #[v0] := by cases args; simp_all
  obtain ⟨rfl, rfl⟩ := trodVars_none hV
  clear hA0 hval0 hV0
  simp only [List.append_nil] at hW' hlt
  obtain ⟨hN, hE⟩ := decodes_of_laid hL
  have h1h : 1 < W.heap.size := World.block_lt_of_cell? W _ (hN 0 (by decide))
  obtain ⟨fuel, hf⟩ := h0
  have hc : v0.cells.toList = [v0] := by
    obtain ⟨st, hst⟩ := okWide_string Tryd.underlying9 (hval 0 9 v0 rfl rfl)
    rw [hst]; rfl
  obtain ⟨st, c0, -, -⟩ := DataW.trod_string Tryd.underlying9 hf
  rw [hc] at c0
  obtain rfl := List.head_eq_of_cons_eq c0
  refine (decodes_walk st W hE hN h1h).mono fun e W' ⟨he, hb⟩ => ?_
  subst he
  have e1 : Rows.decodesSpec.fn H ([d0] ++ []) = { results := [.lit (.bool true)], args := [d0] } := by simp [Rows.decodesSpec]
  refine ⟨_, rfl, _, _, _, [], p0, [], hW', ?_, ?_, ?_, hb.frame _, fun h => by cases h⟩
  · rw [e1]; exact trodAll_cons_mk (shut_bool Tryd.underlying4 _) trodAll_mk0
  · rw [e1]
    have := trodAll_cons_mk (p' := []) (Below.trod Tryd.laidOutE (by kernel_rfl) (by rw [Tryd.sizeE]; decide) ⟨fuel, hf⟩ hb hlt) trodAll_mk0
    rw [List.append_nil] at this
    exact this
  · rw [e1]; rfl

theorem decodes_w1 : Tryd.pinned.checked.prog.funcNamed Rows.decodesRow.func = some 4 := by kernel_rfl
theorem decodes_w2 : joinedFacts Tryd.pinned.checked.prog 4 Tryd.f4 Rows.decodesSpec Rows.decodesRow = true := by kernel_rfl
theorem decodes_w3 : Tryd.f4.isInstance Tryd.pinned.checked.prog Rows.decodesRow.origin Rows.decodesRow.targs := of_decide_eq_true (by kernel_rfl)
theorem decodes_w4 : Tryd.f4.isWrapper Tryd.pinned.checked.prog Rows.decodesRow.wrapper Rows.decodesRow.mainSum := by unfold Func.isWrapper; rw [if_neg (of_decide_eq_false (by kernel_rfl))]; exact ⟨rfl, rfl⟩
theorem decodes_row : Rows.DecodesSaid :=
  OpenClaim.holds_of_wide 4 Tryd.f4 rfl rfl rfl rfl rfl rfl rfl ⟨rfl, rfl, rfl, rfl, rfl⟩ rfl rfl rfl rfl rfl decodes_w1 Tryd.func4 decodes_w2
    decodes_w3 decodes_w4
    (fun os started H enc _ => decodes_lifted os started H enc)

theorem decodes_card : Rows.DecodesCardSaid :=
  Claim7.holds_tied_plain_at .later [] _ _ _ _ decodes_row (fun _ h => by cases h) (by kernel_rfl) (fun _ h => by cases h) decodes_row_tie rfl ⟨rfl, rfl⟩ (by kernel_rfl) rfl
    (fun f fn hf hfn => by
      obtain rfl : f = 4 := Option.some.inj ((show Tryd.prog.funcNamed "prologue/prologuelaw.Decodes" = some 4 by kernel_rfl).symm.trans hf) |>.symm
      obtain rfl : fn = Tryd.f4 := (Option.some.inj (Tryd.func4.symm.trans hfn)).symm
      exact ⟨by kernel_rfl, fun j t ht => by
        rw [Tryd.params4] at ht
        obtain rfl : t = 9 := by simpa using Array.mem_of_getElem? ht
        exact (show Tryd.prog.wantsStandIn 9 = false by kernel_rfl)⟩)
    (by kernel_rfl)
#print axioms decodes_card
end Go.Proofs.YthnmdbddfmgdlaaDoor
