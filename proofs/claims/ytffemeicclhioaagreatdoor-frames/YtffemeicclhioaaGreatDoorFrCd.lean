/-
 prologuelaw.Frames: the row and its tied card. Own work of the verifier, after the guide's worked texts.
-/
import Derived.Test.YtffemeicclhioaaGreatDoorRows
import Derived.Test.YtffemeicclhioaaGreatDoorCards
import Derived.Test.YtffemeicclhioaaGreatDoorTie
import Derived.ProofKit
import Derived.OpenShut
import Derived.ChangeSame
import Derived.ChangeSlices
import Derived.ChangeVars
import Derived.JoinedOf
import Derived.RowKit
import Derived.RowKitTokens
import Derived.LaidLaws
import Derived.LaidHandle
import Derived.LaidSub
import Derived.Stop.Joined
import Derived.SevenTiedAt
import Derived.SizedLaws
import Derived.WideShapes
import Derived.MakeChecks
import Derived.Lib.LaidU8
import Derived.Lay
import Derived.Test.YtffemeicclhioaaGreatDoorJ13
import Derived.Test.YtffemeicclhioaaGreatDoorFrW
import Derived.Test.YtffemeicclhioaaGreatDoorJ47
import Derived.Test.YtffemeicclhioaaGreatDoorJ15
import Derived.Lib.LaidTab
namespace Go.Proofs.YtffemeicclhioaaGreatDoor
open Go.ChangeShapes Go.WideShapes Go.ChangeAt Go.RowKit

theorem frames_of_laid {W : World} (h : laidMetH Tryz.prog Rows.framesRow.laid W) : NeedsAt W ∧ ErrTy W :=
 ⟨needs_of_reads (Lib.laidMet.reads (laidMetH_iff.1 h).1 (List.mem_filter.2 ⟨by simp [Rows.framesRow], by kernel_rfl⟩)), errTy_of h (List.mem_filter.2 ⟨by simp [Rows.framesRow], by kernel_rfl⟩)⟩
abbrev plainFr : List (String × DataW Unit) := Rows.framesRow.laid.filter fun x => x.2.handleName?.isNone
theorem frames_met (os : Os) (args : Array Value) : laidMetH Tryz.prog Rows.framesRow.laid ((layErrE (World.laidAll Tryz.prog os plainFr)).forCall (fun _ _ => 0) ⟨#[], args, []⟩).memory :=
 laidMetH_of_parts (laidMet_of_run' 16 (by kernel_rfl) (by kernel_rfl)) (by kernel_rfl)
def frArg : Array Value := #[.agg #[.int .i64 0, .int .i64 0, .int .i64 0, .int .i64 0, .int .i64 0, .slice none 0 0, .slice none 0 0, .slice none 0 0, .int .i64 0, .int .i64 0, .int .i64 0, .bool false], .agg #[.slice none 0 0, .slice none 0 0], .int .i64 0]
set_option maxRecDepth 100000 in
theorem frames_lifted (os : Os) (started : os.Started) (H : Type) (enc : TypeId × Value → H) :
 ReturnsInHanded {} Tryz.checked os 3 .any (fun w args => (Rows.framesSpec.pre enc Tryz.prog Tryz.f3 [] false w args ∧ laidMetH Tryz.prog Rows.framesRow.laid w) ∧ sizedMet enc Tryz.prog Tryz.f3 (OpenSpec.ofChange Rows.framesSpec) false w args)
  (Rows.framesSpec.post enc Tryz.prog Tryz.f3 false true false false) := by
 refine returnsInHanded_of_change_and (C := Tryz.checked) (X := fun w _ => laidMetH Tryz.prog Rows.framesRow.laid w) (fun _ _ _ hh h => h.of_heap hh) Tryz.ownE started (by kernel_rfl) Tryz.func3
  (ChangeSpec.witness_at (enc := enc) (C := Tryz.checked) (os := os) (X := fun w _ => laidMetH Tryz.prog Rows.framesRow.laid w) false (layErrE (World.laidAll Tryz.prog os plainFr)) frArg 8 rfl (by kernel_rfl) (by kernel_rfl) (by kernel_rfl) (by kernel_rfl) (by kernel_rfl) (frames_met os _)) ?_
 intro W base args ds gs before hval0 hW _ hsz0 hL _
 have hval : ∀ (j : Nat) t v, Tryz.f3.params[j]? = some t → args[j]? = some v → Value.okWide Tryz.prog W .any base t v := hval0
 have hW' := hW
 obtain ⟨p, q, hA0, hV0, rfl, hfz, hnd⟩ := hW
 have hA : DataW.TrodAll enc Tryz.prog W 0 (fun _ => true) true Tryz.f3.params.toList args.toList ds p := hA0
 have hV : DataW.TrodVars enc Tryz.prog W (fun _ => true) [] gs q := hV0
 have hlt := DataW.TrodAll.lt hA
 have hsz1 : (DataW.weightsEach Tryz.prog (Tryz.f3.params.toList ++ Rows.framesSpec.plain.varTypes Tryz.prog) (ds ++ gs)).all (· ≤ reachBytes) = true := hsz0
 rw [Tryz.params3] at hA hval hsz1
 obtain ⟨v0, v1, v2, d0, d1, d2, p0, p1, p2, rfl, rfl, rfl, h0, h1, h2⟩ := trodAll_three hA
 obtain ⟨rfl, rfl⟩ := trodVars_none hV
 obtain ⟨n, rfl, rfl, rfl, w0⟩ := open_int Tryz.underlying3 (hval 2 3 v2 rfl rfl) h2
 clear hA0 hval0 hV0
 simp only [List.append_nil] at hW' hlt
 have hlite0 : ∀ x ∈ d0.weights Tryz.prog 25, x ≤ reachBytes := fun x hx => by
  have := List.all_eq_true.1 hsz1 x (by
   simp only [List.cons_append, List.nil_append, DataW.weightsEach, List.mem_append]
   exact Or.inl hx)
  simpa using this
 have hlite : ∀ x ∈ d1.weights Tryz.prog 29, x ≤ reachBytes := fun x hx => by
  have := List.all_eq_true.1 hsz1 x (by
   simp only [List.cons_append, List.nil_append, DataW.weightsEach, List.mem_append]
   exact Or.inr (Or.inl hx))
  simpa using this
 obtain ⟨hN, hE⟩ := frames_of_laid hL
 have h1h : 1 < W.heap.size := World.block_lt_of_cell? W _ (hN 0 (by decide))
 obtain ⟨T, rfl, hT, -⟩ := table_openL (hval 0 25 v0 rfl rfl) h0 hlite0
 obtain ⟨fv, ev, P, A, E, rfl, hP, hnum, hpl⟩ := prog_openC (hval 1 29 v1 rfl rfl) h1 hlite
 refine (frames_walk T P n fv ev A E W ⟨hT, hP, hnum, hN, h1h, hE, hpl⟩).mono fun e W' ⟨he, hb⟩ => ?_
 subst he
 have e1 : Rows.framesSpec.fn H ([d0, d1, .lit (.int .i64 n)] ++ []) = { results := [.lit (.bool true)], args := [d0, d1, .lit (.int .i64 n)] } := by simp [Rows.framesSpec]
 have hl0 : ∀ x ∈ p0, x.block < W.heap.size := fun x hx => hlt x (by simp [hx])
 have hl1 : ∀ x ∈ p1, x.block < W.heap.size := fun x hx => hlt x (by simp [hx])
 refine ⟨_, rfl, _, _, _, [], p0 ++ p1, [], hW', ?_, ?_, ?_, hb.frame _, fun h => by cases h⟩
 ·
  rw [e1]; exact trodAll_cons_mk (shut_bool Tryz.underlying4 _) trodAll_mk0
 ·
  rw [e1]
  have := trodAll_mk3 (p := p0) (p' := p1) (p'' := []) (Below.trod Tryz.laidOutE (by kernel_rfl) (by rw [Tryz.sizeE]; decide) h0 hb hl0) (Below.trod Tryz.laidOutE (by kernel_rfl) (by rw [Tryz.sizeE]; decide) h1 hb hl1) (shut_int Tryz.underlying3 w0)
  simp only [List.append_nil] at this
  exact this
 ·
  rw [e1]; rfl

theorem frames_w1 : Tryz.pinned.checked.prog.funcNamed Rows.framesRow.func = some 3 := by kernel_rfl
theorem frames_w2 : joinedFacts Tryz.pinned.checked.prog 3 Tryz.f3 Rows.framesSpec Rows.framesRow = true := by kernel_rfl
theorem frames_w3 : Tryz.f3.isInstance Tryz.pinned.checked.prog Rows.framesRow.origin Rows.framesRow.targs := of_decide_eq_true (by kernel_rfl)
theorem frames_w4 : Tryz.f3.isWrapper Tryz.pinned.checked.prog Rows.framesRow.wrapper Rows.framesRow.mainSum := by unfold Func.isWrapper; rw [if_neg (of_decide_eq_false (by kernel_rfl))]; exact ⟨rfl, rfl⟩
theorem frames_row : Rows.FramesSaid :=
 OpenClaim.holds_of_wide 3 Tryz.f3 rfl rfl rfl rfl rfl rfl rfl ⟨rfl, rfl, rfl, rfl, rfl⟩ rfl rfl rfl rfl rfl frames_w1 Tryz.func3 frames_w2
  frames_w3 frames_w4
  (fun os started H enc _ => frames_lifted os started H enc)

theorem frames_card : Rows.FramesCardSaid :=
 Claim7.holds_tied_plain_at .later [] _ _ _ _ frames_row (fun _ h => by cases h) (by kernel_rfl) (fun _ h => by cases h) frames_row_tie rfl ⟨rfl, rfl⟩ (by kernel_rfl) rfl
  (fun f fn hf hfn => by
   obtain rfl : f = 3 := Option.some.inj ((show Tryz.prog.funcNamed "prologue/prologuelaw.Frames" = some 3 by kernel_rfl).symm.trans hf) |>.symm
   obtain rfl : fn = Tryz.f3 := (Option.some.inj (Tryz.func3.symm.trans hfn)).symm
   exact ⟨by kernel_rfl, fun j t ht => by
    rw [Tryz.params3] at ht
    have h3 : t = 25 ∨ t = 29 ∨ t = 3 := by
     rcases j with _ | _ | _ | j
     ·
      exact Or.inl (by simpa using ht.symm)
     ·
      exact Or.inr (Or.inl (by simpa using ht.symm))
     ·
      exact Or.inr (Or.inr (by simpa using ht.symm))
     ·
      simp at ht
    rcases h3 with rfl | rfl | rfl
    ·
     exact (show Tryz.prog.wantsStandIn 25 = false by kernel_rfl)
    ·
     exact (show Tryz.prog.wantsStandIn 29 = false by kernel_rfl)
    ·
     exact (show Tryz.prog.wantsStandIn 3 = false by kernel_rfl)⟩)
  (by kernel_rfl)
#print axioms frames_card
end Go.Proofs.YtffemeicclhioaaGreatDoor
