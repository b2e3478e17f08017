/-
  prologuelaw.Checks: the row and its tied card. Own work of the verifier, after the guide's worked texts.
-/
import Derived.Test.YteaemhhbpaicnaaDoorRows
import Derived.Test.YteaemhhbpaicnaaDoorCards
import Derived.Test.YteaemhhbpaicnaaDoorTie
import Derived.ProofKit
import Derived.OpenShut
import Derived.ChangeSame
import Derived.ChangeSlices
import Derived.ChangeVars
import Derived.JoinedOf
import Derived.RowKit
import Derived.RowKitTokens
import Derived.LaidLaws
import Derived.LaidHandle
import Derived.LaidSub
import Derived.Stop.Joined
import Derived.SevenTiedAt
import Derived.SizedLaws
import Derived.WideShapes
import Derived.MakeChecks
import Derived.Lib.LaidU8
import Derived.Lay
import Derived.Test.YteaemhhbpaicnaaDoorCkX
import Derived.Test.YteaemhhbpaicnaaDoorCkZ
import Derived.Test.YteaemhhbpaicnaaDoorM7
import Derived.Lib.LaidTab
namespace Go.Proofs.YteaemhhbpaicnaaDoor
open Go.ChangeShapes Go.WideShapes Go.ChangeAt Go.RowKit

theorem checks_of_laid {W : World} (h : laidMetH Tryd.prog Rows.checksRow.laid W) : NeedsAt W ∧ ErrTy W :=
  ⟨needs_of_reads (Lib.laidMet.reads (laidMetH_iff.1 h).1 (List.mem_filter.2 ⟨by simp [Rows.checksRow], by kernel_rfl⟩)), errTy_of h (List.mem_filter.2 ⟨by simp [Rows.checksRow], by kernel_rfl⟩)⟩
abbrev plainC : List (String × DataW Unit) := Rows.checksRow.laid.filter fun x => x.2.handleName?.isNone
theorem checks_met (os : Os) (args : Array Value) : laidMetH Tryd.prog Rows.checksRow.laid ((layErrE (World.laidAll Tryd.prog os plainC)).forCall (fun _ _ => 0) ⟨#[], args, []⟩).memory :=
  laidMetH_of_parts (laidMet_of_run' 16 (by kernel_rfl) (by kernel_rfl)) (by kernel_rfl)
def chArg : Array Value := #[.agg #[.int .i64 0, .int .i64 0, .int .i64 0, .int .i64 0, .int .i64 0, .slice none 0 0, .slice none 0 0, .slice none 0 0, .int .i64 0, .int .i64 0, .int .i64 0, .bool false], .agg #[.slice none 0 0, .slice none 0 0]]
set_option maxRecDepth 100000 in
theorem checks_lifted (os : Os) (started : os.Started) (H : Type) (enc : TypeId × Value → H) :
    ReturnsInHanded {} Tryd.checked os 3 .any (fun w args => (Rows.checksSpec.pre enc Tryd.prog Tryd.f3 [] false w args ∧ laidMetH Tryd.prog Rows.checksRow.laid w) ∧ sizedMet enc Tryd.prog Tryd.f3 (OpenSpec.ofChange Rows.checksSpec) false w args)
      (Rows.checksSpec.post enc Tryd.prog Tryd.f3 false true false false) := by
  refine returnsInHanded_of_change_and (C := Tryd.checked) (X := fun w _ => laidMetH Tryd.prog Rows.checksRow.laid w) (fun _ _ _ hh h => h.of_heap hh) Tryd.ownE started (by kernel_rfl) Tryd.func3
    (ChangeSpec.witness_at (enc := enc) (C := Tryd.checked) (os := os) (X := fun w _ => laidMetH Tryd.prog Rows.checksRow.laid w) false (layErrE (World.laidAll Tryd.prog os plainC)) chArg 8 rfl (by kernel_rfl) (by kernel_rfl) (by kernel_rfl) (by kernel_rfl) (by kernel_rfl) (checks_met os _)) ?_
  intro W base args ds gs before hval0 hW _ hsz0 hL _
  have hval : ∀ (j : Nat) t v, Tryd.f3.params[j]? = some t → args[j]? = some v → Value.okWide Tryd.prog W .any base t v := hval0
  have hW' := hW
  obtain ⟨p, q, hA0, hV0, rfl, hfz, hnd⟩ := hW
  have hA : DataW.TrodAll enc Tryd.prog W 0 (fun _ => true) true Tryd.f3.params.toList args.toList ds p := hA0
  have hV : DataW.TrodVars enc Tryd.prog W (fun _ => true) [] gs q := hV0
  have hlt := DataW.TrodAll.lt hA
  have hsz1 : (DataW.weightsEach Tryd.prog (Tryd.f3.params.toList ++ Rows.checksSpec.plain.varTypes Tryd.prog) (ds ++ gs)).all (· ≤ reachBytes) = true := hsz0
  rw [Tryd.params3] at hA hval hsz1
  obtain ⟨v0, v1, d0, d1, p0, p1, rfl, rfl, rfl, h0, h1⟩ := trodAll_two hA
  obtain ⟨rfl, rfl⟩ := trodVars_none hV
  clear hA0 hval0 hV0
  simp only [List.append_nil] at hW' hlt
  have hlite : ∀ x ∈ d1.weights Tryd.prog 29, x ≤ reachBytes := fun x hx => by
    have := List.all_eq_true.1 hsz1 x (by
      simp only [List.cons_append, List.nil_append, DataW.weightsEach, List.mem_append]
      exact Or.inr (Or.inl hx))
    simpa using this
  obtain ⟨hN, hE⟩ := checks_of_laid hL
  have h1h : 1 < W.heap.size := World.block_lt_of_cell? W _ (hN 0 (by decide))
  obtain ⟨r, sp, lk, t0, t1, va, vr, vs, al, sh, by_, ag, rs, ss, pr, rfl, ⟨ha, hr, hs⟩, ca, cr, cs⟩ := table_openQ (hval 0 25 v0 rfl rfl) h0
  obtain ⟨fv, ev, P, A, E, rfl, hP, hnum, hpl⟩ := prog_openC (hval 1 29 v1 rfl rfl) h1 hlite
  refine (checks_walk r sp lk t0 t1 va vr vs al sh by_ pr ag rs ss P fv ev A E W ⟨ha, hr, hs, ca, cr, cs⟩ hP hnum hpl hN h1h hE).mono fun e W' ⟨he, hb⟩ => ?_
  subst he
  have e1 : Rows.checksSpec.fn H ([d0, d1] ++ []) = { results := [.lit (.bool true)], args := [d0, d1] } := by simp [Rows.checksSpec]
  have hl0 : ∀ x ∈ p0, x.block < W.heap.size := fun x hx => hlt x (List.mem_append.2 (Or.inl hx))
  have hl1 : ∀ x ∈ p1, x.block < W.heap.size := fun x hx => hlt x (List.mem_append.2 (Or.inr hx))
  refine ⟨_, rfl, _, _, _, [], p0 ++ p1, [], hW', ?_, ?_, ?_, hb.frame _, fun h => by cases h⟩
  · rw [e1]; exact trodAll_cons_mk (shut_bool Tryd.underlying4 _) trodAll_mk0
  · rw [e1]
    exact trodAll_mk2 (p := p0) (p' := p1) (Below.trod Tryd.laidOutE (by kernel_rfl) (by rw [Tryd.sizeE]; decide) h0 hb hl0) (Below.trod Tryd.laidOutE (by kernel_rfl) (by rw [Tryd.sizeE]; decide) h1 hb hl1)
  · rw [e1]; rfl

theorem checks_w1 : Tryd.pinned.checked.prog.funcNamed Rows.checksRow.func = some 3 := by kernel_rfl
theorem checks_w2 : joinedFacts Tryd.pinned.checked.prog 3 Tryd.f3 Rows.checksSpec Rows.checksRow = true := by kernel_rfl
theorem checks_w3 : Tryd.f3.isInstance Tryd.pinned.checked.prog Rows.checksRow.origin Rows.checksRow.targs := of_decide_eq_true (by kernel_rfl)
theorem checks_w4 : Tryd.f3.isWrapper Tryd.pinned.checked.prog Rows.checksRow.wrapper Rows.checksRow.mainSum := by unfold Func.isWrapper; rw [if_neg (of_decide_eq_false (by kernel_rfl))]; exact ⟨rfl, rfl⟩
theorem checks_row : Rows.ChecksSaid :=
  OpenClaim.holds_of_wide 3 Tryd.f3 rfl rfl rfl rfl rfl rfl rfl ⟨rfl, rfl, rfl, rfl, rfl⟩ rfl rfl rfl rfl rfl checks_w1 Tryd.func3 checks_w2
    checks_w3 checks_w4
    (fun os started H enc _ => checks_lifted os started H enc)

theorem checks_card : Rows.ChecksCardSaid :=
  Claim7.holds_tied_plain_at .later [] _ _ _ _ checks_row (fun _ h => by cases h) (by kernel_rfl) (fun _ h => by cases h) checks_row_tie rfl ⟨rfl, rfl⟩ (by kernel_rfl) rfl
    (fun f fn hf hfn => by
      obtain rfl : f = 3 := Option.some.inj ((show Tryd.prog.funcNamed "prologue/prologuelaw.Checks" = some 3 by kernel_rfl).symm.trans hf) |>.symm
      obtain rfl : fn = Tryd.f3 := (Option.some.inj (Tryd.func3.symm.trans hfn)).symm
      exact ⟨by kernel_rfl, fun j t ht => by
        rw [Tryd.params3] at ht
        have h3 : t = 25 ∨ t = 29 := by
          rcases j with _ | _ | j
          · exact Or.inl (by simpa using ht.symm)
          · exact Or.inr (by simpa using ht.symm)
          · simp at ht
        rcases h3 with rfl | rfl
        · exact (show Tryd.prog.wantsStandIn 25 = false by kernel_rfl)
        · exact (show Tryd.prog.wantsStandIn 29 = false by kernel_rfl)⟩)
    (by kernel_rfl)
#print axioms checks_card
end Go.Proofs.YteaemhhbpaicnaaDoor
