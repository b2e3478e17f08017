/-
  prologuelaw.Classifies: its arguments opened, the row and its tied card. Own work of the verifier, after the guide's worked texts.
-/
import Derived.Test.YtffemeicclhioaaDoorRows
import Derived.Test.YtffemeicclhioaaDoorCards
import Derived.Test.YtffemeicclhioaaDoorTie
import Derived.ProofKit
import Derived.OpenShut
import Derived.ChangeSame
import Derived.ChangeSlices
import Derived.ChangeVars
import Derived.JoinedOf
import Derived.RowKit
import Derived.RowKitTokens
import Derived.LaidLaws
import Derived.LaidHandle
import Derived.LaidSub
import Derived.Stop.Joined
import Derived.SevenTiedAt
import Derived.SizedLaws
import Derived.WideShapes
import Derived.MakeChecks
import Derived.Lib.LaidU8
import Derived.Lay
import Derived.Test.YtffemeicclhioaaDoorCkX
import Derived.Test.YtffemeicclhioaaDoorClN
import Derived.Test.YtffemeicclhioaaDoorM7
import Derived.Lib.LaidTab
namespace Go.Proofs.YtffemeicclhioaaDoor
open Go.ChangeShapes Go.WideShapes Go.ChangeAt Go.RowKit Go.Deep

section
variable {H : Type} {enc : TypeId × Value → H} {w : World} {held : Bool}
theorem nums_openL {n : Nat} {v : Value} {y : DataW H × List MemPlace} (h : TrE enc w held n 23 [v] y) (hw : Lite 23 y.1) : ∃ ns : List Int, Li w v ns ∧ ns.length * 8 ≤ 140737488351232 := by
  obtain ⟨ps, h1, h2, h3⟩ := list_openC (One := fun q : Array Value × Int => q.1 = #[.int .i64 q.2]) Tryd.underlying23 Tryd.cellsIntE (by decide) (show Tryd.prog.bytesOf 3 = 8 by kernel_rfl) (fun n cs y hl hy _ => by
    match cs, hl with
    | [v], _ =>
      obtain ⟨x, rfl, hx⟩ := int_openE hy
      exact ⟨x, rfl⟩) h hw
  have hl : (ps.map (·.2)).length = ps.length := by simp
  obtain ⟨p, cap, g1, g2, g3, g4⟩ := (h1.congr (B := fun k => #[.int .i64 ((ps.map (·.2)).getD k default)]) (fun i hi => by rw [getD_map2 ps #[]]; exact h2 _ (getD_memC _ _ _ hi))).ones
  exact ⟨ps.map (·.2), ⟨p, cap, by rw [hl]; exact g1, by rw [hl]; exact g2, by rw [hl]; exact g3, fun h0 => by rw [hl] at h0 ⊢; exact g4 h0⟩, by rw [hl]; exact h3⟩
set_option maxRecDepth 100000 in
theorem table_openL {b0 : Nat} {r : Reach} {v : Value} {d : DataW H} {p : List MemPlace} (hv : Value.okWide Tryd.prog w r b0 25 v) (h : DataW.Trod enc Tryd.prog w 0 (fun _ => true) held 25 v d p) (hw : Lite 25 d) :
    ∃ T : TbE, v = .agg T.box ∧ TbO w T ∧ TbLim T := by
  obtain ⟨cs, rfl, hsz⟩ := okWide_struct Tryd.underlying25 hv
  obtain ⟨l⟩ := cs
  obtain ⟨c0, c1, c2, c3, c4, c5, c6, c7, c8, c9, c10, c11, rfl⟩ := list12Q (l := l) (hsz.trans (by kernel_rfl))
  obtain ⟨fuel, hf⟩ := h
  obtain ⟨xs, n, -, hx, -, hxl, hall⟩ := DataW.trod_struct Tryd.underlying25 hf
  obtain ⟨y0, y1, y2, y3, y4, y5, y6, y7, y8, y9, y10, rfl⟩ := list11Q hxl
  have f0 : TrE enc w held n 3 [c0] y0 := field_ofQ hall (i := 0) rfl Tryd.cellsIntQ rfl
  have f1 : TrE enc w held n 3 [c1] y1 := field_ofQ hall (i := 1) rfl Tryd.cellsIntQ rfl
  have f2 : TrE enc w held n 3 [c2] y2 := field_ofQ hall (i := 2) rfl Tryd.cellsIntQ rfl
  have f3 : TrE enc w held n 22 [c3, c4] y3 := field_ofQ hall (i := 3) rfl Tryd.cells2iQ rfl
  have f4 : TrE enc w held n 23 [c5] y4 := field_ofQ hall (i := 4) rfl Tryd.cellsIntsQ rfl
  have f5 : TrE enc w held n 23 [c6] y5 := field_ofQ hall (i := 5) rfl Tryd.cellsIntsQ rfl
  have f6 : TrE enc w held n 23 [c7] y6 := field_ofQ hall (i := 6) rfl Tryd.cellsIntsQ rfl
  have f7 : TrE enc w held n 3 [c8] y7 := field_ofQ hall (i := 7) rfl Tryd.cellsIntQ rfl
  have f8 : TrE enc w held n 3 [c9] y8 := field_ofQ hall (i := 8) rfl Tryd.cellsIntQ rfl
  have f9 : TrE enc w held n 3 [c10] y9 := field_ofQ hall (i := 9) rfl Tryd.cellsIntQ rfl
  have f10 : TrE enc w held n 4 [c11] y10 := field_ofQ hall (i := 10) rfl Tryd.cellsBoolQ rfl
  clear hall
  rw [show d = _ from congrArg Prod.fst hx] at hw
  unfold Lite at hw
  simp only [DataW.weights, Tryd.underlying25, List.map_cons, List.map_nil, DataW.weightsEach, List.mem_append] at hw
  obtain ⟨i0, rfl⟩ := int_openQ (v := c0) (y := y0) f0
  obtain ⟨i1, rfl⟩ := int_openQ (v := c1) (y := y1) f1
  obtain ⟨i2, rfl⟩ := int_openQ (v := c2) (y := y2) f2
  obtain ⟨i3, i4, rfl, rfl⟩ := two_openQ (v0 := c3) (v1 := c4) (y := y3) f3
  obtain ⟨ag, l5, k5⟩ := nums_openL f4 (fun z hz => hw z (by simp only [hz, true_or, or_true]))
  obtain ⟨rs, l6, k6⟩ := nums_openL f5 (fun z hz => hw z (by simp only [hz, true_or, or_true]))
  obtain ⟨ss, l7, k7⟩ := nums_openL f6 (fun z hz => hw z (by simp only [hz, true_or, or_true]))
  obtain ⟨i8, rfl⟩ := int_openQ (v := c8) (y := y7) f7
  obtain ⟨i9, rfl⟩ := int_openQ (v := c9) (y := y8) f8
  obtain ⟨i10, rfl⟩ := int_openQ (v := c10) (y := y9) f9
  obtain ⟨pr, hpr, -⟩ := DataW.trod_bool Tryd.underlying4 (cs := [c11]) (x := y10) f10
  obtain rfl := List.head_eq_of_cons_eq hpr
  have m5 := l5
  have m6 := l6
  have m7 := l7
  obtain ⟨pa, ca, rfl, -⟩ := l5
  obtain ⟨pb, cb, rfl, -⟩ := l6
  obtain ⟨pc, cc, rfl, -⟩ := l7
  exact ⟨⟨i0, i1, i2, i3, i4, pa, ag, ca, pb, rs, cb, pc, ss, cc, i8, i9, i10, pr⟩, rfl, ⟨m5, m6, m7⟩, ⟨k5, k6, k7⟩⟩
set_option maxRecDepth 100000 in
theorem sig_openL {b0 : Nat} {r : Reach} {v : Value} {d : DataW H} {p : List MemPlace} (hv : Value.okWide Tryd.prog w r b0 27 v) (h : DataW.Trod enc Tryd.prog w 0 (fun _ => true) held 27 v d p) (hw : Lite 27 d) :
    ∃ (ps : List Int) (pq : Option Addr) (cq : Nat) (n : Int), v = .agg #[.slice pq ps.length cq, .int .i64 n] ∧ Li w (.slice pq ps.length cq) ps ∧ ps.length * 8 ≤ 140737488351232 := by
  obtain ⟨cs, rfl, hsz⟩ := okWide_struct Tryd.underlying27 hv
  obtain ⟨l⟩ := cs
  obtain ⟨c0, c1, rfl⟩ := list2E (l := l) (hsz.trans (by kernel_rfl))
  obtain ⟨fuel, hf⟩ := h
  obtain ⟨xs, n, -, hx, -, hxl, hall⟩ := DataW.trod_struct Tryd.underlying27 hf
  obtain ⟨y0, y1, rfl⟩ := list2E hxl
  have f0 : TrE enc w held n 23 [c0] y0 := field_ofQ hall (i := 0) rfl Tryd.cellsIntsQ rfl
  have f1 : TrE enc w held n 3 [c1] y1 := field_ofQ hall (i := 1) rfl Tryd.cellsIntQ rfl
  clear hall
  rw [show d = _ from congrArg Prod.fst hx] at hw
  unfold Lite at hw
  simp only [DataW.weights, Tryd.underlying27, List.map_cons, List.map_nil, DataW.weightsEach, List.mem_append] at hw
  obtain ⟨ns, l0, k0⟩ := nums_openL f0 (fun z hz => hw z (by first | exact Or.inl hz | simp only [hz, true_or, or_true]))
  obtain ⟨i1, rfl⟩ := int_openQ (v := c1) (y := y1) f1
  have m0 := l0
  obtain ⟨pa, ca, rfl, -⟩ := l0
  exact ⟨ns, pa, ca, i1, rfl, m0, k0⟩
end
theorem classifies_of_laid {W : World} (h : laidMetH Tryd.prog Rows.classifiesRow.laid W) : ErrTy W :=
  errTy_of h (List.mem_filter.2 ⟨by simp [Rows.classifiesRow], by kernel_rfl⟩)
abbrev plainL : List (String × DataW Unit) := Rows.classifiesRow.laid.filter fun x => x.2.handleName?.isNone
theorem classifies_met (os : Os) (args : Array Value) : laidMetH Tryd.prog Rows.classifiesRow.laid ((layErrE (World.laidAll Tryd.prog os plainL)).forCall (fun _ _ => 0) ⟨#[], args, []⟩).memory :=
  laidMetH_of_parts (laidMet_of_run' 16 (by kernel_rfl) (by kernel_rfl)) (by kernel_rfl)
def clArg : Array Value := #[.agg #[.int .i64 0, .int .i64 0, .int .i64 0, .int .i64 0, .int .i64 0, .slice none 0 0, .slice none 0 0, .slice none 0 0, .int .i64 0, .int .i64 0, .int .i64 0, .bool false], .agg #[.slice none 0 0, .int .i64 0]]
set_option maxRecDepth 100000 in
theorem classifies_lifted (os : Os) (started : os.Started) (H : Type) (enc : TypeId × Value → H) :
    ReturnsInHanded {} Tryd.checked os 3 .any (fun w args => (Rows.classifiesSpec.pre enc Tryd.prog Tryd.f3 [] false w args ∧ laidMetH Tryd.prog Rows.classifiesRow.laid w) ∧ sizedMet enc Tryd.prog Tryd.f3 (OpenSpec.ofChange Rows.classifiesSpec) false w args)
      (Rows.classifiesSpec.post enc Tryd.prog Tryd.f3 false true false false) := by
  refine returnsInHanded_of_change_and (C := Tryd.checked) (X := fun w _ => laidMetH Tryd.prog Rows.classifiesRow.laid w) (fun _ _ _ hh h => h.of_heap hh) Tryd.ownE started (by kernel_rfl) Tryd.func3
    (ChangeSpec.witness_at (enc := enc) (C := Tryd.checked) (os := os) (X := fun w _ => laidMetH Tryd.prog Rows.classifiesRow.laid w) false (layErrE (World.laidAll Tryd.prog os plainL)) clArg 8 rfl (by kernel_rfl) (by kernel_rfl) (by kernel_rfl) (by kernel_rfl) (by kernel_rfl) (classifies_met os _)) ?_
  intro W base args ds gs before hval0 hW _ hsz0 hL _
  have hval : ∀ (j : Nat) t v, Tryd.f3.params[j]? = some t → args[j]? = some v → Value.okWide Tryd.prog W .any base t v := hval0
  have hW' := hW
  obtain ⟨p, q, hA0, hV0, rfl, hfz, hnd⟩ := hW
  have hA : DataW.TrodAll enc Tryd.prog W 0 (fun _ => true) true Tryd.f3.params.toList args.toList ds p := hA0
  have hV : DataW.TrodVars enc Tryd.prog W (fun _ => true) [] gs q := hV0
  have hlt := DataW.TrodAll.lt hA
  have hsz1 : (DataW.weightsEach Tryd.prog (Tryd.f3.params.toList ++ Rows.classifiesSpec.plain.varTypes Tryd.prog) (ds ++ gs)).all (· ≤ reachBytes) = true := hsz0
  rw [Tryd.params3] at hA hval hsz1
  obtain ⟨v0, v1, d0, d1, p0, p1, rfl, rfl, rfl, h0, h1⟩ := trodAll_two hA
  obtain ⟨rfl, rfl⟩ := trodVars_none hV
  clear hA0 hval0 hV0
  simp only [List.append_nil] at hW' hlt
  have hlite0 : ∀ x ∈ d0.weights Tryd.prog 25, x ≤ reachBytes := fun x hx => by
    have := List.all_eq_true.1 hsz1 x (by
      simp only [List.cons_append, List.nil_append, DataW.weightsEach, List.mem_append]
      exact Or.inl hx)
    simpa using this
  have hlite1 : ∀ x ∈ d1.weights Tryd.prog 27, x ≤ reachBytes := fun x hx => by
    have := List.all_eq_true.1 hsz1 x (by
      simp only [List.cons_append, List.nil_append, DataW.weightsEach, List.mem_append]
      exact Or.inr (Or.inl hx))
    simpa using this
  have hE := classifies_of_laid hL
  obtain ⟨T, rfl, hT, hTl⟩ := table_openL (hval 0 25 v0 rfl rfl) h0 hlite0
  obtain ⟨ps, pq, cq, n, rfl, hps, hpl⟩ := sig_openL (hval 1 27 v1 rfl rfl) h1 hlite1
  refine (classifies_walk T ps pq cq n W hE hT hTl hps hpl).mono fun e W' ⟨he, hb⟩ => ?_
  subst he
  have e1 : Rows.classifiesSpec.fn H ([d0, d1] ++ []) = { results := [.lit (.bool true)], args := [d0, d1] } := by simp [Rows.classifiesSpec]
  have hl0 : ∀ x ∈ p0, x.block < W.heap.size := fun x hx => hlt x (List.mem_append.2 (Or.inl hx))
  have hl1 : ∀ x ∈ p1, x.block < W.heap.size := fun x hx => hlt x (List.mem_append.2 (Or.inr hx))
  refine ⟨_, rfl, _, _, _, [], p0 ++ p1, [], hW', ?_, ?_, ?_, hb.frame _, fun h => by cases h⟩
  · rw [e1]; exact trodAll_cons_mk (shut_bool Tryd.underlying4 _) trodAll_mk0
  · rw [e1]
    exact trodAll_mk2 (p := p0) (p' := p1) (Below.trod Tryd.laidOutE (by kernel_rfl) (by rw [Tryd.sizeE]; decide) h0 hb hl0) (Below.trod Tryd.laidOutE (by kernel_rfl) (by rw [Tryd.sizeE]; decide) h1 hb hl1)
  · rw [e1]; rfl

theorem classifies_w1 : Tryd.pinned.checked.prog.funcNamed Rows.classifiesRow.func = some 3 := by kernel_rfl
theorem classifies_w2 : joinedFacts Tryd.pinned.checked.prog 3 Tryd.f3 Rows.classifiesSpec Rows.classifiesRow = true := by kernel_rfl
theorem classifies_w3 : Tryd.f3.isInstance Tryd.pinned.checked.prog Rows.classifiesRow.origin Rows.classifiesRow.targs := of_decide_eq_true (by kernel_rfl)
theorem classifies_w4 : Tryd.f3.isWrapper Tryd.pinned.checked.prog Rows.classifiesRow.wrapper Rows.classifiesRow.mainSum := by unfold Func.isWrapper; rw [if_neg (of_decide_eq_false (by kernel_rfl))]; exact ⟨rfl, rfl⟩
theorem classifies_row : Rows.ClassifiesSaid :=
  OpenClaim.holds_of_wide 3 Tryd.f3 rfl rfl rfl rfl rfl rfl rfl ⟨rfl, rfl, rfl, rfl, rfl⟩ rfl rfl rfl rfl rfl classifies_w1 Tryd.func3 classifies_w2
    classifies_w3 classifies_w4
    (fun os started H enc _ => classifies_lifted os started H enc)

theorem classifies_card : Rows.ClassifiesCardSaid :=
  Claim7.holds_tied_plain_at .later [] _ _ _ _ classifies_row (fun _ h => by cases h) (by kernel_rfl) (fun _ h => by cases h) classifies_row_tie rfl ⟨rfl, rfl⟩ (by kernel_rfl) rfl
    (fun f fn hf hfn => by
      obtain rfl : f = 3 := Option.some.inj ((show Tryd.prog.funcNamed "prologue/prologuelaw.Classifies" = some 3 by kernel_rfl).symm.trans hf) |>.symm
      obtain rfl : fn = Tryd.f3 := (Option.some.inj (Tryd.func3.symm.trans hfn)).symm
      exact ⟨by kernel_rfl, fun j t ht => by
        rw [Tryd.params3] at ht
        have h3 : t = 25 ∨ t = 27 := by
          rcases j with _ | _ | j
          · exact Or.inl (by simpa using ht.symm)
          · exact Or.inr (by simpa using ht.symm)
          · simp at ht
        rcases h3 with rfl | rfl
        · exact (show Tryd.prog.wantsStandIn 25 = false by kernel_rfl)
        · exact (show Tryd.prog.wantsStandIn 27 = false by kernel_rfl)⟩)
    (by kernel_rfl)
#print axioms classifies_card
end Go.Proofs.YtffemeicclhioaaDoor
