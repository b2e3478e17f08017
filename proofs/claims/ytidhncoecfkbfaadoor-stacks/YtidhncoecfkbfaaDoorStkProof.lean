/-
  prologuelaw.Stacks: the row and its tied card. Own work of the verifier, after the guide's worked texts.
-/
import Derived.Test.YtidhncoecfkbfaaDoorRows
import Derived.Test.YtidhncoecfkbfaaDoorCards
import Derived.Test.YtidhncoecfkbfaaDoorTie
import Derived.Test.YtidhncoecfkbfaaDoorStkWalk
import Derived.ProofKit
import Derived.OpenShut
import Derived.ChangeSame
import Derived.ChangeVars
import Derived.JoinedOf
import Derived.RowKit
import Derived.RowKitTokens
import Derived.LaidLaws
import Derived.LaidHandle
import Derived.Stop.Joined
import Derived.SevenTiedAt
import Derived.SizedLaws
import Derived.Deep.Slices
import Derived.Lib.SmallJoins
namespace Go.Proofs.YtidhncoecfkbfaaDoor
open Go.ChangeShapes Go.WideShapes Go.ChangeAt Go.RowKit Go.Deep Go.Joins

theorem Tryd.own : ownKnob Tryd.prog.godebug = none := by kernel_rfl
theorem Tryd.laidOut : laidOutB Tryd.prog = true := by kernel_rfl
theorem Tryd.et : Tryd.prog.globalNamed "errors.errorType" = some 0 := by kernel_rfl
theorem Tryd.rt : (Tryd.prog.cutTypes.find? (·.1 == "internal/reflectlite.rtype")).map (·.2) = some 168 := by kernel_rfl
theorem Tryd.oneRow : ((List.range 274).filter fun t => Tryd.prog.rowNamed t [101, 114, 114, 111, 114]) = [62] := by kernel_rfl
theorem Tryd.size : Tryd.prog.types.size = 274 := by kernel_rfl
theorem Tryd.hand : typeHandle Tryd.prog 62 = .pointer (some ⟨9, 62, none⟩) := by kernel_rfl

abbrev theLaid {H : Type} : List (String × DataW H) := [("errors.errorType", Rows.laid_errors_errorType)]
theorem handle_of_laid {W : World} (h : laidMetH Tryd.prog theLaid W) : ErrTy W := by
  have h' : laidMet Tryd.prog [] W ∧ handlesMet Tryd.prog theLaid W := h
  obtain ⟨name, u, ty, e1, e2, e3, e4, e5⟩ := h'.2 _ (List.mem_singleton.2 rfl)
  have en : name = [101, 114, 114, 111, 114] := (Option.some.inj e1).symm
  subst en
  obtain rfl := Option.some.inj (Tryd.rt.symm.trans e2)
  have hm : ty ∈ (List.range 274).filter fun t => Tryd.prog.rowNamed t [101, 114, 114, 111, 114] := List.mem_filter.2 ⟨List.mem_range.2 (by rw [← Tryd.size]; exact e3), e4⟩
  rw [Tryd.oneRow] at hm
  obtain rfl := List.mem_singleton.1 hm
  rw [Tryd.hand] at e5
  simpa using World.var?_cell Tryd.et e5 0
def layErr (w : World) : World :=
  { w with heap := w.heap.modify 0 fun
      | .cells _ t frozen => .cells #[.iface 168 (.agg #[.pointer (some ⟨9, 62, none⟩)])] t frozen
      | o => o }
theorem layErr_met (os : Os) (args : Array Value) : laidMetH Tryd.prog theLaid ((layErr (World.holding Tryd.prog os ⟨#[], #[], []⟩)).forCall (fun _ _ => 0) ⟨#[], args, []⟩).memory :=
  laidMetH_of_parts (laidMet_nil _ _) (by kernel_rfl)

set_option maxHeartbeats 1000000 in
theorem stacks_empty (n cap : Nat) (p : Option Addr) (w : World) (hn : n ≤ 65536) :
    Calls Tryd.prog 3 #[.int .i64 n, .slice p 0 cap] w fun e w' => e = .returned (.bool true) ∧ Below w.heap.size w w' := by
  go_enter Tryd.func3, Tryd.ntmps3
  go_wp2_with fail
  refine (new_inv n _ hn).mono ?_
  rintro e w2 ⟨b, c, d, rfl, hI, hK⟩
  have hz2 := hK.size
  have HI := hide hI
  clear hI hK
  go_wp2_with fail
  refine (rbytes_any n _).mono ?_
  rintro e w3 ⟨rfl, hR, hB3⟩
  have HB := hide (((unhide HI).alloc _).below hB3)
  clear hR hB3
  go_wp2_with fail
  refine wp_loop_rounds 1 ?_
  rw [rounds_succ]
  go_wp2
  go_ret
  exact ⟨rfl, (unhide HB).low⟩

theorem Tryd.cellsStep : Tryd.prog.cellsOf 34 = 4 := by kernel_rfl
theorem Tryd.cells1 : Tryd.prog.cellsOf 3 = 1 := by kernel_rfl
theorem Tryd.cells1u : Tryd.prog.cellsOf 32 = 1 := by kernel_rfl
theorem Tryd.bytesStep : Tryd.prog.bytesOf 34 = 32 := by kernel_rfl

/- An element of a script, opened. -/
set_option maxRecDepth 100000 in
theorem step_open {H : Type} {enc : TypeId × Value → H} {w : World} {spare : Nat → Bool} {held : Bool} {fuel : Nat} {a : Addr} {x : DataW H × List MemPlace} {cs : List Value} (h1 : w.cells? 0 a 4 = some cs) (h2 : DataW.trod enc Tryd.prog w 0 spare held fuel 34 cs = some x) :
    a.spot = none ∧ ∃ x0 x1 x2 x3, StepAt w a.block a.off x0 x1 x2 x3 := by
  obtain ⟨_, hlen, hcell⟩ := World.cells?_some h1
  obtain ⟨y0, y1, y2, y3, n, rfl, hl, g0, g1, g2, g3⟩ := trod_struct4 Tryd.underlying34 h2
  match cs, hlen with
  | [v0, v1, v2, v3], _ =>
    rw [show Tryd.prog.cellsOf _ = 1 from Tryd.cells1] at g0
    rw [show Tryd.prog.cellsOf _ = 1 from Tryd.cells1] at g1
    rw [show Tryd.prog.cellsOf _ = 1 from Tryd.cells1] at g2
    rw [show Tryd.prog.cellsOf _ = 1 from Tryd.cells1u] at g3
    obtain ⟨n0, e0, -, -⟩ := DataW.trod_int Tryd.underlying3 g0
    obtain ⟨n1, e1, -, -⟩ := DataW.trod_int Tryd.underlying3 g1
    obtain ⟨n2, e2, -, -⟩ := DataW.trod_int Tryd.underlying3 g2
    obtain ⟨n3, e3, -, w3⟩ := DataW.trod_int Tryd.underlying32 g3
    simp at e0 e1 e2 e3
    subst e0 e1 e2 e3
    obtain ⟨b, off, spot⟩ := a
    have k0 := hcell 0 (by omega)
    have k1 := hcell 1 (by omega)
    have k2 := hcell 2 (by omega)
    have k3 := hcell 3 (by omega)
    have hspot : spot = none := by simpa [Addr.add] using World.cell?_spot k0
    subst hspot
    simp [Addr.add] at k0 k1 k2 k3
    exact ⟨rfl, n0, n1, n2, n3, k0, k1, k2, k3, by have := bounds_u64 w3; omega⟩

set_option maxRecDepth 100000 in
theorem lifted (os : Os) (started : os.Started) (H : Type) (enc : TypeId × Value → H) :
    ReturnsInHanded {} Tryd.checked os 3 .any (fun w args => (Rows.stacksSpec.pre enc Tryd.prog Tryd.f3 [] false w args ∧ laidMetH Tryd.prog theLaid w) ∧ sizedMet enc Tryd.prog Tryd.f3 (OpenSpec.ofChange Rows.stacksSpec) false w args)
      (Rows.stacksSpec.post enc Tryd.prog Tryd.f3 false true false false) := by
  refine returnsInHanded_of_change_and (C := Tryd.checked) (X := fun w _ => laidMetH Tryd.prog theLaid w) (fun _ _ _ hh h => h.of_heap hh) Tryd.own started (by kernel_rfl) Tryd.func3
    (ChangeSpec.witness_at (enc := enc) (C := Tryd.checked) (os := os) (X := fun w _ => laidMetH Tryd.prog theLaid w) false (layErr (World.holding Tryd.prog os ⟨#[], #[], []⟩)) #[.int .i64 0, .slice none 0 0] 8 rfl (by kernel_rfl) (by kernel_rfl) (by kernel_rfl) (by kernel_rfl) (by kernel_rfl) (layErr_met os _)) ?_
  intro W base args ds gs before hval0 hW _ hsz0 hL _
  have hval : ∀ (j : Nat) t v, Tryd.f3.params[j]? = some t → args[j]? = some v → Value.okWide Tryd.prog W .any base t v := hval0
  have hW' := hW
  obtain ⟨p, q, hA0, hV0, rfl, hfz, hnd⟩ := hW
  have hA : DataW.TrodAll enc Tryd.prog W 0 (fun _ => true) true Tryd.f3.params.toList args.toList ds p := hA0
  have hV : DataW.TrodVars enc Tryd.prog W (fun _ => true) [] gs q := hV0
  have hlt := DataW.TrodAll.lt hA
  have hsz : (DataW.weightsEach Tryd.prog (Tryd.f3.params.toList ++ []) (ds ++ gs)).all (· ≤ reachBytes) = true := hsz0
  rw [Tryd.params3] at hA hval hsz
  obtain ⟨v0, v1, d0, d1, p0, p1, rfl, rfl, rfl, h0, h1⟩ := trodAll_two hA
  obtain ⟨rfl, rfl⟩ := trodVars_none hV
  obtain ⟨n, rfl, rfl, rfl, w0⟩ := open_int Tryd.underlying3 (hval 0 3 v0 rfl rfl) h0
  have hg := handle_of_laid hL
  clear hA0 hval0 hsz0 hV0
  simp only [List.append_nil, List.nil_append] at hW' hlt
  have hmain : Calls Tryd.prog 3 #[.int .i64 n, v1] W fun e W' => e = .returned (.bool true) ∧ Below W.heap.size W W' := by
    by_cases hn : n < 0 ∨ 65536 < n
    · exact stacks_bad n v1 W hn hg
    · obtain ⟨k, rfl⟩ := Int.eq_ofNat_of_zero_le (show 0 ≤ n by omega)
      obtain ⟨a0, len0, cap0, rfl⟩ := okWide_slice Tryd.underlying22 (hval 1 22 v1 rfl rfl)
      obtain ⟨fuel, hf⟩ := h1
      rcases open_slice Tryd.underlying22 hf with ⟨hcs, hx⟩ | ⟨a, len, cap, m, fu, D, Pl, hcs, hb0, hl, hm, hmm, hx, hel⟩
      · simp [Value.cells] at hcs
        obtain ⟨rfl, rfl, rfl⟩ := hcs
        exact stacks_empty k _ _ W (by omega)
      · simp [Value.cells] at hcs
        obtain ⟨rfl, rfl, rfl⟩ := hcs
        simp at hmm
        subst hmm
        have hb : len0 ≤ 10000000000000 := by
          simp only [Prod.mk.injEq] at hx
          have h := sized_slice hsz (j := 1) (t := 22) (e := 34) (elems := (List.range len0).map D) (spare := (List.range (m - len0)).map fun j => D (len0 + j)) rfl (by rw [hx.1]; rfl) Tryd.underlying22
          rw [Tryd.bytesStep] at h
          have hr := reachBytes_lt
          simp at h
          omega
        rcases Nat.eq_zero_or_pos len0 with rfl | hpos
        · exact stacks_empty k _ _ W (by omega)
        · have hel' : ∀ i, i < len0 → (a.add (i * 4)).spot = none ∧ ∃ x0 x1 x2 x3, StepAt W (a.add (i * 4)).block (a.add (i * 4)).off x0 x1 x2 x3 := fun i hi => by
            obtain ⟨cs', c1, c2⟩ := hel i (by omega)
            rw [Tryd.cellsStep] at c1
            exact step_open c1 c2
          obtain ⟨sb, so, spot⟩ := a
          have hsp : spot = none := by simpa [Addr.add] using (hel' 0 hpos).1
          subst hsp
          exact stacks_ok k len0 m sb so W (by omega) hb hg (fun i hi => by have h := (hel' i hi).2; rw [Go.WideShapes.add_plain] at h; exact h)
  refine hmain.mono fun e W' ⟨he, hb⟩ => ?_
  subst he
  have e1 : Rows.stacksSpec.fn H ([.lit (.int .i64 n), d1] ++ []) = { results := [.lit (.bool true)], args := [.lit (.int .i64 n), d1] } := by simp [Rows.stacksSpec]
  refine ⟨_, rfl, _, _, _, [], p1, [], hW', ?_, ?_, ?_, hb.frame _, fun h => by cases h⟩
  · rw [e1]; exact trodAll_cons_mk (shut_bool Tryd.underlying4 _) trodAll_mk0
  · rw [e1]; exact trodAll_mk2 (p := []) (p' := p1) (shut_int Tryd.underlying3 w0) (Below.trod Tryd.laidOut (by kernel_rfl) (by rw [Tryd.size]; decide) h1 hb hlt)
  · rw [e1]; rfl

theorem stacks_row : Rows.StacksSaid :=
  OpenClaim.holds_of_wide 3 Tryd.f3 rfl rfl rfl rfl rfl rfl rfl ⟨rfl, rfl, rfl, rfl, rfl⟩ rfl rfl rfl rfl rfl (by kernel_rfl) Tryd.func3 (by kernel_rfl)
    (of_decide_eq_true (by kernel_rfl)) (by unfold Func.isWrapper; rw [if_neg (of_decide_eq_false (by kernel_rfl))]; exact ⟨rfl, rfl⟩)
    (fun os started H enc _ => lifted os started H enc)

theorem stacks_card : Rows.StacksCardSaid :=
  Claim7.holds_tied_plain_at .later [] [.handle] true Rows.stacksCard.stood.harness true
    stacks_row (fun _ h => by cases h) (by kernel_rfl) (fun _ h => by cases h) stacks_row_tie rfl ⟨rfl, rfl⟩ (by kernel_rfl) rfl
    (fun f fn hf hfn => by
      obtain rfl : f = 3 := Option.some.inj ((show Tryd.prog.funcNamed "prologue/prologuelaw.Stacks" = some 3 by kernel_rfl).symm.trans hf) |>.symm
      obtain rfl : fn = Tryd.f3 := (Option.some.inj (Tryd.func3.symm.trans hfn)).symm
      exact ⟨by kernel_rfl, fun j t ht => by
        rw [Tryd.params3] at ht
        have h3 : t = 3 ∨ t = 22 := by
          rcases j with _ | _ | j
          · exact Or.inl (by simpa using ht.symm)
          · exact Or.inr (by simpa using ht.symm)
          · simp at ht
        rcases h3 with rfl | rfl
        · exact (show Tryd.prog.wantsStandIn 3 = false by kernel_rfl)
        · exact (show Tryd.prog.wantsStandIn 22 = false by kernel_rfl)⟩)
    (by kernel_rfl)
#print axioms stacks_card
end Go.Proofs.YtidhncoecfkbfaaDoor
