/-
  Tables: table.registersFit, table.Check. Own work of the verifier.
-/
import Derived.Test.YtffemeicclhioaaDoorM4
import Derived.Test.YtffemeicclhioaaDoorM3
namespace Go.Proofs.YtffemeicclhioaaDoor
open Go.RowKit

def regsOkB (r sp lk t0 t1 : Int) (ag rs ss : List Int) : Bool := regsB (ownL sp lk t0 t1) r && (regsB ag r && !meetB ag (ownL sp lk t0 t1)) && (regsB rs r && !meetB rs (ownL sp lk t0 t1)) && (regsB ss r && !meetB ss (ownL sp lk t0 t1)) && !meetB ss ag && !meetB ss rs
set_option maxHeartbeats 4000000 in
set_option maxRecDepth 100000 in
theorem registersFit_c (r sp lk t0 t1 : Int) (va vr vs : Value) (al sh by_ : Int) (pr : Bool) (ag rs ss : List Int) (w : World) (ha : Rs w va ag) (hr : Rs w vr rs) (hs : Rs w vs ss) (ca : ∀ a n cap, va = .slice a n cap → n ≤ cap) (cr : ∀ a n cap, vr = .slice a n cap → n ≤ cap) (cs : ∀ a n cap, vs = .slice a n cap → n ≤ cap) (la : ag.length ≤ 8) (lr : rs.length ≤ 4) (ls : ss.length ≤ 12) : Calls Tryd.prog 35 #[.agg (boxOf r sp lk t0 t1 va vr vs al sh by_ pr)] w fun e w' => e = .returned (.bool (regsOkB r sp lk t0 t1 ag rs ss)) ∧ Below w.heap.size w w' := by
  obtain ⟨pa, xa, rfl⟩ := ha.shape
  obtain ⟨pq, xr, rfl⟩ := hr.shape
  obtain ⟨ps, xs, rfl⟩ := hs.shape
  have HA0 := hideQ ha
  have HR0 := hideQ hr
  have HS0 := hideQ hs
  have HAC := hideQ ca
  have HRC := hideQ cr
  have HSC := hideQ cs
  clear ha hr hs ca cr cs
  unfold boxOf
  go_enter Tryd.func35, Tryd.ntmps35
  go_wp2_with fail
  refine (reserved_c r sp lk t0 t1 _ _ _ al sh by_ pr _).mono ?_
  rintro e w1 ⟨vo, rfl, hRo, hco, hb1⟩
  have hz1 := hb1.size
  simp only [World.size_alloc] at hz1
  have q0 := (cells_of ((hb1.block w.heap.size (by simp)).trans (heap_alloc_new w _))).1
  have HB := hideQ (((Below.refl w.heap.size w).alloc (Nat.le_refl _) _).trans (hb1.mono (by simp)))
  have HO := hideQ (fun X : Obj => hRo.below ((Below.refl w1.heap.size w1).alloc (Nat.le_refl _) X))
  have HA := hideQ (fun X : Obj => ((unhideQ HA0).below (unhideQ HB)).below ((Below.refl w1.heap.size w1).alloc (Nat.le_refl _) X))
  have HR := hideQ (fun X : Obj => ((unhideQ HR0).below (unhideQ HB)).below ((Below.refl w1.heap.size w1).alloc (Nat.le_refl _) X))
  have HS := hideQ (fun X : Obj => ((unhideQ HS0).below (unhideQ HB)).below ((Below.refl w1.heap.size w1).alloc (Nat.le_refl _) X))
  have hol := ownL_len sp lk t0 t1
  have c0 := q0 0
  have c5 := q0 5
  have c6 := q0 6
  have c7 := q0 7
  simp at c0 c5 c6 c7
  have d0 := fun X : Obj => (World.cell?_alloc_lt w1 X ⟨w.heap.size, 0, none⟩ (show w.heap.size < w1.heap.size by omega)).trans c0
  have d5 := fun X : Obj => (World.cell?_alloc_lt w1 X ⟨w.heap.size, 5, none⟩ (show w.heap.size < w1.heap.size by omega)).trans c5
  have d6 := fun X : Obj => (World.cell?_alloc_lt w1 X ⟨w.heap.size, 6, none⟩ (show w.heap.size < w1.heap.size by omega)).trans c6
  have d7 := fun X : Obj => (World.cell?_alloc_lt w1 X ⟨w.heap.size, 7, none⟩ (show w.heap.size < w1.heap.size by omega)).trans c7
  have HRO := hideQ hRo
  have HCO := hideQ hco
  clear hb1 q0 hRo hco HA0 HR0 HS0
  go_wp2_with fail
  refine (areRegisters_c (ownL sp lk t0 t1) r vo w1 (unhideQ HRO) (by omega) (unhideQ HCO)).mono ?_
  rintro e w2 ⟨rfl, h2⟩
  subst w2
  cases y0 : regsB (ownL sp lk t0 t1) r with
  | false =>
    have HY := hideQ y0
    clear y0
    go_wp2
    go_ret
    exact ⟨by simp [regsOkB, unhideQ HY], unhideQ HB⟩
  | true =>
    have HY0 := hideQ y0
    clear y0
    go_wp2_with fail
    refine wp_loop_rounds 4 ?_
    rw [rounds_succ]
    go_wp2_with fail
    refine (areRegisters_c ag r _ _ (unhideQ HA _) (by omega) (unhideQ HAC)).mono ?_
    rintro e w2 ⟨rfl, h2⟩
    subst w2
    cases y1 : regsB ag r with
    | false =>
      have HY := hideQ y1
      clear y1
      go_wp2
      go_ret
      exact ⟨by simp [regsOkB, unhideQ HY], (unhideQ HB).alloc (by omega) _⟩
    | true =>
      have HY1 := hideQ y1
      clear y1
      go_wp2_with fail
      refine (meet_c ag (ownL sp lk t0 t1) _ vo _ (unhideQ HA _) (unhideQ HO _) (by omega) (by omega)).mono ?_
      rintro e w2 ⟨rfl, h2⟩
      subst w2
      cases z1 : meetB ag (ownL sp lk t0 t1) with
      | true =>
        have HY := hideQ z1
        clear z1
        go_wp2
        go_ret
        exact ⟨by simp [regsOkB, unhideQ HY], (unhideQ HB).alloc (by omega) _⟩
      | false =>
        have HZ1 := hideQ z1
        clear z1
        go_wp2_with fail
        rw [rounds_succ]
        go_wp2_with fail
        refine (areRegisters_c rs r _ _ (unhideQ HR _) (by omega) (unhideQ HRC)).mono ?_
        rintro e w2 ⟨rfl, h2⟩
        subst w2
        cases y2 : regsB rs r with
        | false =>
          have HY := hideQ y2
          clear y2
          go_wp2
          go_ret
          exact ⟨by simp [regsOkB, unhideQ HY], (unhideQ HB).alloc (by omega) _⟩
        | true =>
          have HY2 := hideQ y2
          clear y2
          go_wp2_with fail
          refine (meet_c rs (ownL sp lk t0 t1) _ vo _ (unhideQ HR _) (unhideQ HO _) (by omega) (by omega)).mono ?_
          rintro e w2 ⟨rfl, h2⟩
          subst w2
          cases z2 : meetB rs (ownL sp lk t0 t1) with
          | true =>
            have HY := hideQ z2
            clear z2
            go_wp2
            go_ret
            exact ⟨by simp [regsOkB, unhideQ HY], (unhideQ HB).alloc (by omega) _⟩
          | false =>
            have HZ2 := hideQ z2
            clear z2
            go_wp2_with fail
            rw [rounds_succ]
            go_wp2_with fail
            refine (areRegisters_c ss r _ _ (unhideQ HS _) (by omega) (unhideQ HSC)).mono ?_
            rintro e w2 ⟨rfl, h2⟩
            subst w2
            cases y3 : regsB ss r with
            | false =>
              have HY := hideQ y3
              clear y3
              go_wp2
              go_ret
              exact ⟨by simp [regsOkB, unhideQ HY], (unhideQ HB).alloc (by omega) _⟩
            | true =>
              have HY3 := hideQ y3
              clear y3
              go_wp2_with fail
              refine (meet_c ss (ownL sp lk t0 t1) _ vo _ (unhideQ HS _) (unhideQ HO _) (by omega) (by omega)).mono ?_
              rintro e w2 ⟨rfl, h2⟩
              subst w2
              cases z3 : meetB ss (ownL sp lk t0 t1) with
              | true =>
                have HY := hideQ z3
                clear z3
                go_wp2
                go_ret
                exact ⟨by simp [regsOkB, unhideQ HY], (unhideQ HB).alloc (by omega) _⟩
              | false =>
                have HZ3 := hideQ z3
                clear z3
                go_wp2_with fail
                rw [rounds_succ]
                go_wp2_with fail
                refine (meet_c ss ag _ _ _ (unhideQ HS _) (unhideQ HA _) (by omega) (by omega)).mono ?_
                rintro e w2 ⟨rfl, h2⟩
                subst w2
                cases x1 : meetB ss ag with
                | true =>
                  have HY := hideQ x1
                  clear x1
                  go_wp2
                  go_ret
                  exact ⟨by simp [regsOkB, unhideQ HY], (unhideQ HB).alloc (by omega) _⟩
                | false =>
                  have HX1 := hideQ x1
                  clear x1
                  go_wp2_with fail
                  refine (meet_c ss rs _ _ _ (unhideQ HS _) (unhideQ HR _) (by omega) (by omega)).mono ?_
                  rintro e w2 ⟨rfl, h2⟩
                  subst w2
                  cases x2 : meetB ss rs with
                  | true =>
                    have HY := hideQ x2
                    clear x2
                    go_wp2
                    go_ret
                    exact ⟨by simp [regsOkB, unhideQ HY, unhideQ HX1, unhideQ HZ1, unhideQ HZ2, unhideQ HZ3, unhideQ HY1, unhideQ HY2, unhideQ HY3, unhideQ HY0], (unhideQ HB).alloc (by omega) _⟩
                  | false =>
                    have HY := hideQ x2
                    clear x2
                    go_wp2
                    go_ret
                    exact ⟨by simp [regsOkB, unhideQ HY, unhideQ HX1, unhideQ HZ1, unhideQ HZ2, unhideQ HZ3, unhideQ HY1, unhideQ HY2, unhideQ HY3, unhideQ HY0], (unhideQ HB).alloc (by omega) _⟩
def chkV (b : Bool) : Value := match b with
  | true => .nilIface
  | false => .iface 63 (.int .i64 2)
def tabB (r sp lk t0 t1 : Int) (ag rs ss : List Int) (al sh by_ : Int) : Bool := numsB r al sh by_ && lensB ag rs ss && regsOkB r sp lk t0 t1 ag rs ss
set_option maxHeartbeats 4000000 in
theorem check_c (r sp lk t0 t1 : Int) (va vr vs : Value) (al sh by_ : Int) (pr : Bool) (ag rs ss : List Int) (w : World) (ha : Rs w va ag) (hr : Rs w vr rs) (hs : Rs w vs ss) (ca : ∀ a n cap, va = .slice a n cap → n ≤ cap) (cr : ∀ a n cap, vr = .slice a n cap → n ≤ cap) (cs : ∀ a n cap, vs = .slice a n cap → n ≤ cap) : Calls Tryd.prog 26 #[.agg (boxOf r sp lk t0 t1 va vr vs al sh by_ pr)] w fun e w' => e = .returned (chkV (tabB r sp lk t0 t1 ag rs ss al sh by_)) ∧ Below w.heap.size w w' := by
  have HA0 := hideQ ha
  have HR0 := hideQ hr
  have HS0 := hideQ hs
  have HAC := hideQ ca
  have HRC := hideQ cr
  have HSC := hideQ cs
  have SA := hideQ ha.shape
  have SR := hideQ hr.shape
  have SS := hideQ hs.shape
  clear ha hr hs ca cr cs
  have HB0 := hideQ (fun X : Obj => (Below.refl w.heap.size w).alloc (Nat.le_refl _) X)
  have HD := hideQ (fun (u : World) (X : Obj) (cs : Array Value) (h : Below (w.alloc X).heap.size (w.alloc X) u) (hX : X = .cells cs 25 (0, 0)) => (h.block w.heap.size (by simp)).trans ((heap_alloc_new w X).trans (congrArg some hX)))
  unfold boxOf
  go_enter Tryd.func26, Tryd.ntmps26
  go_wp2_with fail
  refine (numbersFit_c r sp lk t0 t1 va vr vs al sh by_ pr _).mono ?_
  rintro e w1 ⟨rfl, hb1⟩
  have q1 := cells_of (unhideQ HD _ _ _ hb1 rfl)
  have HB1 := hideQ hb1
  have hz1 := hb1.size
  simp only [World.size_alloc] at hz1
  have b1 := unhideQ HD _ _ _ hb1 rfl
  clear hb1
  cases y1 : numsB r al sh by_ with
  | false =>
    have HY := hideQ y1
    clear y1 q1 b1
    go_wp2
    go_ret
    exact ⟨by rw [show tabB r sp lk t0 t1 ag rs ss al sh by_ = false by simp [tabB, unhideQ HY]]; rfl, (unhideQ HB0 _).trans ((unhideQ HB1).mono (by simp))⟩
  | true =>
    have HY1 := hideQ y1
    clear y1
    have k1 := q1.1
    clear q1
    go_wp2_with fail
    refine (listsFit_c r sp lk t0 t1 va vr vs al sh by_ pr ag rs ss _ (unhideQ SA) (unhideQ SR) (unhideQ SS)).mono ?_
    rintro e w2 ⟨rfl, hb2⟩
    have hb2' := (unhideQ HB1).trans (hb2.mono (by simp; omega))
    have HB2 := hideQ hb2'
    have hz2 := hb2.size
    have k2 := (cells_of (unhideQ HD _ _ _ hb2' rfl)).1
    clear hb2 hb2' k1 b1
    cases y2 : lensB ag rs ss with
    | false =>
      have HY := hideQ y2
      clear y2 k2
      go_wp2
      go_ret
      exact ⟨by rw [show tabB r sp lk t0 t1 ag rs ss al sh by_ = false by simp [tabB, unhideQ HY]]; rfl, (unhideQ HB0 _).trans ((unhideQ HB2).mono (by simp))⟩
    | true =>
      have hl : ag.length ≤ 8 ∧ rs.length ≤ 4 ∧ ss.length ≤ 12 := of_decide_eq_true y2
      have HY2 := hideQ y2
      have HL := hideQ hl
      have HB3 := hideQ ((unhideQ HB0 _).trans ((unhideQ HB2).mono (by simp)))
      clear y2 hl
      go_wp2_with fail
      refine (registersFit_c r sp lk t0 t1 va vr vs al sh by_ pr ag rs ss _ ((unhideQ HA0).below (unhideQ HB3)) ((unhideQ HR0).below (unhideQ HB3)) ((unhideQ HS0).below (unhideQ HB3)) (unhideQ HAC) (unhideQ HRC) (unhideQ HSC) (unhideQ HL).1 (unhideQ HL).2.1 (unhideQ HL).2.2).mono ?_
      rintro e w3 ⟨rfl, hb3⟩
      have HB4 := hideQ ((unhideQ HB3).trans (hb3.mono (by omega)))
      clear hb3 k2
      cases y3 : regsOkB r sp lk t0 t1 ag rs ss with
      | false =>
        have HY := hideQ y3
        clear y3
        go_wp2
        go_ret
        exact ⟨by rw [show tabB r sp lk t0 t1 ag rs ss al sh by_ = false by simp [tabB, unhideQ HY]]; rfl, unhideQ HB4⟩
      | true =>
        have HY := hideQ y3
        clear y3
        go_wp2
        go_ret
        exact ⟨by rw [show tabB r sp lk t0 t1 ag rs ss al sh by_ = true by simp [tabB, unhideQ HY, unhideQ HY1, unhideQ HY2]]; rfl, unhideQ HB4⟩
end Go.Proofs.YtffemeicclhioaaDoor

