/-
  Checks: homes, signatures and heads, by package program. Own work of the verifier.
-/
import Derived.Test.YteaemhhbpaicnaaDoorCkB
namespace Go.Proofs.YteaemhhbpaicnaaDoor
open Go.RowKit

set_option maxHeartbeats 4000000 in
set_option maxRecDepth 100000 in
theorem homesFit_c (r sp lk t0 t1 : Int) (va vr vs : Value) (al sh by_ : Int) (pr : Bool) (v : Value) (hs : List Int) (w : World) (hr : 4 ≤ r ∧ r ≤ 16) (h : Li w v hs) (hn : hs.length ≤ 1000000) : Calls Tryd.prog 45 #[.agg (boxOf r sp lk t0 t1 va vr vs al sh by_ pr), v] w fun e w' => e = .returned (.bool (homesB r (ownL sp lk t0 t1) hs)) ∧ Below w.heap.size w w' := by
  have hx := al0 w (.cells (boxOf r sp lk t0 t1 va vr vs al sh by_ pr) 25 (0, 0))
  have HL := hideI (h.below hx.2.1)
  obtain ⟨p, cap, rfl, hcap, hlt, -⟩ := h
  have HX := hideI hx
  have HRES := hideI (fun V => reserved_c r sp lk t0 t1 va vr vs al sh by_ pr V)
  have hr1 := hr.1
  have hr2 := hr.2
  clear hx hr
  unfold boxOf at HX HL HRES ⊢
  go_enter Tryd.func45, Tryd.ntmps45
  go_wp2_with fail
  generalize World.alloc w _ = W at HL HX ⊢
  refine (unhideI HRES W).mono ?_
  rintro e w2 ⟨vo, rfl, hro, hco, hb2⟩
  obtain ⟨po, co, rfl⟩ := hro.shape
  have HRO := hideI hro
  have HB2 := hideI hb2
  have HW2 := hideI (below_cut (unhideI HX).2.1 hb2 (by have := (unhideI HX).2.2; omega))
  have HL2 := hideI ((unhideI HL).below hb2)
  have hrow := (hb2.block w.heap.size (by have := (unhideI HX).2.2; omega)).trans (unhideI HX).1
  have r0 := (cells_of_row hrow 0).trans rfl
  have hol : (ownL sp lk t0 t1).length ≤ 1000000 := by unfold ownL; split <;> simp
  clear hro hco hb2 hrow
  generalize hO : ownL sp lk t0 t1 = own at HRO hol
  have HOW := hideI hO
  clear hO
  go_wp2_with fail
  go_loopw [12] (fun j w' => ∃ k : Nat, j = .int .i64 k ∧ k ≤ hs.length ∧ w' = w2 ∧ ∀ q, q < k → homeB r own hs q = true) (fun j _ => hs.length - (intOf j).toNat)
  case atStart => exact ⟨0, rfl, by omega, rfl, fun q hq => by omega⟩
  case round =>
    obtain ⟨k, rfl, hk, rfl, hno⟩ := hrel
    have HN := hideI hno
    clear hno
    by_cases hk2 : k < hs.length
    · have HCT := hideI (fun x => contains_c (hs.take k) x (.slice p k cap) wr ((unhideI HL2).take k (by omega)).rs (by simp; omega))
      have HCO := hideI (fun x => contains_c own x (.slice po own.length co) wr (unhideI HRO) hol)
      obtain ⟨p', cap', he, -, -, hcc⟩ := unhideI HL2
      injection he with e1 e2 e3
      subst e1 e3
      obtain ⟨sb, so, rfl, hc⟩ := hcc (by omega)
      have c := hc k hk2
      have hho : homeB r own hs k = (decide (hs.getD k 0 = -1) || (inB (hs.getD k 0) 0 (r - 1) && (!decide (hs.getD k 0 ∈ own) && !decide (hs.getD k 0 ∈ hs.take k)))) := rfl
      have HHO := hideI hho
      have HBAD := hideI (fun hb : homeB r own hs k = false => show homesB r own hs = false from upB_false hk2 hb)
      have HNX := hideI (fun hb : homeB r own hs k = true => upTo_next (unhideI HN) hb)
      clear hho hc hcc e2
      generalize homeB r own hs k = yes at HHO HBAD HNX
      generalize hs.getD k 0 = y at c HHO
      by_cases hm : y = -1
      · subst hm
        have hx := hideI (unhideI HNX (by rw [unhideI HHO]; rfl))
        go_wp2
        go_roundw
        case rel => exact ⟨k + 1, by go_num, by omega, trivial, unhideI hx⟩
        case measure => simp [intOf]; omega
      · have z : (y == -1) = false := by simpa using hm
        have HH2 := hideI (show yes = (inB y 0 (r - 1) && (!decide (y ∈ own) && !decide (y ∈ hs.take k))) by rw [unhideI HHO]; simp [hm])
        clear HHO hm
        go_wp2_with fail
        refine (isWithin_c y 0 (r - 1) _).mono ?_
        rintro e w3 ⟨rfl, h3⟩
        subst w3
        cases hi : inB y 0 (r - 1) with
        | false =>
          have hx := hideI (unhideI HBAD (by rw [unhideI HH2, hi]; rfl))
          clear hi
          go_wp2
          go_ret
          exact ⟨by rw [unhideI HOW, unhideI hx]; rfl, unhideI HW2⟩
        | true =>
          have HI := hideI hi
          clear hi
          go_wp2_with fail
          refine (unhideI HCO y).mono ?_
          rintro e w3 ⟨rfl, h3⟩
          subst w3
          cases hi : decide (y ∈ own) with
          | true =>
            have hx := hideI (unhideI HBAD (by rw [unhideI HH2, hi]; simp))
            clear hi
            go_wp2
            go_ret
            exact ⟨by rw [unhideI HOW, unhideI hx]; rfl, unhideI HW2⟩
          | false =>
            have HI2 := hideI hi
            clear hi
            go_wp2_with fail
            refine (unhideI HCT y).mono ?_
            rintro e w3 ⟨rfl, h3⟩
            subst w3
            cases hi : decide (y ∈ hs.take k) with
            | true =>
              have hx := hideI (unhideI HBAD (by rw [unhideI HH2, hi]; simp))
              clear hi
              go_wp2
              go_ret
              exact ⟨by rw [unhideI HOW, unhideI hx]; rfl, unhideI HW2⟩
            | false =>
              have hx := hideI (unhideI HNX (by rw [unhideI HH2, hi, unhideI HI2, unhideI HI]; rfl))
              clear hi
              go_wp2
              go_roundw
              case rel => exact ⟨k + 1, by go_num, by omega, trivial, unhideI hx⟩
              case measure => simp [intOf]; omega
    · have HT := hideI (show homesB r own hs = true from upB_true (fun q hq => unhideI HN q (by omega)))
      obtain rfl : k = hs.length := by omega
      go_wp2
      go_ret
      exact ⟨by rw [unhideI HOW, unhideI HT]; rfl, unhideI HW2⟩
end Go.Proofs.YteaemhhbpaicnaaDoor
