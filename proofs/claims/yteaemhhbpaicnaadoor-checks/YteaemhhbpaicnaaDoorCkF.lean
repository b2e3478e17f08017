/-
  Checks: what an instruction names, by package program. Own work of the verifier.
-/
import Derived.Test.YteaemhhbpaicnaaDoorCkE
namespace Go.Proofs.YteaemhhbpaicnaaDoor
open Go.RowKit

set_option maxHeartbeats 2000000 in
set_option maxRecDepth 100000 in
theorem haveLocals_c (f : FuncE) (fv ev pv hv sv bv lv : Value) (r : Int) (ls : List Int) (w : World) (hh : ∃ p c, hv = .slice p f.homes.length c) (hhl : f.homes.length < 9223372036854775808) (h : Li w lv ls) : Calls Tryd.prog 61 #[.agg #[fv, ev, pv, .int .i64 r, hv, sv, bv], lv] w fun e w' => e = .returned (.bool (localsB f ls)) ∧ Below w.heap.size w w' := by
  obtain ⟨ph, ch, rfl⟩ := hh
  have hx := al0 w (.cells #[fv, ev, pv, .int .i64 r, .slice ph f.homes.length ch, sv, bv] 122 (0, 0))
  obtain ⟨p, cap, rfl, hcap, hlt, hc⟩ := h.below hx.2.1
  have hlt : ls.length < 9223372036854775808 := hlt
  have HC := hideI hc
  have HX := hideI hx
  clear hc hx h
  go_enter Tryd.func61, Tryd.ntmps61
  go_wp2_with fail
  generalize World.alloc w _ = W at HC HX ⊢
  go_loopw [9] (fun j w' => ∃ k : Nat, j = .int .i64 k ∧ k ≤ ls.length ∧ w' = W ∧ ∀ q, q < k → localB f (ls.getD q 0) = true) (fun j _ => ls.length - (intOf j).toNat)
  case atStart => exact ⟨0, rfl, by omega, rfl, fun q hq => by omega⟩
  case round =>
    obtain ⟨k, rfl, hk, rfl, hno⟩ := hrel
    have HN := hideI hno
    clear hno
    by_cases hk2 : k < ls.length
    · obtain ⟨sb, so, rfl, hcc⟩ := unhideI HC (by omega)
      have c := hcc k hk2
      have r4 := (cells_of_row (unhideI HX).1 4).trans rfl
      have HW := hideI (isWithin_c (ls.getD k 0) 0 (f.homes.length - 1) wr)
      have HBAD := hideI (fun hb : inB (ls.getD k 0) 0 (f.homes.length - 1) = false => show localsB f ls = false from upB_false hk2 hb)
      have HNX := hideI (fun hb : inB (ls.getD k 0) 0 (f.homes.length - 1) = true => upTo_next (q := fun q => localB f (ls.getD q 0)) (unhideI HN) hb)
      clear hcc HC
      generalize inB (ls.getD k 0) 0 (f.homes.length - 1) = yes at HW HBAD HNX
      generalize ls.getD k 0 = y at c HW
      go_wp2_with fail
      refine (unhideI HW).mono ?_
      rintro e w2 ⟨rfl, h2⟩
      subst w2
      cases yes with
      | false =>
        have hx := hideI (unhideI HBAD rfl)
        go_wp2
        go_ret
        exact ⟨by rw [unhideI hx]; rfl, (unhideI HX).2.1⟩
      | true =>
        have hx := hideI (unhideI HNX rfl)
        go_wp2
        go_roundw
        case rel => exact ⟨k + 1, by go_num, by omega, trivial, unhideI hx⟩
        case measure => simp [intOf]; omega
    · have HT := hideI (show localsB f ls = true from upB_true (fun q hq => unhideI HN q (by omega)))
      obtain rfl : k = ls.length := by omega
      go_wp2
      go_ret
      exact ⟨by rw [unhideI HT]; rfl, (unhideI HX).2.1⟩
set_option maxHeartbeats 2000000 in
set_option maxRecDepth 100000 in
theorem areApart_c (v : Value) (ls : List Int) (w : World) (h : Li w v ls) (hn : ls.length ≤ 1000000) : Calls Tryd.prog 70 #[v] w fun e w' => e = .returned (.bool (apartB ls)) ∧ w' = w := by
  have HL := hideI h
  obtain ⟨p, cap, rfl, hcap, hlt, -⟩ := h
  go_enter Tryd.func70, Tryd.ntmps70
  go_wp2_with fail
  go_loopw [7] (fun j w' => ∃ k : Nat, j = .int .i64 k ∧ k ≤ ls.length ∧ w' = w ∧ ∀ q, q < k → (!decide (ls.getD q 0 ∈ ls.take q)) = true) (fun j _ => ls.length - (intOf j).toNat)
  case atStart => exact ⟨0, rfl, by omega, rfl, fun q hq => by omega⟩
  case round =>
    obtain ⟨k, rfl, hk, rfl, hno⟩ := hrel
    have HN := hideI hno
    clear hno
    by_cases hk2 : k < ls.length
    · have HCT := hideI (contains_c (ls.take k) (ls.getD k 0) (.slice p k cap) wr ((unhideI HL).take k (by omega)).rs (by simp; omega))
      obtain ⟨p', cap', he, -, -, hcc⟩ := unhideI HL
      injection he with e1 e2 e3
      subst e1 e3
      obtain ⟨sb, so, rfl, hc⟩ := hcc (by omega)
      have c := hc k hk2
      have HBAD := hideI (fun hb : decide (ls.getD k 0 ∈ ls.take k) = true => show apartB ls = false from upB_false hk2 (by rw [hb]; rfl))
      have HNX := hideI (fun hb : decide (ls.getD k 0 ∈ ls.take k) = false => upTo_next (q := fun q => !decide (ls.getD q 0 ∈ ls.take q)) (unhideI HN) (by show (!decide (ls.getD k 0 ∈ ls.take k)) = true; rw [hb]; rfl))
      clear hc hcc e2
      generalize decide (ls.getD k 0 ∈ ls.take k) = yes at HCT HBAD HNX
      generalize ls.getD k 0 = y at c HCT
      go_wp2_with fail
      refine (unhideI HCT).mono ?_
      rintro e w2 ⟨rfl, h2⟩
      subst w2
      cases yes with
      | true =>
        have hx := hideI (unhideI HBAD rfl)
        go_wp2
        go_ret
        exact ⟨by rw [unhideI hx]; rfl, rfl⟩
      | false =>
        have hx := hideI (unhideI HNX rfl)
        go_wp2
        go_roundw
        case rel => exact ⟨k + 1, by go_num, by omega, trivial, unhideI hx⟩
        case measure => simp [intOf]; omega
    · have HT := hideI (show apartB ls = true from upB_true (fun q hq => unhideI HN q (by omega)))
      obtain rfl : k = ls.length := by omega
      go_wp2
      go_ret
      exact ⟨by rw [unhideI HT]; rfl, rfl⟩
set_option maxRecDepth 100000 in
theorem hasSlot_c (f : FuncE) (fv ev pv hv bv : Value) (q : Option Addr) (c : Nat) (r n : Int) (w : World) (hl : f.slots.length < 9223372036854775808) : Calls Tryd.prog 67 #[.agg #[fv, ev, pv, .int .i64 r, hv, .slice q f.slots.length c, bv], .int .i64 n] w fun e w' => e = .returned (.bool (inB n 0 (f.slots.length - 1))) ∧ Below w.heap.size w w' := by
  have HX := hideI (al0 w (.cells #[fv, ev, pv, .int .i64 r, hv, .slice q f.slots.length c, bv] 122 (0, 0)))
  go_enter Tryd.func67, Tryd.ntmps67
  go_wp2_with fail
  refine (isWithin_c n 0 (f.slots.length - 1) _).mono ?_
  rintro e w2 ⟨rfl, h2⟩
  subst w2
  go_wp2
  go_ret
  exact ⟨rfl, (unhideI HX).2.1⟩
set_option maxRecDepth 100000 in
theorem hasBlock_c (f : FuncE) (fv ev pv hv sv : Value) (q : Option Addr) (c : Nat) (r n : Int) (w : World) (hl : f.blocks.length < 9223372036854775808) : Calls Tryd.prog 65 #[.agg #[fv, ev, pv, .int .i64 r, hv, sv, .slice q f.blocks.length c], .int .i64 n] w fun e w' => e = .returned (.bool (inB n 0 (f.blocks.length - 1))) ∧ Below w.heap.size w w' := by
  have HX := hideI (al0 w (.cells #[fv, ev, pv, .int .i64 r, hv, sv, .slice q f.blocks.length c] 122 (0, 0)))
  go_enter Tryd.func65, Tryd.ntmps65
  go_wp2_with fail
  refine (isWithin_c n 0 (f.blocks.length - 1) _).mono ?_
  rintro e w2 ⟨rfl, h2⟩
  subst w2
  go_wp2
  go_ret
  exact ⟨rfl, (unhideI HX).2.1⟩
set_option maxRecDepth 100000 in
theorem hasFunc_c (p : ProgE) (ev pv hv sv bv : Value) (q : Option Addr) (c : Nat) (r n : Int) (w : World) (hl : p.funcs.length < 9223372036854775808) : Calls Tryd.prog 63 #[.agg #[.slice q p.funcs.length c, ev, pv, .int .i64 r, hv, sv, bv], .int .i64 n] w fun e w' => e = .returned (.bool (inB n 0 (p.funcs.length - 1))) ∧ Below w.heap.size w w' := by
  have HX := hideI (al0 w (.cells #[.slice q p.funcs.length c, ev, pv, .int .i64 r, hv, sv, bv] 122 (0, 0)))
  go_enter Tryd.func63, Tryd.ntmps63
  go_wp2_with fail
  refine (isWithin_c n 0 (p.funcs.length - 1) _).mono ?_
  rintro e w2 ⟨rfl, h2⟩
  subst w2
  go_wp2
  go_ret
  exact ⟨rfl, (unhideI HX).2.1⟩
set_option maxRecDepth 100000 in
theorem isWidth_c (n : Int) (w : World) : Calls Tryd.prog 68 #[.int .i64 n] w fun e w' => e = .returned (.bool (widthB n)) ∧ w' = w := by
  have hw : widthB n = decide (n = 1 ∨ n = 2 ∨ n = 4 ∨ n = 8) := rfl
  rw [hw]
  clear hw
  by_cases h1 : n = 1
  · subst h1
    go_enter Tryd.func68, Tryd.ntmps68
    go_wp2
    go_ret
    exact ⟨rfl, rfl⟩
  · by_cases h2 : n = 2
    · subst h2
      go_enter Tryd.func68, Tryd.ntmps68
      go_wp2
      go_ret
      exact ⟨rfl, rfl⟩
    · by_cases h4 : n = 4
      · subst h4
        go_enter Tryd.func68, Tryd.ntmps68
        go_wp2
        go_ret
        exact ⟨rfl, rfl⟩
      · by_cases h8 : n = 8
        · subst h8
          go_enter Tryd.func68, Tryd.ntmps68
          go_wp2
          go_ret
          exact ⟨rfl, rfl⟩
        · have hd : decide (n = 1 ∨ n = 2 ∨ n = 4 ∨ n = 8) = false := by simp; omega
          rw [hd]
          have z1 : (n == 1) = false := by simpa using h1
          have z2 : (n == 2) = false := by simpa using h2
          have z4 : (n == 4) = false := by simpa using h4
          have z8 : (n == 8) = false := by simpa using h8
          clear hd h1 h2 h4 h8
          go_enter Tryd.func68, Tryd.ntmps68
          go_wp2
          go_ret
          exact ⟨rfl, rfl⟩
end Go.Proofs.YteaemhhbpaicnaaDoor
