/-
  Checks: the small ones of prologueref. Own work of the verifier.
-/
import Derived.Test.YteaemhhbpaicnaaDoorCkP
import Derived.Test.YteaemhhbpaicnaaDoorM6
namespace Go.Proofs.YteaemhhbpaicnaaDoor
open Go.RowKit

theorem rin_c (n lo hi : Int) (w : World) : Calls Tryd.prog 11 #[.int .i64 n, .int .i64 lo, .int .i64 hi] w fun e w' => e = .returned (.bool (inB n lo hi)) ∧ w' = w := in_c n lo hi w
set_option maxHeartbeats 1000000 in
set_option maxRecDepth 100000 in
theorem rsig_c (v : Value) (ns : List Int) (r : Int) (w : World) (h : Li w v ns) : Calls Tryd.prog 19 #[.agg #[v, .int .i64 r]] w fun e w' => e = .returned (.bool (sigB (ns, r))) ∧ Below w.heap.size w w' := by
  have hx := al0 w (.cells #[v, .int .i64 r] 67 (0, 0))
  obtain ⟨p, cap, rfl, hcap, hlt, hc⟩ := h.below hx.2.1
  have hlt : ns.length < 9223372036854775808 := hlt
  have HC := hideI hc
  have HX := hideI hx
  clear hc hx h
  go_enter Tryd.func19, Tryd.ntmps19
  go_wp2_with fail
  generalize World.alloc w _ = W at HC HX ⊢
  go_loopw [8] (fun j w' => ∃ k : Nat, j = .int .i64 k ∧ k ≤ ns.length ∧ w' = W ∧ ∀ q, q < k → inB (ns.getD q 0) 0 8 = true) (fun j _ => ns.length - (intOf j).toNat)
  case atStart => exact ⟨0, rfl, by omega, rfl, fun q hq => by omega⟩
  case round =>
    obtain ⟨k, rfl, hk, rfl, hno⟩ := hrel
    have HN := hideI hno
    clear hno
    have r0 := (cells_of_row (unhideI HX).1 0).trans rfl
    have r1 := (cells_of_row (unhideI HX).1 1).trans rfl
    by_cases hk2 : k < ns.length
    · obtain ⟨sb, so, rfl, hcc⟩ := unhideI HC (by omega)
      have c := hcc k hk2
      have HW := hideI (rin_c (ns.getD k 0) 0 8 wr)
      have HBAD := hideI (fun hb : inB (ns.getD k 0) 0 8 = false => show sigB (ns, r) = false by have : numsIn ns 0 8 = false := upB_false hk2 hb; unfold sigB; rw [this]; simp)
      have HNX := hideI (fun hb : inB (ns.getD k 0) 0 8 = true => upTo_next (q := fun q => inB (ns.getD q 0) 0 8) (unhideI HN) hb)
      clear hcc HC
      generalize inB (ns.getD k 0) 0 8 = yes at HW HBAD HNX
      generalize ns.getD k 0 = y at c HW
      go_wp2_with fail
      refine (unhideI HW).mono ?_
      rintro e w2 ⟨rfl, h2⟩
      subst w2
      cases yes with
      | false =>
        have hx := hideI (unhideI HBAD rfl)
        go_wp2
        go_ret
        exact ⟨by rw [unhideI hx]; rfl, (unhideI HX).2.1⟩
      | true =>
        have hx := hideI (unhideI HNX rfl)
        go_wp2
        go_roundw
        case rel => exact ⟨k + 1, by go_num, by omega, trivial, unhideI hx⟩
        case measure => simp [intOf]; omega
    · have HT := hideI (show numsIn ns 0 8 = true from upB_true (fun q hq => unhideI HN q (by omega)))
      obtain rfl : k = ns.length := by omega
      by_cases h8 : ns.length ≤ 8
      · have HS := hideI (show sigB (ns, r) = inB r 0 4 by unfold sigB; rw [unhideI HT]; simp [h8])
        go_wp2_with fail
        refine (rin_c r 0 4 _).mono ?_
        rintro e w2 ⟨rfl, h2⟩
        subst w2
        go_wp2
        go_ret
        exact ⟨by rw [unhideI HS]; rfl, (unhideI HX).2.1⟩
      · have HS := hideI (show sigB (ns, r) = false by unfold sigB; simp [h8])
        go_wp2
        go_ret
        exact ⟨by rw [unhideI HS]; rfl, (unhideI HX).2.1⟩
set_option maxHeartbeats 2000000 in
set_option maxRecDepth 100000 in
theorem rsigs_c (p : ProgE) (fv ev : Value) (A E : Nat → Array Value) (w : World) (hP : ProgC w fv ev p A E) : Calls Tryd.prog 12 #[ev] w fun e w' => e = .returned (.bool (upB p.externs.length fun k => sigB (p.externs.getD k ([], 0)))) ∧ Below w.heap.size w w' := by
  have HP := hideI hP
  have hl5 : p.externs.length < 9223372036854775808 := by obtain ⟨_, _, _, _, h, _⟩ := hP.es; exact h
  obtain ⟨pe, ce, rfl⟩ := hP.es.shape
  clear hP
  go_enter Tryd.func12, Tryd.ntmps12
  go_wp2_with fail
  go_loopw [7] (fun j w' => ∃ k : Nat, j = .int .i64 k ∧ k ≤ p.externs.length ∧ Below w.heap.size w w' ∧ ∀ q, q < k → sigB (p.externs.getD q ([], 0)) = true) (fun j _ => p.externs.length - (intOf j).toNat)
  case atStart => exact ⟨0, rfl, by omega, Below.refl _ _, fun q hq => by omega⟩
  case round =>
    obtain ⟨k, rfl, hk, hbw, hno⟩ := hrel
    have HNO := hideI hno
    clear hno
    have hws := hbw.size
    by_cases hk2 : k < p.externs.length
    · obtain ⟨p', cap', he, -, hcc⟩ := (unhideI HP).es.twos
      injection he with e1 e2 e3
      subst e1 e3
      obtain ⟨sb, so, rfl, hslt, hc⟩ := hcc (by omega)
      have hsc := (unhideI HP).eeach k hk2
      have hgd : p.externs[k] = p.externs.getD k ([], 0) := by simp [List.getD, hk2]
      rw [hgd] at hsc
      have HBAD := hideI (fun hb : sigB (p.externs.getD k ([], 0)) = false => show (upB p.externs.length fun k => sigB (p.externs.getD k ([], 0))) = false from upB_false hk2 hb)
      have HNX := hideI (fun hb : sigB (p.externs.getD k ([], 0)) = true => upTo_next (q := fun q => sigB (p.externs.getD q ([], 0))) (unhideI HNO) hb)
      generalize p.externs.getD k ([], 0) = s at hsc HBAD HNX
      obtain ⟨lv, hE, hli⟩ := hsc
      have HLI := hideI hli
      obtain ⟨pl, cl, rfl⟩ := hli.shape
      have hck := hc k hk2
      rw [hE] at hck
      have k0 := (hbw.cell hslt).trans (hck 0 _ rfl)
      have k1 := (hbw.cell hslt).trans (hck 1 _ rfl)
      rw [Nat.add_zero] at k0
      have HBW := hideI hbw
      clear hck hc hcc hE hgd hli hbw e2
      go_wp2_with fail
      have hy := al0 wr (.cells #[.slice pl s.1.length cl, .int .i64 s.2] 67 (0, 0))
      have hbU := below_cut (unhideI HBW) hy.2.1 hws
      refine (rsig_c _ s.1 s.2 _ ((unhideI HLI).below hbU)).mono ?_
      rintro e w3 ⟨rfl, hb3⟩
      have HU := hideI (below_cut hbU hb3 hbU.size)
      clear hb3 hbU hy k0 k1
      rw [show ((s.1, s.2) : List Int × Int) = s from rfl]
      cases hsb : sigB s with
      | false =>
        have hz := hideI (unhideI HBAD hsb)
        clear hsb
        go_wp2
        go_ret
        exact ⟨by rw [unhideI hz]; rfl, unhideI HU⟩
      | true =>
        have hz := hideI (unhideI HNX hsb)
        clear hsb
        go_wp2
        go_roundw
        case rel => exact ⟨k + 1, by go_num, by omega, unhideI HU, unhideI hz⟩
        case measure => simp [intOf]; omega
    · have hz := hideI (show (upB p.externs.length fun k => sigB (p.externs.getD k ([], 0))) = true from upB_true (fun q hq => unhideI HNO q (by omega)))
      obtain rfl : k = p.externs.length := by omega
      have HBW := hideI hbw
      clear hbw
      go_wp2
      go_ret
      exact ⟨by rw [unhideI hz]; rfl, unhideI HBW⟩
set_option maxHeartbeats 2000000 in
set_option maxRecDepth 100000 in
theorem rlocal_c (f : FuncE) (pv hv sv bv lv : Value) (r : Int) (ls : List Int) (w : World) (hh : ∃ p c, hv = .slice p f.homes.length c) (hhl : f.homes.length < 9223372036854775808) (h : Li w lv ls) : Calls Tryd.prog 23 #[.agg #[pv, .int .i64 r, hv, sv, bv], lv] w fun e w' => e = .returned (.bool (localsB f ls)) ∧ Below w.heap.size w w' := by
  obtain ⟨ph, ch, rfl⟩ := hh
  have hx := al0 w (.cells #[pv, .int .i64 r, .slice ph f.homes.length ch, sv, bv] 48 (0, 0))
  obtain ⟨p, cap, rfl, hcap, hlt, hc⟩ := h.below hx.2.1
  have hlt : ls.length < 9223372036854775808 := hlt
  have HC := hideI hc
  have HX := hideI hx
  clear hc hx h
  go_enter Tryd.func23, Tryd.ntmps23
  go_wp2_with fail
  generalize World.alloc w _ = W at HC HX ⊢
  go_loopw [9] (fun j w' => ∃ k : Nat, j = .int .i64 k ∧ k ≤ ls.length ∧ w' = W ∧ ∀ q, q < k → localB f (ls.getD q 0) = true) (fun j _ => ls.length - (intOf j).toNat)
  case atStart => exact ⟨0, rfl, by omega, rfl, fun q hq => by omega⟩
  case round =>
    obtain ⟨k, rfl, hk, rfl, hno⟩ := hrel
    have HN := hideI hno
    clear hno
    by_cases hk2 : k < ls.length
    · obtain ⟨sb, so, rfl, hcc⟩ := unhideI HC (by omega)
      have c := hcc k hk2
      have r2 := (cells_of_row (unhideI HX).1 2).trans rfl
      have HW := hideI (rin_c (ls.getD k 0) 0 (f.homes.length - 1) wr)
      have HBAD := hideI (fun hb : inB (ls.getD k 0) 0 (f.homes.length - 1) = false => show localsB f ls = false from upB_false hk2 hb)
      have HNX := hideI (fun hb : inB (ls.getD k 0) 0 (f.homes.length - 1) = true => upTo_next (q := fun q => localB f (ls.getD q 0)) (unhideI HN) hb)
      clear hcc HC
      generalize inB (ls.getD k 0) 0 (f.homes.length - 1) = yes at HW HBAD HNX
      generalize ls.getD k 0 = y at c HW
      go_wp2_with fail
      refine (unhideI HW).mono ?_
      rintro e w2 ⟨rfl, h2⟩
      subst w2
      cases yes with
      | false =>
        have hx := hideI (unhideI HBAD rfl)
        go_wp2
        go_ret
        exact ⟨by rw [unhideI hx]; rfl, (unhideI HX).2.1⟩
      | true =>
        have hx := hideI (unhideI HNX rfl)
        go_wp2
        go_roundw
        case rel => exact ⟨k + 1, by go_num, by omega, trivial, unhideI hx⟩
        case measure => simp [intOf]; omega
    · have HT := hideI (show localsB f ls = true from upB_true (fun q hq => unhideI HN q (by omega)))
      obtain rfl : k = ls.length := by omega
      go_wp2
      go_ret
      exact ⟨by rw [unhideI HT]; rfl, (unhideI HX).2.1⟩
set_option maxRecDepth 100000 in
theorem rblock_c (f : FuncE) (pv hv sv : Value) (q : Option Addr) (c : Nat) (r n : Int) (w : World) (hl : f.blocks.length < 9223372036854775808) : Calls Tryd.prog 24 #[.agg #[pv, .int .i64 r, hv, sv, .slice q f.blocks.length c], .int .i64 n] w fun e w' => e = .returned (.bool (inB n 0 (f.blocks.length - 1))) ∧ Below w.heap.size w w' := by
  have HX := hideI (al0 w (.cells #[pv, .int .i64 r, hv, sv, .slice q f.blocks.length c] 48 (0, 0)))
  go_enter Tryd.func24, Tryd.ntmps24
  go_wp2_with fail
  refine (rin_c n 0 (f.blocks.length - 1) _).mono ?_
  rintro e w2 ⟨rfl, h2⟩
  subst w2
  go_wp2
  go_ret
  exact ⟨rfl, (unhideI HX).2.1⟩
end Go.Proofs.YteaemhhbpaicnaaDoor
