/-
  Checks: a program, by package program. Own work of the verifier.
-/
import Derived.Test.YteaemhhbpaicnaaDoorCkO
import Derived.Test.YteaemhhbpaicnaaDoorTblReg
namespace Go.Proofs.YteaemhhbpaicnaaDoor
open Go.RowKit

theorem LS.twos {w : World} {v : Value} {n : Nat} {A : Nat → Array Value} (h : LS 2 w v n A) : ∃ p cap, v = .slice p n cap ∧ n < 9223372036854775808 ∧ (0 < n → ∃ sb so, p = some ⟨sb, so, none⟩ ∧ sb < w.heap.size ∧ ∀ k, k < n → ∀ j x, (A k)[j]? = some x → w.cell? ⟨sb, so + k * 2 + j, none⟩ = some x) := by
  obtain ⟨p, cap, h1, h2, h3, h4⟩ := h
  refine ⟨p, cap, h1, h3, fun h0 => ?_⟩
  obtain ⟨sb, so, e, hl, hc⟩ := h4 h0
  exact ⟨sb, so, e, hl, fun k hk j x hx => hc k hk j x (by simpa using hx)⟩
theorem LS.fives {w : World} {v : Value} {n : Nat} {A : Nat → Array Value} (h : LS 5 w v n A) : ∃ p cap, v = .slice p n cap ∧ n < 9223372036854775808 ∧ (0 < n → ∃ sb so, p = some ⟨sb, so, none⟩ ∧ sb < w.heap.size ∧ ∀ k, k < n → ∀ j x, (A k)[j]? = some x → w.cell? ⟨sb, so + k * 5 + j, none⟩ = some x) := by
  obtain ⟨p, cap, h1, h2, h3, h4⟩ := h
  refine ⟨p, cap, h1, h3, fun h0 => ?_⟩
  obtain ⟨sb, so, e, hl, hc⟩ := h4 h0
  exact ⟨sb, so, e, hl, fun k hk j x hx => hc k hk j x (by simpa using hx)⟩
set_option maxHeartbeats 4000000 in
set_option maxRecDepth 100000 in
theorem countsFit_c (p : ProgE) (fv ev : Value) (A E : Nat → Array Value) (w : World) (hP : ProgC w fv ev p A E) : Calls Tryd.prog 30 #[.agg #[fv, ev]] w fun e w' => e = .returned (.bool (countsB p)) ∧ Below w.heap.size w w' := by
  have hx := al0 w (.cells #[fv, ev] 29 (0, 0))
  have HP := hideI (hP.below hx.2.1)
  have hl4 : p.funcs.length < 9223372036854775808 := by obtain ⟨_, _, _, _, h, _⟩ := hP.fs; exact h
  have hl5 : p.externs.length < 9223372036854775808 := by obtain ⟨_, _, _, _, h, _⟩ := hP.es; exact h
  obtain ⟨pf, cf, rfl⟩ := hP.fs.shape
  obtain ⟨pe, ce, rfl⟩ := hP.es.shape
  have HX := hideI hx
  clear hx hP
  go_enter Tryd.func30, Tryd.ntmps30
  go_wp2_with fail
  refine (isWithin_c p.funcs.length 1 8 _).mono ?_
  rintro e w2 ⟨rfl, h2⟩
  subst w2
  cases h1 : inB p.funcs.length 1 8 with
  | false =>
    have hz := hideI (show countsB p = false by unfold countsB; rw [h1]; rfl)
    clear h1
    go_wp2
    go_ret
    exact ⟨by rw [unhideI hz]; rfl, (unhideI HX).2.1⟩
  | true =>
    have H1 := hideI h1
    clear h1
    by_cases h4 : p.externs.length ≤ 4
    · have HCB := hideI (show countsB p = upB p.externs.length (fun k => sigB (p.externs.getD k ([], 0))) by unfold countsB; rw [unhideI H1]; simp [h4])
      go_wp2_with fail
      generalize World.alloc w _ = W at HP HX ⊢
      go_loopw [19] (fun j w' => ∃ k : Nat, j = .int .i64 k ∧ k ≤ p.externs.length ∧ Below W.heap.size W w' ∧ ∀ q, q < k → sigB (p.externs.getD q ([], 0)) = true) (fun j _ => p.externs.length - (intOf j).toNat)
      case atStart => exact ⟨0, rfl, by omega, Below.refl _ _, fun q hq => by omega⟩
      case round =>
        obtain ⟨k, rfl, hk, hbw, hno⟩ := hrel
        have HNO := hideI hno
        clear hno
        have hws := hbw.size
        have hWs := (unhideI HX).2.2
        by_cases hk2 : k < p.externs.length
        · obtain ⟨p', cap', he, -, hcc⟩ := (unhideI HP).es.twos
          injection he with e1 e2 e3
          subst e1 e3
          obtain ⟨sb, so, rfl, hslt, hc⟩ := hcc (by omega)
          have hsc := (unhideI HP).eeach k hk2
          have hgd : p.externs[k] = p.externs.getD k ([], 0) := by simp [List.getD, hk2]
          rw [hgd] at hsc
          have HBAD := hideI (fun hb : sigB (p.externs.getD k ([], 0)) = false => show countsB p = false by rw [unhideI HCB]; exact upB_false hk2 hb)
          have HNX := hideI (fun hb : sigB (p.externs.getD k ([], 0)) = true => upTo_next (q := fun q => sigB (p.externs.getD q ([], 0))) (unhideI HNO) hb)
          generalize p.externs.getD k ([], 0) = s at hsc HBAD HNX
          obtain ⟨lv, hE, hli⟩ := hsc
          have HLI := hideI hli
          obtain ⟨pl, cl, rfl⟩ := hli.shape
          have hck := hc k hk2
          rw [hE] at hck
          have k0 := (hbw.cell hslt).trans (hck 0 _ rfl)
          have k1 := (hbw.cell hslt).trans (hck 1 _ rfl)
          rw [Nat.add_zero] at k0
          have HBW := hideI hbw
          clear hck hc hcc hE hgd hli hbw e2
          go_wp2_with fail
          have hy := al0 wr (.cells #[.slice pl s.1.length cl, .int .i64 s.2] 67 (0, 0))
          have hbU := below_cut (unhideI HBW) hy.2.1 hws
          refine (sigFits_c _ s.1 s.2 _ ((unhideI HLI).below hbU)).mono ?_
          rintro e w3 ⟨rfl, hb3⟩
          have HU := hideI (below_cut hbU hb3 hbU.size)
          clear hb3 hbU hy k0 k1
          rw [show ((s.1, s.2) : List Int × Int) = s from rfl]
          cases hsb : sigB s with
          | false =>
            have hz := hideI (unhideI HBAD hsb)
            clear hsb
            go_wp2
            go_ret
            exact ⟨by rw [unhideI hz]; rfl, below_cut (unhideI HX).2.1 (unhideI HU) (by omega)⟩
          | true =>
            have hz := hideI (unhideI HNX hsb)
            clear hsb
            go_wp2
            go_roundw
            case rel => exact ⟨k + 1, by go_num, by omega, unhideI HU, unhideI hz⟩
            case measure => simp [intOf]; omega
        · have hz := hideI (show countsB p = true by rw [unhideI HCB]; exact upB_true (fun q hq => unhideI HNO q (by omega)))
          obtain rfl : k = p.externs.length := by omega
          have HBW := hideI hbw
          clear hbw
          go_wp2
          go_ret
          exact ⟨by rw [unhideI hz]; rfl, below_cut (unhideI HX).2.1 (unhideI HBW) (by omega)⟩
    · have hz := hideI (show countsB p = false by unfold countsB; simp [h4])
      go_wp2
      go_ret
      exact ⟨by rw [unhideI hz]; rfl, (unhideI HX).2.1⟩
theorem badIn_c (a b c : Int) (w : World) : Calls Tryd.prog 32 #[.int .i64 a, .int .i64 b, .int .i64 c] w fun e w' => e = .returned (.iface 60 (.pointer (some ⟨w.heap.size, 0, none⟩))) ∧ w' = w.alloc (.cells #[.iface 57 (.int .i64 5), .int .i64 a, .int .i64 b, .int .i64 c] 63 (0, 0)) := by
  go_enter Tryd.func32, Tryd.ntmps32
  go_wp2
  go_ret
  exact ⟨rfl, rfl⟩
end Go.Proofs.YteaemhhbpaicnaaDoor
