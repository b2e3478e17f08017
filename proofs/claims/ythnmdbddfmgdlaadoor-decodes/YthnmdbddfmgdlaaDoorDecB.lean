/-
  Decodes: the reader's numbers. Own work of the verifier.
-/
import Derived.Test.YthnmdbddfmgdlaaDoorDecA
namespace Go.Proofs.YthnmdbddfmgdlaaDoor
open Go.RowKit

set_option maxHeartbeats 1000000 in
set_option maxRecDepth 100000 in
theorem number_d (b : Nat) (s : ByteArray) (a : Nat) (lo hi : Int) (w : World) (h : Rd w b s a) (hlo : lo ≠ -1) : Calls Tryd.prog 53 #[.pointer (some ⟨b, 0, none⟩), .int .i64 lo, .int .i64 hi] w (DecE b s RInt (dNum s lo hi a) w) := by
  by_cases hlt : a < s.size
  · have HD := hideE (show dNum s lo hi a = dTake lo hi (bAt s a) a by unfold dNum signed; rw [if_pos hlt, if_neg (fun c => hlo c.1)])
    obtain ⟨b0, b1⟩ := bAt_bd s a
    have HP := hideE (peek_ok b s a w h hlt)
    generalize bAt s a = n at HD HP b0 b1
    clear h hlo
    go_enter Tryd.func53, Tryd.ntmps53
    go_wp2_with fail
    refine (unhideE HP).mono ?_
    rintro e w1 ⟨rfl, hg1, hR1⟩
    have HT := hideE (take_d b s a n lo hi w1 hR1 hlt)
    have HG1 := hideE hg1
    clear hg1 hR1
    go_wp2_with fail
    refine (unhideE HT).mono ?_
    intro e w2 h2
    cases hr : dTake lo hi n a with
    | ok p =>
      obtain ⟨x, a'⟩ := p
      rw [hr] at h2
      obtain ⟨g1, v, rfl, hv, hR⟩ := h2
      have HV := hideE hv
      have HR2 := hideE hR
      have HG2 := hideE (gb_tr (unhideE HG1) g1)
      have HE := hideE hr
      clear hv hR g1 hr
      go_wp2
      go_ret
      rw [unhideE HD, unhideE HE]
      exact ⟨unhideE HG2, v, rfl, unhideE HV, unhideE HR2⟩
    | error q =>
      rw [hr] at h2
      have h3 := DecE.err (RW := RInt) h2 (unhideE HG1)
      obtain ⟨g1, g, rfl, g2, g3⟩ := h2
      refine ⟨rfl, ?_⟩
      rw [unhideE HD, hr]
      exact h3
  · have HD := hideE (show dNum s lo hi a = .error a from if_neg hlt)
    have HP := hideE (peek_no RInt b s a w h (by omega))
    clear h
    go_enter Tryd.func53, Tryd.ntmps53
    go_wp2_with fail
    refine (unhideE HP).mono ?_
    intro e w2 h2
    have h3 := DecE.err (RW := RInt) h2 (gb_refl w (some b))
    obtain ⟨g1, g, rfl, g2, g3⟩ := h2
    refine ⟨rfl, ?_⟩
    rw [unhideE HD]
    exact h3
set_option maxRecDepth 100000 in
theorem words_d (b : Nat) (s : ByteArray) (a : Nat) (w : World) (h : Rd w b s a) : Calls Tryd.prog 70 #[.pointer (some ⟨b, 0, none⟩)] w (DecE b s RInt (dNum s 0 8 a) w) := by
  have HN := hideE (number_d b s a 0 8 w h (by decide))
  clear h
  go_enter Tryd.func70, Tryd.ntmps70
  go_wp2_with fail
  refine (unhideE HN).mono ?_
  intro e w2 h2
  cases hr : dNum s 0 8 a with
  | ok p =>
    obtain ⟨x, a'⟩ := p
    rw [hr] at h2
    obtain ⟨g1, v, rfl, hv, hR⟩ := h2
    have HV := hideE hv
    have HR2 := hideE hR
    have HG2 := hideE (gb_tr (gb_refl w (some b)) g1)
    have HE := hideE hr
    clear hv hR g1 hr
    go_wp2
    go_ret
    rw [unhideE HE]
    exact ⟨unhideE HG2, v, rfl, unhideE HV, unhideE HR2⟩
  | error q =>
    rw [hr] at h2
    have h3 := DecE.err (RW := RInt) h2 (gb_refl w (some b))
    obtain ⟨g1, g, rfl, g2, g3⟩ := h2
    refine ⟨rfl, ?_⟩
    exact h3
set_option maxRecDepth 100000 in
theorem anyByte_d (b : Nat) (s : ByteArray) (a : Nat) (w : World) (h : Rd w b s a) : Calls Tryd.prog 80 #[.pointer (some ⟨b, 0, none⟩)] w (DecE b s RInt (dNum s 0 255 a) w) := by
  have HN := hideE (number_d b s a 0 255 w h (by decide))
  clear h
  go_enter Tryd.func80, Tryd.ntmps80
  go_wp2_with fail
  refine (unhideE HN).mono ?_
  intro e w2 h2
  cases hr : dNum s 0 255 a with
  | ok p =>
    obtain ⟨x, a'⟩ := p
    rw [hr] at h2
    obtain ⟨g1, v, rfl, hv, hR⟩ := h2
    have HV := hideE hv
    have HR2 := hideE hR
    have HG2 := hideE (gb_tr (gb_refl w (some b)) g1)
    have HE := hideE hr
    clear hv hR g1 hr
    go_wp2
    go_ret
    rw [unhideE HE]
    exact ⟨unhideE HG2, v, rfl, unhideE HV, unhideE HR2⟩
  | error q =>
    rw [hr] at h2
    have h3 := DecE.err (RW := RInt) h2 (gb_refl w (some b))
    obtain ⟨g1, g, rfl, g2, g3⟩ := h2
    refine ⟨rfl, ?_⟩
    exact h3
set_option maxRecDepth 100000 in
theorem slot_d (b : Nat) (s : ByteArray) (a : Nat) (w : World) (h : Rd w b s a) : Calls Tryd.prog 74 #[.pointer (some ⟨b, 0, none⟩)] w (DecE b s RInt (dNum s 1 8 a) w) := by
  have HN := hideE (number_d b s a 1 8 w h (by decide))
  clear h
  go_enter Tryd.func74, Tryd.ntmps74
  go_wp2_with fail
  refine (unhideE HN).mono ?_
  intro e w2 h2
  cases hr : dNum s 1 8 a with
  | ok p =>
    obtain ⟨x, a'⟩ := p
    rw [hr] at h2
    obtain ⟨g1, v, rfl, hv, hR⟩ := h2
    have HV := hideE hv
    have HR2 := hideE hR
    have HG2 := hideE (gb_tr (gb_refl w (some b)) g1)
    have HE := hideE hr
    clear hv hR g1 hr
    go_wp2
    go_ret
    rw [unhideE HE]
    exact ⟨unhideE HG2, v, rfl, unhideE HV, unhideE HR2⟩
  | error q =>
    rw [hr] at h2
    have h3 := DecE.err (RW := RInt) h2 (gb_refl w (some b))
    obtain ⟨g1, g, rfl, g2, g3⟩ := h2
    refine ⟨rfl, ?_⟩
    exact h3
theorem home_eq (n : Int) (a : Nat) (h0 : 0 ≤ n) (h1 : n ≤ 255) : dTake (-1) 15 (if n ≤ 127 then n else n - 256) a = dTake (-1) 15 (signed (-1) n) a := by
  by_cases h2 : n = 255
  · subst h2; rfl
  · have e1 : signed (-1) n = n := if_neg (fun c => h2 c.2)
    rw [e1]
    by_cases h3 : n ≤ 127
    · rw [if_pos h3]
    · rw [if_neg h3]
      unfold dTake
      rw [if_neg (by omega), if_neg (by omega)]
set_option maxHeartbeats 1000000 in
set_option maxRecDepth 100000 in
theorem home_d (b : Nat) (s : ByteArray) (a : Nat) (w : World) (h : Rd w b s a) : Calls Tryd.prog 73 #[.pointer (some ⟨b, 0, none⟩)] w (DecE b s RInt (dNum s (-1) 15 a) w) := by
  by_cases hlt : a < s.size
  · obtain ⟨b0, b1⟩ := bAt_bd s a
    have HD := hideE (show dNum s (-1) 15 a = dTake (-1) 15 (if bAt s a ≤ 127 then bAt s a else bAt s a - 256) a by unfold dNum; rw [if_pos hlt, home_eq _ _ b0 b1])
    have HP := hideE (peek_ok b s a w h hlt)
    generalize bAt s a = n at HD HP b0 b1
    have hi8 : IntKind.i8.wrap n = (if n ≤ 127 then n else n - 256) := by
      unfold IntKind.wrap
      simp [IntKind.bits, IntKind.signed]
      split <;> split <;> omega
    have hi64 : wrap64 (if n ≤ 127 then n else n - 256) = (if n ≤ 127 then n else n - 256) := by
      unfold wrap64
      split <;> omega
    have HI := hideE hi8
    have HJ := hideE hi64
    clear h hi8 hi64
    go_enter Tryd.func73, Tryd.ntmps73
    go_wp2_with fail
    refine (unhideE HP).mono ?_
    rintro e w1 ⟨rfl, hg1, hR1⟩
    generalize hm : (if n ≤ 127 then n else n - 256) = m at HD HI HJ
    have HT := hideE (take_d b s a m (-1) 15 w1 hR1 hlt)
    have HG1 := hideE hg1
    clear hg1 hR1 hm
    go_wp2_with fail
    rw [show wrap64 (IntKind.i8.wrap n) = m by rw [unhideE HI]; exact unhideE HJ]
    refine (unhideE HT).mono ?_
    intro e w2 h2
    cases hr : dTake (-1) 15 m a with
    | ok p =>
      obtain ⟨x, a'⟩ := p
      rw [hr] at h2
      obtain ⟨g1, v, rfl, hv, hR⟩ := h2
      have HV := hideE hv
      have HR2 := hideE hR
      have HG2 := hideE (gb_tr (unhideE HG1) g1)
      have HE := hideE hr
      clear hv hR g1 hr
      go_wp2
      go_ret
      rw [unhideE HD, unhideE HE]
      exact ⟨unhideE HG2, v, rfl, unhideE HV, unhideE HR2⟩
    | error q =>
      rw [hr] at h2
      have h3 := DecE.err (RW := RInt) h2 (unhideE HG1)
      obtain ⟨g1, g, rfl, g2, g3⟩ := h2
      refine ⟨rfl, ?_⟩
      rw [unhideE HD, hr]
      exact h3
  · have HD := hideE (show dNum s (-1) 15 a = .error a from if_neg hlt)
    have HP := hideE (peek_no RInt b s a w h (by omega))
    clear h
    go_enter Tryd.func73, Tryd.ntmps73
    go_wp2_with fail
    refine (unhideE HP).mono ?_
    intro e w2 h2
    have h3 := DecE.err (RW := RInt) h2 (gb_refl w (some b))
    obtain ⟨g1, g, rfl, g2, g3⟩ := h2
    refine ⟨rfl, ?_⟩
    rw [unhideE HD]
    exact h3
end Go.Proofs.YthnmdbddfmgdlaaDoor
