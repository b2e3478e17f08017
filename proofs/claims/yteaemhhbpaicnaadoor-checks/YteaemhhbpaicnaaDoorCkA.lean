/-
  Checks: the small ones of package program. Own work of the verifier.
-/
import Derived.Test.YteaemhhbpaicnaaDoorM8
import Derived.Test.YteaemhhbpaicnaaDoorShelf
import Derived.Laws.AppendOwn
import Derived.Deep.QuietTactic
import Derived.BigQuiet
namespace Go.Proofs.YteaemhhbpaicnaaDoor
open Go.RowKit

set_option maxHeartbeats 1000000 in
theorem isWithin_c (n lo hi : Int) (w : World) : Calls Tryd.prog 42 #[.int .i64 n, .int .i64 lo, .int .i64 hi] w fun e w' => e = .returned (.bool (inB n lo hi)) ∧ w' = w := by
  unfold inB
  by_cases h1 : lo ≤ n
  · by_cases h2 : n ≤ hi
    · have hd : decide (lo ≤ n ∧ n ≤ hi) = true := by simp; omega
      rw [hd]
      clear hd
      go_enter Tryd.func42, Tryd.ntmps42
      go_wp2
      go_ret
      exact ⟨rfl, rfl⟩
    · have hd : decide (lo ≤ n ∧ n ≤ hi) = false := by simp; omega
      rw [hd]
      clear hd
      go_enter Tryd.func42, Tryd.ntmps42
      go_wp2
      go_ret
      exact ⟨rfl, rfl⟩
  · have hd : decide (lo ≤ n ∧ n ≤ hi) = false := by simp; omega
    rw [hd]
    clear hd
    go_enter Tryd.func42, Tryd.ntmps42
    go_wp2
    go_ret
    exact ⟨rfl, rfl⟩
set_option maxHeartbeats 1000000 in
set_option maxRecDepth 100000 in
theorem slotsFit_c (v : Value) (ns : List Int) (w : World) (h : Li w v ns) : Calls Tryd.prog 46 #[v] w fun e w' => e = .returned (.bool (numsIn ns 1 8)) ∧ w' = w := by
  obtain ⟨p, cap, rfl, hcap, hlt, hc⟩ := h
  have hlt : ns.length < 9223372036854775808 := hlt
  have HC := hideI hc
  clear hc
  go_enter Tryd.func46, Tryd.ntmps46
  go_wp2_with fail
  go_loopw [7] (fun j w' => ∃ k : Nat, j = .int .i64 k ∧ k ≤ ns.length ∧ w' = w ∧ ∀ q, q < k → inB (ns.getD q 0) 1 8 = true) (fun j _ => ns.length - (intOf j).toNat)
  case atStart => exact ⟨0, rfl, by omega, rfl, fun q hq => by omega⟩
  case round =>
    obtain ⟨k, rfl, hk, rfl, hno⟩ := hrel
    have HN := hideI hno
    clear hno
    by_cases hk2 : k < ns.length
    · obtain ⟨sb, so, rfl, hcc⟩ := unhideI HC (by omega)
      have c := hcc k hk2
      have HW := hideI (isWithin_c (ns.getD k 0) 1 8 wr)
      have HBAD := hideI (fun hb : inB (ns.getD k 0) 1 8 = false => show numsIn ns 1 8 = false from upB_false hk2 hb)
      have HNX := hideI (fun hb : inB (ns.getD k 0) 1 8 = true => upTo_next (q := fun q => inB (ns.getD q 0) 1 8) (unhideI HN) hb)
      clear hcc HC
      generalize inB (ns.getD k 0) 1 8 = yes at HW HBAD HNX
      generalize ns.getD k 0 = y at c HW
      go_wp2_with fail
      refine (unhideI HW).mono ?_
      rintro e w2 ⟨rfl, h2⟩
      subst w2
      cases yes with
      | false =>
        have hx := hideI (unhideI HBAD rfl)
        go_wp2
        go_ret
        exact ⟨by rw [unhideI hx]; rfl, rfl⟩
      | true =>
        have hx := hideI (unhideI HNX rfl)
        go_wp2
        go_roundw
        case rel => exact ⟨k + 1, by go_num, by omega, trivial, unhideI hx⟩
        case measure => simp [intOf]; omega
    · have HT := hideI (show numsIn ns 1 8 = true from upB_true (fun q hq => unhideI HN q (by omega)))
      obtain rfl : k = ns.length := by omega
      go_wp2
      go_ret
      exact ⟨by rw [unhideI HT]; rfl, rfl⟩
theorem al0 (w : World) (X : Obj) : (w.alloc X).heap[w.heap.size]? = some X ∧ Below w.heap.size w (w.alloc X) ∧ (w.alloc X).heap.size = w.heap.size + 1 :=
  ⟨heap_alloc_new w _, (Below.refl w.heap.size w).alloc (Nat.le_refl _) _, by simp⟩
theorem below_drewN {a w : World} {n : Nat} (h : Below n a w) (m : Nat) : Below n a (w.drewN m) := ⟨h.os, h.tape, h.output, h.size, h.block⟩
theorem below_cut {a c d : World} {n : Nat} (h : Below n a c) (k : Below c.heap.size c d) (hn : n ≤ c.heap.size) : Below n a d := h.trans (k.mono hn)
theorem LS.pairs {w : World} {v : Value} {xs : List (Int × Int)} (h : LS 2 w v xs.length (fun k => pairA (xs.getD k (0, 0)))) : ∃ p cap, v = .slice p xs.length cap ∧ xs.length ≤ cap ∧ xs.length < 9223372036854775808 ∧ (0 < xs.length → ∃ sb so, p = some ⟨sb, so, none⟩ ∧ ∀ k, k < xs.length → w.cell? ⟨sb, so + k * 2, none⟩ = some (.int .i64 (xs.getD k (0, 0)).1) ∧ w.cell? ⟨sb, so + k * 2 + 1, none⟩ = some (.int .i64 (xs.getD k (0, 0)).2)) := by
  obtain ⟨p, cap, h1, h2, h3, h4⟩ := h
  refine ⟨p, cap, h1, h2, h3, fun h0 => ?_⟩
  obtain ⟨sb, so, e, -, hc⟩ := h4 h0
  exact ⟨sb, so, e, fun k hk => ⟨hc k hk 0 _ rfl, hc k hk 1 _ rfl⟩⟩
set_option maxHeartbeats 1000000 in
set_option maxRecDepth 100000 in
theorem sigFits_c (v : Value) (ns : List Int) (r : Int) (w : World) (h : Li w v ns) : Calls Tryd.prog 43 #[.agg #[v, .int .i64 r]] w fun e w' => e = .returned (.bool (sigB (ns, r))) ∧ Below w.heap.size w w' := by
  have hx := al0 w (.cells #[v, .int .i64 r] 67 (0, 0))
  have h' := h.below hx.2.1
  obtain ⟨p, cap, rfl, hcap, hlt, hc⟩ := h'
  have hlt : ns.length < 9223372036854775808 := hlt
  have HC := hideI hc
  have HX := hideI hx
  clear hc hx h
  by_cases h8 : ns.length ≤ 8
  · have HS := hideI (show sigB (ns, r) = (inB r 0 4 && numsIn ns 0 8) by unfold sigB; simp [h8])
    go_enter Tryd.func43, Tryd.ntmps43
    go_wp2_with fail
    refine (isWithin_c r 0 4 _).mono ?_
    rintro e w2 ⟨rfl, h2⟩
    subst w2
    cases hr : inB r 0 4 with
    | false =>
      have HR := hideI hr
      clear hr
      go_wp2
      go_ret
      exact ⟨by rw [unhideI HS, unhideI HR]; rfl, (unhideI HX).2.1⟩
    | true =>
      have HR := hideI hr
      clear hr
      go_wp2_with fail
      generalize World.alloc w _ = W at HC HX ⊢
      go_loopw [18] (fun j w' => ∃ k : Nat, j = .int .i64 k ∧ k ≤ ns.length ∧ w' = W ∧ ∀ q, q < k → inB (ns.getD q 0) 0 8 = true) (fun j _ => ns.length - (intOf j).toNat)
      case atStart => exact ⟨0, rfl, by omega, rfl, fun q hq => by omega⟩
      case round =>
        obtain ⟨k, rfl, hk, rfl, hno⟩ := hrel
        have HN := hideI hno
        clear hno
        by_cases hk2 : k < ns.length
        · obtain ⟨sb, so, rfl, hcc⟩ := unhideI HC (by omega)
          have c := hcc k hk2
          have HW := hideI (isWithin_c (ns.getD k 0) 0 8 wr)
          have HBAD := hideI (fun hb : inB (ns.getD k 0) 0 8 = false => show numsIn ns 0 8 = false from upB_false hk2 hb)
          have HNX := hideI (fun hb : inB (ns.getD k 0) 0 8 = true => upTo_next (q := fun q => inB (ns.getD q 0) 0 8) (unhideI HN) hb)
          clear hcc HC
          generalize inB (ns.getD k 0) 0 8 = yes at HW HBAD HNX
          generalize ns.getD k 0 = y at c HW
          go_wp2_with fail
          refine (unhideI HW).mono ?_
          rintro e w2 ⟨rfl, h2⟩
          subst w2
          cases yes with
          | false =>
            have hx := hideI (unhideI HBAD rfl)
            go_wp2
            go_ret
            exact ⟨by rw [unhideI HS, unhideI HR, unhideI hx]; rfl, (unhideI HX).2.1⟩
          | true =>
            have hx := hideI (unhideI HNX rfl)
            go_wp2
            go_roundw
            case rel => exact ⟨k + 1, by go_num, by omega, trivial, unhideI hx⟩
            case measure => simp [intOf]; omega
        · have HT := hideI (show numsIn ns 0 8 = true from upB_true (fun q hq => unhideI HN q (by omega)))
          obtain rfl : k = ns.length := by omega
          go_wp2
          go_ret
          exact ⟨by rw [unhideI HS, unhideI HR, unhideI HT]; rfl, (unhideI HX).2.1⟩
  · have HS := hideI (show sigB (ns, r) = false by unfold sigB; simp [h8])
    go_enter Tryd.func43, Tryd.ntmps43
    go_wp2
    go_ret
    exact ⟨by rw [unhideI HS]; rfl, (unhideI HX).2.1⟩
set_option maxHeartbeats 1000000 in
set_option maxRecDepth 100000 in
theorem comesInto_c (f : FuncE) (a v u c : Value) (r : Int) (x : Int × Int) (w : World) (hh : Li w v f.homes) (hs : Li w u f.slots) : Calls Tryd.prog 54 #[.agg #[a, .int .i64 r, v, u, c], .agg #[.int .i64 x.1, .int .i64 x.2]] w fun e w' => e = .returned (.bool (spotB f x)) ∧ Below w.heap.size w w' := by
  obtain ⟨x, y⟩ := x
  obtain ⟨p, cap, rfl, hcap, hlt, hc⟩ := hh
  have hlt : f.homes.length < 9223372036854775808 := hlt
  have hx := al0 w (.cells #[a, .int .i64 r, .slice p f.homes.length cap, u, c] 48 (0, 0))
  have hs' := hs.below hx.2.1
  have hs1 := hx.2.2
  have HX := hideI hx.2.1
  generalize hW : World.alloc w (.cells #[a, .int .i64 r, .slice p f.homes.length cap, u, c] 48 (0, 0)) = W at hs' HX hs1
  have hy := al0 W (.cells #[.int .i64 x, .int .i64 y] 71 (0, 0))
  have hs'' := hs'.below hy.2.1
  have HB := hideI (below_cut (unhideI HX) hy.2.1 (by omega))
  obtain ⟨p2, cap2, rfl, hcap2, hlt2, hc2⟩ := hs''
  have hlt2 : f.slots.length < 9223372036854775808 := hlt2
  have HC2 := hideI hc2
  clear hc hc2 hs hs' hx hy
  subst hW
  by_cases h0 : x = 0
  · have HS := hideI (show spotB f (x, y) = inB y 0 (f.homes.length - 1) by unfold spotB; simp [h0])
    have HW := hideI (fun V => isWithin_c y 0 (f.homes.length - 1) V)
    generalize inB y 0 (f.homes.length - 1) = yes at HS HW
    subst h0
    go_enter Tryd.func54, Tryd.ntmps54
    go_wp2_with fail
    refine (unhideI HW _).mono ?_
    rintro e w2 ⟨rfl, h2⟩
    subst w2
    go_wp2
    go_ret
    exact ⟨by rw [unhideI HS]; rfl, unhideI HB⟩
  · have hz : (x == 0) = false := by simpa using h0
    have HS := hideI (show spotB f (x, y) = (inB y 0 (f.slots.length - 1) && decide (f.slots.getD y.toNat 0 = x)) by unfold spotB; simp [h0])
    have HW := hideI (fun V => isWithin_c y 0 (f.slots.length - 1) V)
    go_enter Tryd.func54, Tryd.ntmps54
    go_wp2_with fail
    cases hr : inB y 0 (f.slots.length - 1) with
    | false =>
      rw [hr] at HW HS
      go_quiet ((go_at_call 42; exact Calls.quiet_of_same (unhideI HW _)))
      go_wp2
      go_ret
      exact ⟨by rw [unhideI HS]; rfl, below_drewN (unhideI HB) _⟩
    | true =>
      rw [hr] at HW HS
      have hr2 := hr
      unfold inB at hr2
      have hr3 := of_decide_eq_true hr2
      obtain ⟨g0, g1⟩ := hr3
      obtain ⟨sb, so, rfl, hcc⟩ := unhideI HC2 (by omega)
      obtain ⟨n, rfl⟩ : ∃ n : Nat, y = n := ⟨y.toNat, by omega⟩
      have hn : n < f.slots.length := by omega
      have cc := hcc n hn
      rw [Int.toNat_natCast] at HS
      clear hr hr2 hcc HC2 g0 g1
      generalize f.slots.getD n 0 = z at cc HS
      go_quiet ((go_at_call 42; exact Calls.quiet_of_same (unhideI HW _)))
      go_wp2
      go_ret
      exact ⟨by rw [unhideI HS]; rfl, below_drewN (unhideI HB) _⟩
end Go.Proofs.YteaemhhbpaicnaaDoor
