/-
  Own work of the verifier: CkF, CkG, CkH, CkI, CkJ, as one text.
-/
import Derived.Test.YtffemeicclhioaaGreatDoorJ7
import Derived.Test.YtffemeicclhioaaGreatDoorPk
import Derived.Deep.RegionHeld3
namespace Go.Proofs.YtffemeicclhioaaGreatDoor
open Go.RowKit

set_option maxHeartbeats 2000000 in
set_option maxRecDepth 100000 in
theorem haveLocals_c (f : FuncE) (fv ev pv hv sv bv lv : Value) (r : Int) (ls : List Int) (w : World) (hh : ∃ p c, hv = .slice p f.homes.length c) (hhl : f.homes.length < 9223372036854775808) (h : Li w lv ls) : Calls Tryz.prog 81 #[.agg #[fv, ev, pv, .int .i64 r, hv, sv, bv], lv] w fun e w' => e = .returned (.bool (localsB f ls)) ∧ Below w.heap.size w w' := by
 obtain ⟨ph, ch, rfl⟩ := hh
 have hx := al0 w (.cells #[fv, ev, pv, .int .i64 r, .slice ph f.homes.length ch, sv, bv] 149 (0, 0))
 obtain ⟨p, cap, rfl, hcap, hlt, hc⟩ := h.below hx.2.1
 have hlt : ls.length < 9223372036854775808 := hlt
 have HC := Zac hc
 have HX := Zac hx
 clear hc hx h
 go_enter Tryz.func81, Tryz.ntmps81
 go_wp2_with fail
 generalize World.alloc w _ = W at HC HX ⊢
 go_loopw [9] (fun j w' => ∃ k : Nat, j = .int .i64 k ∧ k ≤ ls.length ∧ w' = W ∧ ∀ q, q < k → localB f (ls.getD q 0) = true) (fun j _ => ls.length - (intOf j).toNat)
 case atStart => exact ⟨0, rfl, by omega, rfl, fun q hq => by omega⟩
 case round =>
  obtain ⟨k, rfl, hk, rfl, hno⟩ := hrel
  have HN := Zac hno
  clear hno
  by_cases hk2 : k < ls.length
  ·
   obtain ⟨sb, so, rfl, hcc⟩ := Zaa HC (by omega)
   have c := hcc k hk2
   have r4 := (Zab (Zaa HX).1 4).trans rfl
   have HW := Zac (isWithin_c (ls.getD k 0) 0 (f.homes.length - 1) wr)
   have HBAD := Zac (fun hb : inB (ls.getD k 0) 0 (f.homes.length - 1) = false => show localsB f ls = false from upB_false hk2 hb)
   have HNX := Zac (fun hb : inB (ls.getD k 0) 0 (f.homes.length - 1) = true => Zal (q := fun q => localB f (ls.getD q 0)) (Zaa HN) hb)
   clear hcc HC
   generalize inB (ls.getD k 0) 0 (f.homes.length - 1) = yes at HW HBAD HNX
   generalize ls.getD k 0 = y at c HW
   go_wp2_with fail
   refine (Zaa HW).mono ?_
   rintro e w2 ⟨rfl, h2⟩
   subst w2
   cases yes with
   | false =>
    have hx := Zac (Zaa HBAD rfl)
    go_wp2
    go_ret
    exact ⟨by rw [Zaa hx]; rfl, (Zaa HX).2.1⟩
   | true =>
    have hx := Zac (Zaa HNX rfl)
    go_wp2
    go_roundw
    case rel => exact ⟨k + 1, by go_num, by omega, trivial, Zaa hx⟩
    case measure => simp [intOf]; omega
  ·
   have HT := Zac (show localsB f ls = true from upB_true (fun q hq => Zaa HN q (by omega)))
   obtain rfl : k = ls.length := by omega
   go_wp2
   go_ret
   exact ⟨by rw [Zaa HT]; rfl, (Zaa HX).2.1⟩
set_option maxHeartbeats 2000000 in
set_option maxRecDepth 100000 in
theorem areApart_c (v : Value) (ls : List Int) (w : World) (h : Li w v ls) (hn : ls.length ≤ 1000000) : Calls Tryz.prog 94 #[v] w fun e w' => e = .returned (.bool (apartB ls)) ∧ w' = w := by
 have HL := Zac h
 obtain ⟨p, cap, rfl, hcap, hlt, -⟩ := h
 go_enter Tryz.func94, Tryz.ntmps94
 go_wp2_with fail
 go_loopw [7] (fun j w' => ∃ k : Nat, j = .int .i64 k ∧ k ≤ ls.length ∧ w' = w ∧ ∀ q, q < k → (!decide (ls.getD q 0 ∈ ls.take q)) = true) (fun j _ => ls.length - (intOf j).toNat)
 case atStart => exact ⟨0, rfl, by omega, rfl, fun q hq => by omega⟩
 case round =>
  obtain ⟨k, rfl, hk, rfl, hno⟩ := hrel
  have HN := Zac hno
  clear hno
  by_cases hk2 : k < ls.length
  ·
   have HCT := Zac (contains_c (ls.take k) (ls.getD k 0) (.slice p k cap) wr ((Zaa HL).take k (by omega)).rs (by simp; omega))
   obtain ⟨p', cap', he, -, -, hcc⟩ := Zaa HL
   injection he with e1 e2 e3
   subst e1 e3
   obtain ⟨sb, so, rfl, hc⟩ := hcc (by omega)
   have c := hc k hk2
   have HBAD := Zac (fun hb : decide (ls.getD k 0 ∈ ls.take k) = true => show apartB ls = false from upB_false hk2 (by rw [hb]; rfl))
   have HNX := Zac (fun hb : decide (ls.getD k 0 ∈ ls.take k) = false => Zal (q := fun q => !decide (ls.getD q 0 ∈ ls.take q)) (Zaa HN) (by show (!decide (ls.getD k 0 ∈ ls.take k)) = true; rw [hb]; rfl))
   clear hc hcc e2
   generalize decide (ls.getD k 0 ∈ ls.take k) = yes at HCT HBAD HNX
   generalize ls.getD k 0 = y at c HCT
   go_wp2_with fail
   refine (Zaa HCT).mono ?_
   rintro e w2 ⟨rfl, h2⟩
   subst w2
   cases yes with
   | true =>
    have hx := Zac (Zaa HBAD rfl)
    go_wp2
    go_ret
    exact ⟨by rw [Zaa hx]; rfl, rfl⟩
   | false =>
    have hx := Zac (Zaa HNX rfl)
    go_wp2
    go_roundw
    case rel => exact ⟨k + 1, by go_num, by omega, trivial, Zaa hx⟩
    case measure => simp [intOf]; omega
  ·
   have HT := Zac (show apartB ls = true from upB_true (fun q hq => Zaa HN q (by omega)))
   obtain rfl : k = ls.length := by omega
   go_wp2
   go_ret
   exact ⟨by rw [Zaa HT]; rfl, rfl⟩
set_option maxRecDepth 100000 in
theorem hasSlot_c (f : FuncE) (fv ev pv hv bv : Value) (q : Option Addr) (c : Nat) (r n : Int) (w : World) (hl : f.slots.length < 9223372036854775808) : Calls Tryz.prog 91 #[.agg #[fv, ev, pv, .int .i64 r, hv, .slice q f.slots.length c, bv], .int .i64 n] w fun e w' => e = .returned (.bool (inB n 0 (f.slots.length - 1))) ∧ Below w.heap.size w w' := by
 have HX := Zac (al0 w (.cells #[fv, ev, pv, .int .i64 r, hv, .slice q f.slots.length c, bv] 149 (0, 0)))
 go_enter Tryz.func91, Tryz.ntmps91
 go_wp2_with fail
 refine (isWithin_c n 0 (f.slots.length - 1) _).mono ?_
 rintro e w2 ⟨rfl, h2⟩
 subst w2
 go_wp2
 go_ret
 exact ⟨rfl, (Zaa HX).2.1⟩
set_option maxRecDepth 100000 in
theorem hasBlock_c (f : FuncE) (fv ev pv hv sv : Value) (q : Option Addr) (c : Nat) (r n : Int) (w : World) (hl : f.blocks.length < 9223372036854775808) : Calls Tryz.prog 85 #[.agg #[fv, ev, pv, .int .i64 r, hv, sv, .slice q f.blocks.length c], .int .i64 n] w fun e w' => e = .returned (.bool (inB n 0 (f.blocks.length - 1))) ∧ Below w.heap.size w w' := by
 have HX := Zac (al0 w (.cells #[fv, ev, pv, .int .i64 r, hv, sv, .slice q f.blocks.length c] 149 (0, 0)))
 go_enter Tryz.func85, Tryz.ntmps85
 go_wp2_with fail
 refine (isWithin_c n 0 (f.blocks.length - 1) _).mono ?_
 rintro e w2 ⟨rfl, h2⟩
 subst w2
 go_wp2
 go_ret
 exact ⟨rfl, (Zaa HX).2.1⟩
set_option maxRecDepth 100000 in
theorem hasFunc_c (p : ProgE) (ev pv hv sv bv : Value) (q : Option Addr) (c : Nat) (r n : Int) (w : World) (hl : p.funcs.length < 9223372036854775808) : Calls Tryz.prog 83 #[.agg #[.slice q p.funcs.length c, ev, pv, .int .i64 r, hv, sv, bv], .int .i64 n] w fun e w' => e = .returned (.bool (inB n 0 (p.funcs.length - 1))) ∧ Below w.heap.size w w' := by
 have HX := Zac (al0 w (.cells #[.slice q p.funcs.length c, ev, pv, .int .i64 r, hv, sv, bv] 149 (0, 0)))
 go_enter Tryz.func83, Tryz.ntmps83
 go_wp2_with fail
 refine (isWithin_c n 0 (p.funcs.length - 1) _).mono ?_
 rintro e w2 ⟨rfl, h2⟩
 subst w2
 go_wp2
 go_ret
 exact ⟨rfl, (Zaa HX).2.1⟩
set_option maxRecDepth 100000 in
theorem isWidth_c (n : Int) (w : World) : Calls Tryz.prog 92 #[.int .i64 n] w fun e w' => e = .returned (.bool (widthB n)) ∧ w' = w := by
 have hw : widthB n = decide (n = 1 ∨ n = 2 ∨ n = 4 ∨ n = 8) := rfl
 rw [hw]
 clear hw
 by_cases h1 : n = 1
 ·
  subst h1
  go_enter Tryz.func92, Tryz.ntmps92
  go_wp2
  go_ret
  exact ⟨rfl, rfl⟩
 ·
  by_cases h2 : n = 2
  ·
   subst h2
   go_enter Tryz.func92, Tryz.ntmps92
   go_wp2
   go_ret
   exact ⟨rfl, rfl⟩
  ·
   by_cases h4 : n = 4
   ·
    subst h4
    go_enter Tryz.func92, Tryz.ntmps92
    go_wp2
    go_ret
    exact ⟨rfl, rfl⟩
   ·
    by_cases h8 : n = 8
    ·
     subst h8
     go_enter Tryz.func92, Tryz.ntmps92
     go_wp2
     go_ret
     exact ⟨rfl, rfl⟩
    ·
     have hd : decide (n = 1 ∨ n = 2 ∨ n = 4 ∨ n = 8) = false := by simp; omega
     rw [hd]
     have z1 : (n == 1) = false := by simpa using h1
     have z2 : (n == 2) = false := by simpa using h2
     have z4 : (n == 4) = false := by simpa using h4
     have z8 : (n == 8) = false := by simpa using h8
     clear hd h1 h2 h4 h8
     go_enter Tryz.func92, Tryz.ntmps92
     go_wp2
     go_ret
     exact ⟨rfl, rfl⟩
end Go.Proofs.YtffemeicclhioaaGreatDoor
namespace Go.Proofs.YtffemeicclhioaaGreatDoor
open Go.RowKit

theorem slotB_false1 {f : FuncE} {i : InsE} (h : inB i.a 0 (f.slots.length - 1) = false) : slotB f i = false := by unfold slotB; simp [h]
theorem slotB_false2 {f : FuncE} {i : InsE} (h : widthB i.n = false) : slotB f i = false := by unfold slotB; simp [h]
theorem IntKind.wrap_of_boundsK {n : Int} (h0 : -9223372036854775808 ≤ n) (h1 : n < 9223372036854775808) : IntKind.i64.wrap n = n := by
 rw [IntKind.wrap_i64]
 omega
set_option maxHeartbeats 2000000 in
set_option maxRecDepth 100000 in
theorem slotHas_c (f : FuncE) (i : InsE) (fv ev pv hv sv bv av ov : Value) (r : Int) (w : World) (hs : Li w sv f.slots) (h18 : numsIn f.slots 1 8 = true) (hnn : 0 ≤ i.n ∧ i.n < 18446744073709551616) : Calls Tryz.prog 82 #[.agg #[fv, ev, pv, .int .i64 r, hv, sv, bv], .agg #[.int .i64 i.op, .int .i64 i.d, .int .i64 i.a, .int .i64 i.bb, .int .u64 i.n, .int .i64 i.f, av, ov]] w fun e w' => e = .returned (.bool (slotB f i)) ∧ Below w.heap.size w w' := by
 obtain ⟨op, d, a, bb, n, fx, gs, os⟩ := i
 simp only at hnn ⊢
 have hx := al0 w (.cells #[fv, ev, pv, .int .i64 r, hv, sv, bv] 149 (0, 0))
 have hx2 := al0 (w.alloc (.cells #[fv, ev, pv, .int .i64 r, hv, sv, bv] 149 (0, 0))) (.cells #[.int .i64 op, .int .i64 d, .int .i64 a, .int .i64 bb, .int .u64 n, .int .i64 fx, av, ov] 76 (0, 0))
 have HL := Zac ((hs.below hx.2.1).below hx2.2.1)
 have hs1 := hx.2.2
 have hs2 := hx2.2.2
 have HW1 := Zac (Zad hx.2.1 hx2.2.1 (by omega))
 have hrs := (hx2.2.1.block w.heap.size (by omega)).trans hx.1
 have hri := hx2.1
 rw [hs1] at hri hs2
 have hsl : f.slots.length < 9223372036854775808 := hs.lt
 obtain ⟨ps, cs, rfl⟩ := hs.shape
 have HRS := Zac hrs
 have HRI := Zac hri
 have HS2 := Zac hs2
 have HNU := Zac h18
 have hn0 := hnn.1
 have hn1 := hnn.2
 clear hx hx2 hs hs1 hs2 hrs hri h18 hnn
 go_enter Tryz.func82, Tryz.ntmps82
 go_wp2_with fail
 generalize World.alloc (World.alloc w _) _ = W at HL HW1 HRS HRI HS2 ⊢
 refine (hasSlot_c f _ _ _ _ _ _ _ _ _ W hsl).mono ?_
 rintro e w2 ⟨rfl, hb⟩
 have HB2 := Zac hb
 have hsz := Zaa HS2
 have hrow := (hb.block (w.heap.size + 1) (by omega)).trans (Zaa HRI)
 have r2 := (Zab hrow 2).trans rfl
 have r3 := (Zab hrow 3).trans rfl
 have r4 := (Zab hrow 4).trans rfl
 have hrow2 := (hb.block w.heap.size (by omega)).trans (Zaa HRS)
 have q5 := (Zab hrow2 5).trans rfl
 have HEND := Zac (Zad (Zaa HW1) hb (by omega))
 clear hb hrow hrow2 hsz
 cases h1 : inB a 0 (f.slots.length - 1) with
 | false =>
  have hz := Zac (slotB_false1 (f := f) (i := ⟨op, d, a, bb, n, fx, gs, os⟩) h1)
  go_wp2
  go_ret
  exact ⟨by rw [Zaa hz]; rfl, Zaa HEND⟩
 | true =>
  by_cases h8 : n ≤ 8
  ·
   have hcv : IntKind.i64.wrap n = n := IntKind.wrap_of_boundsK (by omega) (by omega)
   go_wp2_with fail
   refine (isWidth_c n w2).mono ?_
   rintro e w3 ⟨rfl, h3⟩
   subst w3
   cases h2 : widthB n with
   | false =>
    have hz := Zac (slotB_false2 (f := f) (i := ⟨op, d, a, bb, n, fx, gs, os⟩) h2)
    go_wp2
    go_ret
    exact ⟨by rw [Zaa hz]; rfl, Zaa HEND⟩
   | true =>
    have hw := h2
    unfold widthB at hw
    have hw := of_decide_eq_true hw
    go_wp2_with fail
    have ha := h1
    unfold inB at ha
    obtain ⟨g0, g1⟩ := of_decide_eq_true ha
    obtain ⟨m, rfl⟩ : ∃ m : Nat, a = m := ⟨a.toNat, by omega⟩
    have hm : m < f.slots.length := by omega
    have hsb : inB (f.slots.getD m 0) 1 8 = true := upB_get (Zaa HNU) hm
    unfold inB at hsb
    obtain ⟨s0, s1⟩ := of_decide_eq_true hsb
    obtain ⟨p', cap', he, -, -, hcc⟩ := (Zaa HL).below (Zaa HB2)
    injection he with e1 e2 e3
    subst e1 e3
    obtain ⟨sb, so, rfl, hc⟩ := hcc (by omega)
    have c := hc m hm
    have HSL := Zac (show slotB f ⟨op, d, m, bb, n, fx, gs, os⟩ = (inB bb 0 (8 * f.slots.getD m 0 - n) && decide (bb % n = 0)) by unfold slotB; simp only [Int.toNat_natCast]; rw [h1, h2]; rfl)
    clear hc hcc hsb ha e2 g0 g1 h1 h2
    generalize f.slots.getD m 0 = s at c HSL s0 s1
    have HWI := Zac (fun V => isWithin_c bb 0 (8 * s - n) V)
    rcases hw with rfl | rfl | rfl | rfl
    all_goals (
     cases h3 : inB bb 0 (8 * s - _) with
     | false =>
      rw [h3] at HWI HSL
      go_quiet ((go_at_call 54; exact Calls.quiet_of_same (Zaa HWI _)))
      go_wp2
      go_ret
      exact ⟨by rw [Zaa HSL]; rfl, Zah (Zaa HEND) _⟩
     | true =>
      rw [h3] at HWI HSL
      unfold inB at h3
      obtain ⟨g0, g1⟩ := of_decide_eq_true h3
      obtain ⟨t, rfl⟩ : ∃ t : Nat, bb = t := ⟨bb.toNat, by omega⟩
      clear h3 g0 g1
      go_quiet ((go_at_call 54; exact Calls.quiet_of_same (Zaa HWI _)))
      go_wp2
      go_ret
      exact ⟨by rw [Zaa HSL]; first | rfl | simp [Int.emod_one], Zah (Zaa HEND) _⟩)
  ·
   have hz := Zac (slotB_false2 (f := f) (i := ⟨op, d, a, bb, n, fx, gs, os⟩) (by unfold widthB; simp; omega))
   go_wp2
   go_ret
   exact ⟨by rw [Zaa hz]; rfl, Zaa HEND⟩
end Go.Proofs.YtffemeicclhioaaGreatDoor
namespace Go.Proofs.YtffemeicclhioaaGreatDoor
open Go.RowKit

theorem Li.one (w : World) (n : Int) : Li (w.alloc (.cells #[.int .i64 n] 3 (0, 0))) (.slice (some ⟨w.heap.size, 0, none⟩) 1 1) [n] := Li.new (ns := [n]) (heap_alloc_new w _) (by show 1 < short; decide)
set_option maxHeartbeats 2000000 in
set_option maxRecDepth 100000 in
theorem hasArg_c (f : FuncE) (fv ev pv hv sv bv : Value) (r : Int) (x : Int × Int) (w : World) (hh : Li w hv f.homes) (hs : Li w sv f.slots) : Calls Tryz.prog 95 #[.agg #[fv, ev, pv, .int .i64 r, hv, sv, bv], .agg #[.int .i64 x.1, .int .i64 x.2]] w fun e w' => e = .returned (.bool (spotB f x)) ∧ Below w.heap.size w w' := by
 obtain ⟨x, y⟩ := x
 have hhl : f.homes.length < 9223372036854775808 := hh.lt
 have hsl : f.slots.length < 9223372036854775808 := hs.lt
 obtain ⟨ph, ch, rfl⟩ := hh.shape
 obtain ⟨ps, cs, rfl⟩ := hs.shape
 have hx := al0 w (.cells #[fv, ev, pv, .int .i64 r, .slice ph f.homes.length ch, .slice ps f.slots.length cs, bv] 149 (0, 0))
 have hx2 := al0 (w.alloc (.cells #[fv, ev, pv, .int .i64 r, .slice ph f.homes.length ch, .slice ps f.slots.length cs, bv] 149 (0, 0))) (.cells #[.int .i64 x, .int .i64 y] 116 (0, 0))
 have HL := Zac ((hs.below hx.2.1).below hx2.2.1)
 have hs1 := hx.2.2
 have hs2 := hx2.2.2
 have HW1 := Zac (Zad hx.2.1 hx2.2.1 (by omega))
 have hrs := (hx2.2.1.block w.heap.size (by omega)).trans hx.1
 have hri := hx2.1
 rw [hs1] at hri hs2
 have HRS := Zac hrs
 have HRI := Zac hri
 have HS2 := Zac hs2
 clear hx hx2 hs hs1 hs2 hrs hri hh
 by_cases h0 : x = 0
 ·
  have HS := Zac (show spotB f (x, y) = localsB f [y] by unfold spotB localsB; simp [h0, upB, localB])
  subst h0
  go_enter Tryz.func95, Tryz.ntmps95
  go_wp2_with fail
  generalize World.alloc (World.alloc w _) _ = W at HL HW1 HRS HRI HS2 ⊢
  have hT := Zaa HS2
  rw [← hT]
  refine (haveLocals_c f _ _ _ _ _ _ _ _ [y] _ ⟨ph, ch, rfl⟩ hhl (Li.one W y)).mono ?_
  rintro e w2 ⟨rfl, hb⟩
  have HB2 := Zac (Zad (Zad (Zaa HW1) (al0 W (.cells #[.int .i64 y] 3 (0, 0))).2.1 (by omega)) hb (by simp; omega))
  clear hb hT
  go_wp2
  go_ret
  exact ⟨by rw [Zaa HS]; rfl, Zaa HB2⟩
 ·
  have hz : (x == 0) = false := by simpa using h0
  have HS := Zac (show spotB f (x, y) = (inB y 0 (f.slots.length - 1) && decide (f.slots.getD y.toNat 0 = x)) by unfold spotB; simp [h0])
  have HW := Zac (fun V fv ev pv r hv bv => hasSlot_c f fv ev pv hv bv ps cs r y V hsl)
  go_enter Tryz.func95, Tryz.ntmps95
  go_wp2_with fail
  generalize World.alloc (World.alloc w _) _ = W at HL HW1 HRS HRI HS2 ⊢
  have hT := Zaa HS2
  cases hr : inB y 0 (f.slots.length - 1) with
  | false =>
   rw [hr] at HW HS
   have HK := Zac (fun (V : World) (h : Below W.heap.size W V) => show Below W.heap.size W V ∧ V.cell? ⟨w.heap.size, 0, none⟩ = some (fv) ∧ V.cell? ⟨w.heap.size, 1, none⟩ = some (ev) ∧ V.cell? ⟨w.heap.size, 2, none⟩ = some (pv) ∧ V.cell? ⟨w.heap.size, 3, none⟩ = some (.int .i64 r) ∧ V.cell? ⟨w.heap.size, 4, none⟩ = some (.slice ph f.homes.length ch) ∧ V.cell? ⟨w.heap.size, 5, none⟩ = some (.slice ps f.slots.length cs) ∧ V.cell? ⟨w.heap.size, 6, none⟩ = some (bv) ∧ V.cell? ⟨w.heap.size + 1, 0, none⟩ = some (.int .i64 x) ∧ V.cell? ⟨w.heap.size + 1, 1, none⟩ = some (.int .i64 y) from ⟨h, (Zab ((h.block w.heap.size (by omega)).trans (Zaa HRS)) 0).trans rfl, (Zab ((h.block w.heap.size (by omega)).trans (Zaa HRS)) 1).trans rfl, (Zab ((h.block w.heap.size (by omega)).trans (Zaa HRS)) 2).trans rfl, (Zab ((h.block w.heap.size (by omega)).trans (Zaa HRS)) 3).trans rfl, (Zab ((h.block w.heap.size (by omega)).trans (Zaa HRS)) 4).trans rfl, (Zab ((h.block w.heap.size (by omega)).trans (Zaa HRS)) 5).trans rfl, (Zab ((h.block w.heap.size (by omega)).trans (Zaa HRS)) 6).trans rfl, (Zab ((h.block (w.heap.size + 1) (by omega)).trans (Zaa HRI)) 0).trans rfl, (Zab ((h.block (w.heap.size + 1) (by omega)).trans (Zaa HRI)) 1).trans rfl⟩)
   clear hr hT
   refine wp_region_held_drew (S := fun V => Below W.heap.size W V ∧ V.cell? ⟨w.heap.size, 0, none⟩ = some (fv) ∧ V.cell? ⟨w.heap.size, 1, none⟩ = some (ev) ∧ V.cell? ⟨w.heap.size, 2, none⟩ = some (pv) ∧ V.cell? ⟨w.heap.size, 3, none⟩ = some (.int .i64 r) ∧ V.cell? ⟨w.heap.size, 4, none⟩ = some (.slice ph f.homes.length ch) ∧ V.cell? ⟨w.heap.size, 5, none⟩ = some (.slice ps f.slots.length cs) ∧ V.cell? ⟨w.heap.size, 6, none⟩ = some (bv) ∧ V.cell? ⟨w.heap.size + 1, 0, none⟩ = some (.int .i64 x) ∧ V.cell? ⟨w.heap.size + 1, 1, none⟩ = some (.int .i64 y)) (by kernel_rfl) (Zaa HK _ (Below.refl _ _).drew) (fun hHeld => ?_)
   refine tT 0 ?v0 rfl (by kernel_rfl) (fun _ _ _ h => h) (by rfl) ?hy0 (by assumption) ?_
   case hy0 =>
    intro V hV
    try dsimp only at hV
    go_simp
    all_goals (with_reducible rfl)
   simp only [Act.put, zA, zB, zC, zD, zE]
   refine tT 1 ?v1 rfl (by kernel_rfl) (fun _ _ _ h => h) (by rfl) ?hy1 (by assumption) ?_
   case hy1 =>
    intro V hV
    try dsimp only at hV
    go_simp
    all_goals (with_reducible rfl)
   simp only [Act.put, zA, zB, zC, zD, zE, zF]
   refine tT 2 ?v2 rfl (by kernel_rfl) (fun _ _ _ h => h) (by rfl) ?hy2 (by assumption) ?_
   case hy2 =>
    intro V hV
    try dsimp only at hV
    go_simp
    all_goals (with_reducible rfl)
   simp only [Act.put, zA, zB, zC, zD, zE, zF]
   refine wpAnyH_ready (rs := [3]) (by kernel_rfl) (by simp) ?_
   refine AllReadyH.cons rfl (fun K hK => ?_) AllReadyH.nil
   go_simp
   refine (Zaa HW _ _ _ _ _ _ _).mono ?_
   rintro e w5 ⟨rfl, hb5⟩
   have HB5 := Zac (Zad (Below.refl W.heap.size W).drew hb5 (Nat.le_refl _))
   clear hb5
   go_wp2_with fail
   refine hK.out _ _ (Zaa HK _ (Zaa HB5)) (fun hHeld2 => ?_)
   clear hK K
   try simp only [Act.put, zA, zB, zC, zD, zE, zF]
   refine tT 4 ?v4 rfl (by kernel_rfl) (fun _ _ _ h => h) (by rfl) ?hy4 (by assumption) ?_
   case hy4 =>
    intro V hV
    try dsimp only at hV
    go_simp
    all_goals (with_reducible rfl)
   simp only [Act.put, zA, zB, zC, zD, zE, zF]
   refine tS 5 rfl (by kernel_rfl) (fun _ _ _ h => h) (by rfl) (by assumption) ?_
   simp only [Act.put, zA, zB, zC, zD, zE, zF]
   refine tS 6 rfl (by kernel_rfl) (fun _ _ _ h => h) (by rfl) (by assumption) ?_
   simp only [Act.put, zA, zB, zC, zD, zE, zF]
   refine tS 7 rfl (by kernel_rfl) (fun _ _ _ h => h) (by rfl) (by assumption) ?_
   simp only [Act.put, zA, zB, zC, zD, zE, zF]
   refine tS 8 rfl (by kernel_rfl) (fun _ _ _ h => h) (by rfl) (by assumption) ?_
   simp only [Act.put, zA, zB, zC, zD, zE, zF]
   refine tS 9 rfl (by kernel_rfl) (fun _ _ _ h => h) (by rfl) (by assumption) ?_
   simp only [Act.put, zA, zB, zC, zD, zE, zF]
   refine tS 10 rfl (by kernel_rfl) (fun _ _ _ h => h) (by rfl) (by assumption) ?_
   simp only [Act.put, zA, zB, zC, zD, zE, zF]
   refine tS 11 rfl (by kernel_rfl) (fun _ _ _ h => h) (by rfl) (by assumption) ?_
   simp only [Act.put, zA, zB, zC, zD, zE, zF]
   refine tS 12 rfl (by kernel_rfl) (fun _ _ _ h => h) (by rfl) (by assumption) ?_
   simp only [Act.put, zA, zB, zC, zD, zE, zF]
   refine tS 13 rfl (by kernel_rfl) (fun _ _ _ h => h) (by rfl) (by assumption) ?_
   simp only [Act.put, zA, zB, zC, zD, zE, zF]
   refine tS 14 rfl (by kernel_rfl) (fun _ _ _ h => h) (by rfl) (by assumption) ?_
   simp only [Act.put, zA, zB, zC, zD, zE, zF]
   refine tT 15 ?v15 rfl (by kernel_rfl) (fun _ _ _ h => h) (by rfl) ?hy15 (by assumption) ?_
   case hy15 =>
    intro V hV
    try dsimp only at hV
    go_simp
    all_goals (with_reducible rfl)
   simp only [Act.put, zA, zB, zC, zD, zE, zF]
   refine tT 16 ?v16 rfl (by kernel_rfl) (fun _ _ _ h => h) (by rfl) ?hy16 (by assumption) ?_
   case hy16 =>
    intro V hV
    try dsimp only at hV
    go_simp
    all_goals (with_reducible rfl)
   simp only [Act.put, zA, zB, zC, zD, zE, zF]
   refine wpAnyH_done (by kernel_rfl) ?_ _
   all_goals (
    go_wp2
    go_ret
    exact ⟨by rw [Zaa HS]; rfl, Zad (Zaa HW1) (Zaa HB5) (by have := Zaa HS2; omega)⟩)
  | true =>
   rw [hr] at HW HS
   unfold inB at hr
   obtain ⟨g0, g1⟩ := of_decide_eq_true hr
   obtain ⟨n, rfl⟩ : ∃ n : Nat, y = n := ⟨y.toNat, by omega⟩
   have hn : n < f.slots.length := by omega
   obtain ⟨p', cap', he, -, -, hcc⟩ := Zaa HL
   injection he with e1 e2 e3
   subst e1 e3
   obtain ⟨sb, so, rfl, hc⟩ := hcc (by omega)
   have cc := hc n hn
   rw [Int.toNat_natCast] at HS
   generalize f.slots.getD n 0 = z at cc HS
   have HK := Zac (fun (V : World) (h : Below W.heap.size W V) => show Below W.heap.size W V ∧ V.cell? ⟨w.heap.size, 0, none⟩ = some (fv) ∧ V.cell? ⟨w.heap.size, 1, none⟩ = some (ev) ∧ V.cell? ⟨w.heap.size, 2, none⟩ = some (pv) ∧ V.cell? ⟨w.heap.size, 3, none⟩ = some (.int .i64 r) ∧ V.cell? ⟨w.heap.size, 4, none⟩ = some (.slice ph f.homes.length ch) ∧ V.cell? ⟨w.heap.size, 5, none⟩ = some (.slice (some ⟨sb, so, none⟩) f.slots.length cs) ∧ V.cell? ⟨w.heap.size, 6, none⟩ = some (bv) ∧ V.cell? ⟨w.heap.size + 1, 0, none⟩ = some (.int .i64 x) ∧ V.cell? ⟨w.heap.size + 1, 1, none⟩ = some (.int .i64 n) ∧ V.cell? ⟨sb, so + n, none⟩ = some (.int .i64 z) from ⟨h, (Zab ((h.block w.heap.size (by omega)).trans (Zaa HRS)) 0).trans rfl, (Zab ((h.block w.heap.size (by omega)).trans (Zaa HRS)) 1).trans rfl, (Zab ((h.block w.heap.size (by omega)).trans (Zaa HRS)) 2).trans rfl, (Zab ((h.block w.heap.size (by omega)).trans (Zaa HRS)) 3).trans rfl, (Zab ((h.block w.heap.size (by omega)).trans (Zaa HRS)) 4).trans rfl, (Zab ((h.block w.heap.size (by omega)).trans (Zaa HRS)) 5).trans rfl, (Zab ((h.block w.heap.size (by omega)).trans (Zaa HRS)) 6).trans rfl, (Zab ((h.block (w.heap.size + 1) (by omega)).trans (Zaa HRI)) 0).trans rfl, (Zab ((h.block (w.heap.size + 1) (by omega)).trans (Zaa HRI)) 1).trans rfl, (h.cell (World.block_lt_of_cell? W _ cc)).trans cc⟩)
   clear hr hT hc hcc g0 g1 e2 cc
   go_region_held3 (fun V => Below W.heap.size W V ∧ V.cell? ⟨w.heap.size, 0, none⟩ = some (fv) ∧ V.cell? ⟨w.heap.size, 1, none⟩ = some (ev) ∧ V.cell? ⟨w.heap.size, 2, none⟩ = some (pv) ∧ V.cell? ⟨w.heap.size, 3, none⟩ = some (.int .i64 r) ∧ V.cell? ⟨w.heap.size, 4, none⟩ = some (.slice ph f.homes.length ch) ∧ V.cell? ⟨w.heap.size, 5, none⟩ = some (.slice (some ⟨sb, so, none⟩) f.slots.length cs) ∧ V.cell? ⟨w.heap.size, 6, none⟩ = some (bv) ∧ V.cell? ⟨w.heap.size + 1, 0, none⟩ = some (.int .i64 x) ∧ V.cell? ⟨w.heap.size + 1, 1, none⟩ = some (.int .i64 n) ∧ V.cell? ⟨sb, so + n, none⟩ = some (.int .i64 z)) ((first | exact Zaa HK _ (Below.refl _ _).drew | exact Zaa HK _ (Zaa HB5))) ((go_at_call 91; refine (Zaa HW _ _ _ _ _ _ _).mono ?_; rintro e w5 ⟨rfl, hb5⟩; have HB5 := Zac (Zad (Below.refl W.heap.size W).drew hb5 (Nat.le_refl _)); clear hb5))
   all_goals (
    go_wp2
    go_ret
    exact ⟨by rw [Zaa HS]; rfl, Zad (Zaa HW1) (Zaa HB5) (by have := Zaa HS2; omega)⟩)
end Go.Proofs.YtffemeicclhioaaGreatDoor
namespace Go.Proofs.YtffemeicclhioaaGreatDoor
open Go.RowKit

set_option maxHeartbeats 4000000 in
set_option maxRecDepth 100000 in
theorem argsFit_c (f : FuncE) (fv ev pv hv sv bv av qv : Value) (r : Int) (gs : List (Int × Int)) (ns : List Int) (w : World) (hh : Li w hv f.homes) (hs : Li w sv f.slots) (ha : LS 2 w av gs.length (fun k => pairA (gs.getD k (0, 0)))) (hq : Li w qv ns) : Calls Tryz.prog 93 #[.agg #[fv, ev, pv, .int .i64 r, hv, sv, bv], av, qv] w fun e w' => e = .returned (.bool (argsB f gs ns)) ∧ Below w.heap.size w w' := by
 obtain ⟨ph, ch, rfl⟩ := hh.shape
 obtain ⟨ps, cs, rfl⟩ := hs.shape
 have hx := al0 w (.cells #[fv, ev, pv, .int .i64 r, .slice ph f.homes.length ch, .slice ps f.slots.length cs, bv] 149 (0, 0))
 have HH := Zac (hh.below hx.2.1)
 have HS := Zac (hs.below hx.2.1)
 obtain ⟨pa, ca, rfl, hca, hla, hac⟩ := (ha.below hx.2.1).pairs
 obtain ⟨pq, cq, rfl, hcq, hlq, hqc⟩ := hq.below hx.2.1
 have hlq : ns.length < 9223372036854775808 := hlq
 have HA := Zac hac
 have HQ := Zac hqc
 have HX := Zac hx
 clear hx hh hs ha hq hac hqc
 by_cases hne : gs.length = ns.length
 ·
  have z : ((gs.length : Int) != (ns.length : Int)) = false := by simp [hne]
  have HAB := Zac (show argsB f gs ns = upB gs.length (fun k => decide ((gs.getD k (0, 0)).1 = ns.getD k 0) && spotB f (gs.getD k (0, 0))) by unfold argsB; simp [hne])
  have HNE := Zac hne
  clear hne
  go_enter Tryz.func93, Tryz.ntmps93
  go_wp2_with fail
  generalize World.alloc w _ = W at HH HS HA HQ HX ⊢
  go_loopw [16] (fun j w' => ∃ k : Nat, j = .int .i64 k ∧ k ≤ gs.length ∧ Below W.heap.size W w' ∧ ∀ q, q < k → (decide ((gs.getD q (0, 0)).1 = ns.getD q 0) && spotB f (gs.getD q (0, 0))) = true) (fun j _ => gs.length - (intOf j).toNat)
  case atStart => exact ⟨0, rfl, by omega, Below.refl _ _, fun q hq => by omega⟩
  case round =>
   obtain ⟨k, rfl, hk, hbw, hno⟩ := hrel
   have HN := Zac hno
   clear hno
   have hWs := (Zaa HX).2.2
   have hws := hbw.size
   by_cases hk2 : k < gs.length
   ·
    have hk3 : k < ns.length := by have := Zaa HNE; omega
    obtain ⟨sb, so, rfl, hcc⟩ := Zaa HA (by omega)
    obtain ⟨sq, oq, rfl, hqq⟩ := Zaa HQ (by omega)
    have hsb : sb < W.heap.size := World.block_lt_of_cell? W _ (hcc k hk2).1
    have c1 := (hbw.cell (p := ⟨sb, so + k * 2, none⟩) hsb).trans (hcc k hk2).1
    have c2 := (hbw.cell (p := ⟨sb, so + k * 2 + 1, none⟩) hsb).trans (hcc k hk2).2
    have hcq' := (hbw.cell (World.block_lt_of_cell? W _ (hqq k hk3))).trans (hqq k hk3)
    have HROW := Zac ((hbw.block w.heap.size (by omega)).trans (Zaa HX).1)
    have HBAD := Zac (fun hb : (decide ((gs.getD k (0, 0)).1 = ns.getD k 0) && spotB f (gs.getD k (0, 0))) = false => show argsB f gs ns = false by rw [Zaa HAB]; exact upB_false hk2 hb)
    have HNX := Zac (fun hb : (decide ((gs.getD k (0, 0)).1 = ns.getD k 0) && spotB f (gs.getD k (0, 0))) = true => Zal (q := fun q => decide ((gs.getD q (0, 0)).1 = ns.getD q 0) && spotB f (gs.getD q (0, 0))) (Zaa HN) hb)
    have HBW := Zac hbw
    clear hcc hqq hbw
    generalize gs.getD k (0, 0) = xy at c1 c2 HBAD HNX
    obtain ⟨x, y⟩ := xy
    generalize ns.getD k 0 = z2 at hcq' HBAD HNX
    simp only at c1 c2 HBAD HNX
    go_wp2_with fail
    have hy := al0 wr (.cells #[.int .i64 x, .int .i64 y] 116 (0, 0))
    have hrX := hy.1
    have hrS := (hy.2.1.block w.heap.size (by omega)).trans (Zaa HROW)
    have cq := (hy.2.1.cell (World.block_lt_of_cell? wr _ hcq')).trans hcq'
    have hbU : Below W.heap.size W (wr.alloc (.cells #[.int .i64 x, .int .i64 y] 116 (0, 0))) := Zad (Zaa HBW) hy.2.1 hws
    have hUs := hy.2.2
    clear hy hcq' c1 c2
    generalize hTx : wr.heap.size = Tx at hrX hUs hws ⊢
    generalize World.alloc wr _ = U at hrX hrS cq hbU hUs ⊢
    have hTU : Tx < U.heap.size := by omega
    have HBU := Zac hbU
    clear hTx
    by_cases hxz : x = z2
    ·
     subst hxz
     have zz : (x != x) = false := by simp
     have hsz : w.heap.size < U.heap.size := by omega
     have HK := Zac (fun (V : World) (h : Below U.heap.size U V) => show Below U.heap.size U V ∧ V.cell? ⟨w.heap.size, 0, none⟩ = some (fv) ∧ V.cell? ⟨w.heap.size, 1, none⟩ = some (ev) ∧ V.cell? ⟨w.heap.size, 2, none⟩ = some (pv) ∧ V.cell? ⟨w.heap.size, 3, none⟩ = some (.int .i64 r) ∧ V.cell? ⟨w.heap.size, 4, none⟩ = some (.slice ph f.homes.length ch) ∧ V.cell? ⟨w.heap.size, 5, none⟩ = some (.slice ps f.slots.length cs) ∧ V.cell? ⟨w.heap.size, 6, none⟩ = some (bv) ∧ V.cell? ⟨Tx, 0, none⟩ = some (.int .i64 x) ∧ V.cell? ⟨Tx, 1, none⟩ = some (.int .i64 y) ∧ V.cell? ⟨sq, oq + k, none⟩ = some (.int .i64 x) from ⟨h, (Zab ((h.block w.heap.size (by omega)).trans hrS) 0).trans rfl, (Zab ((h.block w.heap.size (by omega)).trans hrS) 1).trans rfl, (Zab ((h.block w.heap.size (by omega)).trans hrS) 2).trans rfl, (Zab ((h.block w.heap.size (by omega)).trans hrS) 3).trans rfl, (Zab ((h.block w.heap.size (by omega)).trans hrS) 4).trans rfl, (Zab ((h.block w.heap.size (by omega)).trans hrS) 5).trans rfl, (Zab ((h.block w.heap.size (by omega)).trans hrS) 6).trans rfl, (Zab ((h.block Tx (by omega)).trans hrX) 0).trans rfl, (Zab ((h.block Tx (by omega)).trans hrX) 1).trans rfl, (h.cell (World.block_lt_of_cell? U _ cq)).trans cq⟩)
     have HW := Zac (fun (V : World) (h : Below U.heap.size U V) => hasArg_c f fv ev pv (.slice ph f.homes.length ch) (.slice ps f.slots.length cs) bv r (x, y) V ((Zaa HH).below (Zad hbU h (by omega))) ((Zaa HS).below (Zad hbU h (by omega))))
     clear hrX hrS cq hbU hUs hsz hTU
     go_region_held3 (fun V => Below U.heap.size U V ∧ V.cell? ⟨w.heap.size, 0, none⟩ = some (fv) ∧ V.cell? ⟨w.heap.size, 1, none⟩ = some (ev) ∧ V.cell? ⟨w.heap.size, 2, none⟩ = some (pv) ∧ V.cell? ⟨w.heap.size, 3, none⟩ = some (.int .i64 r) ∧ V.cell? ⟨w.heap.size, 4, none⟩ = some (.slice ph f.homes.length ch) ∧ V.cell? ⟨w.heap.size, 5, none⟩ = some (.slice ps f.slots.length cs) ∧ V.cell? ⟨w.heap.size, 6, none⟩ = some (bv) ∧ V.cell? ⟨Tx, 0, none⟩ = some (.int .i64 x) ∧ V.cell? ⟨Tx, 1, none⟩ = some (.int .i64 y) ∧ V.cell? ⟨sq, oq + k, none⟩ = some (.int .i64 x)) ((first | exact Zaa HK _ (Below.refl _ _).drew | exact Zaa HK _ (Zaa HB5))) ((go_at_call 95; refine (Zaa HW _ (Below.refl _ _).drew).mono ?_; rintro e w5 ⟨rfl, hb5⟩; have HB5 := Zac (Zad (Below.refl U.heap.size U).drew hb5 (Nat.le_refl _)); clear hb5))
     all_goals (
      have hUB := (Zaa HBU).size
      have HB6 := Zac (Zad (Zaa HBU) (Zaa HB5) hUB)
      cases hsp : spotB f (x, y) with
      | false =>
       have hx := Zac (Zaa HBAD (by rw [hsp]; simp))
       clear hsp
       go_wp2
       go_ret
       exact ⟨by rw [Zaa hx]; rfl, Zad (Zaa HX).2.1 (Zaa HB6) (by omega)⟩
      | true =>
       have hx := Zac (Zaa HNX (by rw [hsp]; simp))
       clear hsp
       go_wp2
       go_roundw
       case rel => exact ⟨k + 1, by go_num, by omega, Zaa HB6, Zaa hx⟩
       case measure => simp [intOf]; omega)
    ·
     have zz : (x != z2) = true := by simpa using hxz
     have hx := Zac (Zaa HBAD (by simp [hxz]))
     have q0 := (Zab hrX 0).trans rfl
     clear hrX hrS hbU hUs hTU
     go_quiet (fail)
     go_wp2
     go_ret
     exact ⟨by rw [Zaa hx]; rfl, Zah (Zad (Zaa HX).2.1 (Zaa HBU) (by omega)) _⟩
   ·
    have HT := Zac (show argsB f gs ns = true by rw [Zaa HAB]; exact upB_true (fun q hq => Zaa HN q (by omega)))
    obtain rfl : k = gs.length := by omega
    have HBW := Zac hbw
    clear hbw
    go_wp2
    go_ret
    exact ⟨by rw [Zaa HT]; rfl, Zad (Zaa HX).2.1 (Zaa HBW) (by omega)⟩
 ·
  have z : ((gs.length : Int) != (ns.length : Int)) = true := by simp; omega
  have HT := Zac (show argsB f gs ns = false by unfold argsB; simp [hne])
  clear hne
  go_enter Tryz.func93, Tryz.ntmps93
  go_wp2
  go_ret
  exact ⟨by rw [Zaa HT]; rfl, (Zaa HX).2.1⟩
end Go.Proofs.YtffemeicclhioaaGreatDoor
namespace Go.Proofs.YtffemeicclhioaaGreatDoor
open Go.RowKit

set_option maxHeartbeats 4000000 in
set_option maxRecDepth 100000 in
theorem tailFits_c (f : FuncE) (i : InsE) (s : List Int × Int) (fv ev pv hv sv bv av ov qv : Value) (w : World) (hh : Li w hv f.homes) (hs : Li w sv f.slots) (ha : LS 2 w av i.args.length (fun k => pairA (i.args.getD k (0, 0)))) (ho : Li w ov i.outs) (hq : Li w qv s.1) : Calls Tryz.prog 86 #[.agg #[fv, ev, pv, .int .i64 f.results, hv, sv, bv], .agg #[.int .i64 i.op, .int .i64 i.d, .int .i64 i.a, .int .i64 i.bb, .int .u64 i.n, .int .i64 i.f, av, ov], .agg #[qv, .int .i64 s.2]] w fun e w' => e = .returned (.bool (tailB f i s)) ∧ Below w.heap.size w w' := by
 have hx := al0 w (.cells #[fv, ev, pv, .int .i64 f.results, hv, sv, bv] 149 (0, 0))
 generalize hW1 : World.alloc w (.cells #[fv, ev, pv, .int .i64 f.results, hv, sv, bv] 149 (0, 0)) = W1 at hx
 have hx2 := al0 W1 (.cells #[.int .i64 i.op, .int .i64 i.d, .int .i64 i.a, .int .i64 i.bb, .int .u64 i.n, .int .i64 i.f, av, ov] 76 (0, 0))
 generalize hW2 : World.alloc W1 (.cells #[.int .i64 i.op, .int .i64 i.d, .int .i64 i.a, .int .i64 i.bb, .int .u64 i.n, .int .i64 i.f, av, ov] 76 (0, 0)) = W2 at hx2
 have hx3 := al0 W2 (.cells #[qv, .int .i64 s.2] 79 (0, 0))
 have hs1 := hx.2.2
 have hs2 := hx2.2.2
 have hs3 := hx3.2.2
 have hb12 := Zad hx.2.1 hx2.2.1 (by omega)
 have hb13 := Zad hb12 hx3.2.1 (by omega)
 have HH := Zac (hh.below hb13)
 have HS := Zac (hs.below hb13)
 have HA := Zac (ha.below hb13)
 have HO := Zac (ho.below hb13)
 have HQ := Zac (hq.below hb13)
 have HW := Zac hb13
 have HR1 := Zac ((hx3.2.1.block w.heap.size (by omega)).trans ((hx2.2.1.block w.heap.size (by omega)).trans hx.1))
 have HR2 := Zac ((hx3.2.1.block (w.heap.size + 1) (by omega)).trans (hs1 ▸ hx2.1))
 have hr3 := hx3.1
 rw [hs2, hs1] at hr3 hs3
 have HR3 := Zac hr3
 have HZ := Zac hs3
 have hhl : f.homes.length < 9223372036854775808 := hh.lt
 have hol : i.outs.length < 9223372036854775808 := ho.lt
 obtain ⟨ph, ch, rfl⟩ := hh.shape
 obtain ⟨ps, cs, rfl⟩ := hs.shape
 obtain ⟨pa, ca, rfl⟩ := ha.shape
 obtain ⟨po, co, rfl⟩ := ho.shape
 obtain ⟨pq, cq, rfl⟩ := hq.shape
 clear hx hx2 hx3 hs1 hs2 hs3 hb12 hb13 hr3 hh hs ha ho hq
 subst hW1 hW2
 go_enter Tryz.func86, Tryz.ntmps86
 go_wp2_with fail
 generalize World.alloc (World.alloc (World.alloc w _) _) _ = W at HH HS HA HO HQ HW HR1 HR2 HR3 HZ ⊢
 refine (argsFit_c f _ _ _ _ _ _ _ _ _ i.args s.1 W (Zaa HH) (Zaa HS) (Zaa HA) (Zaa HQ)).mono ?_
 rintro e w2 ⟨rfl, hb⟩
 have HB2 := Zac hb
 have hz := Zaa HZ
 have hri := (hb.block (w.heap.size + 1) (by omega)).trans (Zaa HR2)
 have hrq := (hb.block (w.heap.size + 1 + 1) (by omega)).trans (Zaa HR3)
 have hrs := (hb.block w.heap.size (by omega)).trans (Zaa HR1)
 have r7 := (Zab hri 7).trans rfl
 have q1 := (Zab hrq 1).trans rfl
 have s0 := (Zab hrs 0).trans rfl
 have s1 := (Zab hrs 1).trans rfl
 have s2 := (Zab hrs 2).trans rfl
 have s3 := (Zab hrs 3).trans rfl
 have s4 := (Zab hrs 4).trans rfl
 have s5 := (Zab hrs 5).trans rfl
 have s6 := (Zab hrs 6).trans rfl
 clear hb hri hrq hrs hz
 cases h1 : argsB f i.args s.1 with
 | false =>
  have hx := Zac (show tailB f i s = false by unfold tailB; rw [h1]; rfl)
  clear h1
  go_wp2
  go_ret
  exact ⟨by rw [Zaa hx]; rfl, Zad (Zaa HW) (Zaa HB2) (by have := Zaa HZ; omega)⟩
 | true =>
  have H1 := Zac h1
  clear h1
  by_cases h2 : s.2 = f.results
  ·
   have z2 : (s.2 == f.results) = true := by simpa using h2
   have hx := Zac (show tailB f i s = true by unfold tailB; rw [Zaa H1]; simp [h2])
   clear h2
   go_wp2
   go_ret
   exact ⟨by rw [Zaa hx]; rfl, Zad (Zaa HW) (Zaa HB2) (by have := Zaa HZ; omega)⟩
  ·
   have z2 : (s.2 == f.results) = false := by simpa using h2
   have hx := Zac (show tailB f i s = false by unfold tailB; rw [Zaa H1]; simp [h2])
   clear h2
   go_wp2
   go_ret
   exact ⟨by rw [Zaa hx]; rfl, Zad (Zaa HW) (Zaa HB2) (by have := Zaa HZ; omega)⟩
set_option maxHeartbeats 4000000 in
set_option maxRecDepth 100000 in
theorem callFits_c (f : FuncE) (i : InsE) (s : List Int × Int) (fv ev pv hv sv bv av ov qv : Value) (w : World) (hh : Li w hv f.homes) (hs : Li w sv f.slots) (ha : LS 2 w av i.args.length (fun k => pairA (i.args.getD k (0, 0)))) (ho : Li w ov i.outs) (hq : Li w qv s.1) (hon : s.2 ≤ 1000000) : Calls Tryz.prog 84 #[.agg #[fv, ev, pv, .int .i64 f.results, hv, sv, bv], .agg #[.int .i64 i.op, .int .i64 i.d, .int .i64 i.a, .int .i64 i.bb, .int .u64 i.n, .int .i64 i.f, av, ov], .agg #[qv, .int .i64 s.2]] w fun e w' => e = .returned (.bool (callB f i s)) ∧ Below w.heap.size w w' := by
 have hx := al0 w (.cells #[fv, ev, pv, .int .i64 f.results, hv, sv, bv] 149 (0, 0))
 generalize hW1 : World.alloc w (.cells #[fv, ev, pv, .int .i64 f.results, hv, sv, bv] 149 (0, 0)) = W1 at hx
 have hx2 := al0 W1 (.cells #[.int .i64 i.op, .int .i64 i.d, .int .i64 i.a, .int .i64 i.bb, .int .u64 i.n, .int .i64 i.f, av, ov] 76 (0, 0))
 generalize hW2 : World.alloc W1 (.cells #[.int .i64 i.op, .int .i64 i.d, .int .i64 i.a, .int .i64 i.bb, .int .u64 i.n, .int .i64 i.f, av, ov] 76 (0, 0)) = W2 at hx2
 have hx3 := al0 W2 (.cells #[qv, .int .i64 s.2] 79 (0, 0))
 have hs1 := hx.2.2
 have hs2 := hx2.2.2
 have hs3 := hx3.2.2
 have hb12 := Zad hx.2.1 hx2.2.1 (by omega)
 have hb13 := Zad hb12 hx3.2.1 (by omega)
 have HH := Zac (hh.below hb13)
 have HS := Zac (hs.below hb13)
 have HA := Zac (ha.below hb13)
 have HO := Zac (ho.below hb13)
 have HQ := Zac (hq.below hb13)
 have HW := Zac hb13
 have HR1 := Zac ((hx3.2.1.block w.heap.size (by omega)).trans ((hx2.2.1.block w.heap.size (by omega)).trans hx.1))
 have HR2 := Zac ((hx3.2.1.block (w.heap.size + 1) (by omega)).trans (hs1 ▸ hx2.1))
 have hr3 := hx3.1
 rw [hs2, hs1] at hr3 hs3
 have HR3 := Zac hr3
 have HZ := Zac hs3
 have hhl : f.homes.length < 9223372036854775808 := hh.lt
 have hol : i.outs.length < 9223372036854775808 := ho.lt
 obtain ⟨ph, ch, rfl⟩ := hh.shape
 obtain ⟨ps, cs, rfl⟩ := hs.shape
 obtain ⟨pa, ca, rfl⟩ := ha.shape
 obtain ⟨po, co, rfl⟩ := ho.shape
 obtain ⟨pq, cq, rfl⟩ := hq.shape
 clear hx hx2 hx3 hs1 hs2 hs3 hb12 hb13 hr3 hh hs ha ho hq
 subst hW1 hW2
 go_enter Tryz.func84, Tryz.ntmps84
 go_wp2_with fail
 generalize World.alloc (World.alloc (World.alloc w _) _) _ = W at HH HS HA HO HQ HW HR1 HR2 HR3 HZ ⊢
 refine (argsFit_c f _ _ _ _ _ _ _ _ _ i.args s.1 W (Zaa HH) (Zaa HS) (Zaa HA) (Zaa HQ)).mono ?_
 rintro e w2 ⟨rfl, hb⟩
 have HB2 := Zac hb
 have hz := Zaa HZ
 have hri := (hb.block (w.heap.size + 1) (by omega)).trans (Zaa HR2)
 have hrq := (hb.block (w.heap.size + 1 + 1) (by omega)).trans (Zaa HR3)
 have hrs := (hb.block w.heap.size (by omega)).trans (Zaa HR1)
 have r7 := (Zab hri 7).trans rfl
 have q1 := (Zab hrq 1).trans rfl
 have s0 := (Zab hrs 0).trans rfl
 have s1 := (Zab hrs 1).trans rfl
 have s2 := (Zab hrs 2).trans rfl
 have s3 := (Zab hrs 3).trans rfl
 have s4 := (Zab hrs 4).trans rfl
 have s5 := (Zab hrs 5).trans rfl
 have s6 := (Zab hrs 6).trans rfl
 clear hb hri hrq hrs hz
 cases h1 : argsB f i.args s.1 with
 | false =>
  have hx := Zac (show callB f i s = false by unfold callB; rw [h1]; rfl)
  clear h1
  go_wp2
  go_ret
  exact ⟨by rw [Zaa hx]; rfl, Zad (Zaa HW) (Zaa HB2) (by have := Zaa HZ; omega)⟩
 | true =>
  have H1 := Zac h1
  clear h1
  by_cases h2 : (i.outs.length : Int) = s.2
  ·
   have z2 : ((i.outs.length : Int) == s.2) = true := by simpa using h2
   go_wp2_with fail
   refine (haveLocals_c f _ _ _ _ _ _ _ _ i.outs w2 ⟨_, _, rfl⟩ hhl ((Zaa HO).below (Zaa HB2))).mono ?_
   rintro e w3 ⟨rfl, hb⟩
   have HB3 := Zac (Zad (Zaa HB2) hb (Zaa HB2).size)
   have hz := Zaa HZ
   have hri := ((Zaa HB3).block (w.heap.size + 1) (by omega)).trans (Zaa HR2)
   have r7 := (Zab hri 7).trans rfl
   clear hb hri hz
   cases h3 : localsB f i.outs with
   | false =>
    have hx := Zac (show callB f i s = false by unfold callB; rw [h3]; simp)
    clear h3
    go_wp2
    go_ret
    exact ⟨by rw [Zaa hx]; rfl, Zad (Zaa HW) (Zaa HB3) (by have := Zaa HZ; omega)⟩
   | true =>
    have H3 := Zac h3
    have hl6 : i.outs.length ≤ 1000000 := by omega
    have H2 := Zac h2
    clear h3 h2
    go_wp2_with fail
    refine (areApart_c _ i.outs w3 ((Zaa HO).below (Zaa HB3)) hl6).mono ?_
    rintro e w4 ⟨rfl, h4'⟩
    subst w4
    have HT := Zac (show callB f i s = apartB i.outs by unfold callB; rw [Zaa H1, Zaa H3]; simp [Zaa H2])
    go_wp2
    go_ret
    exact ⟨by rw [Zaa HT]; rfl, Zad (Zaa HW) (Zaa HB3) (by have := Zaa HZ; omega)⟩
  ·
   have z2 : ((i.outs.length : Int) == s.2) = false := by simpa using h2
   have hx := Zac (show callB f i s = false by unfold callB; simp [h2])
   clear h2
   go_wp2
   go_ret
   exact ⟨by rw [Zaa hx]; rfl, Zad (Zaa HW) (Zaa HB2) (by have := Zaa HZ; omega)⟩
end Go.Proofs.YtffemeicclhioaaGreatDoor
