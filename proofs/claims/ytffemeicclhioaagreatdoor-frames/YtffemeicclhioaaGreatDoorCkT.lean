/-
 Checks: prologueref.header. Own work of the verifier.
-/
import Derived.Test.YtffemeicclhioaaGreatDoorJ13
import Derived.Test.YtffemeicclhioaaGreatDoorJ3
namespace Go.Proofs.YtffemeicclhioaaGreatDoor
open Go.RowKit

theorem words_nn {f : FuncE} (h : sigB ((sigE f).1, f.results) = true) : ∀ m, m < f.params.length → 0 ≤ (f.params.getD m (0, 0)).1 := fun m hm => by
 unfold sigB at h
 simp only [Bool.and_eq_true] at h
 have h2 := upB_get h.2.2 (k := m) (by simpa [sigE] using hm)
 unfold inB at h2
 have h3 := (of_decide_eq_true h2).1
 simpa [sigE, List.getD, hm] using h3
theorem own4 {sp lk t0 t1 y : Int} (h : ¬ y = -1) : decide (y ∈ ownL sp lk t0 t1) = decide (y ∈ [sp, lk, t0, t1]) := by
 refine decide_eq_decide.2 ?_
 unfold ownL
 split
 ·
  rename_i e
  subst e
  simp
  omega
 ·
  simp
  omega
set_option maxHeartbeats 8000000 in
set_option maxRecDepth 100000 in
theorem header_c (r sp lk t0 t1 : Int) (va vr vs : Value) (al sh by_ : Int) (pr : Bool) (f : FuncE) (pv hv sv bv : Value) (B : Nat → Value) (w : World) (hr : 4 ≤ r ∧ r ≤ 16) (hF : FuncD w f pv hv sv bv B) (hpl : f.params.length ≤ 8796093022208) :
 Calls Tryz.prog 22 #[.agg (boxOf r sp lk t0 t1 va vr vs al sh by_ pr), .agg #[pv, .int .i64 f.results, hv, sv, bv]] w fun e w' => e = .returned (.bool (headB r (ownL sp lk t0 t1) f)) ∧ Below w.heap.size w w' := by
 have hx := al0 w (.cells (boxOf r sp lk t0 t1 va vr vs al sh by_ pr) 25 (0, 0))
 have hx2 := al0 (w.alloc (.cells (boxOf r sp lk t0 t1 va vr vs al sh by_ pr) 25 (0, 0))) (.cells #[pv, .int .i64 f.results, hv, sv, bv] 70 (0, 0))
 have HFD := Zac ((hF.below hx.2.1).below hx2.2.1)
 have hs1 := hx.2.2
 have hs2 := hx2.2.2
 have HW := Zac (Zad hx.2.1 hx2.2.1 (by omega))
 have hrb := (hx2.2.1.block w.heap.size (by omega)).trans hx.1
 have hrf := hx2.1
 rw [hs1] at hrf hs2
 obtain ⟨pp, cp, rfl⟩ := hF.ps.shape
 obtain ⟨ph, ch, rfl⟩ := hF.hs.shape
 obtain ⟨ps, cs, rfl⟩ := hF.ss.shape
 obtain ⟨pb, cb, rfl⟩ := hF.bs.shape
 have hl2 : f.homes.length < 9223372036854775808 := hF.hs.lt
 have hl3 : f.slots.length < 9223372036854775808 := hF.ss.lt
 have hl4 : f.blocks.length < 9223372036854775808 := by obtain ⟨_, _, _, _, h, _⟩ := hF.bs; exact h
 have HRB := Zac hrb
 have HRF := Zac hrf
 have HZ := Zac hs2
 have hr1 := hr.1
 have hr2 := hr.2
 have HX0 := Zac (fun h : ¬ f.params.length ≤ 8 => show headB r (ownL sp lk t0 t1) f = false by unfold headB; simp [h])
 have HX1 := Zac (fun h : sigB (sigE f) = false => show headB r (ownL sp lk t0 t1) f = false by unfold headB; simp [h])
 have HX2 := Zac (fun h : ¬ f.homes.length ≤ 12 => show headB r (ownL sp lk t0 t1) f = false by unfold headB; simp [h])
 have HX3 := Zac (fun h : homesB r (ownL sp lk t0 t1) f.homes = false => show headB r (ownL sp lk t0 t1) f = false by unfold headB; simp [h])
 have HX4 := Zac (fun h : ¬ f.slots.length ≤ 6 => show headB r (ownL sp lk t0 t1) f = false by unfold headB; simp [h])
 have HX5 := Zac (fun h : numsIn f.slots 1 8 = false => show headB r (ownL sp lk t0 t1) f = false by unfold headB; simp [h])
 have HX6 := Zac (fun h : inB f.blocks.length 1 12 = false => show headB r (ownL sp lk t0 t1) f = false by unfold headB; simp [h])
 have HX7 := Zac (fun h : blocksB f.blocks = false => show headB r (ownL sp lk t0 t1) f = false by unfold headB; simp [h])
 have HX8 := Zac (fun h : paramsB f = false => show headB r (ownL sp lk t0 t1) f = false by unfold headB; simp [h])
 have HXT := Zac (fun (h0 : f.params.length ≤ 8) (h1 : sigB (sigE f) = true) (h2 : f.homes.length ≤ 12) (h3 : homesB r (ownL sp lk t0 t1) f.homes = true) (h4 : f.slots.length ≤ 6) (h5 : numsIn f.slots 1 8 = true) (h6 : inB f.blocks.length 1 12 = true) (h7 : blocksB f.blocks = true) (h8 : paramsB f = true) => show headB r (ownL sp lk t0 t1) f = true by unfold headB; simp [h0, h1, h2, h3, h4, h5, h6, h7, h8])
 have HWO := Zac (fun (hs : True) => hs)
 clear HWO
 clear hx hx2 hF hs1 hs2 hrb hrf hr
 unfold boxOf at HRB HFD HW HZ HRF ⊢
 go_enter Tryz.func22, Tryz.ntmps22
 go_wp2_with fail
 generalize World.alloc (World.alloc w _) _ = W at HFD HW HRB HRF HZ ⊢
 refine (sigR_c f _ _ _ _ W (Zaa HFD).ps hpl).mono ?_
 rintro e w2 ⟨vv, rfl, hvv, hb⟩
 have HB2 := Zac hb
 have HVV := Zac hvv
 obtain ⟨vp, vc, rfl⟩ := hvv.shape
 clear hb hvv
 go_wp2_with fail
 refine (rsig_c _ _ _ _ (Zaa HVV)).mono ?_
 rintro e w3 ⟨rfl, hb⟩
 have HB3 := Zac (Zad (Zaa HB2) hb (Zaa HB2).size)
 clear hb HVV HB2
 have hsz := Zaa HZ
 have hrow := ((Zaa HB3).block (w.heap.size + 1) (by omega)).trans (Zaa HRF)
 have r2 := (Zab hrow 2).trans rfl
 have r3 := (Zab hrow 3).trans rfl
 have r4 := (Zab hrow 4).trans rfl
 clear hrow hsz
 cases h1 : sigB ((sigE f).1, f.results) with
 | false =>
  have hz := Zac (Zaa HX1 h1)
  go_wp2
  go_ret
  exact ⟨by rw [Zaa hz]; rfl, Zad (Zaa HW) (Zaa HB3) (by have := Zaa HZ; omega)⟩
 | true =>
  have H1 := Zac (show sigB (sigE f) = true from h1)
  have h0 : f.params.length ≤ 8 := by have h := h1; unfold sigB at h; simp [sigE] at h; exact h.1
  have HWO := Zac (words_nn h1)
  clear h1
  by_cases h2 : f.homes.length ≤ 12
  ·
   skip
   by_cases h4 : f.slots.length ≤ 6
   ·
    skip
    go_wp2_with fail
    refine (rin_c f.blocks.length 1 12 w3).mono ?_
    rintro e w4 ⟨rfl, h4'⟩
    subst w4
    cases h6 : inB f.blocks.length 1 12 with
    | false =>
     have hz := Zac (Zaa HX6 h6)
     go_wp2
     go_ret
     exact ⟨by rw [Zaa hz]; rfl, Zad (Zaa HW) (Zaa HB3) (by have := Zaa HZ; omega)⟩
    | true =>
     have H6 := Zac h6
     clear h6
     go_wp2_with fail
     go_loopw [41] (fun j w' => ∃ k : Nat, j = .int .i64 k ∧ k ≤ f.blocks.length ∧ w' = w3 ∧ ∀ q, q < k → inB ((f.blocks.getD q []).length) 1 24 = true) (fun j _ => f.blocks.length - (intOf j).toNat)
     case atStart => exact ⟨0, rfl, by omega, rfl, fun q hq => by omega⟩
     case round =>
      obtain ⟨k, rfl, hk, rfl, hno⟩ := hrel
      have HN := Zac hno
      clear hno
      by_cases hk2 : k < f.blocks.length
      ·
       obtain ⟨p', cap', he, -, -, hcc⟩ := ((Zaa HFD).below (Zaa HB3)).bs.ones
       injection he with e1 e2 e3
       subst e1 e3
       obtain ⟨sb, so, rfl, hc⟩ := hcc (by omega)
       have c := hc k hk2
       obtain ⟨q, cp', hq, hql⟩ := (Zaa HFD).blk k hk2
       rw [hq] at c
       have HWI := Zac (rin_c ((f.blocks.getD k []).length) 1 24 wr)
       have HBAD := Zac (fun hb : inB ((f.blocks.getD k []).length) 1 24 = false => show blocksB f.blocks = false from upB_false hk2 hb)
       have HNX := Zac (fun hb : inB ((f.blocks.getD k []).length) 1 24 = true => Zal (q := fun q => inB ((f.blocks.getD q []).length) 1 24) (Zaa HN) hb)
       clear hcc hc hq e2
       generalize inB ((f.blocks.getD k []).length) 1 24 = yes at HWI HBAD HNX
       generalize (f.blocks.getD k []).length = y at c HWI hql
       go_wp2_with fail
       refine (Zaa HWI).mono ?_
       rintro e w5 ⟨rfl, h5⟩
       subst w5
       cases yes with
       | false =>
        have hz := Zac (Zaa HX7 (Zaa HBAD rfl))
        go_wp2
        go_ret
        exact ⟨by rw [Zaa hz]; rfl, Zad (Zaa HW) (Zaa HB3) (by have := Zaa HZ; omega)⟩
       | true =>
        have hz := Zac (Zaa HNX rfl)
        go_wp2
        go_roundw
        case rel => exact ⟨k + 1, by go_num, by omega, trivial, Zaa hz⟩
        case measure => simp [intOf]; omega
      ·
       have H7 := Zac (show blocksB f.blocks = true from upB_true (fun q hq => Zaa HN q (by omega)))
       obtain rfl : k = f.blocks.length := by omega
       clear HN
       go_wp2_with fail
       go_loopw [53] (fun j w' => ∃ k : Nat, j = .int .i64 k ∧ k ≤ f.slots.length ∧ w' = wr ∧ ∀ q, q < k → inB (f.slots.getD q 0) 1 8 = true) (fun j _ => f.slots.length - (intOf j).toNat)
       case atStart => exact ⟨0, rfl, by omega, rfl, fun q hq => by omega⟩
       case round =>
        obtain ⟨k, rfl, hk, hwz, hno⟩ := hrel
        subst hwz
        have HN := Zac hno
        clear hno
        by_cases hk2 : k < f.slots.length
        ·
         obtain ⟨p', cap', he, -, -, hcc⟩ := ((Zaa HFD).below (Zaa HB3)).ss
         injection he with e1 e2 e3
         subst e1 e3
         obtain ⟨sb, so, rfl, hc⟩ := hcc (by omega)
         have c := hc k hk2
         have HWI := Zac (fun V => rin_c (f.slots.getD k 0) 1 8 V)
         have HBAD := Zac (fun hb : inB (f.slots.getD k 0) 1 8 = false => show numsIn f.slots 1 8 = false from upB_false hk2 hb)
         have HNX := Zac (fun hb : inB (f.slots.getD k 0) 1 8 = true => Zal (q := fun q => inB (f.slots.getD q 0) 1 8) (Zaa HN) hb)
         clear hcc hc e2
         generalize inB (f.slots.getD k 0) 1 8 = yes at HWI HBAD HNX
         generalize f.slots.getD k 0 = y at c HWI
         go_wp2_with fail
         refine (Zaa HWI _).mono ?_
         rintro e w5 ⟨rfl, h5⟩
         subst w5
         cases yes with
         | false =>
          have hz := Zac (Zaa HX5 (Zaa HBAD rfl))
          go_wp2
          go_ret
          exact ⟨by rw [Zaa hz]; rfl, Zad (Zaa HW) (Zaa HB3) (by have := Zaa HZ; omega)⟩
         | true =>
          have hz := Zac (Zaa HNX rfl)
          go_wp2
          go_roundw
          case rel => exact ⟨k + 1, by go_num, by omega, trivial, Zaa hz⟩
          case measure => simp [intOf]; omega
        ·
         have H5 := Zac (show numsIn f.slots 1 8 = true from upB_true (fun q hq => Zaa HN q (by omega)))
         obtain rfl : k = f.slots.length := by omega
         clear HN
         go_wp2_with fail
         go_loopw [64] (fun j w' => ∃ k : Nat, j = .int .i64 k ∧ k ≤ f.homes.length ∧ Below W.heap.size W w' ∧ ∀ q, q < k → homeB r (ownL sp lk t0 t1) f.homes q = true) (fun j _ => f.homes.length - (intOf j).toNat)
         case atStart => exact ⟨0, rfl, by omega, Zaa HB3, fun q hq => by omega⟩
         case round =>
          obtain ⟨k, rfl, hk, hbw, hno⟩ := hrel
          have HN := Zac hno
          have HBW := Zac hbw
          have hws := hbw.size
          clear hno r2 r3 r4
          by_cases hk2 : k < f.homes.length
          ·
           have hLi := ((Zaa HFD).below hbw).hs
           have HLi := Zac hLi
           obtain ⟨p', cap', he, hcap', -, hcc⟩ := hLi
           injection he with e1 e2 e3
           subst e1 e3
           obtain ⟨sb, so, rfl, hc⟩ := hcc (by omega)
           have c := hc k hk2
           have hsz := Zaa HZ
           have hrowB := (hbw.block w.heap.size (by omega)).trans (Zaa HRB)
           have hrowF := (hbw.block (w.heap.size + 1) (by omega)).trans (Zaa HRF)
           have b0 := (Zab hrowB 0).trans rfl
           have b1 := (Zab hrowB 1).trans rfl
           have b2 := (Zab hrowB 2).trans rfl
           have b3 := (Zab hrowB 3).trans rfl
           have b4 := (Zab hrowB 4).trans rfl
           have x2 := fun X : Obj => (row_al hrowF 2 X).trans rfl
           have HHO := Zac (show homeB r (ownL sp lk t0 t1) f.homes k = (decide (f.homes.getD k 0 = -1) || (inB (f.homes.getD k 0) 0 (r - 1) && (!decide (f.homes.getD k 0 ∈ (ownL sp lk t0 t1)) && !decide (f.homes.getD k 0 ∈ f.homes.take k)))) from rfl)
           have HBAD := Zac (fun hb : homeB r (ownL sp lk t0 t1) f.homes k = false => show homesB r (ownL sp lk t0 t1) f.homes = false from upB_false hk2 hb)
           have HNX := Zac (fun hb : homeB r (ownL sp lk t0 t1) f.homes k = true => Zal (Zaa HN) hb)
           clear hcc hc e2 hrowB hrowF hbw hsz
           generalize homeB r (ownL sp lk t0 t1) f.homes k = yes at HHO HBAD HNX
           generalize f.homes.getD k 0 = y at c HHO
           by_cases hm : y = -1
           ·
            subst hm
            have hz := Zac (Zaa HNX (by rw [Zaa HHO]; rfl))
            go_wp2
            go_roundw
            case rel => exact ⟨k + 1, by go_num, by omega, Zaa HBW, Zaa hz⟩
            case measure => simp [intOf]; omega
           ·
            have z : (y == -1) = false := by simpa using hm
            have HH2 := Zac (show yes = (inB y 0 (r - 1) && (!decide (y ∈ [sp, lk, t0, t1]) && !decide (y ∈ f.homes.take k))) by rw [Zaa HHO, own4 hm]; simp [hm])
            clear HHO hm
            go_wp2_with fail
            refine (rin_c y 0 (r - 1) _).mono ?_
            rintro e w5 ⟨rfl, h5⟩
            subst w5
            cases hi : inB y 0 (r - 1) with
            | false =>
             have hbb := Zac (Zaa HX3 (Zaa HBAD (by rw [Zaa HH2, hi]; rfl)))
             clear hi
             go_wp2
             go_ret
             exact ⟨by rw [Zaa hbb]; rfl, Zad (Zaa HW) (Zaa HBW) (by have := Zaa HZ; omega)⟩
            | true =>
             have HI := Zac hi
             clear hi
             go_wp2_with fail
             have hU := al0 wr (.cells #[.int .i64 sp, .int .i64 lk, .int .i64 t0, .int .i64 t1] 3 (0, 0))
             have HU := Zac (Zad (Zaa HBW) hU.2.1 hws)
             have HLT := Zac (((Zaa HLi).below hU.2.1).take k (by omega))
             clear hU
             refine (hasT_c [sp, lk, t0, t1] y _ _ (Li.list (w := wr) [sp, lk, t0, t1] (by show 4 < short; decide)).rs (by simp)).mono ?_
             rintro e w5 ⟨rfl, h5⟩
             subst w5
             cases hi : decide (y ∈ [sp, lk, t0, t1]) with
             | true =>
              have hbb := Zac (Zaa HX3 (Zaa HBAD (by rw [Zaa HH2, hi]; simp)))
              clear hi
              go_wp2
              go_ret
              exact ⟨by rw [Zaa hbb]; rfl, Zad (Zaa HW) (Zaa HU) (by have := Zaa HZ; omega)⟩
             | false =>
              have HI2 := Zac hi
              clear hi
              go_wp2_with fail
              refine (hasT_c (f.homes.take k) y _ _ (Zaa HLT).rs (by simp; omega)).mono ?_
              rintro e w5 ⟨rfl, h5⟩
              subst w5
              cases hi : decide (y ∈ f.homes.take k) with
              | true =>
               have hbb := Zac (Zaa HX3 (Zaa HBAD (by rw [Zaa HH2, hi]; simp)))
               clear hi
               go_wp2
               go_ret
               exact ⟨by rw [Zaa hbb]; rfl, Zad (Zaa HW) (Zaa HU) (by have := Zaa HZ; omega)⟩
              | false =>
               have hz := Zac (Zaa HNX (by rw [Zaa HH2, hi, Zaa HI2, Zaa HI]; rfl))
               clear hi
               go_wp2
               go_roundw
               case rel => exact ⟨k + 1, by go_num, by omega, Zaa HU, Zaa hz⟩
               case measure => simp [intOf]; omega
          ·
           have H3 := Zac (show homesB r (ownL sp lk t0 t1) f.homes = true from upB_true (fun q hq => Zaa HN q (by omega)))
           obtain rfl : k = f.homes.length := by omega
           have hsz := Zaa HZ
           have hrowF := (hbw.block (w.heap.size + 1) (by omega)).trans (Zaa HRF)
           have r0 := (Zab hrowF 0).trans rfl
           clear HN hrowF hsz hbw
           go_wp2_with fail
           clear r0
           generalize hwz : wr = V0 at HBW hws ⊢
           clear hwz
           go_loopw [104] (fun j w' => ∃ k : Nat, j = .int .i64 k ∧ k ≤ f.params.length ∧ Below W.heap.size W w' ∧ ∀ q, q < k → paramB f q = true) (fun j _ => f.params.length - (intOf j).toNat)
           case atStart => exact ⟨0, rfl, by omega, Zaa HBW, fun q hq => by omega⟩
           case round =>
            clear hws HBW
            obtain ⟨k, rfl, hk, hbw, hno⟩ := hrel
            have HN := Zac hno
            have HBW := Zac hbw
            have hws := hbw.size
            clear hno
            by_cases hk2 : k < f.params.length
            ·
             obtain ⟨p', cap', he, hcapP, -, hcc⟩ := (Zaa HFD).ps.pairs
             injection he with e1 e2 e3
             subst e1 e3
             obtain ⟨sb, so, rfl, hc⟩ := hcc (by omega)
             have hsb : sb < W.heap.size := World.block_lt_of_cell? W _ (hc k hk2).1
             have c1 := (hbw.cell (p := ⟨sb, so + k * 2, none⟩) hsb).trans (hc k hk2).1
             have c2 := (hbw.cell (p := ⟨sb, so + k * 2 + 1, none⟩) hsb).trans (hc k hk2).2
             have hx0 := Zaa HWO k hk2
             have HCC := Zac hc
             clear hc hcc e2 hbw
             generalize hxy : f.params.getD k (0, 0) = xy at c1 c2 hx0
             have HXY := Zac hxy
             clear hxy
             obtain ⟨x, y⟩ := xy
             simp only at c1 c2 hx0
             go_wp2_with fail
             have hy := al0 wr (.cells #[.int .i64 x, .int .i64 y] 105 (0, 0))
             have hsz := Zaa HZ
             have hrX := hy.1
             have hrF := (hy.2.1.block (w.heap.size + 1) (by omega)).trans (((Zaa HBW).block (w.heap.size + 1) (by omega)).trans (Zaa HRF))
             have hbU : Below W.heap.size W (wr.alloc (.cells #[.int .i64 x, .int .i64 y] 105 (0, 0))) := Zad (Zaa HBW) hy.2.1 hws
             have hUs := hy.2.2
             clear hy c1 c2
             generalize hTx : wr.heap.size = Tx at hrX hUs hws ⊢
             generalize World.alloc wr _ = U at hrX hrF hbU hUs ⊢
             have hTU : Tx < U.heap.size := by omega
             have q0 := (Zab hrX 0).trans rfl
             have q1 := (Zab hrX 1).trans rfl
             have f2 := (Zab hrF 2).trans rfl
             have f3 := (Zab hrF 3).trans rfl
             have HBU := Zac hbU
             have HRX := Zac hrX
             have HRFU := Zac hrF
             have hUW := hbU.size
             clear hrX hrF hTx hsz hUs
             clear hbU
             by_cases h0x : x = 0
             ·
              subst h0x
              have HWI := Zac (fun V => rin_c y 0 (f.homes.length - 1) V)
              cases hr : inB y 0 (f.homes.length - 1) with
              | false =>
               rw [hr] at HWI
               have HSPT := Zac (show spotB f (0, y) = false by unfold spotB; simp [hr])
               clear hr
               have hbb := Zac (Zaa HX8 (show paramsB f = false from upB_false hk2 (by unfold paramB; rw [Zaa HXY, Zaa HSPT]; rfl)))
               go_quiet ((go_at_call 12; exact Calls.quiet_of_same (Zaa HWI _)))
               go_wp2
               go_ret
               exact ⟨by rw [Zaa hbb]; rfl, Zah (Zad (Zaa HW) (Zaa HBU) (by have := Zaa HZ; omega)) _⟩
              | true =>
               rw [hr] at HWI
               have HSPT := Zac (show spotB f (0, y) = true by unfold spotB; simp [hr])
               clear hr
               go_quiet ((go_at_call 12; exact Calls.quiet_of_same (Zaa HWI _)))
               have f0 := (Zab (Zaa HRFU) 0).trans rfl
               clear q0 q1 f2 f3
               go_wp2_with fail
               clear f0
               have HBV := Zac (fun nq => Zah (Below.refl U.heap.size U) nq)
               generalize hVV : U.drewN _ = V1
               have hBV : Below U.heap.size U V1 := by rw [← hVV]; exact Zaa HBV _
               have HB1 := Zac (Zad (Zaa HBU) hBV hUW)
               have hV1 := hBV.size
               have HRX1 := Zac ((hBV.block Tx hTU).trans (Zaa HRX))
               have hT1 : Tx < V1.heap.size := by omega
               clear hVV hBV HBV
               go_loopw [153] (fun j w' => ∃ m : Nat, j = .int .i64 m ∧ m ≤ k ∧ Below V1.heap.size V1 w' ∧ ∀ q, q < m → (!meetsB (0, y) (f.params.getD q (0, 0))) = true) (fun j _ => k - (intOf j).toNat)
               case atStart => exact ⟨0, rfl, by omega, Below.refl _ _, fun q hq => by omega⟩
               case round =>
                obtain ⟨m, rfl, hm, hbm, hmo⟩ := hrel
                have HM := Zac hmo
                clear hmo
                have hms := hbm.size
                have HB1z := (Zaa HB1).size
                by_cases hm2 : m < k
                ·
                 have hq := (Zaa HCC) m (by omega)
                 have hwm : Below W.heap.size W wr := Zad (Zaa HB1) hbm HB1z
                 have c1 := (hwm.cell (p := ⟨sb, so + m * 2, none⟩) hsb).trans hq.1
                 have c2 := (hwm.cell (p := ⟨sb, so + m * 2 + 1, none⟩) hsb).trans hq.2
                 have hrow := (hbm.block Tx hT1).trans (Zaa HRX1)
                 have r0 := fun X : Obj => (row_al hrow 0 X).trans rfl
                 have r1 := fun X : Obj => (row_al hrow 1 X).trans rfl
                 have hy0 := Zaa HWO m (by omega)
                 have HBM := Zac hbm
                 clear hrow hq hwm hbm
                 generalize hxy : f.params.getD m (0, 0) = xy at c1 c2 hy0
                 have HXZ := Zac hxy
                 clear hxy
                 obtain ⟨x2, y2⟩ := xy
                 simp only at c1 c2 hy0
                 have hme : meetsB (0, y) (x2, y2) = (decide (y = y2) && (decide ((0 : Int) = 0) == decide (x2 = 0))) := rfl
                 have HBAD := Zac (fun hb : (decide (y = y2) && (decide ((0 : Int) = 0) == decide (x2 = 0))) = true => Zaa HX8 (show paramsB f = false from upB_false hk2 (by unfold paramB; rw [Zaa HXY]; simp only [Bool.and_eq_false_iff]; exact Or.inr (upB_false hm2 (by rw [Zaa HXZ, hme, hb]; rfl)))))
                 have HNX := Zac (fun hb : (decide (y = y2) && (decide ((0 : Int) = 0) == decide (x2 = 0))) = false => Zal (q := fun q => !meetsB (0, y) (f.params.getD q (0, 0))) (Zaa HM) (by show (!meetsB (0, y) (f.params.getD m (0, 0))) = true; rw [Zaa HXZ, hme, hb]; rfl))
                 have HBA := Zac (Zad (Zaa HBM) (al0 wr (.cells #[.int .i64 x2, .int .i64 y2] 105 (0, 0))).2.1 hms)
                 clear hme
                 by_cases e1 : y = y2
                 ·
                  subst e1
                  by_cases e3 : x2 = 0
                  ·
                   subst e3
                   have hz := Zac (Zaa HBAD (by simp))
                   go_wp2
                   go_ret
                   exact ⟨by rw [Zaa hz]; rfl, Zad (Zaa HW) (Zad (Zaa HB1) (Zaa HBA) HB1z) (by have := Zaa HZ; omega)⟩
                  ·
                   have hp : 0 < x2 := by omega
                   have hz := Zac (Zaa HNX (by simp [e3]))
                   go_wp2
                   go_roundw
                   case rel => exact ⟨m + 1, by go_num, by omega, Zaa HBA, Zaa hz⟩
                   case measure => simp [intOf]; omega
                 ·
                  have z1 : (y == y2) = false := by simpa using e1
                  have hz := Zac (Zaa HNX (by simp [e1]))
                  go_wp2
                  go_roundw
                  case rel => exact ⟨m + 1, by go_num, by omega, Zaa HBA, Zaa hz⟩
                  case measure => simp [intOf]; omega
                ·
                 obtain rfl : m = k := by omega
                 have hz := Zac (Zal (q := paramB f) (Zaa HN) (by unfold paramB; rw [Zaa HXY, Zaa HSPT, upB_true (Zaa HM)]; rfl))
                 have HBM := Zac (Zad (Zaa HB1) hbm HB1z)
                 clear hbm
                 go_wp2
                 go_roundw
                 case rel => exact ⟨m + 1, by go_num, by omega, Zaa HBM, Zaa hz⟩
                 case measure => simp [intOf]; omega
             ·
              have z0 : (x == 0) = false := by simpa using h0x
              have hx1 : 0 < x := by omega
              have HWI := Zac (fun V => rin_c y 0 (f.slots.length - 1) V)
              cases hr : inB y 0 (f.slots.length - 1) with
              | false =>
               rw [hr] at HWI
               have HSPT := Zac (show spotB f (x, y) = false by unfold spotB; simp [h0x, hr])
               clear hr
               have hbb := Zac (Zaa HX8 (show paramsB f = false from upB_false hk2 (by unfold paramB; rw [Zaa HXY, Zaa HSPT]; rfl)))
               go_quiet ((go_at_call 12; exact Calls.quiet_of_same (Zaa HWI _)))
               go_wp2
               go_ret
               exact ⟨by rw [Zaa hbb]; rfl, Zah (Zad (Zaa HW) (Zaa HBU) (by have := Zaa HZ; omega)) _⟩
              | true =>
               rw [hr] at HWI
               have HSP0 := Zac (show spotB f (x, y) = decide (f.slots.getD y.toNat 0 = x) by unfold spotB; simp [h0x, hr])
               unfold inB at hr
               obtain ⟨g0, g1⟩ := of_decide_eq_true hr
               obtain ⟨n, rfl⟩ : ∃ n : Nat, y = n := ⟨y.toNat, by omega⟩
               have hn : n < f.slots.length := by omega
               obtain ⟨p2, cap2, he2, -, -, hcc2⟩ := ((Zaa HFD).below (Zaa HBU)).ss
               injection he2 with e1 e2 e3
               subst e1 e3
               obtain ⟨sl, sx, rfl, hsc⟩ := hcc2 (by omega)
               have cs := hsc n hn
               rw [Int.toNat_natCast] at HSP0
               clear hr g0 g1 e2 hcc2 hsc
               generalize f.slots.getD n 0 = sz at cs HSP0
               by_cases hsx : sz = x
               ·
                have zz : (sz != x) = false := by simp [hsx]
                have HSPT := Zac (show spotB f (x, (n : Int)) = true by rw [Zaa HSP0]; simp [hsx])
                clear hsx
                go_quiet ((go_at_call 12; exact Calls.quiet_of_same (Zaa HWI _)))
                have f0 := (Zab (Zaa HRFU) 0).trans rfl
                clear q0 q1 f2 f3
                go_wp2_with fail
                clear f0
                have HBV := Zac (fun nq => Zah (Below.refl U.heap.size U) nq)
                generalize hVV : U.drewN _ = V1
                have hBV : Below U.heap.size U V1 := by rw [← hVV]; exact Zaa HBV _
                have HB1 := Zac (Zad (Zaa HBU) hBV hUW)
                have hV1 := hBV.size
                have HRX1 := Zac ((hBV.block Tx hTU).trans (Zaa HRX))
                have hT1 : Tx < V1.heap.size := by omega
                clear hVV hBV HBV
                go_loopw [153] (fun j w' => ∃ m : Nat, j = .int .i64 m ∧ m ≤ k ∧ Below V1.heap.size V1 w' ∧ ∀ q, q < m → (!meetsB (x, (n : Int)) (f.params.getD q (0, 0))) = true) (fun j _ => k - (intOf j).toNat)
                case atStart => exact ⟨0, rfl, by omega, Below.refl _ _, fun q hq => by omega⟩
                case round =>
                 obtain ⟨m, rfl, hm, hbm, hmo⟩ := hrel
                 have HM := Zac hmo
                 clear hmo
                 have hms := hbm.size
                 have HB1z := (Zaa HB1).size
                 by_cases hm2 : m < k
                 ·
                  have hq := (Zaa HCC) m (by omega)
                  have hwm : Below W.heap.size W wr := Zad (Zaa HB1) hbm HB1z
                  have c1 := (hwm.cell (p := ⟨sb, so + m * 2, none⟩) hsb).trans hq.1
                  have c2 := (hwm.cell (p := ⟨sb, so + m * 2 + 1, none⟩) hsb).trans hq.2
                  have hrow := (hbm.block Tx hT1).trans (Zaa HRX1)
                  have r0 := fun X : Obj => (row_al hrow 0 X).trans rfl
                  have r1 := fun X : Obj => (row_al hrow 1 X).trans rfl
                  have hy0 := Zaa HWO m (by omega)
                  have HBM := Zac hbm
                  clear hrow hq hwm hbm
                  generalize hxy : f.params.getD m (0, 0) = xy at c1 c2 hy0
                  have HXZ := Zac hxy
                  clear hxy
                  obtain ⟨x2, y2⟩ := xy
                  simp only at c1 c2 hy0
                  have hme : meetsB (x, (n : Int)) (x2, y2) = (decide ((n : Int) = y2) && (decide ((x : Int) = 0) == decide (x2 = 0))) := rfl
                  have HBAD := Zac (fun hb : (decide ((n : Int) = y2) && (decide ((x : Int) = 0) == decide (x2 = 0))) = true => Zaa HX8 (show paramsB f = false from upB_false hk2 (by unfold paramB; rw [Zaa HXY]; simp only [Bool.and_eq_false_iff]; exact Or.inr (upB_false hm2 (by rw [Zaa HXZ, hme, hb]; rfl)))))
                  have HNX := Zac (fun hb : (decide ((n : Int) = y2) && (decide ((x : Int) = 0) == decide (x2 = 0))) = false => Zal (q := fun q => !meetsB (x, (n : Int)) (f.params.getD q (0, 0))) (Zaa HM) (by show (!meetsB (x, (n : Int)) (f.params.getD m (0, 0))) = true; rw [Zaa HXZ, hme, hb]; rfl))
                  have HBA := Zac (Zad (Zaa HBM) (al0 wr (.cells #[.int .i64 x2, .int .i64 y2] 105 (0, 0))).2.1 hms)
                  clear hme
                  by_cases e1 : (n : Int) = y2
                  ·
                   subst e1
                   by_cases e3 : x2 = 0
                   ·
                    subst e3
                    have hz := Zac (Zaa HNX (by simp [h0x]))
                    go_wp2
                    go_roundw
                    case rel => exact ⟨m + 1, by go_num, by omega, Zaa HBA, Zaa hz⟩
                    case measure => simp [intOf]; omega
                   ·
                    have hp : 0 < x2 := by omega
                    have hz := Zac (Zaa HBAD (by simp [h0x, e3]))
                    go_wp2
                    go_ret
                    exact ⟨by rw [Zaa hz]; rfl, Zad (Zaa HW) (Zad (Zaa HB1) (Zaa HBA) HB1z) (by have := Zaa HZ; omega)⟩
                  ·
                   have z1 : ((n : Int) == y2) = false := by simpa using e1
                   have hz := Zac (Zaa HNX (by simp [e1]))
                   go_wp2
                   go_roundw
                   case rel => exact ⟨m + 1, by go_num, by omega, Zaa HBA, Zaa hz⟩
                   case measure => simp [intOf]; omega
                 ·
                  obtain rfl : m = k := by omega
                  have hz := Zac (Zal (q := paramB f) (Zaa HN) (by unfold paramB; rw [Zaa HXY, Zaa HSPT, upB_true (Zaa HM)]; rfl))
                  have HBM := Zac (Zad (Zaa HB1) hbm HB1z)
                  clear hbm
                  go_wp2
                  go_roundw
                  case rel => exact ⟨m + 1, by go_num, by omega, Zaa HBM, Zaa hz⟩
                  case measure => simp [intOf]; omega
               ·
                have zz : (sz != x) = true := by simpa using hsx
                have HSPT := Zac (show spotB f (x, (n : Int)) = false by rw [Zaa HSP0]; simp [hsx])
                clear hsx
                have hbb := Zac (Zaa HX8 (show paramsB f = false from upB_false hk2 (by unfold paramB; rw [Zaa HXY, Zaa HSPT]; rfl)))
                go_quiet ((go_at_call 12; exact Calls.quiet_of_same (Zaa HWI _)))
                go_wp2
                go_ret
                exact ⟨by rw [Zaa hbb]; rfl, Zah (Zad (Zaa HW) (Zaa HBU) (by have := Zaa HZ; omega)) _⟩
            ·
             have H8 := Zac (show paramsB f = true from upB_true (fun q hq => Zaa HN q (by omega)))
             obtain rfl : k = f.params.length := by omega
             clear hbw
             have hz := Zac (Zaa HXT h0 (Zaa H1) h2 (Zaa H3) h4 (Zaa H5) (Zaa H6) (Zaa H7) (Zaa H8))
             go_wp2
             go_ret
             exact ⟨by rw [Zaa hz]; rfl, Zad (Zaa HW) (Zaa HBW) (by have := Zaa HZ; omega)⟩
   ·
    have hz := Zac (Zaa HX4 h4)
    go_wp2
    go_ret
    exact ⟨by rw [Zaa hz]; rfl, Zad (Zaa HW) (Zaa HB3) (by have := Zaa HZ; omega)⟩
  ·
   have hz := Zac (Zaa HX2 h2)
   go_wp2
   go_ret
   exact ⟨by rw [Zaa hz]; rfl, Zad (Zaa HW) (Zaa HB3) (by have := Zaa HZ; omega)⟩
end Go.Proofs.YtffemeicclhioaaGreatDoor

