/-
 Checks: prologueref.Check. Own work of the verifier.
-/
import Derived.Test.YtffemeicclhioaaGreatDoorCkW
import Derived.Test.YtffemeicclhioaaGreatDoorJ13
import Derived.Test.YtffemeicclhioaaGreatDoorCkT
import Derived.Test.YtffemeicclhioaaGreatDoorTblRef
namespace Go.Proofs.YtffemeicclhioaaGreatDoor
open Go.RowKit

theorem fine_k (w : World) : Calls Tryz.prog 15 #[] w fun e w' => e = .returned (flt 0 (-1) (-1) (-1)) ∧ Below w.heap.size w w' := by
 go_enter Tryz.func15, Tryz.ntmps15
 go_wp2
 go_returns
 exact ⟨rfl, by go_grown⟩
theorem only_k (n : Int) (w : World) : Calls Tryz.prog 13 #[.int .i64 n] w fun e w' => e = .returned (flt n (-1) (-1) (-1)) ∧ Below w.heap.size w w' := by
 go_enter Tryz.func13, Tryz.ntmps13
 go_wp2
 go_returns
 exact ⟨rfl, by go_grown⟩
theorem Tryz.infRFlt : (Tryz.prog.info? 37).map (·.size) = some 4 := by kernel_rfl
theorem fitS_of {r : Int} {own : List Int} {p : ProgE} (hc : countsB p = true) (hh : ∀ k, k < p.funcs.length → headB r own (p.funcs.getD k Zaj) = true) : FitS p := by
 refine ⟨fun k hk => ?_, fun k hk => ?_⟩
 ·
  have h := hh k hk
  unfold headB sigB at h
  simp only [Bool.and_eq_true] at h
  exact h.2.1.2.2
 ·
  unfold countsB at hc
  simp only [Bool.and_eq_true] at hc
  have h := upB_get hc.2.2 hk
  unfold sigB at h
  simp only [Bool.and_eq_true] at h
  exact h.2.2
set_option maxHeartbeats 16000000 in
set_option maxRecDepth 100000 in
theorem rcheck_c (r sp lk t0 t1 : Int) (va vr vs : Value) (al sh by_ : Int) (pr : Bool) (ag rs ss : List Int) (p : ProgE) (fv ev : Value) (A E : Nat → Array Value) (w : World) (hT : TabC w va vr vs ag rs ss) (hP : ProgC w fv ev p A E) (hnn : NumP p) (hpl : ∀ k, (p.funcs.getD k Zaj).params.length ≤ 8796093022208) :
 Calls Tryz.prog 11 #[.agg (boxOf r sp lk t0 t1 va vr vs al sh by_ pr), .agg #[fv, ev]] w fun e w' => e = .returned (flt (chkB (tabB r sp lk t0 t1 ag rs ss al sh by_) r (ownL sp lk t0 t1) p).e (chkB (tabB r sp lk t0 t1 ag rs ss al sh by_) r (ownL sp lk t0 t1) p).f (chkB (tabB r sp lk t0 t1 ag rs ss al sh by_) r (ownL sp lk t0 t1) p).b (chkB (tabB r sp lk t0 t1 ag rs ss al sh by_) r (ownL sp lk t0 t1) p).a) ∧ Below w.heap.size w w' := by
 have hx := al0 w (.cells (boxOf r sp lk t0 t1 va vr vs al sh by_ pr) 25 (0, 0))
 generalize hW1 : World.alloc w (.cells (boxOf r sp lk t0 t1 va vr vs al sh by_ pr) 25 (0, 0)) = W1 at hx
 have hx2 := al0 W1 (.cells #[fv, ev] 29 (0, 0))
 generalize hW2 : World.alloc W1 (.cells #[fv, ev] 29 (0, 0)) = W2 at hx2
 have hx3 := al0 W2 (.cells #[.int .i64 0, .int .i64 0, .int .i64 0, .int .i64 0] 37 (0, 0))
 have hs1 := hx.2.2
 have hs2 := hx2.2.2
 have hs3 := hx3.2.2
 have hb12 := Zad (Zad hx.2.1 hx2.2.1 (by omega)) hx3.2.1 (by omega)
 have HT := Zac (hT.below hb12)
 have HP := Zac (hP.below hb12)
 have HW := Zac hb12
 have HR1 := Zac ((hx3.2.1.block w.heap.size (by omega)).trans ((hx2.2.1.block w.heap.size (by omega)).trans hx.1))
 have hr2 := (hx3.2.1.block W1.heap.size (by omega)).trans hx2.1
 have hr3 := hx3.1
 rw [hs2, hs1] at hr3 hs3
 rw [hs1] at hr2
 have HR2 := Zac hr2
 have HR3 := Zac hr3
 have HZ := Zac hs3
 have HNN := Zac hnn
 have HPL := Zac hpl
 have hl4 : p.funcs.length < 9223372036854775808 := by obtain ⟨_, _, _, _, h, _⟩ := hP.fs; exact h
 have hl5 : p.externs.length < 9223372036854775808 := by obtain ⟨_, _, _, _, h, _⟩ := hP.es; exact h
 obtain ⟨pf, cf, rfl⟩ := hP.fs.shape
 obtain ⟨pe, ce, rfl⟩ := hP.es.shape
 obtain ⟨pva, cva, rfl⟩ := hT.a.shape
 obtain ⟨pvr, cvr, rfl⟩ := hT.r.shape
 obtain ⟨pvs, cvs, rfl⟩ := hT.s.shape
 clear hx hx2 hx3 hs1 hs2 hs3 hb12 hr2 hr3 hT hP hnn hpl
 subst hW1 hW2
 unfold boxOf at HR1 ⊢
 unfold boxOf at HW HT HP HR2 HR3 HZ
 go_enter Tryz.func11, Tryz.ntmps11
 go_wp2_with fail
 generalize World.alloc (World.alloc (World.alloc w _) _) _ = W at HT HP HW HR1 HR2 HR3 HZ ⊢
 refine (rtable_c r sp lk t0 t1 _ _ _ al sh by_ pr ag rs ss W (Zaa HT).a (Zaa HT).r (Zaa HT).s (Zaa HT).ca (Zaa HT).cr (Zaa HT).cs).mono ?_
 rintro e w2 ⟨rfl, hb⟩
 have HB2 := Zac hb
 have hz := Zaa HZ
 have hrp := (hb.block (w.heap.size + 1) (by omega)).trans (Zaa HR2)
 have p0 := (Zab hrp 0).trans rfl
 have p1 := (Zab hrp 1).trans rfl
 clear hb hrp hz
 cases htb : tabB r sp lk t0 t1 ag rs ss al sh by_ with
 | false =>
  have hc := Zac (show chkB (tabB r sp lk t0 t1 ag rs ss al sh by_) r (ownL sp lk t0 t1) p = ⟨2, -1, -1, -1⟩ by rw [htb]; rfl)
  clear htb
  go_wp2_with fail
  refine (only_k 2 _).mono ?_
  rintro e w7 ⟨rfl, hb7⟩
  have HB7 := Zac (Zad (Zaa HB2) hb7 (Zaa HB2).size)
  clear hb7
  unfold flt
  have HRR := Zac (((Zaa HB7).block (w.heap.size + 1 + 1) (by have := Zaa HZ; omega)).trans (Zaa HR3))
  have HBR := Zac (Zad (Zaa HW) (Zaa HB7) (by have := Zaa HZ; omega))
  go_wp2_with (refine wpList_store_row rfl 37 (.tmp 4) _ rfl (w.heap.size + 1 + 1) #[.int .i64 2, .int .i64 (-1), .int .i64 (-1), .int .i64 (-1)] rfl rfl 37 _ (Zaa HRR) (Tryz.infRFlt.trans rfl) rfl (by simp [Value.oneCell']) ?_)
  refine bodyPost_ret (resultsK (fn := Tryz.f11) (q := 4) (uy := 37) rfl _ _ (w.heap.size + 1 + 1) 37 #[.int .i64 2, .int .i64 (-1), .int .i64 (-1), .int .i64 (-1)] (0, 0) _ rfl (setRow_heap _ _ _ _ _ _ (Zaa HRR)) Tryz.underlying37 rfl (Tryz.infRFlt.trans rfl)) rfl ?_
  exact ⟨by rw [Zaa hc], Zag (Zaa HBR) (by omega)⟩
 | true =>
  have HR := Zac (tabB_regs htb)
  have HTB := Zac htb
  clear htb
  go_wp2_with fail
  refine (rin_c p.funcs.length 1 8 _).mono ?_
  rintro e w9 ⟨rfl, h9⟩
  subst w9
  cases hi1 : inB p.funcs.length 1 8 with
  | false =>
   have hc := Zac (show chkB (tabB r sp lk t0 t1 ag rs ss al sh by_) r (ownL sp lk t0 t1) p = ⟨5, -1, -1, -1⟩ by rw [Zaa HTB]; unfold chkB; rw [show countsB p = false by unfold countsB; rw [hi1]; rfl]; rfl)
   clear hi1
   go_wp2_with fail
   refine (only_k 5 _).mono ?_
   rintro e w7 ⟨rfl, hb7⟩
   have HB7 := Zac (Zad (Zaa HB2) hb7 (Zaa HB2).size)
   clear hb7
   unfold flt
   have HRR := Zac (((Zaa HB7).block (w.heap.size + 1 + 1) (by have := Zaa HZ; omega)).trans (Zaa HR3))
   have HBR := Zac (Zad (Zaa HW) (Zaa HB7) (by have := Zaa HZ; omega))
   go_wp2_with (refine wpList_store_row rfl 37 (.tmp 4) _ rfl (w.heap.size + 1 + 1) #[.int .i64 5, .int .i64 (-1), .int .i64 (-1), .int .i64 (-1)] rfl rfl 37 _ (Zaa HRR) (Tryz.infRFlt.trans rfl) rfl (by simp [Value.oneCell']) ?_)
   refine bodyPost_ret (resultsK (fn := Tryz.f11) (q := 4) (uy := 37) rfl _ _ (w.heap.size + 1 + 1) 37 #[.int .i64 5, .int .i64 (-1), .int .i64 (-1), .int .i64 (-1)] (0, 0) _ rfl (setRow_heap _ _ _ _ _ _ (Zaa HRR)) Tryz.underlying37 rfl (Tryz.infRFlt.trans rfl)) rfl ?_
   exact ⟨by rw [Zaa hc], Zag (Zaa HBR) (by omega)⟩
  | true =>
   have HI1 := Zac hi1
   clear hi1
   by_cases hi2 : p.externs.length ≤ 4
   ·
    have hng : ¬ (4 < p.externs.length) := by omega
    go_wp2_with fail
    refine (rsigs_c p _ _ A E w2 ((Zaa HP).below (Zaa HB2))).mono ?_
    rintro e w3 ⟨rfl, hb⟩
    have HB3 := Zac (Zad (Zaa HB2) hb (Zaa HB2).size)
    clear p0 p1 hb hng
    cases hi3 : (upB p.externs.length fun k => sigB (p.externs.getD k ([], 0))) with
    | false =>
     have hc := Zac (show chkB (tabB r sp lk t0 t1 ag rs ss al sh by_) r (ownL sp lk t0 t1) p = ⟨5, -1, -1, -1⟩ by rw [Zaa HTB]; unfold chkB; rw [show countsB p = false by unfold countsB; rw [hi3]; simp]; rfl)
     clear hi3
     go_wp2_with fail
     refine (only_k 5 _).mono ?_
     rintro e w7 ⟨rfl, hb7⟩
     have HB7 := Zac (Zad (Zaa HB3) hb7 (Zaa HB3).size)
     clear hb7
     unfold flt
     have HRR := Zac (((Zaa HB7).block (w.heap.size + 1 + 1) (by have := Zaa HZ; omega)).trans (Zaa HR3))
     have HBR := Zac (Zad (Zaa HW) (Zaa HB7) (by have := Zaa HZ; omega))
     go_wp2_with (refine wpList_store_row rfl 37 (.tmp 4) _ rfl (w.heap.size + 1 + 1) #[.int .i64 5, .int .i64 (-1), .int .i64 (-1), .int .i64 (-1)] rfl rfl 37 _ (Zaa HRR) (Tryz.infRFlt.trans rfl) rfl (by simp [Value.oneCell']) ?_)
     refine bodyPost_ret (resultsK (fn := Tryz.f11) (q := 4) (uy := 37) rfl _ _ (w.heap.size + 1 + 1) 37 #[.int .i64 5, .int .i64 (-1), .int .i64 (-1), .int .i64 (-1)] (0, 0) _ rfl (setRow_heap _ _ _ _ _ _ (Zaa HRR)) Tryz.underlying37 rfl (Tryz.infRFlt.trans rfl)) rfl ?_
     exact ⟨by rw [Zaa hc], Zag (Zaa HBR) (by omega)⟩
    | true =>
     have HCB := Zac (show countsB p = true by unfold countsB; rw [Zaa HI1, hi3, decide_eq_true hi2]; rfl)
     have hz := Zaa HZ
     have hrp := ((Zaa HB3).block (w.heap.size + 1) (by omega)).trans (Zaa HR2)
     have p0 := (Zab hrp 0).trans rfl
     clear hi3 hrp hz
     go_wp2_with fail
     clear p0
     go_loopw [38] (fun j w' => ∃ k : Nat, j = .int .i64 k ∧ k ≤ p.funcs.length ∧ Below W.heap.size W w' ∧ ∀ q, q < k → headB r (ownL sp lk t0 t1) (p.funcs.getD q Zaj) = true) (fun j _ => p.funcs.length - (intOf j).toNat)
     case atStart => exact ⟨0, rfl, by omega, Zaa HB3, fun q hq => by omega⟩
     case round =>
      obtain ⟨k, rfl, hk, hbw, hno⟩ := hrel
      have HNO := Zac hno
      clear hno
      by_cases hk2 : k < p.funcs.length
      ·
       obtain ⟨p', cap', he, -, hcc⟩ := (Zaa HP).fs.fives
       injection he with j1 j2 j3
       subst j1 j3
       obtain ⟨sb, so, rfl, hslt, hcel⟩ := hcc (by omega)
       have hfc := (Zaa HP).feach k hk2
       have hgd : p.funcs[k] = p.funcs.getD k Zaj := by simp [List.getD, hk2]
       rw [hgd] at hfc
       have HBAD := Zac (fun hb : headB r (ownL sp lk t0 t1) (p.funcs.getD k Zaj) = false => show chkB (tabB r sp lk t0 t1 ag rs ss al sh by_) r (ownL sp lk t0 t1) p = ⟨5, k, -1, -1⟩ by rw [Zaa HTB]; unfold chkB; rw [Zaa HCB, firstN_some (ok := fun k => headB r (ownL sp lk t0 t1) (p.funcs.getD k Zaj)) (Zaa HNO) hk2 hb]; rfl)
       have HNX := Zac (fun hb : headB r (ownL sp lk t0 t1) (p.funcs.getD k Zaj) = true => Zal (q := fun q => headB r (ownL sp lk t0 t1) (p.funcs.getD q Zaj)) (Zaa HNO) hb)
       have hpk := Zaa HPL k
       generalize p.funcs.getD k Zaj = f at hfc HBAD HNX hpk
       obtain ⟨gv, hv, sv, bv, B, hA, hfd⟩ := hfc
       have HFD := Zac hfd
       obtain ⟨gp, gc, rfl⟩ := hfd.ps.shape
       obtain ⟨hp, hc, rfl⟩ := hfd.hs.shape
       obtain ⟨xp, xc, rfl⟩ := hfd.ss.shape
       obtain ⟨yp, yc, rfl⟩ := hfd.bs.shape
       have hck := hcel k hk2
       rw [hA] at hck
       have k0 := (hbw.cell hslt).trans (hck 0 _ rfl)
       have k1 := (hbw.cell hslt).trans (hck 1 _ rfl)
       have k2 := (hbw.cell hslt).trans (hck 2 _ rfl)
       have k3 := (hbw.cell hslt).trans (hck 3 _ rfl)
       have k4 := (hbw.cell hslt).trans (hck 4 _ rfl)
       rw [Nat.add_zero] at k0
       have hws := hbw.size
       have hz := Zaa HZ
       have hrB := (hbw.block w.heap.size (by omega)).trans (Zaa HR1)
       have b0 := fun X : Obj => (row_al hrB 0 X).trans rfl
       have b1 := fun X : Obj => (row_al hrB 1 X).trans rfl
       have b2 := fun X : Obj => (row_al hrB 2 X).trans rfl
       have b3 := fun X : Obj => (row_al hrB 3 X).trans rfl
       have b4 := fun X : Obj => (row_al hrB 4 X).trans rfl
       have b5 := fun X : Obj => (row_al hrB 5 X).trans rfl
       have b6 := fun X : Obj => (row_al hrB 6 X).trans rfl
       have b7 := fun X : Obj => (row_al hrB 7 X).trans rfl
       have b8 := fun X : Obj => (row_al hrB 8 X).trans rfl
       have b9 := fun X : Obj => (row_al hrB 9 X).trans rfl
       have b10 := fun X : Obj => (row_al hrB 10 X).trans rfl
       have b11 := fun X : Obj => (row_al hrB 11 X).trans rfl
       have HBW := Zac hbw
       clear hbw hfd hck hcc hcel hA hgd j2 hrB
       go_wp2_with fail
       clear k0 k1 k2 k3 k4
       clear b0
       clear b1
       clear b2
       clear b3
       clear b4
       clear b5
       clear b6
       clear b7
       clear b8
       clear b9
       clear b10
       clear b11
       have hy := al0 wr (.cells #[.slice gp f.params.length gc, .int .i64 f.results, .slice hp f.homes.length hc, .slice xp f.slots.length xc, .slice yp f.blocks.length yc] 70 (0, 0))
       have hbU := Zad (Zaa HBW) hy.2.1 hws
       refine (header_c r sp lk t0 t1 (.slice pva ag.length cva) (.slice pvr rs.length cvr) (.slice pvs ss.length cvs) al sh by_ pr f (.slice gp f.params.length gc) (.slice hp f.homes.length hc) (.slice xp f.slots.length xc) (.slice yp f.blocks.length yc) B _ (Zaa HR) ((Zaa HFD).below hbU) hpk).mono ?_
       rintro e w5 ⟨rfl, hb5⟩
       have HB5 := Zac (Zad hbU hb5 hbU.size)
       clear hb5 hy hbU
       cases hhb : headB r (ownL sp lk t0 t1) f with
       | false =>
        have hc := Zac (Zaa HBAD hhb)
        clear hhb
        have HRR := Zac (((Zaa HB5).block (w.heap.size + 1 + 1) (by have := Zaa HZ; omega)).trans (Zaa HR3))
        have HBR := Zac (Zad (Zaa HW) (Zaa HB5) (by have := Zaa HZ; omega))
        go_wp2_with (refine wpList_store_row rfl 37 (.tmp 4) _ rfl (w.heap.size + 1 + 1) #[.int .i64 5, .int .i64 k, .int .i64 (-1), .int .i64 (-1)] rfl rfl 37 _ (Zaa HRR) (Tryz.infRFlt.trans rfl) rfl (by simp [Value.oneCell']) ?_)
        refine bodyPost_ret (resultsK (fn := Tryz.f11) (q := 4) (uy := 37) rfl _ _ (w.heap.size + 1 + 1) 37 #[.int .i64 5, .int .i64 k, .int .i64 (-1), .int .i64 (-1)] (0, 0) _ rfl (setRow_heap _ _ _ _ _ _ (Zaa HRR)) Tryz.underlying37 rfl (Tryz.infRFlt.trans rfl)) rfl ?_
        exact ⟨by rw [Zaa hc], Zag (Zaa HBR) (by omega)⟩
       | true =>
        have hz2 := Zac (Zaa HNX hhb)
        clear hhb
        go_wp2
        go_roundw
        case rel => exact ⟨k + 1, by go_num, by omega, Zaa HB5, Zaa hz2⟩
        case measure => simp [intOf]; omega
      ·
       have HHD := Zac (show ∀ q, q < p.funcs.length → headB r (ownL sp lk t0 t1) (p.funcs.getD q Zaj) = true from fun q hq => Zaa HNO q (by omega))
       obtain rfl : k = p.funcs.length := by omega
       have HBW := Zac hbw
       have hz := Zaa HZ
       have hrp := (hbw.block (w.heap.size + 1) (by omega)).trans (Zaa HR2)
       have p0 := (Zab hrp 0).trans rfl
       clear hbw hrp hz HNO
       go_wp2_with fail
       clear p0
       generalize hwz : wr = Va at HBW ⊢
       clear hwz
       go_loopw [53] (fun j w' => ∃ k : Nat, j = .int .i64 k ∧ k ≤ p.funcs.length ∧ Below W.heap.size W w' ∧ ∀ q, q < k → bodyB p (p.funcs.getD q Zaj) = true) (fun j _ => p.funcs.length - (intOf j).toNat)
       case atStart => exact ⟨0, rfl, by omega, Zaa HBW, fun q hq => by omega⟩
       case round =>
        clear HBW
        obtain ⟨k, rfl, hk, hbw, hno⟩ := hrel
        have HNO := Zac hno
        clear hno
        by_cases hk2 : k < p.funcs.length
        ·
         obtain ⟨p', cap', he, -, hcc⟩ := (Zaa HP).fs.fives
         injection he with j1 j2 j3
         subst j1 j3
         obtain ⟨sb, so, rfl, hslt, hcel⟩ := hcc (by omega)
         have hfc := (Zaa HP).feach k hk2
         have hgd : p.funcs[k] = p.funcs.getD k Zaj := by simp [List.getD, hk2]
         rw [hgd] at hfc
         have HCH := Zac (show chkB (tabB r sp lk t0 t1 ag rs ss al sh by_) r (ownL sp lk t0 t1) p = match firstN p.funcs.length (fun k => bodyB p (p.funcs.getD k Zaj)) with | some k => ⟨5, k, (wrongB p (p.funcs.getD k Zaj)).1, (wrongB p (p.funcs.getD k Zaj)).2⟩ | none => ⟨0, -1, -1, -1⟩ by rw [Zaa HTB]; unfold chkB; rw [Zaa HCB, firstN_none (ok := fun k => headB r (ownL sp lk t0 t1) (p.funcs.getD k Zaj)) (Zaa HHD)]; rfl)
         have HBAD := Zac (fun hb : bodyB p (p.funcs.getD k Zaj) = false => show chkB (tabB r sp lk t0 t1 ag rs ss al sh by_) r (ownL sp lk t0 t1) p = ⟨5, k, (wrongB p (p.funcs.getD k Zaj)).1, (wrongB p (p.funcs.getD k Zaj)).2⟩ by rw [Zaa HCH, firstN_some (ok := fun k => bodyB p (p.funcs.getD k Zaj)) (Zaa HNO) hk2 hb])
         have HNX := Zac (fun hb : bodyB p (p.funcs.getD k Zaj) = true => Zal (q := fun q => bodyB p (p.funcs.getD q Zaj)) (Zaa HNO) hb)
         have HFIT := Zac (fitD_of (Zaa HCB) (Zaa HHD) k hk2)
         have HFS := Zac (fitS_of (Zaa HCB) (Zaa HHD))
         have HNF := Zac ((Zaa HNN) k)
         generalize p.funcs.getD k Zaj = f at hfc HBAD HNX HFIT HNF
         obtain ⟨gv, hv, sv, bv, B, hA, hfd⟩ := hfc
         have HFD := Zac hfd
         obtain ⟨gp, gc, rfl⟩ := hfd.ps.shape
         obtain ⟨hp, hc, rfl⟩ := hfd.hs.shape
         obtain ⟨xp, xc, rfl⟩ := hfd.ss.shape
         obtain ⟨yp, yc, rfl⟩ := hfd.bs.shape
         have hck := hcel k hk2
         rw [hA] at hck
         have k0 := (hbw.cell hslt).trans (hck 0 _ rfl)
         have k1 := (hbw.cell hslt).trans (hck 1 _ rfl)
         have k2 := (hbw.cell hslt).trans (hck 2 _ rfl)
         have k3 := (hbw.cell hslt).trans (hck 3 _ rfl)
         have k4 := (hbw.cell hslt).trans (hck 4 _ rfl)
         rw [Nat.add_zero] at k0
         have hws := hbw.size
         have hz := Zaa HZ
         have hl3 : f.blocks.length < 9223372036854775808 := by obtain ⟨_, _, _, _, h, _⟩ := hfd.bs; exact h
         have HBW := Zac hbw
         clear hbw hfd hck hcc hcel hA hgd j2
         go_wp2_with fail
         clear k0 k1 k2 k3 k4
         have hy := al0 wr (.cells #[.slice gp f.params.length gc, .int .i64 f.results, .slice hp f.homes.length hc, .slice xp f.slots.length xc, .slice yp f.blocks.length yc] 70 (0, 0))
         have HBV := Zac (Zad (Zaa HBW) hy.2.1 hws)
         have HFR := Zac hy.1
         have hTf := hy.2.2
         have hws2 : w.heap.size + 1 + 1 < wr.heap.size := by omega
         clear hy
         generalize wr.heap.size = Tf at HFR hTf hws hws2 ⊢
         generalize World.alloc wr _ = V0 at HBV HFR hTf ⊢
         have hTV : Tf < V0.heap.size := by omega
         clear HBW
         go_loopw [61] (fun j w' => ∃ k : Nat, j = .int .i64 k ∧ k ≤ f.blocks.length ∧ Below V0.heap.size V0 w' ∧ ∀ q, q < k → blkB p f q = true) (fun j _ => f.blocks.length - (intOf j).toNat)
         case atStart => exact ⟨0, rfl, by omega, Below.refl _ _, fun q hq => by omega⟩
         case round =>
          obtain ⟨kb, rfl, hkb, hbb, hnb⟩ := hrel
          have HNB := Zac hnb
          clear hnb
          have hbz := hbb.size
          have hV0W := (Zaa HBV).size
          by_cases hkb2 : kb < f.blocks.length
          ·
           obtain ⟨p2, cap2, he2, -, -, hcb⟩ := ((Zaa HFD).below (Zaa HBV)).bs.ones
           injection he2 with i1 i2 i3
           subst i1 i3
           obtain ⟨sb2, so2, rfl, hc2⟩ := hcb (by omega)
           have c0 := (hbb.cell (World.block_lt_of_cell? V0 _ (hc2 kb hkb2))).trans (hc2 kb hkb2)
           have hblk := ((Zaa HFD).below (Zaa HBV)).each kb hkb2
           have hgd : f.blocks[kb] = f.blocks.getD kb [] := by simp [List.getD, hkb2]
           rw [hgd] at hblk
           have HOK := Zac (fun j => show okAt p f kb j = insB p f ((f.blocks.getD kb []).getD j noIns) (decide (j + 1 = (f.blocks.getD kb []).length)) from rfl)
           have HBB := Zac (show blkB p f kb = upB (f.blocks.getD kb []).length (okAt p f kb) from rfl)
           have HNJ := Zac ((Zaa HNF) kb)
           have HWR := Zac (fun (hb : blkB p f kb = false) => show wrongB p f = ((kb : Int), (((firstN (f.blocks.getD kb []).length (okAt p f kb)).getD 0 : Nat) : Int)) by unfold wrongB; rw [firstN_some (Zaa HNB) hkb2 hb])
           generalize f.blocks.getD kb [] = bl at hblk HOK HBB HNJ HWR
           obtain ⟨Ai, hls, hins⟩ := hblk
           obtain ⟨pl, cl, hBk, hll, hlc⟩ := hls.eights
           rw [hBk] at c0
           have HLC := Zac hlc
           have HINS := Zac hins
           have HBQ := Zac hbb
           clear hcb hc2 hgd hls hlc hins hbb hBk i2
           go_wp2_with fail
           clear c0
           generalize hwr : wr = V1 at HBQ hbz ⊢
           clear hwr
           go_loopw [68] (fun j w' => ∃ m : Nat, j = .int .i64 m ∧ m ≤ bl.length ∧ Below V1.heap.size V1 w' ∧ ∀ q, q < m → okAt p f kb q = true) (fun j _ => bl.length - (intOf j).toNat)
           case atStart => exact ⟨0, rfl, by omega, Below.refl _ _, fun q hq => by omega⟩
           case round =>
            obtain ⟨m, rfl, hm, hbm, hmo⟩ := hrel
            have HMO := Zac hmo
            clear hmo
            have hVm : Below V0.heap.size V0 wr := Zad (Zaa HBQ) hbm hbz
            have hmz := hbm.size
            by_cases hm2 : m < bl.length
            ·
             obtain ⟨sl, sx, rfl, hslt2, hcell⟩ := Zaa HLC (by omega)
             have hic := Zaa HINS m hm2
             have hgm : bl[m] = bl.getD m noIns := by simp [List.getD, hm2]
             rw [hgm] at hic
             have HOM := Zac ((Zaa HOK) m)
             have HNM := Zac ((Zaa HNJ) m)
             generalize bl.getD m noIns = i at hic HOM HNM
             obtain ⟨av, ov, hAi, hav, hov⟩ := hic
             have HAV := Zac hav
             have HOV := Zac hov
             obtain ⟨pa, ca, rfl⟩ := hav.shape
             obtain ⟨po, co, rfl⟩ := hov.shape
             have hcm := hcell m hm2
             rw [hAi] at hcm
             have k0 := (hVm.cell hslt2).trans (hcm 0 _ rfl)
             have k1 := (hVm.cell hslt2).trans (hcm 1 _ rfl)
             have k2 := (hVm.cell hslt2).trans (hcm 2 _ rfl)
             have k3 := (hVm.cell hslt2).trans (hcm 3 _ rfl)
             have k4 := (hVm.cell hslt2).trans (hcm 4 _ rfl)
             have k5 := (hVm.cell hslt2).trans (hcm 5 _ rfl)
             have k6 := (hVm.cell hslt2).trans (hcm 6 _ rfl)
             have k7 := (hVm.cell hslt2).trans (hcm 7 _ rfl)
             rw [Nat.add_zero] at k0
             have hz := Zaa HZ
             have hrP := (hVm.block (w.heap.size + 1) (by omega)).trans (((Zaa HBV).block (w.heap.size + 1) (by omega)).trans (Zaa HR2))
             have hrF := (hVm.block Tf (by omega)).trans (Zaa HFR)
             have b0 := fun X : Obj => (row_al hrP 0 X).trans rfl
             have b1 := fun X : Obj => (row_al hrP 1 X).trans rfl
             have r0 := fun X : Obj => (row_al hrF 0 X).trans rfl
             have r1 := fun X : Obj => (row_al hrF 1 X).trans rfl
             have r2 := fun X : Obj => (row_al hrF 2 X).trans rfl
             have r3 := fun X : Obj => (row_al hrF 3 X).trans rfl
             have r4 := fun X : Obj => (row_al hrF 4 X).trans rfl
             have hlast : ((m : Int) == (bl.length : Int) - 1) = decide (m + 1 = bl.length) := by
              rw [show ((m : Int) == (bl.length : Int) - 1) = decide ((m : Int) = (bl.length : Int) - 1) from rfl]
              exact decide_eq_decide.2 (by omega)
             have HVM := Zac hVm
             have HBM := Zac hbm
             clear hcm hcell hrP hrF hVm hbm hAi hav hov hgm hz
             generalize hld : decide (m + 1 = bl.length) = last at hlast HOM
             clear hld
             go_wp2_with fail
             clear k0 k1 k2 k3 k4 k5 k6 k7 b0 b1 r0 r1 r2 r3 r4
             have hy := al0 wr (.cells #[.int .i64 i.op, .int .i64 i.d, .int .i64 i.a, .int .i64 i.bb, .int .u64 i.n, .int .i64 i.f, .slice pa i.args.length ca, .slice po i.outs.length co] 76 (0, 0))
             have hbU := Zad (Zaa HVM) hy.2.1 (Zaa HVM).size
             have hbX := Zad (Zaa HBV) hbU hV0W
             refine (right_c p f i.op i.d i.a i.bb i.n i.f i.args i.outs last _ _ _ _ _ _ _ _ A E B _ ⟨(Zaa HP).below hbX, (Zaa HFD).below hbX⟩ ((Zaa HAV).below hbU) ((Zaa HOV).below hbU) (Zaa HFIT) (Zaa HFS) (Zaa HNM)).mono ?_
             rintro e w5 ⟨rfl, hb5⟩
             have HU := Zac (Zad (Zad (Zaa HBM) hy.2.1 hmz) hb5 (by have := hy.2.2; omega))
             have HU2 := Zac (Zad hbX hb5 hbX.size)
             clear hb5 hy hbU hbX
             have hfi0 : insB p f ⟨i.op, i.d, i.a, i.bb, i.n, i.f, i.args, i.outs⟩ last = insB p f i last := rfl
             rw [hfi0]
             clear hfi0
             cases hfi : insB p f i last with
             | false =>
              have hokf := (Zaa HOM).trans hfi
              have hbf : blkB p f kb = false := by rw [Zaa HBB]; exact upB_false hm2 hokf
              have hwx : wrongB p f = ((kb : Int), (m : Int)) := by rw [Zaa HWR hbf, firstN_some (Zaa HMO) hm2 hokf]; rfl
              have hc := Zac (show chkB (tabB r sp lk t0 t1 ag rs ss al sh by_) r (ownL sp lk t0 t1) p = ⟨5, k, kb, m⟩ by rw [Zaa HBAD (upB_false hkb2 hbf), hwx])
              clear hfi hokf hbf hwx
              have HRR := Zac (((Zaa HU2).block (w.heap.size + 1 + 1) (by have := Zaa HZ; omega)).trans (Zaa HR3))
              have HBR := Zac (Zad (Zaa HW) (Zaa HU2) (by have := Zaa HZ; omega))
              go_wp2_with (refine wpList_store_row rfl 37 (.tmp 4) _ rfl (w.heap.size + 1 + 1) #[.int .i64 5, .int .i64 k, .int .i64 kb, .int .i64 m] rfl rfl 37 _ (Zaa HRR) (Tryz.infRFlt.trans rfl) rfl (by simp [Value.oneCell']) ?_)
              refine bodyPost_ret (resultsK (fn := Tryz.f11) (q := 4) (uy := 37) rfl _ _ (w.heap.size + 1 + 1) 37 #[.int .i64 5, .int .i64 k, .int .i64 kb, .int .i64 m] (0, 0) _ rfl (setRow_heap _ _ _ _ _ _ (Zaa HRR)) Tryz.underlying37 rfl (Tryz.infRFlt.trans rfl)) rfl ?_
              exact ⟨by rw [Zaa hc], Zag (Zaa HBR) (by omega)⟩
             | true =>
              have hx := Zac (Zal (Zaa HMO) ((Zaa HOM).trans hfi))
              clear hfi
              go_wp2
              go_roundw
              case rel => exact ⟨m + 1, by go_num, by omega, Zaa HU, Zaa hx⟩
              case measure => simp [intOf]; omega
            ·
             have hx := Zac (Zal (q := blkB p f) (Zaa HNB) (by rw [Zaa HBB]; exact upB_true (fun q hq => Zaa HMO q (by omega))))
             obtain rfl : m = bl.length := by omega
             have HVM := Zac hVm
             clear hVm hbm
             go_wp2
             go_roundw
             case rel => exact ⟨kb + 1, by go_num, by omega, Zaa HVM, Zaa hx⟩
             case measure => simp [intOf]; omega
          ·
           have hx := Zac (Zaa HNX (upB_true (fun q hq => Zaa HNB q (by omega))))
           obtain rfl : kb = f.blocks.length := by omega
           have HVM := Zac (Zad (Zaa HBV) hbb hV0W)
           clear hbb
           go_wp2
           go_roundw
           case rel => exact ⟨k + 1, by go_num, by omega, Zaa HVM, Zaa hx⟩
           case measure => simp [intOf]; omega
        ·
         have hc := Zac (show chkB (tabB r sp lk t0 t1 ag rs ss al sh by_) r (ownL sp lk t0 t1) p = ⟨0, -1, -1, -1⟩ by rw [Zaa HTB]; unfold chkB; rw [Zaa HCB, firstN_none (ok := fun k => headB r (ownL sp lk t0 t1) (p.funcs.getD k Zaj)) (Zaa HHD), firstN_none (ok := fun k => bodyB p (p.funcs.getD k Zaj)) (fun q hq => Zaa HNO q (by omega))]; rfl)
         obtain rfl : k = p.funcs.length := by omega
         have HBW := Zac hbw
         clear hbw
         go_wp2_with fail
         refine (fine_k _).mono ?_
         rintro e w7 ⟨rfl, hb7⟩
         have HB7 := Zac (Zad (Zaa HBW) hb7 (Zaa HBW).size)
         clear hb7
         unfold flt
         have HRR := Zac (((Zaa HB7).block (w.heap.size + 1 + 1) (by have := Zaa HZ; omega)).trans (Zaa HR3))
         have HBR := Zac (Zad (Zaa HW) (Zaa HB7) (by have := Zaa HZ; omega))
         go_wp2_with (refine wpList_store_row rfl 37 (.tmp 4) _ rfl (w.heap.size + 1 + 1) #[.int .i64 0, .int .i64 (-1), .int .i64 (-1), .int .i64 (-1)] rfl rfl 37 _ (Zaa HRR) (Tryz.infRFlt.trans rfl) rfl (by simp [Value.oneCell']) ?_)
         refine bodyPost_ret (resultsK (fn := Tryz.f11) (q := 4) (uy := 37) rfl _ _ (w.heap.size + 1 + 1) 37 #[.int .i64 0, .int .i64 (-1), .int .i64 (-1), .int .i64 (-1)] (0, 0) _ rfl (setRow_heap _ _ _ _ _ _ (Zaa HRR)) Tryz.underlying37 rfl (Tryz.infRFlt.trans rfl)) rfl ?_
         exact ⟨by rw [Zaa hc], Zag (Zaa HBR) (by omega)⟩
   ·
    have hc := Zac (show chkB (tabB r sp lk t0 t1 ag rs ss al sh by_) r (ownL sp lk t0 t1) p = ⟨5, -1, -1, -1⟩ by rw [Zaa HTB]; unfold chkB; rw [show countsB p = false by unfold countsB; rw [decide_eq_false hi2]; simp]; rfl)
    have hng : 4 < p.externs.length := by omega
    go_wp2_with fail
    refine (only_k 5 _).mono ?_
    rintro e w7 ⟨rfl, hb7⟩
    have HB7 := Zac (Zad (Zaa HB2) hb7 (Zaa HB2).size)
    clear hb7
    unfold flt
    have HRR := Zac (((Zaa HB7).block (w.heap.size + 1 + 1) (by have := Zaa HZ; omega)).trans (Zaa HR3))
    have HBR := Zac (Zad (Zaa HW) (Zaa HB7) (by have := Zaa HZ; omega))
    go_wp2_with (refine wpList_store_row rfl 37 (.tmp 4) _ rfl (w.heap.size + 1 + 1) #[.int .i64 5, .int .i64 (-1), .int .i64 (-1), .int .i64 (-1)] rfl rfl 37 _ (Zaa HRR) (Tryz.infRFlt.trans rfl) rfl (by simp [Value.oneCell']) ?_)
    refine bodyPost_ret (resultsK (fn := Tryz.f11) (q := 4) (uy := 37) rfl _ _ (w.heap.size + 1 + 1) 37 #[.int .i64 5, .int .i64 (-1), .int .i64 (-1), .int .i64 (-1)] (0, 0) _ rfl (setRow_heap _ _ _ _ _ _ (Zaa HRR)) Tryz.underlying37 rfl (Tryz.infRFlt.trans rfl)) rfl ?_
    exact ⟨by rw [Zaa hc], Zag (Zaa HBR) (by omega)⟩
end Go.Proofs.YtffemeicclhioaaGreatDoor

