/-
 Checks: prologueref.right, for the operations 1, 2, 3, 10, 14, 15, 16, 18. Own work of the verifier.
-/
import Derived.Test.YtffemeicclhioaaGreatDoorJ15
namespace Go.Proofs.YtffemeicclhioaaGreatDoor
open Go.RowKit

set_option maxHeartbeats 16000000 in
set_option maxRecDepth 100000 in
theorem righta_c (p : ProgE) (f : FuncE) (op d a bb n fx : Int) (gs : List (Int × Int)) (os : List Int) (last : Bool) (fv ev pv hv sv bv av ov : Value) (A E : Nat → Array Value) (B : Nat → Value) (w : World) (hSC : ScD w p f fv ev pv hv sv bv A E B) (ha : LS 2 w av gs.length (fun k => pairA (gs.getD k (0, 0)))) (ho : Li w ov os) (hF : FitD p f) (hn : 0 ≤ n ∧ n < 18446744073709551616) (hg : (op = 1) ∨ (op = 2) ∨ (3 ≤ op ∧ op ≤ 9) ∨ (10 ≤ op ∧ op ≤ 11) ∨ (op = 14) ∨ (op = 15) ∨ (op = 16) ∨ (op = 18)) (hel : decide (14 ≤ op) = last) :
 Calls Tryz.prog 23 #[.agg #[fv, ev], .agg #[pv, .int .i64 f.results, hv, sv, bv], .agg #[.int .i64 op, .int .i64 d, .int .i64 a, .int .i64 bb, .int .u64 n, .int .i64 fx, av, ov], .bool last] w fun e w' => e = .returned (.bool (insB p f ⟨op, d, a, bb, n, fx, gs, os⟩ last)) ∧ Below w.heap.size w w' := by
 have HSC := Zac hSC
 have HA := Zac ha
 have HO := Zac ho
 have HF := Zac hF
 have HNN := Zac hn
 have hl1 : f.homes.length < 9223372036854775808 := hSC.func.hs.lt
 have hl2 : f.slots.length < 9223372036854775808 := hSC.func.ss.lt
 have hl3 : f.blocks.length < 9223372036854775808 := by obtain ⟨_, _, _, _, h, _⟩ := hSC.func.bs; exact h
 have hl4 : p.funcs.length < 9223372036854775808 := by obtain ⟨_, _, _, _, h, _⟩ := hSC.prog.fs; exact h
 have hl5 : p.externs.length < 9223372036854775808 := by obtain ⟨_, _, _, _, h, _⟩ := hSC.prog.es; exact h
 have hl6 : os.length < 9223372036854775808 := ho.lt
 have hl7 : gs.length < 9223372036854775808 := by obtain ⟨_, _, _, _, h, _⟩ := ha; exact h
 obtain ⟨pf, cf, rfl⟩ := hSC.prog.fs.shape
 obtain ⟨pe, ce, rfl⟩ := hSC.prog.es.shape
 obtain ⟨pp, cp, rfl⟩ := hSC.func.ps.shape
 obtain ⟨ph, ch, rfl⟩ := hSC.func.hs.shape
 obtain ⟨ps, cs, rfl⟩ := hSC.func.ss.shape
 obtain ⟨pb, cb, rfl⟩ := hSC.func.bs.shape
 obtain ⟨pa, ca, rfl⟩ := ha.shape
 obtain ⟨po, co, rfl⟩ := ho.shape
 clear hSC ha ho hF hn
 have HB3 := Zac (fun X Y Z : Obj => show Below w.heap.size w (((w.alloc X).alloc Y).alloc Z) from (((Below.refl w.heap.size w).alloc (Nat.le_refl _) X).alloc (by simp) Y).alloc (by simp; omega) Z)
 have HB4 := Zac (fun X Y Z U : Obj => show Below w.heap.size w ((((w.alloc X).alloc Y).alloc Z).alloc U) from (Zaa HB3 X Y Z).alloc (by simp; omega) U)
 have hop : 1 ≤ op ∧ op ≤ 18 := by omega
 have HG := Zac hg
 clear hg
 ·
  skip
  ·
   have hin : inB op 1 18 = true := by unfold inB; exact decide_eq_true hop
   have hne : (last != last) = false := by simp
   have HINS := Zac (show insB p f ⟨op, d, a, bb, n, fx, gs, os⟩ last = (!(InsE.spare ⟨op, d, a, bb, n, fx, gs, os⟩) && Zai p f ⟨op, d, a, bb, n, fx, gs, os⟩) by
    unfold insB
    simp only [hin, hel, Bool.true_and]
    simp)
   obtain ⟨hop1, hop2⟩ := hop
   go_enter Tryz.func23, Tryz.ntmps23
   go_wp2_with fail
   refine (rin_c op 1 18 _).mono ?_
   rintro e w5 ⟨rfl, h5⟩
   subst w5
   rw [hin]
   go_upto_if 56 with fail
   clear hin hne hel
   have hst : RSk (((((w.alloc (.cells #[.slice pf p.funcs.length cf, .slice pe p.externs.length ce] 29 (0, 0))).alloc (.cells #[.slice pp f.params.length cp, .int .i64 f.results, .slice ph f.homes.length ch, .slice ps f.slots.length cs, .slice pb f.blocks.length cb] 70 (0, 0))).alloc (.cells #[.int .i64 op, .int .i64 d, .int .i64 a, .int .i64 bb, .int .u64 n, .int .i64 fx, .slice pa gs.length ca, .slice po os.length co] 76 (0, 0))).alloc (.cells #[.string ⟨#[]⟩, .bool false] 108 (0, 0))).alloc (.cells #[.int .i64 op, .int .i64 (d.tmod 2), .int .i64 (a.tmod 2), .int .i64 (bb.tmod 2), .int .u64 n, .int .i64 (fx.tmod 2), .slice pa gs.length ca, .slice po os.length co] 76 (0, 0))) (((((w.alloc (.cells #[.slice pf p.funcs.length cf, .slice pe p.externs.length ce] 29 (0, 0))).alloc (.cells #[.slice pp f.params.length cp, .int .i64 f.results, .slice ph f.homes.length ch, .slice ps f.slots.length cs, .slice pb f.blocks.length cb] 70 (0, 0))).alloc (.cells #[.int .i64 op, .int .i64 d, .int .i64 a, .int .i64 bb, .int .u64 n, .int .i64 fx, .slice pa gs.length ca, .slice po os.length co] 76 (0, 0))).alloc (.cells #[.string ⟨#[]⟩, .bool false] 108 (0, 0))).alloc (.cells #[.int .i64 op, .int .i64 (d.tmod 2), .int .i64 (a.tmod 2), .int .i64 (bb.tmod 2), .int .u64 n, .int .i64 (fx.tmod 2), .slice pa gs.length ca, .slice po os.length co] 76 (0, 0))) (w.heap.size + 1 + 1 + 1 + 1) #[.int .i64 op, .int .i64 (d.tmod 2), .int .i64 (a.tmod 2), .int .i64 (bb.tmod 2), .int .u64 n, .int .i64 (fx.tmod 2), .slice pa gs.length ca, .slice po os.length co] := ⟨Below.refl _ _, by have := heap_alloc_new ((((w.alloc (.cells #[.slice pf p.funcs.length cf, .slice pe p.externs.length ce] 29 (0, 0))).alloc (.cells #[.slice pp f.params.length cp, .int .i64 f.results, .slice ph f.homes.length ch, .slice ps f.slots.length cs, .slice pb f.blocks.length cb] 70 (0, 0))).alloc (.cells #[.int .i64 op, .int .i64 d, .int .i64 a, .int .i64 bb, .int .u64 n, .int .i64 fx, .slice pa gs.length ca, .slice po os.length co] 76 (0, 0))).alloc (.cells #[.string ⟨#[]⟩, .bool false] 108 (0, 0))) (.cells #[.int .i64 op, .int .i64 (d.tmod 2), .int .i64 (a.tmod 2), .int .i64 (bb.tmod 2), .int .u64 n, .int .i64 (fx.tmod 2), .slice pa gs.length ca, .slice po os.length co] 76 (0, 0)); simpa using this⟩
   have hW5 := Zaa HB4 (.cells #[.slice pf p.funcs.length cf, .slice pe p.externs.length ce] 29 (0, 0)) (.cells #[.slice pp f.params.length cp, .int .i64 f.results, .slice ph f.homes.length ch, .slice ps f.slots.length cs, .slice pb f.blocks.length cb] 70 (0, 0)) (.cells #[.int .i64 op, .int .i64 d, .int .i64 a, .int .i64 bb, .int .u64 n, .int .i64 fx, .slice pa gs.length ca, .slice po os.length co] 76 (0, 0)) (.cells #[.string ⟨#[]⟩, .bool false] 108 (0, 0))
   have hrows := rows5 w (.cells #[.slice pf p.funcs.length cf, .slice pe p.externs.length ce] 29 (0, 0)) (.cells #[.slice pp f.params.length cp, .int .i64 f.results, .slice ph f.homes.length ch, .slice ps f.slots.length cs, .slice pb f.blocks.length cb] 70 (0, 0)) (.cells #[.int .i64 op, .int .i64 d, .int .i64 a, .int .i64 bb, .int .u64 n, .int .i64 fx, .slice pa gs.length ca, .slice po os.length co] 76 (0, 0)) (.cells #[.string ⟨#[]⟩, .bool false] 108 (0, 0)) (.cells #[.int .i64 op, .int .i64 (d.tmod 2), .int .i64 (a.tmod 2), .int .i64 (bb.tmod 2), .int .u64 n, .int .i64 (fx.tmod 2), .slice pa gs.length ca, .slice po os.length co] 76 (0, 0))
   have hW := hW5.alloc (by simp; omega) (.cells #[.int .i64 op, .int .i64 (d.tmod 2), .int .i64 (a.tmod 2), .int .i64 (bb.tmod 2), .int .u64 n, .int .i64 (fx.tmod 2), .slice pa gs.length ca, .slice po os.length co] 76 (0, 0))
   generalize World.alloc (World.alloc (World.alloc (World.alloc (World.alloc w _) _) _) _) _ = W at hst hrows hW ⊢
   obtain ⟨hR0, hR1, hR2, hR3, hZ⟩ := hrows
   have HR0 := Zac hR0
   have HR1 := Zac hR1
   have HR2 := Zac hR2
   have HR3 := Zac hR3
   have HZ := Zac hZ
   have HW := Zac hW
   have HST := Zac hst
   clear hR0 hR1 hR2 hR3 hZ hW hW5 hst HB3 HB4
   go_cut [] from 54 to 57 (fun wc => RSk W wc (w.heap.size + 1 + 1 + 1 + 1) #[.int .i64 op, .int .i64 (nz d), .int .i64 (a.tmod 2), .int .i64 (bb.tmod 2), .int .u64 n, .int .i64 (fx.tmod 2), .slice pa gs.length ca, .slice po os.length co])
   case first =>
    have y0 := ((Zaa HST).cell 1).trans rfl
    have y1 := (Zaa HST).fz 1
    by_cases hz : d = 0
    ·
     have zz : (d != 0) = false := by simp [hz]
     have HS2 := Zac (show RSk W _ (w.heap.size + 1 + 1 + 1 + 1) #[.int .i64 op, .int .i64 (nz d), .int .i64 (a.tmod 2), .int .i64 (bb.tmod 2), .int .u64 n, .int .i64 (fx.tmod 2), .slice pa gs.length ca, .slice po os.length co] by have h := Zaa HST; rw [show (d.tmod 2) = nz d by unfold nz; rw [hz]; rfl] at h; exact h)
     clear y0 y1
     go_wp2
     go_meet
     case rel => exact Zaa HS2
    ·
     have zz : (d != 0) = true := by simpa using hz
     have HS2 := Zac (show RSk W _ (w.heap.size + 1 + 1 + 1 + 1) #[.int .i64 op, .int .i64 (nz d), .int .i64 (a.tmod 2), .int .i64 (bb.tmod 2), .int .u64 n, .int .i64 (fx.tmod 2), .slice pa gs.length ca, .slice po os.length co] by have h := (Zaa HST).set 1 (.int .i64 1); rw [show nz d = 1 by unfold nz; rw [if_neg hz]]; exact h)
     clear hz
     go_wp2
     go_meet
     case rel => exact Zaa HS2
   case rest =>
    clear HST
    have HST := Zac hcut
    clear hcut
    have hlt4 : w.heap.size + 1 + 1 < w.heap.size + 1 + 1 + 1 + 1 := by omega
    clear hlt4
    have xr := (Zab ((Zaa HST).low_row (by omega) (Zaa HR2)) 2).trans rfl
    go_upto_if 60 with fail
    clear xr
    go_cut [] from 58 to 61 (fun wc => RSk W wc (w.heap.size + 1 + 1 + 1 + 1) #[.int .i64 op, .int .i64 (nz d), .int .i64 (nz a), .int .i64 (bb.tmod 2), .int .u64 n, .int .i64 (fx.tmod 2), .slice pa gs.length ca, .slice po os.length co])
    case first =>
     have y0 := ((Zaa HST).cell 2).trans rfl
     have y1 := (Zaa HST).fz 2
     by_cases hz : a = 0
     ·
      have zz : (a != 0) = false := by simp [hz]
      have HS2 := Zac (show RSk W _ (w.heap.size + 1 + 1 + 1 + 1) #[.int .i64 op, .int .i64 (nz d), .int .i64 (nz a), .int .i64 (bb.tmod 2), .int .u64 n, .int .i64 (fx.tmod 2), .slice pa gs.length ca, .slice po os.length co] by have h := Zaa HST; rw [show (a.tmod 2) = nz a by unfold nz; rw [hz]; rfl] at h; exact h)
      clear y0 y1
      go_wp2
      go_meet
      case rel => exact Zaa HS2
     ·
      have zz : (a != 0) = true := by simpa using hz
      have HS2 := Zac (show RSk W _ (w.heap.size + 1 + 1 + 1 + 1) #[.int .i64 op, .int .i64 (nz d), .int .i64 (nz a), .int .i64 (bb.tmod 2), .int .u64 n, .int .i64 (fx.tmod 2), .slice pa gs.length ca, .slice po os.length co] by have h := (Zaa HST).set 2 (.int .i64 1); rw [show nz a = 1 by unfold nz; rw [if_neg hz]]; exact h)
      clear hz
      go_wp2
      go_meet
      case rel => exact Zaa HS2
    case rest =>
     clear HST
     have HST := Zac hcut
     clear hcut
     have hlt4 : w.heap.size + 1 + 1 < w.heap.size + 1 + 1 + 1 + 1 := by omega
     clear hlt4
     have xr := (Zab ((Zaa HST).low_row (by omega) (Zaa HR2)) 3).trans rfl
     go_upto_if 64 with fail
     clear xr
     go_cut [] from 62 to 65 (fun wc => RSk W wc (w.heap.size + 1 + 1 + 1 + 1) #[.int .i64 op, .int .i64 (nz d), .int .i64 (nz a), .int .i64 (nz bb), .int .u64 n, .int .i64 (fx.tmod 2), .slice pa gs.length ca, .slice po os.length co])
     case first =>
      have y0 := ((Zaa HST).cell 3).trans rfl
      have y1 := (Zaa HST).fz 3
      by_cases hz : bb = 0
      ·
       have zz : (bb != 0) = false := by simp [hz]
       have HS2 := Zac (show RSk W _ (w.heap.size + 1 + 1 + 1 + 1) #[.int .i64 op, .int .i64 (nz d), .int .i64 (nz a), .int .i64 (nz bb), .int .u64 n, .int .i64 (fx.tmod 2), .slice pa gs.length ca, .slice po os.length co] by have h := Zaa HST; rw [show (bb.tmod 2) = nz bb by unfold nz; rw [hz]; rfl] at h; exact h)
       clear y0 y1
       go_wp2
       go_meet
       case rel => exact Zaa HS2
      ·
       have zz : (bb != 0) = true := by simpa using hz
       have HS2 := Zac (show RSk W _ (w.heap.size + 1 + 1 + 1 + 1) #[.int .i64 op, .int .i64 (nz d), .int .i64 (nz a), .int .i64 (nz bb), .int .u64 n, .int .i64 (fx.tmod 2), .slice pa gs.length ca, .slice po os.length co] by have h := (Zaa HST).set 3 (.int .i64 1); rw [show nz bb = 1 by unfold nz; rw [if_neg hz]]; exact h)
       clear hz
       go_wp2
       go_meet
       case rel => exact Zaa HS2
     case rest =>
      clear HST
      have HST := Zac hcut
      clear hcut
      have hlt4 : w.heap.size + 1 + 1 < w.heap.size + 1 + 1 + 1 + 1 := by omega
      clear hlt4
      have xr := (Zab ((Zaa HST).low_row (by omega) (Zaa HR2)) 5).trans rfl
      go_upto_if 68 with fail
      clear xr
      go_cut [] from 66 to 69 (fun wc => RSk W wc (w.heap.size + 1 + 1 + 1 + 1) #[.int .i64 op, .int .i64 (nz d), .int .i64 (nz a), .int .i64 (nz bb), .int .u64 n, .int .i64 (nz fx), .slice pa gs.length ca, .slice po os.length co])
      case first =>
       have y0 := ((Zaa HST).cell 5).trans rfl
       have y1 := (Zaa HST).fz 5
       by_cases hz : fx = 0
       ·
        have zz : (fx != 0) = false := by simp [hz]
        have HS2 := Zac (show RSk W _ (w.heap.size + 1 + 1 + 1 + 1) #[.int .i64 op, .int .i64 (nz d), .int .i64 (nz a), .int .i64 (nz bb), .int .u64 n, .int .i64 (nz fx), .slice pa gs.length ca, .slice po os.length co] by have h := Zaa HST; rw [show (fx.tmod 2) = nz fx by unfold nz; rw [hz]; rfl] at h; exact h)
        clear y0 y1
        go_wp2
        go_meet
        case rel => exact Zaa HS2
       ·
        have zz : (fx != 0) = true := by simpa using hz
        have HS2 := Zac (show RSk W _ (w.heap.size + 1 + 1 + 1 + 1) #[.int .i64 op, .int .i64 (nz d), .int .i64 (nz a), .int .i64 (nz bb), .int .u64 n, .int .i64 (nz fx), .slice pa gs.length ca, .slice po os.length co] by have h := (Zaa HST).set 5 (.int .i64 1); rw [show nz fx = 1 by unfold nz; rw [if_neg hz]]; exact h)
        clear hz
        go_wp2
        go_meet
        case rel => exact Zaa HS2
      case rest =>
       clear HST
       have HST := Zac hcut
       clear hcut
       have hlt4 : w.heap.size + 1 + 1 < w.heap.size + 1 + 1 + 1 + 1 := by omega
       clear hlt4
       have y6 := ((Zaa HST).cell 6).trans rfl
       have y7 := ((Zaa HST).cell 7).trans rfl
       have g6 := (Zaa HST).fz 6
       have g7 := (Zaa HST).fz 7
       have hs2 := ((Zaa HST).set 6 (.slice none 0 0)).set 7 (.slice none 0 0)
       have x0 := (Zab (hs2.low_row (by omega) (Zaa HR2)) 0).trans rfl
       have HS2 := Zac hs2
       clear hs2
       go_wp2_with fail
       clear y6 y7 g6 g7 x0
       have hs3 : RSk W _ (w.heap.size + 1 + 1 + 1 + 1) #[.int .i64 op, .int .i64 (nz d), .int .i64 (nz a), .int .i64 (nz bb), .int .u64 n, .int .i64 (nz fx), .slice none 0 0, .slice none 0 0] := Zaa HS2
       generalize World.setCell (World.setCell wc _ _) _ _ = V1 at hs3 ⊢
       have HST := Zac hs3
       clear hs3 HS2
       refine (shape_c op V1).mono ?_
       rintro e w5 ⟨rfl, h5⟩
       subst w5
       obtain ⟨s, hs⟩ : ∃ s, s = shapeB op := ⟨_, rfl⟩
       rw [← hs]
       obtain ⟨ls, hls⟩ : ∃ ls, ls = s.data.toList := ⟨_, rfl⟩
       have HS := Zac hs
       have HLS := Zac hls
       have hsl : ls.length = s.size := by rw [hls]; exact Array.length_toList
       have hs4 : s.size ≤ 4 := by have h := shapeLs_le op; rw [← hsl, hls, hs]; exact h
       have HSL := Zac hsl
       clear hs hls hsl
       go_wp2_with fail
       have hV1z := (Zaa HST).low.size
       have hTI : w.heap.size + 1 + 1 + 1 + 1 < V1.heap.size := row_lt (Zaa HST).row
       have HIT := Zac (show (V1.iter s 0).heap[V1.heap.size]? = some (.stringIter s 0) from heap_alloc_new V1 _)
       have HST1 := Zac (show RSk W (V1.iter s 0) (w.heap.size + 1 + 1 + 1 + 1) #[.int .i64 op, .int .i64 (nz d), .int .i64 (nz a), .int .i64 (nz bb), .int .u64 (zn [] n), .int .i64 (nz fx), .slice none 0 0, .slice none 0 0] from ⟨Zad (Zaa HST).low ((al0 V1 (.stringIter s 0)).2.1) (by omega), ((al0 V1 (.stringIter s 0)).2.1.block _ hTI).trans (by have h := (Zaa HST).row; rw [show zn ([] : List UInt8) n = n from rfl]; exact h)⟩)
       clear HST hV1z
       generalize hTT : V1.heap.size = TI at HIT hTI ⊢
       clear hTT
       go_loopw [] (fun wr => ∃ q : Nat, q ≤ s.size ∧ RSk W wr (w.heap.size + 1 + 1 + 1 + 1) #[.int .i64 op, .int .i64 (nz d), .int .i64 (nz a), .int .i64 (nz bb), .int .u64 (zn (ls.take q) n), .int .i64 (nz fx), .slice none 0 0, .slice none 0 0] ∧ wr.heap[TI]? = some (.stringIter s q)) (fun wr => s.size - wr.iterPos TI)
       case atStart => exact ⟨0, by omega, by rw [List.take_zero]; exact Zaa HST1, Zaa HIT⟩
       case round =>
        obtain ⟨q, hq, hrs, hit⟩ := hrel
        have hm := iterPos_of hit
        clear HST1 HIT
        by_cases hp : q < s.size
        ·
         have hxl : q < ls.length := by rw [Zaa HSL]; exact hp
         have hmem : ls[q] ∈ Zao op := by
          have h2 : ls = Zao op := by rw [Zaa HLS, Zaa HS]; rfl
          exact (show ∀ x, x ∈ ls → x ∈ Zao op from fun x hx => h2 ▸ hx) _ (List.getElem_mem hxl)
         have hget : s[q]'hp = ls[q] := by
          have := Zaa HLS
          subst this
          rfl
         have htk : ls.take (q + 1) = ls.take q ++ [ls[q]] := List.take_succ_eq_append_getElem hxl
         have hlet := shape_letters op _ hmem
         generalize ls[q] = c at hget htk hlet
         have hc128 : c.toNat < 128 := by rcases hlet with rfl | rfl | rfl | rfl | rfl | rfl | rfl | rfl | rfl <;> decide
         have hnx : ∀ ty, (Instr.next (.pointer (some ⟨TI, 0, none⟩)) true ty).run Tryz.prog wr = .ok (.tuple #[.bool true, .int .i64 q, .int .i32 c.toNat]) (wr.iterAt TI s (q + 1)) := fun ty => by
          have := Lib.run_next_ascii_at (P := Tryz.prog) wr TI s q ty hit hp (by rw [hget]; exact hc128)
          rw [hget] at this
          exact this
         have hrs2 : RSk W (wr.iterAt TI s (q + 1)) (w.heap.size + 1 + 1 + 1 + 1) #[.int .i64 op, .int .i64 (nz d), .int .i64 (nz a), .int .i64 (nz bb), .int .u64 (zn (ls.take q) n), .int .i64 (nz fx), .slice none 0 0, .slice none 0 0] := ⟨⟨hrs.low.os, hrs.low.tape, hrs.low.output, by rw [Lib.iterAt_size]; exact hrs.low.size, fun g hg => (Lib.iterAt_other _ _ _ _ _ (by omega)).trans (hrs.low.block g hg)⟩, (Lib.iterAt_other _ _ _ _ _ (by omega)).trans hrs.row⟩
         have hit2 := Lib.iterAt_heap wr TI s q (q + 1) hit
         obtain ⟨u, hu⟩ : ∃ u, u = wr.iterAt TI s (q + 1) := ⟨_, rfl⟩
         rw [← hu] at hnx hrs2 hit2
         by_cases hcn : c = 110
         ·
          subst hcn
          have y4 := (hrs2.cell 4).trans rfl
          have g4 := hrs2.fz 4
          have HZ2 := Zac (show RSk W (u.setCell ⟨w.heap.size + 1 + 1 + 1 + 1, 4, none⟩ (.int .u64 0)) (w.heap.size + 1 + 1 + 1 + 1) #[.int .i64 op, .int .i64 (nz d), .int .i64 (nz a), .int .i64 (nz bb), .int .u64 (zn (ls.take (q + 1)) n), .int .i64 (nz fx), .slice none 0 0, .slice none 0 0] by have h := hrs2.set 4 (.int .u64 0); rw [show zn (ls.take (q + 1)) n = 0 by rw [htk]; unfold zn; simp]; exact h)
          have HI2 := Zac (show (u.setCell ⟨w.heap.size + 1 + 1 + 1 + 1, 4, none⟩ (.int .u64 0)).heap[TI]? = some (.stringIter s (q + 1)) from (heap_setCell_other _ _ _ _ (by show TI ≠ w.heap.size + 1 + 1 + 1 + 1; omega)).trans hit2)
          clear hu hrs hrs2 hit hit2 htk hget hmem hlet
          go_wp2
          go_roundw
          case rel => exact ⟨q + 1, hp, Zaa HZ2, Zaa HI2⟩
          case measure => rw [hm, iterPos_of (Zaa HI2)]; omega
         ·
          have z110 : ((c.toNat : Int) == 110) = false := by simp; intro h; exact hcn (UInt8.toNat_inj.1 (by rw [show (110 : UInt8).toNat = 110 from rfl]; omega))
          have HZ2 := Zac (show RSk W u (w.heap.size + 1 + 1 + 1 + 1) #[.int .i64 op, .int .i64 (nz d), .int .i64 (nz a), .int .i64 (nz bb), .int .u64 (zn (ls.take (q + 1)) n), .int .i64 (nz fx), .slice none 0 0, .slice none 0 0] by have h := hrs2; rw [show zn (ls.take (q + 1)) n = zn (ls.take q) n by rw [htk]; unfold zn; simp [Ne.symm hcn]]; exact h)
          have HI2 := Zac hit2
          clear hu hrs hrs2 hit hit2 htk hget hmem hlet hcn
          go_wp2
          go_roundw
          case rel => exact ⟨q + 1, hp, Zaa HZ2, Zaa HI2⟩
          case measure => rw [hm, iterPos_of (Zaa HI2)]; omega
        ·
         obtain rfl : q = s.size := by omega
         have htl : ls.take s.size = ls := by rw [← Zaa HSL]; exact List.take_length
         rw [htl] at hrs
         have hnx : ∀ ty, (Instr.next (.pointer (some ⟨TI, 0, none⟩)) true ty).run Tryz.prog wr = _ := fun ty => Lib.run_next_end_at wr TI s _ ty hit hp
         have y0 := (hrs.cell 0).trans rfl
         have y1 := (hrs.cell 1).trans rfl
         have y2 := (hrs.cell 2).trans rfl
         have y3 := (hrs.cell 3).trans rfl
         have y4 := (hrs.cell 4).trans rfl
         have y5 := (hrs.cell 5).trans rfl
         have y6 := (hrs.cell 6).trans rfl
         have y7 := (hrs.cell 7).trans rfl
         have HRS := Zac hrs
         clear hrs hm htl hit
         have HN0 := Zac (show 0 ≤ zn ls n ∧ zn ls n < 18446744073709551616 by have h := Zaa HNN; unfold zn; split; exact ⟨by omega, by omega⟩; exact h)
         generalize hn0 : zn ls n = n0 at HRS y4 HN0
         have HNE := Zac hn0
         clear hn0
         go_wp2_with fail
         clear y0 y1 y2 y3 y4 y5 y6 y7 hnx
         have hpen := (Zaa HRS).low_row (g := w.heap.size + 1 + 1 + 1) (by omega) (Zaa HR3)
         have hPn : Pn wr (w.heap.size + 1 + 1 + 1) [] false := ⟨(Zab hpen 0).trans rfl, (Zab hpen 1).trans rfl, frozen_of_row _ _ 0 _ _ hpen, frozen_of_row _ _ 1 _ _ hpen⟩
         refine (pins_c (w.heap.size + 1 + 1 + 1) [] false ⟨op, nz d, nz a, nz bb, n0, nz fx, [], []⟩ _ _ wr hPn (by have h := penIns_le ⟨op, nz d, nz a, nz bb, n0, nz fx, [], []⟩; simp only [mIns, List.length_nil] at h ⊢; omega) (Zaa HN0) [] rfl (by simp) (Or.inl ⟨rfl, none, 0, rfl⟩) (Or.inl ⟨rfl, none, 0, rfl⟩)).mono ?_
         rintro e w2 ⟨rfl, hpn, hgb⟩
         have hz4 : w.heap.size + 1 + 1 + 1 + 1 < wr.heap.size := row_lt (Zaa HRS).row
         have hgz := hgb.size
         have keep : ∀ g o, g < w.heap.size + 1 + 1 + 1 → W.heap[g]? = some o → w2.heap[g]? = some o := fun g o hg h => (hgb.block g (by omega) (by intro e; injection e with e; omega)).trans ((Zaa HRS).low_row (by omega) h)
         have HQ0 := Zac (keep _ _ (by omega) (Zaa HR0))
         have HQ1 := Zac (keep _ _ (by omega) (Zaa HR1))
         have HQ2 := Zac (keep _ _ (by omega) (Zaa HR2))
         have HPN := Zac hpn
         have HZ4 := Zac (show w.heap.size + 1 + 1 + 1 + 1 < w2.heap.size by omega)
         have HBW := Zac (show Below w.heap.size w w2 from ⟨hgb.os.trans ((Zaa HRS).low.os.trans (Zaa HW).os), hgb.tape.trans ((Zaa HRS).low.tape.trans (Zaa HW).tape), hgb.output.trans ((Zaa HRS).low.output.trans (Zaa HW).output), by omega, fun g hg => (hgb.block g (by omega) (by intro e; injection e with e; omega)).trans (((Zaa HRS).low.block g (by omega)).trans ((Zaa HW).block g hg))⟩)
         have x6 := (Zab (Zaa HQ2) 6).trans rfl
         have x7 := (Zab (Zaa HQ2) 7).trans rfl
         clear hpn hgb hpen hPn keep hgz hz4 HRS
         go_wp2_with fail
         clear x6 x7
         obtain ⟨rB, bB, sB⟩ := al0 w2 (.cells #[.int .u8 82, .int .i64 gs.length, .int .u8 79, .int .i64 os.length] 111 (0, 0))
         generalize World.alloc w2 _ = W3 at rB bB sB ⊢
         have HRB := Zac rB
         have HBB := Zac bB
         have hW3 : w2.heap.size < W3.heap.size := by omega
         generalize hTB : w2.heap.size = TB at HRB hW3 ⊢
         have HTB := Zac hTB
         clear rB bB sB hTB
         go_loopw [96] (fun j w' => ∃ k : Nat, j = .int .i64 k ∧ k ≤ 2 ∧ Below W3.heap.size W3 w' ∧ ∀ q, q < k → okc ls gs.length os.length q = true) (fun j _ => 2 - (intOf j).toNat)
         case atStart => exact ⟨0, rfl, by omega, Below.refl _ _, fun q hq => by omega⟩
         case round =>
          obtain ⟨k, rfl, hk, hbw, hno⟩ := hrel
          have HNO := Zac hno
          have HBK := Zac hbw
          have hkz := hbw.size
          clear hno
          have hk3 : k = 0 ∨ k = 1 ∨ k = 2 := by omega
          rcases hk3 with rfl | rfl | rfl
          ·
           have hrow := (hbw.block TB hW3).trans (Zaa HRB)
           have k0 := (Zab hrow 0).trans rfl
           have k1 := (Zab hrow 1).trans rfl
           clear hbw hrow
           go_wp2_with fail
           obtain ⟨rE, bE, sE⟩ := al0 wr (.cells #[.int .u8 82, .int .i64 gs.length] 111 (0, 0))
           generalize hTx : wr.heap.size = Tx at rE sE ⊢
           generalize World.alloc wr _ = U at rE bE sE ⊢
           have q0 := (Zab rE 0).trans rfl
           have q1 := (Zab rE 1).trans rfl
           have HBE := Zac (Zad (Zaa HBK) bE hkz)
           clear rE bE k0 k1 hTx sE
           go_loopw [16, 17] (fun t j w' => ∃ i m : Nat, j = .int .i64 i ∧ i ≤ s.size ∧ t = .bool ((ls.take i).contains 82) ∧ w' = U.drewN m) (fun _ j _ => s.size - (intOf j).toNat)
           case atStart => exact ⟨0, 0, rfl, by omega, rfl, rfl⟩
           case round =>
            obtain ⟨i, m, rfl, hi, rfl, hwm⟩ := hrel
            subst hwm
            by_cases hi2 : i < s.size
            ·
             have hil : i < ls.length := by rw [Zaa HSL]; exact hi2
             have hget : s[i]'hi2 = ls[i] := by
              have := Zaa HLS
              subst this
              rfl
             have htk : ls.take (i + 1) = ls.take i ++ [ls[i]] := List.take_succ_eq_append_getElem hil
             cases ht : (ls.take i).contains 82 with
             | true =>
              have HTK := Zac (show (ls.take (i + 1)).contains 82 = true by rw [htk]; simp only [List.contains_eq_mem, List.mem_append, decide_eq_true_eq]; left; simpa using ht)
              clear htk hget ht
              go_wp2_with fail
              go_quiet (fail)
              go_wp2
              go_roundw
              case rel => exact ⟨i + 1, _, by go_num, by omega, by rw [Zaa HTK], rfl⟩
              case measure => simp [intOf]; omega
             | false =>
              have HTK := Zac (show ((((s[i]'hi2).toNat : Int) == 82) = (ls.take (i + 1)).contains 82) by rw [htk, cont_snoc _ _ _ ht, ← hget]; exact (u8_eq _ 82).symm)
              clear htk hget ht
              go_wp2_with fail
              go_quiet (fail)
              go_wp2
              go_roundw
              case rel => exact ⟨i + 1, _, by go_num, by omega, congrArg Value.bool (Zaa HTK), rfl⟩
              case measure => simp [intOf]; omega
            ·
             obtain rfl : i = s.size := by omega
             have htl : ls.take s.size = ls := by rw [← Zaa HSL]; exact List.take_length
             rw [htl]
             clear htl
             have HU := Zac (Zah (Zaa HBE) m)
             cases hct : ls.contains 82 with
             | true =>
              have hz := Zac (Zal (q := okc ls gs.length os.length) (Zaa HNO) (okc0_t hct))
              clear hct
              by_cases hcnt : 0 < gs.length
              ·
               go_wp2
               go_roundw
               case rel => exact ⟨1, by go_num, by omega, Zaa HU, Zaa hz⟩
               case measure => simp [intOf]
              ·
               go_wp2
               go_roundw
               case rel => exact ⟨1, by go_num, by omega, Zaa HU, Zaa hz⟩
               case measure => simp [intOf]
             | false =>
              by_cases hcnt : 0 < gs.length
              ·
               have HSPR := Zac (spare_list0 hop1 hop2 (show ls = Zao op by rw [Zaa HLS, Zaa HS]; rfl) hct hcnt : InsE.spare ⟨op, d, a, bb, n, fx, gs, os⟩ = true)
               have hz := Zac (show insB p f ⟨op, d, a, bb, n, fx, gs, os⟩ last = false by rw [Zaa HINS, Zaa HSPR]; rfl)
               clear hct
               go_wp2
               go_ret
               exact ⟨by rw [Zaa hz]; rfl, Zad (Zaa HBW) (Zad (Zaa HBB) (Zaa HU) (by have := Zaa HTB; omega)) (by have := Zaa HZ4; omega)⟩
              ·
               have hz := Zac (Zal (q := okc ls gs.length os.length) (Zaa HNO) (okc0_n hcnt))
               clear hct
               go_wp2
               go_roundw
               case rel => exact ⟨1, by go_num, by omega, Zaa HU, Zaa hz⟩
               case measure => simp [intOf]
          ·
           have hrow := (hbw.block TB hW3).trans (Zaa HRB)
           have k0 := (Zab hrow 2).trans rfl
           have k1 := (Zab hrow 3).trans rfl
           clear hbw hrow
           go_wp2_with fail
           obtain ⟨rE, bE, sE⟩ := al0 wr (.cells #[.int .u8 79, .int .i64 os.length] 111 (0, 0))
           generalize hTx : wr.heap.size = Tx at rE sE ⊢
           generalize World.alloc wr _ = U at rE bE sE ⊢
           have q0 := (Zab rE 0).trans rfl
           have q1 := (Zab rE 1).trans rfl
           have HBE := Zac (Zad (Zaa HBK) bE hkz)
           clear rE bE k0 k1 hTx sE
           go_loopw [16, 17] (fun t j w' => ∃ i m : Nat, j = .int .i64 i ∧ i ≤ s.size ∧ t = .bool ((ls.take i).contains 79) ∧ w' = U.drewN m) (fun _ j _ => s.size - (intOf j).toNat)
           case atStart => exact ⟨0, 0, rfl, by omega, rfl, rfl⟩
           case round =>
            obtain ⟨i, m, rfl, hi, rfl, hwm⟩ := hrel
            subst hwm
            by_cases hi2 : i < s.size
            ·
             have hil : i < ls.length := by rw [Zaa HSL]; exact hi2
             have hget : s[i]'hi2 = ls[i] := by
              have := Zaa HLS
              subst this
              rfl
             have htk : ls.take (i + 1) = ls.take i ++ [ls[i]] := List.take_succ_eq_append_getElem hil
             cases ht : (ls.take i).contains 79 with
             | true =>
              have HTK := Zac (show (ls.take (i + 1)).contains 79 = true by rw [htk]; simp only [List.contains_eq_mem, List.mem_append, decide_eq_true_eq]; left; simpa using ht)
              clear htk hget ht
              go_wp2_with fail
              go_quiet (fail)
              go_wp2
              go_roundw
              case rel => exact ⟨i + 1, _, by go_num, by omega, by rw [Zaa HTK], rfl⟩
              case measure => simp [intOf]; omega
             | false =>
              have HTK := Zac (show ((((s[i]'hi2).toNat : Int) == 79) = (ls.take (i + 1)).contains 79) by rw [htk, cont_snoc _ _ _ ht, ← hget]; exact (u8_eq _ 79).symm)
              clear htk hget ht
              go_wp2_with fail
              go_quiet (fail)
              go_wp2
              go_roundw
              case rel => exact ⟨i + 1, _, by go_num, by omega, congrArg Value.bool (Zaa HTK), rfl⟩
              case measure => simp [intOf]; omega
            ·
             obtain rfl : i = s.size := by omega
             have htl : ls.take s.size = ls := by rw [← Zaa HSL]; exact List.take_length
             rw [htl]
             clear htl
             have HU := Zac (Zah (Zaa HBE) m)
             cases hct : ls.contains 79 with
             | true =>
              have hz := Zac (Zal (q := okc ls gs.length os.length) (Zaa HNO) (okc1_t hct))
              clear hct
              by_cases hcnt : 0 < os.length
              ·
               go_wp2
               go_roundw
               case rel => exact ⟨2, by go_num, by omega, Zaa HU, Zaa hz⟩
               case measure => simp [intOf]
              ·
               go_wp2
               go_roundw
               case rel => exact ⟨2, by go_num, by omega, Zaa HU, Zaa hz⟩
               case measure => simp [intOf]
             | false =>
              by_cases hcnt : 0 < os.length
              ·
               have HSPR := Zac (spare_list1 hop1 hop2 (show ls = Zao op by rw [Zaa HLS, Zaa HS]; rfl) hct hcnt : InsE.spare ⟨op, d, a, bb, n, fx, gs, os⟩ = true)
               have hz := Zac (show insB p f ⟨op, d, a, bb, n, fx, gs, os⟩ last = false by rw [Zaa HINS, Zaa HSPR]; rfl)
               clear hct
               go_wp2
               go_ret
               exact ⟨by rw [Zaa hz]; rfl, Zad (Zaa HBW) (Zad (Zaa HBB) (Zaa HU) (by have := Zaa HTB; omega)) (by have := Zaa HZ4; omega)⟩
              ·
               have hz := Zac (Zal (q := okc ls gs.length os.length) (Zaa HNO) (okc1_n hcnt))
               clear hct
               go_wp2
               go_roundw
               case rel => exact ⟨2, by go_num, by omega, Zaa HU, Zaa hz⟩
               case measure => simp [intOf]
          ·
           have hpn := (Zaa HPN)
           have hp3 : w.heap.size + 1 + 1 + 1 < W3.heap.size := by have := Zaa HZ4; have := Zaa HTB; omega
           have hbW : Below w2.heap.size w2 wr := Zad (Zaa HBB) hbw (by have := Zaa HTB; omega)
           have pc := (hbW.cell (p := ⟨w.heap.size + 1 + 1 + 1, 1, none⟩) (by have := Zaa HZ4; show w.heap.size + 1 + 1 + 1 < w2.heap.size; omega)).trans hpn.c1
           have HOKA := Zac ((Zaa HNO) 0 (by omega))
           have HOKB := Zac ((Zaa HNO) 1 (by omega))
           have HBV := Zac hbW
           have HVZ := Zac (show w.heap.size + 1 + 1 + 1 + 1 < wr.heap.size by have := Zaa HZ4; have := hbW.size; omega)
           clear hpn hbw hbW hp3
           have HBAD := Zac (bad_eq (d := d) (a := a) (bb := bb) (n := n) (fx := fx) (gs := gs) (os := os) hop1 hop2 (show ls = Zao op by rw [Zaa HLS, Zaa HS]; rfl) (Zaa HNE) (Zaa HOKA) (Zaa HOKB))
           rw [Bool.false_or, Zaa HBAD] at pc
           cases hsp : InsE.spare ⟨op, d, a, bb, n, fx, gs, os⟩ with
           | true =>
            rw [hsp] at pc
            have hz := Zac (show insB p f ⟨op, d, a, bb, n, fx, gs, os⟩ last = false by rw [Zaa HINS, hsp]; rfl)
            clear hsp
            go_wp2
            go_ret
            exact ⟨by rw [Zaa hz]; rfl, Zad (Zaa HBW) (Zaa HBV) (by have := Zaa HZ4; omega)⟩
           | false =>
            rw [hsp] at pc
            have HFIN := Zac (show insB p f ⟨op, d, a, bb, n, fx, gs, os⟩ last = Zai p f ⟨op, d, a, bb, n, fx, gs, os⟩ by rw [Zaa HINS, hsp]; rfl)
            clear hsp
            have HQA := Zac (((Zaa HBV).block _ (by have := Zaa HZ4; omega)).trans (Zaa HQ0))
            have HQB := Zac (((Zaa HBV).block _ (by have := Zaa HZ4; omega)).trans (Zaa HQ1))
            have HQC := Zac (((Zaa HBV).block _ (by have := Zaa HZ4; omega)).trans (Zaa HQ2))
            have HB9 := Zac (Zad (Zaa HBW) (Zaa HBV) (by have := Zaa HZ4; omega))
            have HVW := Zac (show w.heap.size < wr.heap.size by have := Zaa HVZ; omega)
            clear HQ0 HQ1 HQ2 HR0 HR1 HR2 HR3 HPN HBB HBK HNO HOKA HOKB HBAD HRB HTB
            have x0 := (Zab (Zaa HQC) 0).trans rfl
            have x1 := (Zab (Zaa HQC) 1).trans rfl
            have x2 := (Zab (Zaa HQC) 2).trans rfl
            have x3 := (Zab (Zaa HQC) 3).trans rfl
            have x4 := (Zab (Zaa HQC) 4).trans rfl
            have x5 := (Zab (Zaa HQC) 5).trans rfl
            have x6 := (Zab (Zaa HQC) 6).trans rfl
            have x7 := (Zab (Zaa HQC) 7).trans rfl
            have f0 := (Zab (Zaa HQB) 0).trans rfl
            have f1 := (Zab (Zaa HQB) 1).trans rfl
            have f2 := (Zab (Zaa HQB) 2).trans rfl
            have f3 := (Zab (Zaa HQB) 3).trans rfl
            have f4 := (Zab (Zaa HQB) 4).trans rfl
            rcases Zaa HG with hg | hg | hg | hg | hg | hg | hg | hg
            ·
             obtain rfl := hg
             skip
             go_wp2_with fail
             refine (rlocal_c f _ _ _ _ _ _ [d] _ ⟨_, _, rfl⟩ hl1 (Li.list (w := wr) [d] (by show 1 < short; decide))).mono ?_
             rintro e w8 ⟨rfl, hb8⟩
             have HB8 := Zac (Zad (al0 wr (.cells (([d] : List Int).map fun n => Value.int .i64 n).toArray 3 (0, 0))).2.1 hb8 (by simp))
             clear hb8
             rw [localsB_1]
             go_wp2
             go_ret
             exact ⟨by rw [Zaa HFIN]; rfl, Zad (Zaa HB9) (Zaa HB8) (by have := Zaa HVW; omega)⟩
            ·
             obtain rfl := hg
             skip
             go_wp2_with fail
             refine (rlocal_c f _ _ _ _ _ _ [d, a] _ ⟨_, _, rfl⟩ hl1 (Li.list (w := wr) [d, a] (by show 2 < short; decide))).mono ?_
             rintro e w8 ⟨rfl, hb8⟩
             have HB8 := Zac (Zad (al0 wr (.cells (([d, a] : List Int).map fun n => Value.int .i64 n).toArray 3 (0, 0))).2.1 hb8 (by simp))
             clear hb8
             rw [localsB_2]
             go_wp2
             go_ret
             exact ⟨by rw [Zaa HFIN]; rfl, Zad (Zaa HB9) (Zaa HB8) (by have := Zaa HVW; omega)⟩
            ·
             skip
             obtain ⟨g3, g9⟩ := hg
             have z1 : (op == 1) = false := by simp; omega
             have z2 : (op == 2) = false := by simp; omega
             have HF3 := Zac (show Zai p f ⟨op, d, a, bb, n, fx, gs, os⟩ = (localB f d && (localB f a && localB f bb)) by unfold Zai; simp only; rw [if_neg (by omega), if_neg (by omega), if_neg (by omega), if_neg (by omega), if_neg (by omega), if_neg (by omega), if_neg (by omega), if_neg (by omega), if_neg (by omega), if_neg (by omega)])
             go_wp2_with fail
             refine (rlocal_c f _ _ _ _ _ _ [d, a, bb] _ ⟨_, _, rfl⟩ hl1 (Li.list (w := wr) [d, a, bb] (by show 3 < short; decide))).mono ?_
             rintro e w8 ⟨rfl, hb8⟩
             have HB8 := Zac (Zad (al0 wr (.cells (([d, a, bb] : List Int).map fun n => Value.int .i64 n).toArray 3 (0, 0))).2.1 hb8 (by simp))
             clear hb8
             rw [localsB_3]
             go_wp2
             go_ret
             exact ⟨by rw [Zaa HFIN, Zaa HF3]; rfl, Zad (Zaa HB9) (Zaa HB8) (by have := Zaa HVW; omega)⟩
            ·
             skip
             obtain ⟨g10, g11⟩ := hg
             have z1 : (op == 1) = false := by simp; omega
             have z2 : (op == 2) = false := by simp; omega
             have HF0 := Zac (show Zai p f ⟨op, d, a, bb, n, fx, gs, os⟩ = (localB f d && slotB f ⟨op, d, a, bb, n, fx, gs, os⟩) by unfold Zai; simp only; rw [if_neg (by omega), if_neg (by omega), if_pos (by omega)])
             go_wp2_with fail
             refine (rlocal_c f _ _ _ _ _ _ [d] _ ⟨_, _, rfl⟩ hl1 (Li.list (w := wr) [d] (by show 1 < short; decide))).mono ?_
             rintro e w8 ⟨rfl, hb8⟩
             have HB8 := Zac (Zad (al0 wr (.cells (([d] : List Int).map fun n => Value.int .i64 n).toArray 3 (0, 0))).2.1 hb8 (by simp))
             clear hb8
             rw [localsB_1]
             have hrow := ((Zaa HB8).block _ (by have := Zaa HVZ; omega)).trans (Zaa HQB)
             have hroX := ((Zaa HB8).block _ (by have := Zaa HVZ; omega)).trans (Zaa HQC)
             have m3 := (Zab hrow 3).trans rfl
             have n2 := (Zab hroX 2).trans rfl
             have n3 := (Zab hroX 3).trans rfl
             have n4 := (Zab hroX 4).trans rfl
             clear hrow hroX
             cases hd : localB f d with
             | false =>
              have hz := Zac (show Zai p f ⟨op, d, a, bb, n, fx, gs, os⟩ = false by rw [Zaa HF0, hd]; rfl)
              clear hd
              go_wp2
              go_ret
              exact ⟨by rw [Zaa HFIN, Zaa hz]; rfl, Zad (Zaa HB9) (Zaa HB8) (by have := Zaa HVW; omega)⟩
             | true =>
              have HD := Zac hd
              clear hd
              go_wp2_with fail
              refine (rin_c a 0 (f.slots.length - 1) _).mono ?_
              rintro e w9 ⟨rfl, h9⟩
              subst w9
              cases hia : inB a 0 (f.slots.length - 1) with
              | false =>
               have hz := Zac (show Zai p f ⟨op, d, a, bb, n, fx, gs, os⟩ = false by rw [Zaa HF0, slotB_false1 (f := f) (i := ⟨op, d, a, bb, n, fx, gs, os⟩) hia]; simp)
               clear hia
               go_wp2
               go_ret
               exact ⟨by rw [Zaa HFIN, Zaa hz]; rfl, Zad (Zaa HB9) (Zaa HB8) (by have := Zaa HVW; omega)⟩
              | true =>
               by_cases hwd : n = 1 ∨ n = 2 ∨ n = 4 ∨ n = 8
               ·
                have ha := hia
                unfold inB at ha
                obtain ⟨g0, g1⟩ := of_decide_eq_true ha
                obtain ⟨m, rfl⟩ : ∃ m : Nat, a = m := ⟨a.toNat, by omega⟩
                have hm : m < f.slots.length := by omega
                have hsb : inB (f.slots.getD m 0) 1 8 = true := upB_get (Zaa HF).slots hm
                unfold inB at hsb
                obtain ⟨s0, s1⟩ := of_decide_eq_true hsb
                obtain ⟨p', cap', he, -, -, hcc⟩ := ((Zaa HSC).below (Zad (Zaa HB9) (Zaa HB8) (by have := Zaa HVW; omega))).func.ss
                injection he with e1 e2 e3
                subst e1 e3
                obtain ⟨sb, so, rfl, hc⟩ := hcc (by omega)
                have c := hc m hm
                have HSL2 := Zac (show widthB n = true → Zai p f ⟨op, d, m, bb, n, fx, gs, os⟩ = (inB bb 0 (8 * f.slots.getD m 0 - n) && decide (bb % n = 0)) from fun hw => by rw [Zaa HF0, Zaa HD]; unfold slotB; simp only [Int.toNat_natCast]; rw [hia, hw]; rfl)
                clear hc hcc hsb ha e2 g0 g1 hia
                generalize f.slots.getD m 0 = sz at c HSL2 s0 s1
                rcases hwd with rfl | rfl | rfl | rfl
                ·
                 have HS3 := Zac (Zaa HSL2 (by decide))
                 clear HSL2
                 go_wp2_with fail
                 by_cases hb0 : 0 ≤ bb
                 ·
                  obtain ⟨t, rfl⟩ : ∃ t : Nat, bb = t := ⟨bb.toNat, by omega⟩
                  clear hb0
                  have hmod : (t : Int) % 1 = 0 := by omega
                  ·
                   skip
                   by_cases hlt : (t : Int) < 8 * sz
                   ·
                    have hz := Zac (show Zai p f ⟨op, d, m, t, 1, fx, gs, os⟩ = true by rw [Zaa HS3]; unfold inB; rw [decide_eq_true hmod, decide_eq_true (by omega)]; rfl)
                    clear hmod
                    go_quiet (fail)
                    go_wp2
                    go_ret
                    exact ⟨by rw [Zaa HFIN, Zaa hz]; rfl, Zah (Zad (Zaa HB9) (Zaa HB8) (by have := Zaa HVW; omega)) _⟩
                   ·
                    have hz := Zac (show Zai p f ⟨op, d, m, t, 1, fx, gs, os⟩ = false by rw [Zaa HS3]; unfold inB; rw [decide_eq_false (show ¬ (0 ≤ (t : Int) ∧ (t : Int) ≤ 8 * sz - 1) by omega)]; rfl)
                    clear hmod
                    go_quiet (fail)
                    go_wp2
                    go_ret
                    exact ⟨by rw [Zaa HFIN, Zaa hz]; rfl, Zah (Zad (Zaa HB9) (Zaa HB8) (by have := Zaa HVW; omega)) _⟩
                 ·
                  have hz := Zac (show Zai p f ⟨op, d, m, bb, 1, fx, gs, os⟩ = false by rw [Zaa HS3]; unfold inB; rw [decide_eq_false (fun h => hb0 h.1)]; rfl)
                  have hb1 : bb < 0 := by omega
                  have hb2 : decide (0 ≤ bb) = false := decide_eq_false hb0
                  clear hb0
                  go_quiet (fail)
                  go_wp2
                  go_ret
                  exact ⟨by rw [Zaa HFIN, Zaa hz]; rfl, Zah (Zad (Zaa HB9) (Zaa HB8) (by have := Zaa HVW; omega)) _⟩
                ·
                 have HS3 := Zac (Zaa HSL2 (by decide))
                 clear HSL2
                 go_wp2_with fail
                 by_cases hb0 : 0 ≤ bb
                 ·
                  obtain ⟨t, rfl⟩ : ∃ t : Nat, bb = t := ⟨bb.toNat, by omega⟩
                  clear hb0
                  by_cases hmod : (t : Int) % 2 = 0
                  ·
                   have zm : ((t : Int) % 2 == 0) = true := by simpa using hmod
                   by_cases hlt : (t : Int) < 8 * sz
                   ·
                    have hz := Zac (show Zai p f ⟨op, d, m, t, 2, fx, gs, os⟩ = true by rw [Zaa HS3]; unfold inB; rw [decide_eq_true hmod, decide_eq_true (by omega)]; rfl)
                    clear hmod
                    go_quiet (fail)
                    go_wp2
                    go_ret
                    exact ⟨by rw [Zaa HFIN, Zaa hz]; rfl, Zah (Zad (Zaa HB9) (Zaa HB8) (by have := Zaa HVW; omega)) _⟩
                   ·
                    have hz := Zac (show Zai p f ⟨op, d, m, t, 2, fx, gs, os⟩ = false by rw [Zaa HS3]; unfold inB; rw [decide_eq_false (show ¬ (0 ≤ (t : Int) ∧ (t : Int) ≤ 8 * sz - 2) by omega)]; rfl)
                    clear hmod
                    go_quiet (fail)
                    go_wp2
                    go_ret
                    exact ⟨by rw [Zaa HFIN, Zaa hz]; rfl, Zah (Zad (Zaa HB9) (Zaa HB8) (by have := Zaa HVW; omega)) _⟩
                  ·
                   have zm : ((t : Int) % 2 == 0) = false := by simpa using hmod
                   have hz := Zac (show Zai p f ⟨op, d, m, t, 2, fx, gs, os⟩ = false by rw [Zaa HS3, decide_eq_false hmod]; simp)
                   clear hmod
                   go_quiet (fail)
                   go_wp2
                   go_ret
                   exact ⟨by rw [Zaa HFIN, Zaa hz]; rfl, Zah (Zad (Zaa HB9) (Zaa HB8) (by have := Zaa HVW; omega)) _⟩
                 ·
                  have hz := Zac (show Zai p f ⟨op, d, m, bb, 2, fx, gs, os⟩ = false by rw [Zaa HS3]; unfold inB; rw [decide_eq_false (fun h => hb0 h.1)]; rfl)
                  have hb1 : bb < 0 := by omega
                  have hb2 : decide (0 ≤ bb) = false := decide_eq_false hb0
                  clear hb0
                  go_quiet (fail)
                  go_wp2
                  go_ret
                  exact ⟨by rw [Zaa HFIN, Zaa hz]; rfl, Zah (Zad (Zaa HB9) (Zaa HB8) (by have := Zaa HVW; omega)) _⟩
                ·
                 have HS3 := Zac (Zaa HSL2 (by decide))
                 clear HSL2
                 go_wp2_with fail
                 by_cases hb0 : 0 ≤ bb
                 ·
                  obtain ⟨t, rfl⟩ : ∃ t : Nat, bb = t := ⟨bb.toNat, by omega⟩
                  clear hb0
                  by_cases hmod : (t : Int) % 4 = 0
                  ·
                   have zm : ((t : Int) % 4 == 0) = true := by simpa using hmod
                   by_cases hlt : (t : Int) < 8 * sz
                   ·
                    have hz := Zac (show Zai p f ⟨op, d, m, t, 4, fx, gs, os⟩ = true by rw [Zaa HS3]; unfold inB; rw [decide_eq_true hmod, decide_eq_true (by omega)]; rfl)
                    clear hmod
                    go_quiet (fail)
                    go_wp2
                    go_ret
                    exact ⟨by rw [Zaa HFIN, Zaa hz]; rfl, Zah (Zad (Zaa HB9) (Zaa HB8) (by have := Zaa HVW; omega)) _⟩
                   ·
                    have hz := Zac (show Zai p f ⟨op, d, m, t, 4, fx, gs, os⟩ = false by rw [Zaa HS3]; unfold inB; rw [decide_eq_false (show ¬ (0 ≤ (t : Int) ∧ (t : Int) ≤ 8 * sz - 4) by omega)]; rfl)
                    clear hmod
                    go_quiet (fail)
                    go_wp2
                    go_ret
                    exact ⟨by rw [Zaa HFIN, Zaa hz]; rfl, Zah (Zad (Zaa HB9) (Zaa HB8) (by have := Zaa HVW; omega)) _⟩
                  ·
                   have zm : ((t : Int) % 4 == 0) = false := by simpa using hmod
                   have hz := Zac (show Zai p f ⟨op, d, m, t, 4, fx, gs, os⟩ = false by rw [Zaa HS3, decide_eq_false hmod]; simp)
                   clear hmod
                   go_quiet (fail)
                   go_wp2
                   go_ret
                   exact ⟨by rw [Zaa HFIN, Zaa hz]; rfl, Zah (Zad (Zaa HB9) (Zaa HB8) (by have := Zaa HVW; omega)) _⟩
                 ·
                  have hz := Zac (show Zai p f ⟨op, d, m, bb, 4, fx, gs, os⟩ = false by rw [Zaa HS3]; unfold inB; rw [decide_eq_false (fun h => hb0 h.1)]; rfl)
                  have hb1 : bb < 0 := by omega
                  have hb2 : decide (0 ≤ bb) = false := decide_eq_false hb0
                  clear hb0
                  go_quiet (fail)
                  go_wp2
                  go_ret
                  exact ⟨by rw [Zaa HFIN, Zaa hz]; rfl, Zah (Zad (Zaa HB9) (Zaa HB8) (by have := Zaa HVW; omega)) _⟩
                ·
                 have HS3 := Zac (Zaa HSL2 (by decide))
                 clear HSL2
                 go_wp2_with fail
                 by_cases hb0 : 0 ≤ bb
                 ·
                  obtain ⟨t, rfl⟩ : ∃ t : Nat, bb = t := ⟨bb.toNat, by omega⟩
                  clear hb0
                  by_cases hmod : (t : Int) % 8 = 0
                  ·
                   have zm : ((t : Int) % 8 == 0) = true := by simpa using hmod
                   by_cases hlt : (t : Int) < 8 * sz
                   ·
                    have hz := Zac (show Zai p f ⟨op, d, m, t, 8, fx, gs, os⟩ = true by rw [Zaa HS3]; unfold inB; rw [decide_eq_true hmod, decide_eq_true (by omega)]; rfl)
                    clear hmod
                    go_quiet (fail)
                    go_wp2
                    go_ret
                    exact ⟨by rw [Zaa HFIN, Zaa hz]; rfl, Zah (Zad (Zaa HB9) (Zaa HB8) (by have := Zaa HVW; omega)) _⟩
                   ·
                    have hz := Zac (show Zai p f ⟨op, d, m, t, 8, fx, gs, os⟩ = false by rw [Zaa HS3]; unfold inB; rw [decide_eq_false (show ¬ (0 ≤ (t : Int) ∧ (t : Int) ≤ 8 * sz - 8) by omega)]; rfl)
                    clear hmod
                    go_quiet (fail)
                    go_wp2
                    go_ret
                    exact ⟨by rw [Zaa HFIN, Zaa hz]; rfl, Zah (Zad (Zaa HB9) (Zaa HB8) (by have := Zaa HVW; omega)) _⟩
                  ·
                   have zm : ((t : Int) % 8 == 0) = false := by simpa using hmod
                   have hz := Zac (show Zai p f ⟨op, d, m, t, 8, fx, gs, os⟩ = false by rw [Zaa HS3, decide_eq_false hmod]; simp)
                   clear hmod
                   go_quiet (fail)
                   go_wp2
                   go_ret
                   exact ⟨by rw [Zaa HFIN, Zaa hz]; rfl, Zah (Zad (Zaa HB9) (Zaa HB8) (by have := Zaa HVW; omega)) _⟩
                 ·
                  have hz := Zac (show Zai p f ⟨op, d, m, bb, 8, fx, gs, os⟩ = false by rw [Zaa HS3]; unfold inB; rw [decide_eq_false (fun h => hb0 h.1)]; rfl)
                  have hb1 : bb < 0 := by omega
                  have hb2 : decide (0 ≤ bb) = false := decide_eq_false hb0
                  clear hb0
                  go_quiet (fail)
                  go_wp2
                  go_ret
                  exact ⟨by rw [Zaa HFIN, Zaa hz]; rfl, Zah (Zad (Zaa HB9) (Zaa HB8) (by have := Zaa HVW; omega)) _⟩
               ·
                have hz := Zac (show Zai p f ⟨op, d, a, bb, n, fx, gs, os⟩ = false by rw [Zaa HF0, slotB_false2 (f := f) (i := ⟨op, d, a, bb, n, fx, gs, os⟩) (by unfold widthB; exact decide_eq_false hwd)]; simp)
                have w1 : (n != 1) = true := by simp; omega
                have w2 : (n != 2) = true := by simp; omega
                have w4 : (n != 4) = true := by simp; omega
                have w8 : (n != 8) = true := by simp; omega
                clear hwd hia
                go_wp2
                go_ret
                exact ⟨by rw [Zaa HFIN, Zaa hz]; rfl, Zad (Zaa HB9) (Zaa HB8) (by have := Zaa HVW; omega)⟩
            ·
             obtain rfl := hg
             go_wp2_with fail
             refine (rblock_c f _ _ _ _ _ _ _ wr hl3).mono ?_
             rintro e w8 ⟨rfl, hb8⟩
             have HB8 := Zac hb8
             clear hb8
             go_wp2
             go_ret
             exact ⟨by rw [Zaa HFIN]; rfl, Zad (Zaa HB9) (Zaa HB8) (by have := Zaa HVW; omega)⟩
            ·
             obtain rfl := hg
             skip
             go_wp2_with fail
             refine (rlocal_c f _ _ _ _ _ _ [d] _ ⟨_, _, rfl⟩ hl1 (Li.list (w := wr) [d] (by show 1 < short; decide))).mono ?_
             rintro e w8 ⟨rfl, hb8⟩
             have HB8 := Zac (Zad (al0 wr (.cells (([d] : List Int).map fun n => Value.int .i64 n).toArray 3 (0, 0))).2.1 hb8 (by simp))
             clear hb8
             rw [localsB_1]
             have hrow := ((Zaa HB8).block _ (by have := Zaa HVZ; omega)).trans (Zaa HQB)
             have hroX := ((Zaa HB8).block _ (by have := Zaa HVZ; omega)).trans (Zaa HQC)
             have m0 := (Zab hrow 0).trans rfl
             have m1 := (Zab hrow 1).trans rfl
             have m2 := (Zab hrow 2).trans rfl
             have m3 := (Zab hrow 3).trans rfl
             have m4 := (Zab hrow 4).trans rfl
             have n2 := (Zab hroX 2).trans rfl
             have n3 := (Zab hroX 3).trans rfl
             have HQ8 := Zac hrow
             have HX8 := Zac hroX
             clear hrow hroX
             cases hd : localB f d with
             | false =>
              have hz := Zac (show Zai p f ⟨15, d, a, bb, n, fx, gs, os⟩ = false by unfold Zai; simp [hd])
              clear hd
              go_wp2
              go_ret
              exact ⟨by rw [Zaa HFIN, Zaa hz]; rfl, Zad (Zaa HB9) (Zaa HB8) (by have := Zaa HVW; omega)⟩
             | true =>
              have HD := Zac hd
              clear hd
              go_wp2_with fail
              refine (rblock_c f _ _ _ _ _ _ a w8 hl3).mono ?_
              rintro e w9 ⟨rfl, hb9⟩
              have HB8b := Zac (Zad (Zaa HB8) hb9 (Zaa HB8).size)
              have hrow := (hb9.block _ (by have := Zaa HVZ; have := (Zaa HB8).size; omega)).trans (Zaa HQ8)
              have hroX := (hb9.block _ (by have := Zaa HVZ; have := (Zaa HB8).size; omega)).trans (Zaa HX8)
              have k0 := (Zab hrow 0).trans rfl
              have k1 := (Zab hrow 1).trans rfl
              have k2 := (Zab hrow 2).trans rfl
              have k3 := (Zab hrow 3).trans rfl
              have k4 := (Zab hrow 4).trans rfl
              have k6 := (Zab hroX 3).trans rfl
              clear hb9 hrow hroX
              cases ha : inB a 0 (f.blocks.length - 1) with
              | false =>
               have hz := Zac (show Zai p f ⟨15, d, a, bb, n, fx, gs, os⟩ = false by unfold Zai; simp [ha])
               clear ha
               go_wp2
               go_ret
               exact ⟨by rw [Zaa HFIN, Zaa hz]; rfl, Zad (Zaa HB9) (Zaa HB8b) (by have := Zaa HVW; omega)⟩
              | true =>
               have hz := Zac (show Zai p f ⟨15, d, a, bb, n, fx, gs, os⟩ = inB bb 0 (f.blocks.length - 1) by unfold Zai; simp [Zaa HD, ha])
               clear ha
               go_wp2_with fail
               refine (rblock_c f _ _ _ _ _ _ bb w9 hl3).mono ?_
               rintro e w10 ⟨rfl, hb10⟩
               have HB8c := Zac (Zad (Zaa HB8b) hb10 (Zaa HB8b).size)
               clear hb10
               go_wp2
               go_ret
               exact ⟨by rw [Zaa HFIN, Zaa hz]; rfl, Zad (Zaa HB9) (Zaa HB8c) (by have := Zaa HVW; omega)⟩
            ·
             obtain rfl := hg
             go_wp2_with fail
             refine (rlocal_c f _ _ _ _ _ _ os wr ⟨_, _, rfl⟩ hl1 ((Zaa HO).below (Zaa HB9))).mono ?_
             rintro e w8 ⟨rfl, hb8⟩
             have HB8 := Zac hb8
             have hrow := (hb8.block _ (by have := Zaa HVZ; omega)).trans (Zaa HQB)
             have hroX := (hb8.block _ (by have := Zaa HVZ; omega)).trans (Zaa HQC)
             have m1 := (Zab hrow 1).trans rfl
             have n7 := (Zab hroX 7).trans rfl
             clear hb8 hrow hroX
             cases ho : localsB f os with
             | false =>
              have hz := Zac (show Zai p f ⟨16, d, a, bb, n, fx, gs, os⟩ = false by unfold Zai; simp [ho])
              clear ho
              go_wp2
              go_ret
              exact ⟨by rw [Zaa HFIN, Zaa hz]; rfl, Zad (Zaa HB9) (Zaa HB8) (by have := Zaa HVW; omega)⟩
             | true =>
              have hz := Zac (show ((os.length : Int) == f.results) = Zai p f ⟨16, d, a, bb, n, fx, gs, os⟩ by unfold Zai; simp [ho]; rfl)
              clear ho
              go_wp2
              go_ret
              exact ⟨by rw [Zaa HFIN, ← Zaa hz]; rfl, Zad (Zaa HB9) (Zaa HB8) (by have := Zaa HVW; omega)⟩
            ·
             obtain rfl := hg
             go_wp2
             go_ret
             exact ⟨by rw [Zaa HFIN]; rfl, Zaa HB9⟩
end Go.Proofs.YtffemeicclhioaaGreatDoor

