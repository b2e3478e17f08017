/-
 Checks: prologueref.right, for the operations 17. Own work of the verifier.
-/
import Derived.Test.YtffemeicclhioaaGreatDoorPk
import Derived.Test.YtffemeicclhioaaGreatDoorJ15
import Derived.Test.YtffemeicclhioaaGreatDoorCkUh
namespace Go.Proofs.YtffemeicclhioaaGreatDoor
open Go.RowKit

set_option maxHeartbeats 16000000 in
set_option maxRecDepth 100000 in
theorem right17_c (p : ProgE) (f : FuncE) (op d a bb n fx : Int) (gs : List (Int × Int)) (os : List Int) (last : Bool) (fv ev pv hv sv bv av ov : Value) (A E : Nat → Array Value) (B : Nat → Value) (w : World) (hSC : ScD w p f fv ev pv hv sv bv A E B) (ha : LS 2 w av gs.length (fun k => pairA (gs.getD k (0, 0)))) (ho : Li w ov os) (hF : FitD p f) (hn : 0 ≤ n ∧ n < 18446744073709551616) (hg : op = 17) (hel : decide (14 ≤ op) = last) (hFS : FitS p) :
 Calls Tryz.prog 23 #[.agg #[fv, ev], .agg #[pv, .int .i64 f.results, hv, sv, bv], .agg #[.int .i64 op, .int .i64 d, .int .i64 a, .int .i64 bb, .int .u64 n, .int .i64 fx, av, ov], .bool last] w fun e w' => e = .returned (.bool (insB p f ⟨op, d, a, bb, n, fx, gs, os⟩ last)) ∧ Below w.heap.size w w' := by
 have HSC := Zac hSC
 have HA := Zac ha
 have HO := Zac ho
 have HF := Zac hF
 have HNN := Zac hn
 have hl1 : f.homes.length < 9223372036854775808 := hSC.func.hs.lt
 have hl2 : f.slots.length < 9223372036854775808 := hSC.func.ss.lt
 have hl3 : f.blocks.length < 9223372036854775808 := by obtain ⟨_, _, _, _, h, _⟩ := hSC.func.bs; exact h
 have hl4 : p.funcs.length < 9223372036854775808 := by obtain ⟨_, _, _, _, h, _⟩ := hSC.prog.fs; exact h
 have hl5 : p.externs.length < 9223372036854775808 := by obtain ⟨_, _, _, _, h, _⟩ := hSC.prog.es; exact h
 have hl6 : os.length < 9223372036854775808 := ho.lt
 have hl7 : gs.length < 9223372036854775808 := by obtain ⟨_, _, _, _, h, _⟩ := ha; exact h
 obtain ⟨pf, cf, rfl⟩ := hSC.prog.fs.shape
 obtain ⟨pe, ce, rfl⟩ := hSC.prog.es.shape
 obtain ⟨pp, cp, rfl⟩ := hSC.func.ps.shape
 obtain ⟨ph, ch, rfl⟩ := hSC.func.hs.shape
 obtain ⟨ps, cs, rfl⟩ := hSC.func.ss.shape
 obtain ⟨pb, cb, rfl⟩ := hSC.func.bs.shape
 obtain ⟨pa, ca, rfl⟩ := ha.shape
 obtain ⟨po, co, rfl⟩ := ho.shape
 clear hSC ha ho hF hn
 have HB3 := Zac (fun X Y Z : Obj => show Below w.heap.size w (((w.alloc X).alloc Y).alloc Z) from (((Below.refl w.heap.size w).alloc (Nat.le_refl _) X).alloc (by simp) Y).alloc (by simp; omega) Z)
 have HB4 := Zac (fun X Y Z U : Obj => show Below w.heap.size w ((((w.alloc X).alloc Y).alloc Z).alloc U) from (Zaa HB3 X Y Z).alloc (by simp; omega) U)
 have hop : 1 ≤ op ∧ op ≤ 18 := by omega
 have HG := Zac hg
 have HFS := Zac hFS
 clear hFS
 clear hg
 ·
  skip
  ·
   have hin : inB op 1 18 = true := by unfold inB; exact decide_eq_true hop
   have hne : (last != last) = false := by simp
   have HINS := Zac (show insB p f ⟨op, d, a, bb, n, fx, gs, os⟩ last = (!(InsE.spare ⟨op, d, a, bb, n, fx, gs, os⟩) && Zai p f ⟨op, d, a, bb, n, fx, gs, os⟩) by
    unfold insB
    simp only [hin, hel, Bool.true_and]
    simp)
   obtain ⟨hop1, hop2⟩ := hop
   go_enter Tryz.func23, Tryz.ntmps23
   go_wp2_with fail
   refine (rin_c op 1 18 _).mono ?_
   rintro e w5 ⟨rfl, h5⟩
   subst w5
   rw [hin]
   go_upto_if 56 with fail
   clear hin hne hel
   have hst : RSk (((((w.alloc (.cells #[.slice pf p.funcs.length cf, .slice pe p.externs.length ce] 29 (0, 0))).alloc (.cells #[.slice pp f.params.length cp, .int .i64 f.results, .slice ph f.homes.length ch, .slice ps f.slots.length cs, .slice pb f.blocks.length cb] 70 (0, 0))).alloc (.cells #[.int .i64 op, .int .i64 d, .int .i64 a, .int .i64 bb, .int .u64 n, .int .i64 fx, .slice pa gs.length ca, .slice po os.length co] 76 (0, 0))).alloc (.cells #[.string ⟨#[]⟩, .bool false] 108 (0, 0))).alloc (.cells #[.int .i64 op, .int .i64 (d.tmod 2), .int .i64 (a.tmod 2), .int .i64 (bb.tmod 2), .int .u64 n, .int .i64 (fx.tmod 2), .slice pa gs.length ca, .slice po os.length co] 76 (0, 0))) (((((w.alloc (.cells #[.slice pf p.funcs.length cf, .slice pe p.externs.length ce] 29 (0, 0))).alloc (.cells #[.slice pp f.params.length cp, .int .i64 f.results, .slice ph f.homes.length ch, .slice ps f.slots.length cs, .slice pb f.blocks.length cb] 70 (0, 0))).alloc (.cells #[.int .i64 op, .int .i64 d, .int .i64 a, .int .i64 bb, .int .u64 n, .int .i64 fx, .slice pa gs.length ca, .slice po os.length co] 76 (0, 0))).alloc (.cells #[.string ⟨#[]⟩, .bool false] 108 (0, 0))).alloc (.cells #[.int .i64 op, .int .i64 (d.tmod 2), .int .i64 (a.tmod 2), .int .i64 (bb.tmod 2), .int .u64 n, .int .i64 (fx.tmod 2), .slice pa gs.length ca, .slice po os.length co] 76 (0, 0))) (w.heap.size + 1 + 1 + 1 + 1) #[.int .i64 op, .int .i64 (d.tmod 2), .int .i64 (a.tmod 2), .int .i64 (bb.tmod 2), .int .u64 n, .int .i64 (fx.tmod 2), .slice pa gs.length ca, .slice po os.length co] := ⟨Below.refl _ _, by have := heap_alloc_new ((((w.alloc (.cells #[.slice pf p.funcs.length cf, .slice pe p.externs.length ce] 29 (0, 0))).alloc (.cells #[.slice pp f.params.length cp, .int .i64 f.results, .slice ph f.homes.length ch, .slice ps f.slots.length cs, .slice pb f.blocks.length cb] 70 (0, 0))).alloc (.cells #[.int .i64 op, .int .i64 d, .int .i64 a, .int .i64 bb, .int .u64 n, .int .i64 fx, .slice pa gs.length ca, .slice po os.length co] 76 (0, 0))).alloc (.cells #[.string ⟨#[]⟩, .bool false] 108 (0, 0))) (.cells #[.int .i64 op, .int .i64 (d.tmod 2), .int .i64 (a.tmod 2), .int .i64 (bb.tmod 2), .int .u64 n, .int .i64 (fx.tmod 2), .slice pa gs.length ca, .slice po os.length co] 76 (0, 0)); simpa using this⟩
   have hW5 := Zaa HB4 (.cells #[.slice pf p.funcs.length cf, .slice pe p.externs.length ce] 29 (0, 0)) (.cells #[.slice pp f.params.length cp, .int .i64 f.results, .slice ph f.homes.length ch, .slice ps f.slots.length cs, .slice pb f.blocks.length cb] 70 (0, 0)) (.cells #[.int .i64 op, .int .i64 d, .int .i64 a, .int .i64 bb, .int .u64 n, .int .i64 fx, .slice pa gs.length ca, .slice po os.length co] 76 (0, 0)) (.cells #[.string ⟨#[]⟩, .bool false] 108 (0, 0))
   have hrows := rows5 w (.cells #[.slice pf p.funcs.length cf, .slice pe p.externs.length ce] 29 (0, 0)) (.cells #[.slice pp f.params.length cp, .int .i64 f.results, .slice ph f.homes.length ch, .slice ps f.slots.length cs, .slice pb f.blocks.length cb] 70 (0, 0)) (.cells #[.int .i64 op, .int .i64 d, .int .i64 a, .int .i64 bb, .int .u64 n, .int .i64 fx, .slice pa gs.length ca, .slice po os.length co] 76 (0, 0)) (.cells #[.string ⟨#[]⟩, .bool false] 108 (0, 0)) (.cells #[.int .i64 op, .int .i64 (d.tmod 2), .int .i64 (a.tmod 2), .int .i64 (bb.tmod 2), .int .u64 n, .int .i64 (fx.tmod 2), .slice pa gs.length ca, .slice po os.length co] 76 (0, 0))
   have hW := hW5.alloc (by simp; omega) (.cells #[.int .i64 op, .int .i64 (d.tmod 2), .int .i64 (a.tmod 2), .int .i64 (bb.tmod 2), .int .u64 n, .int .i64 (fx.tmod 2), .slice pa gs.length ca, .slice po os.length co] 76 (0, 0))
   generalize World.alloc (World.alloc (World.alloc (World.alloc (World.alloc w _) _) _) _) _ = W at hst hrows hW ⊢
   obtain ⟨hR0, hR1, hR2, hR3, hZ⟩ := hrows
   have HR0 := Zac hR0
   have HR1 := Zac hR1
   have HR2 := Zac hR2
   have HR3 := Zac hR3
   have HZ := Zac hZ
   have HW := Zac hW
   have HST := Zac hst
   clear hR0 hR1 hR2 hR3 hZ hW hW5 hst HB3 HB4
   go_cut [] from 54 to 57 (fun wc => RSk W wc (w.heap.size + 1 + 1 + 1 + 1) #[.int .i64 op, .int .i64 (nz d), .int .i64 (a.tmod 2), .int .i64 (bb.tmod 2), .int .u64 n, .int .i64 (fx.tmod 2), .slice pa gs.length ca, .slice po os.length co])
   case first =>
    have y0 := ((Zaa HST).cell 1).trans rfl
    have y1 := (Zaa HST).fz 1
    by_cases hz : d = 0
    ·
     have zz : (d != 0) = false := by simp [hz]
     have HS2 := Zac (show RSk W _ (w.heap.size + 1 + 1 + 1 + 1) #[.int .i64 op, .int .i64 (nz d), .int .i64 (a.tmod 2), .int .i64 (bb.tmod 2), .int .u64 n, .int .i64 (fx.tmod 2), .slice pa gs.length ca, .slice po os.length co] by have h := Zaa HST; rw [show (d.tmod 2) = nz d by unfold nz; rw [hz]; rfl] at h; exact h)
     clear y0 y1
     go_wp2
     go_meet
     case rel => exact Zaa HS2
    ·
     have zz : (d != 0) = true := by simpa using hz
     have HS2 := Zac (show RSk W _ (w.heap.size + 1 + 1 + 1 + 1) #[.int .i64 op, .int .i64 (nz d), .int .i64 (a.tmod 2), .int .i64 (bb.tmod 2), .int .u64 n, .int .i64 (fx.tmod 2), .slice pa gs.length ca, .slice po os.length co] by have h := (Zaa HST).set 1 (.int .i64 1); rw [show nz d = 1 by unfold nz; rw [if_neg hz]]; exact h)
     clear hz
     go_wp2
     go_meet
     case rel => exact Zaa HS2
   case rest =>
    clear HST
    have HST := Zac hcut
    clear hcut
    have hlt4 : w.heap.size + 1 + 1 < w.heap.size + 1 + 1 + 1 + 1 := by omega
    clear hlt4
    have xr := (Zab ((Zaa HST).low_row (by omega) (Zaa HR2)) 2).trans rfl
    go_upto_if 60 with fail
    clear xr
    go_cut [] from 58 to 61 (fun wc => RSk W wc (w.heap.size + 1 + 1 + 1 + 1) #[.int .i64 op, .int .i64 (nz d), .int .i64 (nz a), .int .i64 (bb.tmod 2), .int .u64 n, .int .i64 (fx.tmod 2), .slice pa gs.length ca, .slice po os.length co])
    case first =>
     have y0 := ((Zaa HST).cell 2).trans rfl
     have y1 := (Zaa HST).fz 2
     by_cases hz : a = 0
     ·
      have zz : (a != 0) = false := by simp [hz]
      have HS2 := Zac (show RSk W _ (w.heap.size + 1 + 1 + 1 + 1) #[.int .i64 op, .int .i64 (nz d), .int .i64 (nz a), .int .i64 (bb.tmod 2), .int .u64 n, .int .i64 (fx.tmod 2), .slice pa gs.length ca, .slice po os.length co] by have h := Zaa HST; rw [show (a.tmod 2) = nz a by unfold nz; rw [hz]; rfl] at h; exact h)
      clear y0 y1
      go_wp2
      go_meet
      case rel => exact Zaa HS2
     ·
      have zz : (a != 0) = true := by simpa using hz
      have HS2 := Zac (show RSk W _ (w.heap.size + 1 + 1 + 1 + 1) #[.int .i64 op, .int .i64 (nz d), .int .i64 (nz a), .int .i64 (bb.tmod 2), .int .u64 n, .int .i64 (fx.tmod 2), .slice pa gs.length ca, .slice po os.length co] by have h := (Zaa HST).set 2 (.int .i64 1); rw [show nz a = 1 by unfold nz; rw [if_neg hz]]; exact h)
      clear hz
      go_wp2
      go_meet
      case rel => exact Zaa HS2
    case rest =>
     clear HST
     have HST := Zac hcut
     clear hcut
     have hlt4 : w.heap.size + 1 + 1 < w.heap.size + 1 + 1 + 1 + 1 := by omega
     clear hlt4
     have xr := (Zab ((Zaa HST).low_row (by omega) (Zaa HR2)) 3).trans rfl
     go_upto_if 64 with fail
     clear xr
     go_cut [] from 62 to 65 (fun wc => RSk W wc (w.heap.size + 1 + 1 + 1 + 1) #[.int .i64 op, .int .i64 (nz d), .int .i64 (nz a), .int .i64 (nz bb), .int .u64 n, .int .i64 (fx.tmod 2), .slice pa gs.length ca, .slice po os.length co])
     case first =>
      have y0 := ((Zaa HST).cell 3).trans rfl
      have y1 := (Zaa HST).fz 3
      by_cases hz : bb = 0
      ·
       have zz : (bb != 0) = false := by simp [hz]
       have HS2 := Zac (show RSk W _ (w.heap.size + 1 + 1 + 1 + 1) #[.int .i64 op, .int .i64 (nz d), .int .i64 (nz a), .int .i64 (nz bb), .int .u64 n, .int .i64 (fx.tmod 2), .slice pa gs.length ca, .slice po os.length co] by have h := Zaa HST; rw [show (bb.tmod 2) = nz bb by unfold nz; rw [hz]; rfl] at h; exact h)
       clear y0 y1
       go_wp2
       go_meet
       case rel => exact Zaa HS2
      ·
       have zz : (bb != 0) = true := by simpa using hz
       have HS2 := Zac (show RSk W _ (w.heap.size + 1 + 1 + 1 + 1) #[.int .i64 op, .int .i64 (nz d), .int .i64 (nz a), .int .i64 (nz bb), .int .u64 n, .int .i64 (fx.tmod 2), .slice pa gs.length ca, .slice po os.length co] by have h := (Zaa HST).set 3 (.int .i64 1); rw [show nz bb = 1 by unfold nz; rw [if_neg hz]]; exact h)
       clear hz
       go_wp2
       go_meet
       case rel => exact Zaa HS2
     case rest =>
      clear HST
      have HST := Zac hcut
      clear hcut
      have hlt4 : w.heap.size + 1 + 1 < w.heap.size + 1 + 1 + 1 + 1 := by omega
      clear hlt4
      have xr := (Zab ((Zaa HST).low_row (by omega) (Zaa HR2)) 5).trans rfl
      go_upto_if 68 with fail
      clear xr
      go_cut [] from 66 to 69 (fun wc => RSk W wc (w.heap.size + 1 + 1 + 1 + 1) #[.int .i64 op, .int .i64 (nz d), .int .i64 (nz a), .int .i64 (nz bb), .int .u64 n, .int .i64 (nz fx), .slice pa gs.length ca, .slice po os.length co])
      case first =>
       have y0 := ((Zaa HST).cell 5).trans rfl
       have y1 := (Zaa HST).fz 5
       by_cases hz : fx = 0
       ·
        have zz : (fx != 0) = false := by simp [hz]
        have HS2 := Zac (show RSk W _ (w.heap.size + 1 + 1 + 1 + 1) #[.int .i64 op, .int .i64 (nz d), .int .i64 (nz a), .int .i64 (nz bb), .int .u64 n, .int .i64 (nz fx), .slice pa gs.length ca, .slice po os.length co] by have h := Zaa HST; rw [show (fx.tmod 2) = nz fx by unfold nz; rw [hz]; rfl] at h; exact h)
        clear y0 y1
        go_wp2
        go_meet
        case rel => exact Zaa HS2
       ·
        have zz : (fx != 0) = true := by simpa using hz
        have HS2 := Zac (show RSk W _ (w.heap.size + 1 + 1 + 1 + 1) #[.int .i64 op, .int .i64 (nz d), .int .i64 (nz a), .int .i64 (nz bb), .int .u64 n, .int .i64 (nz fx), .slice pa gs.length ca, .slice po os.length co] by have h := (Zaa HST).set 5 (.int .i64 1); rw [show nz fx = 1 by unfold nz; rw [if_neg hz]]; exact h)
        clear hz
        go_wp2
        go_meet
        case rel => exact Zaa HS2
      case rest =>
       clear HST
       have HST := Zac hcut
       clear hcut
       have hlt4 : w.heap.size + 1 + 1 < w.heap.size + 1 + 1 + 1 + 1 := by omega
       clear hlt4
       have y6 := ((Zaa HST).cell 6).trans rfl
       have y7 := ((Zaa HST).cell 7).trans rfl
       have g6 := (Zaa HST).fz 6
       have g7 := (Zaa HST).fz 7
       have hs2 := ((Zaa HST).set 6 (.slice none 0 0)).set 7 (.slice none 0 0)
       have x0 := (Zab (hs2.low_row (by omega) (Zaa HR2)) 0).trans rfl
       have HS2 := Zac hs2
       clear hs2
       go_wp2_with fail
       clear y6 y7 g6 g7 x0
       have hs3 : RSk W _ (w.heap.size + 1 + 1 + 1 + 1) #[.int .i64 op, .int .i64 (nz d), .int .i64 (nz a), .int .i64 (nz bb), .int .u64 n, .int .i64 (nz fx), .slice none 0 0, .slice none 0 0] := Zaa HS2
       generalize World.setCell (World.setCell wc _ _) _ _ = V1 at hs3 ⊢
       have HST := Zac hs3
       clear hs3 HS2
       refine (shape_c op V1).mono ?_
       rintro e w5 ⟨rfl, h5⟩
       subst w5
       obtain ⟨s, hs⟩ : ∃ s, s = shapeB op := ⟨_, rfl⟩
       rw [← hs]
       obtain ⟨ls, hls⟩ : ∃ ls, ls = s.data.toList := ⟨_, rfl⟩
       have HS := Zac hs
       have HLS := Zac hls
       have hsl : ls.length = s.size := by rw [hls]; exact Array.length_toList
       have hs4 : s.size ≤ 4 := by have h := shapeLs_le op; rw [← hsl, hls, hs]; exact h
       have HSL := Zac hsl
       clear hs hls hsl
       go_wp2_with fail
       have hV1z := (Zaa HST).low.size
       have hTI : w.heap.size + 1 + 1 + 1 + 1 < V1.heap.size := row_lt (Zaa HST).row
       have HIT := Zac (show (V1.iter s 0).heap[V1.heap.size]? = some (.stringIter s 0) from heap_alloc_new V1 _)
       have HST1 := Zac (show RSk W (V1.iter s 0) (w.heap.size + 1 + 1 + 1 + 1) #[.int .i64 op, .int .i64 (nz d), .int .i64 (nz a), .int .i64 (nz bb), .int .u64 (zn [] n), .int .i64 (nz fx), .slice none 0 0, .slice none 0 0] from ⟨Zad (Zaa HST).low ((al0 V1 (.stringIter s 0)).2.1) (by omega), ((al0 V1 (.stringIter s 0)).2.1.block _ hTI).trans (by have h := (Zaa HST).row; rw [show zn ([] : List UInt8) n = n from rfl]; exact h)⟩)
       clear HST hV1z
       generalize hTT : V1.heap.size = TI at HIT hTI ⊢
       clear hTT
       go_loopw [] (fun wr => ∃ q : Nat, q ≤ s.size ∧ RSk W wr (w.heap.size + 1 + 1 + 1 + 1) #[.int .i64 op, .int .i64 (nz d), .int .i64 (nz a), .int .i64 (nz bb), .int .u64 (zn (ls.take q) n), .int .i64 (nz fx), .slice none 0 0, .slice none 0 0] ∧ wr.heap[TI]? = some (.stringIter s q)) (fun wr => s.size - wr.iterPos TI)
       case atStart => exact ⟨0, by omega, by rw [List.take_zero]; exact Zaa HST1, Zaa HIT⟩
       case round =>
        obtain ⟨q, hq, hrs, hit⟩ := hrel
        have hm := iterPos_of hit
        clear HST1 HIT
        by_cases hp : q < s.size
        ·
         have hxl : q < ls.length := by rw [Zaa HSL]; exact hp
         have hmem : ls[q] ∈ Zao op := by
          have h2 : ls = Zao op := by rw [Zaa HLS, Zaa HS]; rfl
          exact (show ∀ x, x ∈ ls → x ∈ Zao op from fun x hx => h2 ▸ hx) _ (List.getElem_mem hxl)
         have hget : s[q]'hp = ls[q] := by
          have := Zaa HLS
          subst this
          rfl
         have htk : ls.take (q + 1) = ls.take q ++ [ls[q]] := List.take_succ_eq_append_getElem hxl
         have hlet := shape_letters op _ hmem
         generalize ls[q] = c at hget htk hlet
         have hc128 : c.toNat < 128 := by rcases hlet with rfl | rfl | rfl | rfl | rfl | rfl | rfl | rfl | rfl <;> decide
         have hnx : ∀ ty, (Instr.next (.pointer (some ⟨TI, 0, none⟩)) true ty).run Tryz.prog wr = .ok (.tuple #[.bool true, .int .i64 q, .int .i32 c.toNat]) (wr.iterAt TI s (q + 1)) := fun ty => by
          have := Lib.run_next_ascii_at (P := Tryz.prog) wr TI s q ty hit hp (by rw [hget]; exact hc128)
          rw [hget] at this
          exact this
         have hrs2 : RSk W (wr.iterAt TI s (q + 1)) (w.heap.size + 1 + 1 + 1 + 1) #[.int .i64 op, .int .i64 (nz d), .int .i64 (nz a), .int .i64 (nz bb), .int .u64 (zn (ls.take q) n), .int .i64 (nz fx), .slice none 0 0, .slice none 0 0] := ⟨⟨hrs.low.os, hrs.low.tape, hrs.low.output, by rw [Lib.iterAt_size]; exact hrs.low.size, fun g hg => (Lib.iterAt_other _ _ _ _ _ (by omega)).trans (hrs.low.block g hg)⟩, (Lib.iterAt_other _ _ _ _ _ (by omega)).trans hrs.row⟩
         have hit2 := Lib.iterAt_heap wr TI s q (q + 1) hit
         obtain ⟨u, hu⟩ : ∃ u, u = wr.iterAt TI s (q + 1) := ⟨_, rfl⟩
         rw [← hu] at hnx hrs2 hit2
         by_cases hcn : c = 110
         ·
          subst hcn
          have y4 := (hrs2.cell 4).trans rfl
          have g4 := hrs2.fz 4
          have HZ2 := Zac (show RSk W (u.setCell ⟨w.heap.size + 1 + 1 + 1 + 1, 4, none⟩ (.int .u64 0)) (w.heap.size + 1 + 1 + 1 + 1) #[.int .i64 op, .int .i64 (nz d), .int .i64 (nz a), .int .i64 (nz bb), .int .u64 (zn (ls.take (q + 1)) n), .int .i64 (nz fx), .slice none 0 0, .slice none 0 0] by have h := hrs2.set 4 (.int .u64 0); rw [show zn (ls.take (q + 1)) n = 0 by rw [htk]; unfold zn; simp]; exact h)
          have HI2 := Zac (show (u.setCell ⟨w.heap.size + 1 + 1 + 1 + 1, 4, none⟩ (.int .u64 0)).heap[TI]? = some (.stringIter s (q + 1)) from (heap_setCell_other _ _ _ _ (by show TI ≠ w.heap.size + 1 + 1 + 1 + 1; omega)).trans hit2)
          clear hu hrs hrs2 hit hit2 htk hget hmem hlet
          go_wp2
          go_roundw
          case rel => exact ⟨q + 1, hp, Zaa HZ2, Zaa HI2⟩
          case measure => rw [hm, iterPos_of (Zaa HI2)]; omega
         ·
          have z110 : ((c.toNat : Int) == 110) = false := by simp; intro h; exact hcn (UInt8.toNat_inj.1 (by rw [show (110 : UInt8).toNat = 110 from rfl]; omega))
          have HZ2 := Zac (show RSk W u (w.heap.size + 1 + 1 + 1 + 1) #[.int .i64 op, .int .i64 (nz d), .int .i64 (nz a), .int .i64 (nz bb), .int .u64 (zn (ls.take (q + 1)) n), .int .i64 (nz fx), .slice none 0 0, .slice none 0 0] by have h := hrs2; rw [show zn (ls.take (q + 1)) n = zn (ls.take q) n by rw [htk]; unfold zn; simp [Ne.symm hcn]]; exact h)
          have HI2 := Zac hit2
          clear hu hrs hrs2 hit hit2 htk hget hmem hlet hcn
          go_wp2
          go_roundw
          case rel => exact ⟨q + 1, hp, Zaa HZ2, Zaa HI2⟩
          case measure => rw [hm, iterPos_of (Zaa HI2)]; omega
        ·
         obtain rfl : q = s.size := by omega
         have htl : ls.take s.size = ls := by rw [← Zaa HSL]; exact List.take_length
         rw [htl] at hrs
         have hnx : ∀ ty, (Instr.next (.pointer (some ⟨TI, 0, none⟩)) true ty).run Tryz.prog wr = _ := fun ty => Lib.run_next_end_at wr TI s _ ty hit hp
         have y0 := (hrs.cell 0).trans rfl
         have y1 := (hrs.cell 1).trans rfl
         have y2 := (hrs.cell 2).trans rfl
         have y3 := (hrs.cell 3).trans rfl
         have y4 := (hrs.cell 4).trans rfl
         have y5 := (hrs.cell 5).trans rfl
         have y6 := (hrs.cell 6).trans rfl
         have y7 := (hrs.cell 7).trans rfl
         have HRS := Zac hrs
         clear hrs hm htl hit
         have HN0 := Zac (show 0 ≤ zn ls n ∧ zn ls n < 18446744073709551616 by have h := Zaa HNN; unfold zn; split; exact ⟨by omega, by omega⟩; exact h)
         generalize hn0 : zn ls n = n0 at HRS y4 HN0
         have HNE := Zac hn0
         clear hn0
         go_wp2_with fail
         clear y0 y1 y2 y3 y4 y5 y6 y7 hnx
         have hpen := (Zaa HRS).low_row (g := w.heap.size + 1 + 1 + 1) (by omega) (Zaa HR3)
         have hPn : Pn wr (w.heap.size + 1 + 1 + 1) [] false := ⟨(Zab hpen 0).trans rfl, (Zab hpen 1).trans rfl, frozen_of_row _ _ 0 _ _ hpen, frozen_of_row _ _ 1 _ _ hpen⟩
         refine (pins_c (w.heap.size + 1 + 1 + 1) [] false ⟨op, nz d, nz a, nz bb, n0, nz fx, [], []⟩ _ _ wr hPn (by have h := penIns_le ⟨op, nz d, nz a, nz bb, n0, nz fx, [], []⟩; simp only [mIns, List.length_nil] at h ⊢; omega) (Zaa HN0) [] rfl (by simp) (Or.inl ⟨rfl, none, 0, rfl⟩) (Or.inl ⟨rfl, none, 0, rfl⟩)).mono ?_
         rintro e w2 ⟨rfl, hpn, hgb⟩
         have hz4 : w.heap.size + 1 + 1 + 1 + 1 < wr.heap.size := row_lt (Zaa HRS).row
         have hgz := hgb.size
         have keep : ∀ g o, g < w.heap.size + 1 + 1 + 1 → W.heap[g]? = some o → w2.heap[g]? = some o := fun g o hg h => (hgb.block g (by omega) (by intro e; injection e with e; omega)).trans ((Zaa HRS).low_row (by omega) h)
         have HQ0 := Zac (keep _ _ (by omega) (Zaa HR0))
         have HQ1 := Zac (keep _ _ (by omega) (Zaa HR1))
         have HQ2 := Zac (keep _ _ (by omega) (Zaa HR2))
         have HPN := Zac hpn
         have HZ4 := Zac (show w.heap.size + 1 + 1 + 1 + 1 < w2.heap.size by omega)
         have HBW := Zac (show Below w.heap.size w w2 from ⟨hgb.os.trans ((Zaa HRS).low.os.trans (Zaa HW).os), hgb.tape.trans ((Zaa HRS).low.tape.trans (Zaa HW).tape), hgb.output.trans ((Zaa HRS).low.output.trans (Zaa HW).output), by omega, fun g hg => (hgb.block g (by omega) (by intro e; injection e with e; omega)).trans (((Zaa HRS).low.block g (by omega)).trans ((Zaa HW).block g hg))⟩)
         have x6 := (Zab (Zaa HQ2) 6).trans rfl
         have x7 := (Zab (Zaa HQ2) 7).trans rfl
         clear hpn hgb hpen hPn keep hgz hz4 HRS
         go_wp2_with fail
         clear x6 x7
         obtain ⟨rB, bB, sB⟩ := al0 w2 (.cells #[.int .u8 82, .int .i64 gs.length, .int .u8 79, .int .i64 os.length] 111 (0, 0))
         generalize World.alloc w2 _ = W3 at rB bB sB ⊢
         have HRB := Zac rB
         have HBB := Zac bB
         have hW3 : w2.heap.size < W3.heap.size := by omega
         generalize hTB : w2.heap.size = TB at HRB hW3 ⊢
         have HTB := Zac hTB
         clear rB bB sB hTB
         go_loopw [96] (fun j w' => ∃ k : Nat, j = .int .i64 k ∧ k ≤ 2 ∧ Below W3.heap.size W3 w' ∧ ∀ q, q < k → okc ls gs.length os.length q = true) (fun j _ => 2 - (intOf j).toNat)
         case atStart => exact ⟨0, rfl, by omega, Below.refl _ _, fun q hq => by omega⟩
         case round =>
          obtain ⟨k, rfl, hk, hbw, hno⟩ := hrel
          have HNO := Zac hno
          have HBK := Zac hbw
          have hkz := hbw.size
          clear hno
          have hk3 : k = 0 ∨ k = 1 ∨ k = 2 := by omega
          rcases hk3 with rfl | rfl | rfl
          ·
           have hrow := (hbw.block TB hW3).trans (Zaa HRB)
           have k0 := (Zab hrow 0).trans rfl
           have k1 := (Zab hrow 1).trans rfl
           clear hbw hrow
           go_wp2_with fail
           obtain ⟨rE, bE, sE⟩ := al0 wr (.cells #[.int .u8 82, .int .i64 gs.length] 111 (0, 0))
           generalize hTx : wr.heap.size = Tx at rE sE ⊢
           generalize World.alloc wr _ = U at rE bE sE ⊢
           have q0 := (Zab rE 0).trans rfl
           have q1 := (Zab rE 1).trans rfl
           have HBE := Zac (Zad (Zaa HBK) bE hkz)
           clear rE bE k0 k1 hTx sE
           go_loopw [16, 17] (fun t j w' => ∃ i m : Nat, j = .int .i64 i ∧ i ≤ s.size ∧ t = .bool ((ls.take i).contains 82) ∧ w' = U.drewN m) (fun _ j _ => s.size - (intOf j).toNat)
           case atStart => exact ⟨0, 0, rfl, by omega, rfl, rfl⟩
           case round =>
            obtain ⟨i, m, rfl, hi, rfl, hwm⟩ := hrel
            subst hwm
            by_cases hi2 : i < s.size
            ·
             have hil : i < ls.length := by rw [Zaa HSL]; exact hi2
             have hget : s[i]'hi2 = ls[i] := by
              have := Zaa HLS
              subst this
              rfl
             have htk : ls.take (i + 1) = ls.take i ++ [ls[i]] := List.take_succ_eq_append_getElem hil
             cases ht : (ls.take i).contains 82 with
             | true =>
              have HTK := Zac (show (ls.take (i + 1)).contains 82 = true by rw [htk]; simp only [List.contains_eq_mem, List.mem_append, decide_eq_true_eq]; left; simpa using ht)
              clear htk hget ht
              go_wp2_with fail
              go_quiet (fail)
              go_wp2
              go_roundw
              case rel => exact ⟨i + 1, _, by go_num, by omega, by rw [Zaa HTK], rfl⟩
              case measure => simp [intOf]; omega
             | false =>
              have HTK := Zac (show ((((s[i]'hi2).toNat : Int) == 82) = (ls.take (i + 1)).contains 82) by rw [htk, cont_snoc _ _ _ ht, ← hget]; exact (u8_eq _ 82).symm)
              clear htk hget ht
              go_wp2_with fail
              go_quiet (fail)
              go_wp2
              go_roundw
              case rel => exact ⟨i + 1, _, by go_num, by omega, congrArg Value.bool (Zaa HTK), rfl⟩
              case measure => simp [intOf]; omega
            ·
             obtain rfl : i = s.size := by omega
             have htl : ls.take s.size = ls := by rw [← Zaa HSL]; exact List.take_length
             rw [htl]
             clear htl
             have HU := Zac (Zah (Zaa HBE) m)
             cases hct : ls.contains 82 with
             | true =>
              have hz := Zac (Zal (q := okc ls gs.length os.length) (Zaa HNO) (okc0_t hct))
              clear hct
              by_cases hcnt : 0 < gs.length
              ·
               go_wp2
               go_roundw
               case rel => exact ⟨1, by go_num, by omega, Zaa HU, Zaa hz⟩
               case measure => simp [intOf]
              ·
               go_wp2
               go_roundw
               case rel => exact ⟨1, by go_num, by omega, Zaa HU, Zaa hz⟩
               case measure => simp [intOf]
             | false =>
              by_cases hcnt : 0 < gs.length
              ·
               have HSPR := Zac (spare_list0 hop1 hop2 (show ls = Zao op by rw [Zaa HLS, Zaa HS]; rfl) hct hcnt : InsE.spare ⟨op, d, a, bb, n, fx, gs, os⟩ = true)
               have hz := Zac (show insB p f ⟨op, d, a, bb, n, fx, gs, os⟩ last = false by rw [Zaa HINS, Zaa HSPR]; rfl)
               clear hct
               go_wp2
               go_ret
               exact ⟨by rw [Zaa hz]; rfl, Zad (Zaa HBW) (Zad (Zaa HBB) (Zaa HU) (by have := Zaa HTB; omega)) (by have := Zaa HZ4; omega)⟩
              ·
               have hz := Zac (Zal (q := okc ls gs.length os.length) (Zaa HNO) (okc0_n hcnt))
               clear hct
               go_wp2
               go_roundw
               case rel => exact ⟨1, by go_num, by omega, Zaa HU, Zaa hz⟩
               case measure => simp [intOf]
          ·
           have hrow := (hbw.block TB hW3).trans (Zaa HRB)
           have k0 := (Zab hrow 2).trans rfl
           have k1 := (Zab hrow 3).trans rfl
           clear hbw hrow
           go_wp2_with fail
           obtain ⟨rE, bE, sE⟩ := al0 wr (.cells #[.int .u8 79, .int .i64 os.length] 111 (0, 0))
           generalize hTx : wr.heap.size = Tx at rE sE ⊢
           generalize World.alloc wr _ = U at rE bE sE ⊢
           have q0 := (Zab rE 0).trans rfl
           have q1 := (Zab rE 1).trans rfl
           have HBE := Zac (Zad (Zaa HBK) bE hkz)
           clear rE bE k0 k1 hTx sE
           go_loopw [16, 17] (fun t j w' => ∃ i m : Nat, j = .int .i64 i ∧ i ≤ s.size ∧ t = .bool ((ls.take i).contains 79) ∧ w' = U.drewN m) (fun _ j _ => s.size - (intOf j).toNat)
           case atStart => exact ⟨0, 0, rfl, by omega, rfl, rfl⟩
           case round =>
            obtain ⟨i, m, rfl, hi, rfl, hwm⟩ := hrel
            subst hwm
            by_cases hi2 : i < s.size
            ·
             have hil : i < ls.length := by rw [Zaa HSL]; exact hi2
             have hget : s[i]'hi2 = ls[i] := by
              have := Zaa HLS
              subst this
              rfl
             have htk : ls.take (i + 1) = ls.take i ++ [ls[i]] := List.take_succ_eq_append_getElem hil
             cases ht : (ls.take i).contains 79 with
             | true =>
              have HTK := Zac (show (ls.take (i + 1)).contains 79 = true by rw [htk]; simp only [List.contains_eq_mem, List.mem_append, decide_eq_true_eq]; left; simpa using ht)
              clear htk hget ht
              go_wp2_with fail
              go_quiet (fail)
              go_wp2
              go_roundw
              case rel => exact ⟨i + 1, _, by go_num, by omega, by rw [Zaa HTK], rfl⟩
              case measure => simp [intOf]; omega
             | false =>
              have HTK := Zac (show ((((s[i]'hi2).toNat : Int) == 79) = (ls.take (i + 1)).contains 79) by rw [htk, cont_snoc _ _ _ ht, ← hget]; exact (u8_eq _ 79).symm)
              clear htk hget ht
              go_wp2_with fail
              go_quiet (fail)
              go_wp2
              go_roundw
              case rel => exact ⟨i + 1, _, by go_num, by omega, congrArg Value.bool (Zaa HTK), rfl⟩
              case measure => simp [intOf]; omega
            ·
             obtain rfl : i = s.size := by omega
             have htl : ls.take s.size = ls := by rw [← Zaa HSL]; exact List.take_length
             rw [htl]
             clear htl
             have HU := Zac (Zah (Zaa HBE) m)
             cases hct : ls.contains 79 with
             | true =>
              have hz := Zac (Zal (q := okc ls gs.length os.length) (Zaa HNO) (okc1_t hct))
              clear hct
              by_cases hcnt : 0 < os.length
              ·
               go_wp2
               go_roundw
               case rel => exact ⟨2, by go_num, by omega, Zaa HU, Zaa hz⟩
               case measure => simp [intOf]
              ·
               go_wp2
               go_roundw
               case rel => exact ⟨2, by go_num, by omega, Zaa HU, Zaa hz⟩
               case measure => simp [intOf]
             | false =>
              by_cases hcnt : 0 < os.length
              ·
               have HSPR := Zac (spare_list1 hop1 hop2 (show ls = Zao op by rw [Zaa HLS, Zaa HS]; rfl) hct hcnt : InsE.spare ⟨op, d, a, bb, n, fx, gs, os⟩ = true)
               have hz := Zac (show insB p f ⟨op, d, a, bb, n, fx, gs, os⟩ last = false by rw [Zaa HINS, Zaa HSPR]; rfl)
               clear hct
               go_wp2
               go_ret
               exact ⟨by rw [Zaa hz]; rfl, Zad (Zaa HBW) (Zad (Zaa HBB) (Zaa HU) (by have := Zaa HTB; omega)) (by have := Zaa HZ4; omega)⟩
              ·
               have hz := Zac (Zal (q := okc ls gs.length os.length) (Zaa HNO) (okc1_n hcnt))
               clear hct
               go_wp2
               go_roundw
               case rel => exact ⟨2, by go_num, by omega, Zaa HU, Zaa hz⟩
               case measure => simp [intOf]
          ·
           have hpn := (Zaa HPN)
           have hp3 : w.heap.size + 1 + 1 + 1 < W3.heap.size := by have := Zaa HZ4; have := Zaa HTB; omega
           have hbW : Below w2.heap.size w2 wr := Zad (Zaa HBB) hbw (by have := Zaa HTB; omega)
           have pc := (hbW.cell (p := ⟨w.heap.size + 1 + 1 + 1, 1, none⟩) (by have := Zaa HZ4; show w.heap.size + 1 + 1 + 1 < w2.heap.size; omega)).trans hpn.c1
           have HOKA := Zac ((Zaa HNO) 0 (by omega))
           have HOKB := Zac ((Zaa HNO) 1 (by omega))
           have HBV := Zac hbW
           have HVZ := Zac (show w.heap.size + 1 + 1 + 1 + 1 < wr.heap.size by have := Zaa HZ4; have := hbW.size; omega)
           clear hpn hbw hbW hp3
           have HBAD := Zac (bad_eq (d := d) (a := a) (bb := bb) (n := n) (fx := fx) (gs := gs) (os := os) hop1 hop2 (show ls = Zao op by rw [Zaa HLS, Zaa HS]; rfl) (Zaa HNE) (Zaa HOKA) (Zaa HOKB))
           rw [Bool.false_or, Zaa HBAD] at pc
           cases hsp : InsE.spare ⟨op, d, a, bb, n, fx, gs, os⟩ with
           | true =>
            rw [hsp] at pc
            have hz := Zac (show insB p f ⟨op, d, a, bb, n, fx, gs, os⟩ last = false by rw [Zaa HINS, hsp]; rfl)
            clear hsp
            go_wp2
            go_ret
            exact ⟨by rw [Zaa hz]; rfl, Zad (Zaa HBW) (Zaa HBV) (by have := Zaa HZ4; omega)⟩
           | false =>
            rw [hsp] at pc
            have HFIN := Zac (show insB p f ⟨op, d, a, bb, n, fx, gs, os⟩ last = Zai p f ⟨op, d, a, bb, n, fx, gs, os⟩ by rw [Zaa HINS, hsp]; rfl)
            clear hsp
            have HQA := Zac (((Zaa HBV).block _ (by have := Zaa HZ4; omega)).trans (Zaa HQ0))
            have HQB := Zac (((Zaa HBV).block _ (by have := Zaa HZ4; omega)).trans (Zaa HQ1))
            have HQC := Zac (((Zaa HBV).block _ (by have := Zaa HZ4; omega)).trans (Zaa HQ2))
            have HB9 := Zac (Zad (Zaa HBW) (Zaa HBV) (by have := Zaa HZ4; omega))
            have HVW := Zac (show w.heap.size < wr.heap.size by have := Zaa HVZ; omega)
            clear HQ0 HQ1 HQ2 HR0 HR1 HR2 HR3 HPN HBB HBK HNO HOKA HOKB HBAD HRB HTB
            have x0 := (Zab (Zaa HQC) 0).trans rfl
            have x1 := (Zab (Zaa HQC) 1).trans rfl
            have x2 := (Zab (Zaa HQC) 2).trans rfl
            have x3 := (Zab (Zaa HQC) 3).trans rfl
            have x4 := (Zab (Zaa HQC) 4).trans rfl
            have x5 := (Zab (Zaa HQC) 5).trans rfl
            have x6 := (Zab (Zaa HQC) 6).trans rfl
            have x7 := (Zab (Zaa HQC) 7).trans rfl
            have f0 := (Zab (Zaa HQB) 0).trans rfl
            have f1 := (Zab (Zaa HQB) 1).trans rfl
            have f2 := (Zab (Zaa HQB) 2).trans rfl
            have f3 := (Zab (Zaa HQB) 3).trans rfl
            have f4 := (Zab (Zaa HQB) 4).trans rfl
            have hg := Zaa HG
            obtain rfl := hg
            skip
            have p0 := fun X : Obj => (row_al (Zaa HQA) 0 X).trans rfl
            have y0 := fun X : Obj => (row_al (Zaa HQC) 0 X).trans rfl
            have y5 := fun X : Obj => (row_al (Zaa HQC) 5 X).trans rfl
            go_wp2_with fail
            clear p0 y0 y5 x0 x1 x2 x3 x4 x5 x6 x7 f0 f1 f2 f3 f4
            obtain ⟨rC, bC, sC⟩ := al0 wr (.cells #[.slice none 0 0, .int .i64 0] 79 (0, 0))
            have HUA := Zac ((bC.block _ (by have := Zaa HVZ; omega)).trans (Zaa HQA))
            have HUB := Zac ((bC.block _ (by have := Zaa HVZ; omega)).trans (Zaa HQB))
            have HUC := Zac ((bC.block _ (by have := Zaa HVZ; omega)).trans (Zaa HQC))
            have HBU := Zac (Zad (Zaa HB9) bC (by have := Zaa HVW; omega))
            have hTV := Zaa HVZ
            generalize wr.heap.size = Tc at rC sC hTV ⊢
            generalize World.alloc wr _ = U at rC bC sC HUA HUB HUC HBU ⊢
            have hCU : Tc < U.heap.size := by omega
            have hWT : w.heap.size < Tc := by omega
            have HRC := Zac rC
            clear rC bC sC HQA HQB HQC
            refine (rin_c fx 0 (p.funcs.length - 1) _).mono ?_
            rintro e w9 ⟨rfl, h9⟩
            subst w9
            cases hr : inB fx 0 (p.funcs.length - 1) with
            | false =>
             have hz := Zac (show Zai p f ⟨17, d, a, bb, n, fx, gs, os⟩ = false by unfold Zai; simp [hr])
             clear hr
             go_wp2
             go_ret
             exact ⟨by rw [Zaa HFIN, Zaa hz]; rfl, Zaa HBU⟩
            | true =>
             unfold inB at hr
             obtain ⟨g0, g1⟩ := of_decide_eq_true hr
             obtain ⟨m, rfl⟩ : ∃ m : Nat, fx = m := ⟨fx.toNat, by omega⟩
             have hm : m < p.funcs.length := by omega
             have hin : inB (m : Int) 0 (p.funcs.length - 1) = true := by unfold inB; exact decide_eq_true ⟨by omega, by omega⟩
             have hPU := (Zaa HSC).prog.below (Zaa HBU)
             obtain ⟨p', cap', he, -, -, hcc⟩ := hPU.fs
             injection he with j1 j2 j3
             subst j1 j3
             obtain ⟨sb, so, rfl, hsbl, hc⟩ := hcc (by omega)
             have hel := hc m hm
             have hfc := hPU.feach m hm
             have hgd : p.funcs[m] = p.funcs.getD m Zaj := by simp [List.getD, hm]
             rw [hgd] at hfc
             have hg8 := (Zaa HF).funcs m hm
             have hgs := (Zaa HFS).funcs m hm
             have HX := Zac (show Zai p f ⟨17, d, a, bb, n, m, gs, os⟩ = tailB f ⟨17, d, a, bb, n, m, gs, os⟩ ((sigE (p.funcs.getD m Zaj)).1, (p.funcs.getD m Zaj).results) by unfold Zai; simp only [Int.toNat_natCast]; rw [hin]; rfl)
             generalize p.funcs.getD m Zaj = g at hfc hg8 hgs HX
             obtain ⟨gv, hgv, sg, bg, Bg, hA, hfd⟩ := hfc
             have HFD := Zac hfd
             obtain ⟨gp, gc, rfl⟩ := hfd.ps.shape
             obtain ⟨gh, gch, rfl⟩ := hfd.hs.shape
             obtain ⟨gss, gcs, rfl⟩ := hfd.ss.shape
             obtain ⟨gb, gcb, rfl⟩ := hfd.bs.shape
             rw [hA] at hel
             have e0 := hel 0 _ rfl
             have e1 := hel 1 _ rfl
             have e2 := hel 2 _ rfl
             have e3 := hel 3 _ rfl
             have e4 := hel 4 _ rfl
             rw [Nat.add_zero] at e0
             have p0 := (Zab (Zaa HUA) 0).trans rfl
             have x5 := (Zab (Zaa HUC) 5).trans rfl
             clear hr hin hfd hel hcc hc hgd g0 g1 hA j2 hPU
             go_wp2_with fail
             clear e0 e1 e2 e3 e4 p0 x5
             refine (sigR2_c g _ _ _ _ U (Zaa HFD).ps (by omega)).mono ?_
             rintro e w6 ⟨v6, rfl, hv6, hb6, hfr⟩
             obtain ⟨pq, cq, rfl⟩ := hv6.shape
             have HFR := Zac (fun sb so n c he => Nat.lt_of_lt_of_le hCU (hfr sb so n c he))
             generalize (sigE g).1 = sgl at hv6 hgs HX HFR ⊢
             generalize hres : g.results = res at HX ⊢
             clear hres hfr HFD hg8
             have hrc := (hb6.block Tc hCU).trans (Zaa HRC)
             have hvB := (setRow_other w6 Tc (w.heap.size + 1) #[.slice pq sgl.length cq, .int .i64 res] (by omega)).trans ((hb6.block _ (by omega)).trans (Zaa HUB))
             have hvC := (setRow_other w6 Tc (w.heap.size + 1 + 1) #[.slice pq sgl.length cq, .int .i64 res] (by omega)).trans ((hb6.block _ (by omega)).trans (Zaa HUC))
             have hvS := setRow_heap w6 Tc _ #[.slice pq sgl.length cq, .int .i64 res] _ _ hrc
             have hLV : Li (w6.setRow Tc #[.slice pq sgl.length cq, .int .i64 res]) (.slice pq sgl.length cq) sgl := hv6.setRow (fun sb so n c he h0 => by have := Zaa HFR sb so n c he; omega)
             have hBV := Zag (cs := #[.slice pq sgl.length cq, .int .i64 res]) (T := Tc) (Zad (Zaa HBU) hb6 (by omega)) (by omega)
             have hVz : Tc < (w6.setRow Tc #[.slice pq sgl.length cq, .int .i64 res]).heap.size := row_lt hvS
             have y6 := (Zab hvC 6).trans rfl
             have c0 := (Zab hvS 0).trans rfl
             have HRC6 := Zac hrc
             have HVB := Zac hvB
             have HVC := Zac hvC
             have HVS := Zac hvS
             have HLV := Zac hLV
             have HBV := Zac hBV
             clear hrc hvB hvC hvS hLV hBV hb6 hv6 HFR HRC HUA HUB HUC
             have hsl : sgl.length < 9223372036854775808 := (Zaa HLV).lt
             by_cases hne : gs.length = sgl.length
             ·
              have zne : ((gs.length : Int) != (sgl.length : Int)) = false := by simp [hne]
              go_wp2_with (refine wpList_store_row rfl 79 (.tmp 19) (.tmp 305) rfl Tc #[.slice pq sgl.length cq, .int .i64 res] rfl rfl 79 _ (Zaa HRC6) (Tryz.infSigK.trans rfl) rfl (by simp [Value.oneCell']) ?_)
              clear y6 c0 HRC6
              generalize hVV : w6.setRow Tc _ = V at HVB HVC HVS HLV HBV hVz ⊢
              clear hVV
              have HAB := Zac (show argsB f gs sgl = upB gs.length (fun k => (decide ((gs.getD k (0, 0)).1 = sgl.getD k 0) && spotB f (gs.getD k (0, 0)))) by unfold argsB; simp [hne])
              have HNE := Zac hne
              clear hne zne
              go_loopw [316] (fun j w' => ∃ k : Nat, j = .int .i64 k ∧ k ≤ gs.length ∧ Below V.heap.size V w' ∧ ∀ q, q < k → (decide ((gs.getD q (0, 0)).1 = sgl.getD q 0) && spotB f (gs.getD q (0, 0))) = true) (fun j _ => gs.length - (intOf j).toNat)
              case atStart => exact ⟨0, rfl, by omega, Below.refl _ _, fun q hq => by omega⟩
              case round =>
               obtain ⟨k, rfl, hk, hbw, hno⟩ := hrel
               have HN := Zac hno
               clear hno
               have hws := hbw.size
               by_cases hk2 : k < gs.length
               ·
                have hk3 : k < sgl.length := by have := Zaa HNE; omega
                obtain ⟨p9, cap9, he, -, -, hac⟩ := ((Zaa HA).below (Zaa HBV)).pairs
                injection he with j1 j2 j3
                subst j1 j3
                obtain ⟨sa, oa, rfl, hcc⟩ := hac (by omega)
                obtain ⟨p8, cap8, he2, -, -, hqc⟩ := Zaa HLV
                injection he2 with i1 i2 i3
                subst i1 i3
                obtain ⟨sq, oq, rfl, hqq⟩ := hqc (by omega)
                have hsa : sa < V.heap.size := World.block_lt_of_cell? V _ (hcc k hk2).1
                have c1 := (hbw.cell (p := ⟨sa, oa + k * 2, none⟩) hsa).trans (hcc k hk2).1
                have c2 := (hbw.cell (p := ⟨sa, oa + k * 2 + 1, none⟩) hsa).trans (hcc k hk2).2
                have hcq' := (hbw.cell (World.block_lt_of_cell? V _ (hqq k hk3))).trans (hqq k hk3)
                have hz0 : 0 ≤ sgl.getD k 0 := by have := upB_get hgs hk3; unfold inB at this; exact (of_decide_eq_true this).1
                have HROF := Zac ((hbw.block (w.heap.size + 1) (by omega)).trans (Zaa HVB))
                have HROS := Zac ((hbw.block Tc (by omega)).trans (Zaa HVS))
                have HBAD := Zac (fun hb : (decide ((gs.getD k (0, 0)).1 = sgl.getD k 0) && spotB f (gs.getD k (0, 0))) = false => show insB p f ⟨17, d, a, bb, n, m, gs, os⟩ last = false from (Zaa HFIN).trans ((Zaa HX).trans (by unfold tailB; simp only; rw [(Zaa HAB).trans (upB_false hk2 hb)]; rfl)))
                have HNX := Zac (fun hb : (decide ((gs.getD k (0, 0)).1 = sgl.getD k 0) && spotB f (gs.getD k (0, 0))) = true => Zal (q := fun q => (decide ((gs.getD q (0, 0)).1 = sgl.getD q 0) && spotB f (gs.getD q (0, 0)))) (Zaa HN) hb)
                have HBW := Zac hbw
                clear hac hqc hcc hqq hbw j2 i2
                generalize gs.getD k (0, 0) = xy at c1 c2 HBAD HNX
                obtain ⟨x, y⟩ := xy
                generalize sgl.getD k 0 = z2 at hcq' HBAD HNX hz0
                simp only at c1 c2 HBAD HNX
                go_wp2_with fail
                have hy := al0 wr (.cells #[.int .i64 x, .int .i64 y] 116 (0, 0))
                have hrX := hy.1
                have hrF := (hy.2.1.block (w.heap.size + 1) (by omega)).trans (Zaa HROF)
                have hrS := (hy.2.1.block Tc (by omega)).trans (Zaa HROS)
                have hcQ := (hy.2.1.cell (World.block_lt_of_cell? wr _ hcq')).trans hcq'
                have hbU : Below V.heap.size V (wr.alloc (.cells #[.int .i64 x, .int .i64 y] 116 (0, 0))) := Zad (Zaa HBW) hy.2.1 hws
                have hUs := hy.2.2
                clear hy hcq' c1 c2 HROF HROS
                generalize hTx : wr.heap.size = Tx at hrX hUs hws ⊢
                generalize World.alloc wr _ = U2 at hrX hrF hrS hcQ hbU hUs ⊢
                have hTU : Tx < U2.heap.size := by omega
                have HBU2 := Zac hbU
                have HRX := Zac hrX
                have HRF := Zac hrF
                have HRS2 := Zac hrS
                have HCQ := Zac hcQ
                have hU2V := hbU.size
                clear hTx hbU hUs
                have q0 := (Zab hrX 0).trans rfl
                have q1 := (Zab hrX 1).trans rfl
                have f3 := (Zab hrF 3).trans rfl
                have cc := (Zab hrS 0).trans rfl
                clear hrX hrF hrS
                by_cases hxz : x = z2
                ·
                 subst hxz
                 have zz : (x != x) = false := by simp
                 by_cases hx0 : x = 0
                 ·
                  subst hx0
                  have hUW : w.heap.size + 1 < U2.heap.size := by omega
                  have hUT : Tc < U2.heap.size := by omega
                  have HK := Zac (fun (V : World) (h : Below U2.heap.size U2 V) => show Below U2.heap.size U2 V ∧ V.cell? ⟨w.heap.size + 1, 0, none⟩ = some (.slice pp f.params.length cp) ∧ V.cell? ⟨w.heap.size + 1, 1, none⟩ = some (.int .i64 f.results) ∧ V.cell? ⟨w.heap.size + 1, 2, none⟩ = some (.slice ph f.homes.length ch) ∧ V.cell? ⟨w.heap.size + 1, 3, none⟩ = some (.slice ps f.slots.length cs) ∧ V.cell? ⟨w.heap.size + 1, 4, none⟩ = some (.slice pb f.blocks.length cb) ∧ V.cell? ⟨Tx, 0, none⟩ = some (.int .i64 0) ∧ V.cell? ⟨Tx, 1, none⟩ = some (.int .i64 y) ∧ V.cell? ⟨Tc, 0, none⟩ = some (.slice (some ⟨sq, oq, none⟩) sgl.length cq) ∧ V.cell? ⟨sq, oq + k, none⟩ = some (.int .i64 0) from ⟨h, (Zab ((h.block (w.heap.size + 1) (by omega)).trans (Zaa HRF)) 0).trans rfl, (Zab ((h.block (w.heap.size + 1) (by omega)).trans (Zaa HRF)) 1).trans rfl, (Zab ((h.block (w.heap.size + 1) (by omega)).trans (Zaa HRF)) 2).trans rfl, (Zab ((h.block (w.heap.size + 1) (by omega)).trans (Zaa HRF)) 3).trans rfl, (Zab ((h.block (w.heap.size + 1) (by omega)).trans (Zaa HRF)) 4).trans rfl, (Zab ((h.block Tx (by omega)).trans (Zaa HRX)) 0).trans rfl, (Zab ((h.block Tx (by omega)).trans (Zaa HRX)) 1).trans rfl, (Zab ((h.block Tc (by omega)).trans (Zaa HRS2)) 0).trans rfl, (h.cell (World.block_lt_of_cell? U2 _ (Zaa HCQ))).trans (Zaa HCQ)⟩)
                  have HK0 := Zac (Zaa HK U2.drew (Below.refl U2.heap.size U2).drew)
                  have HBL := Zac (((Below.refl U2.heap.size U2).alloc (Nat.le_refl _) (.cells #[.int .i64 y] 3 (0, 0))).drew)
                  have HLC := Zac (rlocal_c f (.slice pp f.params.length cp) (.slice ph f.homes.length ch) (.slice ps f.slots.length cs) (.slice pb f.blocks.length cb) (.slice (some ⟨U2.heap.size, 0, none⟩) 1 1) f.results [y] (U2.alloc (.cells #[.int .i64 y] 3 (0, 0))).drew ⟨_, _, rfl⟩ hl1 ((Li.list (w := U2) [y] (by show 1 < short; decide)).below (Below.refl _ _).drew))
                  rw [localsB_1] at HLC
                  have HSPT := Zac (show spotB f (0, y) = localB f y by unfold spotB localB; simp)
                  clear q0 q1 f3 cc hcQ
                  generalize localB f y = b at HLC HSPT
                  refine wp_region_held_drew (S := fun V => Below U2.heap.size U2 V ∧ V.cell? ⟨w.heap.size + 1, 0, none⟩ = some (.slice pp f.params.length cp) ∧ V.cell? ⟨w.heap.size + 1, 1, none⟩ = some (.int .i64 f.results) ∧ V.cell? ⟨w.heap.size + 1, 2, none⟩ = some (.slice ph f.homes.length ch) ∧ V.cell? ⟨w.heap.size + 1, 3, none⟩ = some (.slice ps f.slots.length cs) ∧ V.cell? ⟨w.heap.size + 1, 4, none⟩ = some (.slice pb f.blocks.length cb) ∧ V.cell? ⟨Tx, 0, none⟩ = some (.int .i64 0) ∧ V.cell? ⟨Tx, 1, none⟩ = some (.int .i64 y) ∧ V.cell? ⟨Tc, 0, none⟩ = some (.slice (some ⟨sq, oq, none⟩) sgl.length cq) ∧ V.cell? ⟨sq, oq + k, none⟩ = some (.int .i64 0)) (by kernel_rfl) (Zaa HK0) (fun hHeld => ?_)
                  refine tT 0 ?v0 rfl (by kernel_rfl) (fun _ _ _ h => h) (by rfl) ?hy0 (by assumption) ?_
                  case hy0 =>
                   intro V hV
                   try dsimp only at hV
                   go_simp
                   all_goals (with_reducible rfl)
                  simp only [Act.put, zA, zB, zC, zD, zE]
                  refine tT 1 ?v1 rfl (by kernel_rfl) (fun _ _ _ h => h) (by rfl) ?hy1 (by assumption) ?_
                  case hy1 =>
                   intro V hV
                   try dsimp only at hV
                   go_simp
                   all_goals (with_reducible rfl)
                  simp only [Act.put, zA, zB, zC, zD, zE, zF]
                  refine tT 2 ?v2 rfl (by kernel_rfl) (fun _ _ _ h => h) (by rfl) ?hy2 (by assumption) ?_
                  case hy2 =>
                   intro V hV
                   try dsimp only at hV
                   go_simp
                   all_goals (with_reducible rfl)
                  simp only [Act.put, zA, zB, zC, zD, zE, zF]
                  refine tT 3 ?v3 rfl (by kernel_rfl) (fun _ _ _ h => h) (by rfl) ?hy3 (by assumption) ?_
                  case hy3 =>
                   intro V hV
                   try dsimp only at hV
                   go_simp
                   all_goals (with_reducible rfl)
                  simp only [Act.put, zA, zB, zC, zD, zE, zF]
                  refine tT 4 ?v4 rfl (by kernel_rfl) (fun _ _ _ h => h) (by rfl) ?hy4 (by assumption) ?_
                  case hy4 =>
                   intro V hV
                   try dsimp only at hV
                   go_simp
                   all_goals (with_reducible rfl)
                  simp only [Act.put, zA, zB, zC, zD, zE, zF]
                  refine tT 5 ?v5 rfl (by kernel_rfl) (fun _ _ _ h => h) (by rfl) ?hy5 (by assumption) ?_
                  case hy5 =>
                   intro V hV
                   try dsimp only at hV
                   go_simp
                   all_goals (with_reducible rfl)
                  simp only [Act.put, zA, zB, zC, zD, zE, zF]
                  refine tT 6 ?v6 rfl (by kernel_rfl) (fun _ _ _ h => h) (by rfl) ?hy6 (by assumption) ?_
                  case hy6 =>
                   intro V hV
                   try dsimp only at hV
                   go_simp
                   all_goals (with_reducible rfl)
                  simp only [Act.put, zA, zB, zC, zD, zE, zF]
                  refine tT 7 ?v7 rfl (by kernel_rfl) (fun _ _ _ h => h) (by rfl) ?hy7 (by assumption) ?_
                  case hy7 =>
                   intro V hV
                   try dsimp only at hV
                   go_simp
                   all_goals (with_reducible rfl)
                  simp only [Act.put, zA, zB, zC, zD, zE, zF]
                  refine tT 8 ?v8 rfl (by kernel_rfl) (fun _ _ _ h => h) (by rfl) ?hy8 (by assumption) ?_
                  case hy8 =>
                   intro V hV
                   try dsimp only at hV
                   go_simp
                   all_goals (with_reducible rfl)
                  simp only [Act.put, zA, zB, zC, zD, zE, zF]
                  refine tT 9 ?v9 rfl (by kernel_rfl) (fun _ _ _ h => h) (by rfl) ?hy9 (by assumption) ?_
                  case hy9 =>
                   intro V hV
                   try dsimp only at hV
                   go_simp
                   all_goals (with_reducible rfl)
                  simp only [Act.put, zA, zB, zC, zD, zE, zF]
                  refine tT 10 ?v10 rfl (by kernel_rfl) (fun _ _ _ h => h) (by rfl) ?hy10 (by assumption) ?_
                  case hy10 =>
                   intro V hV
                   try dsimp only at hV
                   go_simp
                   all_goals (with_reducible rfl)
                  simp only [Act.put, zA, zB, zC, zD, zE, zF]
                  refine tT 11 ?v11 rfl (by kernel_rfl) (fun _ _ _ h => h) (by rfl) ?hy11 (by assumption) ?_
                  case hy11 =>
                   intro V hV
                   try dsimp only at hV
                   go_simp
                   all_goals (with_reducible rfl)
                  simp only [Act.put, zA, zB, zC, zD, zE, zF]
                  refine tT 12 ?v12 rfl (by kernel_rfl) (fun _ _ _ h => h) (by rfl) ?hy12 (by assumption) ?_
                  case hy12 =>
                   intro V hV
                   try dsimp only at hV
                   go_simp
                   all_goals (with_reducible rfl)
                  simp only [Act.put, zA, zB, zC, zD, zE, zF]
                  refine tT 13 ?v13 rfl (by kernel_rfl) (fun _ _ _ h => h) (by rfl) ?hy13 (by assumption) ?_
                  case hy13 =>
                   intro V hV
                   try dsimp only at hV
                   go_simp
                   all_goals (with_reducible rfl)
                  simp only [Act.put, zA, zB, zC, zD, zE, zF]
                  refine tT 14 ?v14 rfl (by kernel_rfl) (fun _ _ _ h => h) (by rfl) ?hy14 (by assumption) ?_
                  case hy14 =>
                   intro V hV
                   try dsimp only at hV
                   go_simp
                   all_goals (with_reducible rfl)
                  simp only [Act.put, zA, zB, zC, zD, zE, zF]
                  refine tT 15 ?v15 rfl (by kernel_rfl) (fun _ _ _ h => h) (by rfl) ?hy15 (by assumption) ?_
                  case hy15 =>
                   intro V hV
                   try dsimp only at hV
                   go_simp
                   all_goals (with_reducible rfl)
                  simp only [Act.put, zA, zB, zC, zD, zE, zF]
                  refine wpAnyH_ready (rs := [16]) (by kernel_rfl) (by simp) ?_
                  refine AllReadyH.cons rfl (fun K hK => ?_) AllReadyH.nil
                  go_simp
                  refine hK.out _ _ (Zaa HK _ (Zaa HBL)) (fun hHeld2 => ?_)
                  clear hK K
                  try simp only [Act.put, zA, zB, zC, zD, zE, zF]
                  refine wpAnyH_ready (rs := [17]) (by kernel_rfl) (by simp) ?_
                  refine AllReadyH.cons rfl (fun K hK => ?_) AllReadyH.nil
                  go_simp
                  refine (Zaa HLC).mono ?_
                  rintro e w7 ⟨rfl, hb7⟩
                  have HB7 := Zac (Zad (Zaa HBL) hb7 (Zaa HBL).size)
                  clear hb7
                  go_wp2_with fail
                  refine hK.out _ _ (Zaa HK _ (Zaa HB7)) (fun hHeld2 => ?_)
                  clear hK K
                  try simp only [Act.put, zA, zB, zC, zD, zE, zF]
                  refine tT 18 ?v18 rfl (by kernel_rfl) (fun _ _ _ h => h) (by rfl) ?hy18 (by assumption) ?_
                  case hy18 =>
                   intro V hV
                   try dsimp only at hV
                   go_simp
                   all_goals (with_reducible rfl)
                  simp only [Act.put, zA, zB, zC, zD, zE, zF]
                  refine tT 19 ?v19 rfl (by kernel_rfl) (fun _ _ _ h => h) (by rfl) ?hy19 (by assumption) ?_
                  case hy19 =>
                   intro V hV
                   try dsimp only at hV
                   go_simp
                   all_goals (with_reducible rfl)
                  simp only [Act.put, zA, zB, zC, zD, zE, zF]
                  refine tT 20 ?v20 rfl (by kernel_rfl) (fun _ _ _ h => h) (by rfl) ?hy20 (by assumption) ?_
                  case hy20 =>
                   intro V hV
                   try dsimp only at hV
                   go_simp
                   all_goals (with_reducible rfl)
                  simp only [Act.put, zA, zB, zC, zD, zE, zF]
                  refine tT 21 ?v21 rfl (by kernel_rfl) (fun _ _ _ h => h) (by rfl) ?hy21 (by assumption) ?_
                  case hy21 =>
                   intro V hV
                   try dsimp only at hV
                   go_simp
                   all_goals (with_reducible rfl)
                  simp only [Act.put, zA, zB, zC, zD, zE, zF]
                  cases b with
                  | false =>
                   refine tS 22 rfl (by kernel_rfl) (fun _ _ _ h => h) (by rfl) (by assumption) ?_
                   simp only [Act.put, zA, zB, zC, zD, zE, zF]
                   refine tS 23 rfl (by kernel_rfl) (fun _ _ _ h => h) (by rfl) (by assumption) ?_
                   simp only [Act.put, zA, zB, zC, zD, zE, zF]
                   refine tS 24 rfl (by kernel_rfl) (fun _ _ _ h => h) (by rfl) (by assumption) ?_
                   simp only [Act.put, zA, zB, zC, zD, zE, zF]
                   refine tS 25 rfl (by kernel_rfl) (fun _ _ _ h => h) (by rfl) (by assumption) ?_
                   simp only [Act.put, zA, zB, zC, zD, zE, zF]
                   refine tS 26 rfl (by kernel_rfl) (fun _ _ _ h => h) (by rfl) (by assumption) ?_
                   simp only [Act.put, zA, zB, zC, zD, zE, zF]
                   refine tS 27 rfl (by kernel_rfl) (fun _ _ _ h => h) (by rfl) (by assumption) ?_
                   simp only [Act.put, zA, zB, zC, zD, zE, zF]
                   refine tS 28 rfl (by kernel_rfl) (fun _ _ _ h => h) (by rfl) (by assumption) ?_
                   simp only [Act.put, zA, zB, zC, zD, zE, zF]
                   refine tS 29 rfl (by kernel_rfl) (fun _ _ _ h => h) (by rfl) (by assumption) ?_
                   simp only [Act.put, zA, zB, zC, zD, zE, zF]
                   refine tS 30 rfl (by kernel_rfl) (fun _ _ _ h => h) (by rfl) (by assumption) ?_
                   simp only [Act.put, zA, zB, zC, zD, zE, zF]
                   refine tS 31 rfl (by kernel_rfl) (fun _ _ _ h => h) (by rfl) (by assumption) ?_
                   simp only [Act.put, zA, zB, zC, zD, zE, zF]
                   refine tS 32 rfl (by kernel_rfl) (fun _ _ _ h => h) (by rfl) (by assumption) ?_
                   simp only [Act.put, zA, zB, zC, zD, zE, zF]
                   refine tS 33 rfl (by kernel_rfl) (fun _ _ _ h => h) (by rfl) (by assumption) ?_
                   simp only [Act.put, zA, zB, zC, zD, zE, zF]
                   refine tS 34 rfl (by kernel_rfl) (fun _ _ _ h => h) (by rfl) (by assumption) ?_
                   simp only [Act.put, zA, zB, zC, zD, zE, zF]
                   refine tS 35 rfl (by kernel_rfl) (fun _ _ _ h => h) (by rfl) (by assumption) ?_
                   simp only [Act.put, zA, zB, zC, zD, zE, zF]
                   refine tS 36 rfl (by kernel_rfl) (fun _ _ _ h => h) (by rfl) (by assumption) ?_
                   simp only [Act.put, zA, zB, zC, zD, zE, zF]
                   refine tS 37 rfl (by kernel_rfl) (fun _ _ _ h => h) (by rfl) (by assumption) ?_
                   simp only [Act.put, zA, zB, zC, zD, zE, zF]
                   refine tS 38 rfl (by kernel_rfl) (fun _ _ _ h => h) (by rfl) (by assumption) ?_
                   simp only [Act.put, zA, zB, zC, zD, zE, zF]
                   refine tS 39 rfl (by kernel_rfl) (fun _ _ _ h => h) (by rfl) (by assumption) ?_
                   simp only [Act.put, zA, zB, zC, zD, zE, zF]
                   refine tS 40 rfl (by kernel_rfl) (fun _ _ _ h => h) (by rfl) (by assumption) ?_
                   simp only [Act.put, zA, zB, zC, zD, zE, zF]
                   refine tS 41 rfl (by kernel_rfl) (fun _ _ _ h => h) (by rfl) (by assumption) ?_
                   simp only [Act.put, zA, zB, zC, zD, zE, zF]
                   refine tS 42 rfl (by kernel_rfl) (fun _ _ _ h => h) (by rfl) (by assumption) ?_
                   simp only [Act.put, zA, zB, zC, zD, zE, zF]
                   refine tS 43 rfl (by kernel_rfl) (fun _ _ _ h => h) (by rfl) (by assumption) ?_
                   simp only [Act.put, zA, zB, zC, zD, zE, zF]
                   refine tS 44 rfl (by kernel_rfl) (fun _ _ _ h => h) (by rfl) (by assumption) ?_
                   simp only [Act.put, zA, zB, zC, zD, zE, zF]
                   refine tS 45 rfl (by kernel_rfl) (fun _ _ _ h => h) (by rfl) (by assumption) ?_
                   simp only [Act.put, zA, zB, zC, zD, zE, zF]
                   refine tT 46 ?vf46 rfl (by kernel_rfl) (fun _ _ _ h => h) (by rfl) ?hyf46 (by assumption) ?_
                   case hyf46 =>
                    intro V hV
                    try dsimp only at hV
                    go_simp
                    all_goals (with_reducible rfl)
                   simp only [Act.put, zA, zB, zC, zD, zE, zF]
                   refine wpAnyH_done (by kernel_rfl) ?_ _
                   have hz := Zac (Zaa HBAD (by rw [Zaa HSPT]; simp))
                   go_wp2
                   go_ret
                   exact ⟨by rw [Zaa hz]; rfl, Zad (Zaa HBV) (Zad (Zaa HBU2) (Zaa HB7) (by omega)) (by omega)⟩
                  | true =>
                   refine tT 22 ?vt22 rfl (by kernel_rfl) (fun _ _ _ h => h) (by rfl) ?hyt22 (by assumption) ?_
                   case hyt22 =>
                    intro V hV
                    try dsimp only at hV
                    go_simp
                    all_goals (with_reducible rfl)
                   simp only [Act.put, zA, zB, zC, zD, zE, zF]
                   refine tT 23 ?vt23 rfl (by kernel_rfl) (fun _ _ _ h => h) (by rfl) ?hyt23 (by assumption) ?_
                   case hyt23 =>
                    intro V hV
                    try dsimp only at hV
                    go_simp
                    all_goals (with_reducible rfl)
                   simp only [Act.put, zA, zB, zC, zD, zE, zF]
                   refine tT 24 ?vt24 rfl (by kernel_rfl) (fun _ _ _ h => h) (by rfl) ?hyt24 (by assumption) ?_
                   case hyt24 =>
                    intro V hV
                    try dsimp only at hV
                    go_simp
                    all_goals (with_reducible rfl)
                   simp only [Act.put, zA, zB, zC, zD, zE, zF]
                   refine tT 25 ?vt25 rfl (by kernel_rfl) (fun _ _ _ h => h) (by rfl) ?hyt25 (by assumption) ?_
                   case hyt25 =>
                    intro V hV
                    try dsimp only at hV
                    go_simp
                    all_goals (with_reducible rfl)
                   simp only [Act.put, zA, zB, zC, zD, zE, zF]
                   refine tS 26 rfl (by kernel_rfl) (fun _ _ _ h => h) (by rfl) (by assumption) ?_
                   simp only [Act.put, zA, zB, zC, zD, zE, zF]
                   refine tS 27 rfl (by kernel_rfl) (fun _ _ _ h => h) (by rfl) (by assumption) ?_
                   simp only [Act.put, zA, zB, zC, zD, zE, zF]
                   refine tS 28 rfl (by kernel_rfl) (fun _ _ _ h => h) (by rfl) (by assumption) ?_
                   simp only [Act.put, zA, zB, zC, zD, zE, zF]
                   refine tS 29 rfl (by kernel_rfl) (fun _ _ _ h => h) (by rfl) (by assumption) ?_
                   simp only [Act.put, zA, zB, zC, zD, zE, zF]
                   refine tS 30 rfl (by kernel_rfl) (fun _ _ _ h => h) (by rfl) (by assumption) ?_
                   simp only [Act.put, zA, zB, zC, zD, zE, zF]
                   refine tS 31 rfl (by kernel_rfl) (fun _ _ _ h => h) (by rfl) (by assumption) ?_
                   simp only [Act.put, zA, zB, zC, zD, zE, zF]
                   refine tS 32 rfl (by kernel_rfl) (fun _ _ _ h => h) (by rfl) (by assumption) ?_
                   simp only [Act.put, zA, zB, zC, zD, zE, zF]
                   refine tS 33 rfl (by kernel_rfl) (fun _ _ _ h => h) (by rfl) (by assumption) ?_
                   simp only [Act.put, zA, zB, zC, zD, zE, zF]
                   refine tS 34 rfl (by kernel_rfl) (fun _ _ _ h => h) (by rfl) (by assumption) ?_
                   simp only [Act.put, zA, zB, zC, zD, zE, zF]
                   refine tS 35 rfl (by kernel_rfl) (fun _ _ _ h => h) (by rfl) (by assumption) ?_
                   simp only [Act.put, zA, zB, zC, zD, zE, zF]
                   refine tS 36 rfl (by kernel_rfl) (fun _ _ _ h => h) (by rfl) (by assumption) ?_
                   simp only [Act.put, zA, zB, zC, zD, zE, zF]
                   refine tS 37 rfl (by kernel_rfl) (fun _ _ _ h => h) (by rfl) (by assumption) ?_
                   simp only [Act.put, zA, zB, zC, zD, zE, zF]
                   refine tS 38 rfl (by kernel_rfl) (fun _ _ _ h => h) (by rfl) (by assumption) ?_
                   simp only [Act.put, zA, zB, zC, zD, zE, zF]
                   refine tS 39 rfl (by kernel_rfl) (fun _ _ _ h => h) (by rfl) (by assumption) ?_
                   simp only [Act.put, zA, zB, zC, zD, zE, zF]
                   refine tS 40 rfl (by kernel_rfl) (fun _ _ _ h => h) (by rfl) (by assumption) ?_
                   simp only [Act.put, zA, zB, zC, zD, zE, zF]
                   refine tS 41 rfl (by kernel_rfl) (fun _ _ _ h => h) (by rfl) (by assumption) ?_
                   simp only [Act.put, zA, zB, zC, zD, zE, zF]
                   refine tS 42 rfl (by kernel_rfl) (fun _ _ _ h => h) (by rfl) (by assumption) ?_
                   simp only [Act.put, zA, zB, zC, zD, zE, zF]
                   refine tS 43 rfl (by kernel_rfl) (fun _ _ _ h => h) (by rfl) (by assumption) ?_
                   simp only [Act.put, zA, zB, zC, zD, zE, zF]
                   refine tS 44 rfl (by kernel_rfl) (fun _ _ _ h => h) (by rfl) (by assumption) ?_
                   simp only [Act.put, zA, zB, zC, zD, zE, zF]
                   refine tT 45 ?vt45 rfl (by kernel_rfl) (fun _ _ _ h => h) (by rfl) ?hyt45 (by assumption) ?_
                   case hyt45 =>
                    intro V hV
                    try dsimp only at hV
                    go_simp
                    all_goals (with_reducible rfl)
                   simp only [Act.put, zA, zB, zC, zD, zE, zF]
                   refine tT 46 ?vt46 rfl (by kernel_rfl) (fun _ _ _ h => h) (by rfl) ?hyt46 (by assumption) ?_
                   case hyt46 =>
                    intro V hV
                    try dsimp only at hV
                    go_simp
                    all_goals (with_reducible rfl)
                   simp only [Act.put, zA, zB, zC, zD, zE, zF]
                   refine wpAnyH_done (by kernel_rfl) ?_ _
                   have hz := Zac (Zaa HNX (by rw [Zaa HSPT]; simp))
                   go_wp2
                   go_roundw
                   case rel => exact ⟨k + 1, by go_num, by omega, Zad (Zaa HBU2) (Zaa HB7) (by omega), Zaa hz⟩
                   case measure => simp [intOf]; omega
                 ·
                  have z0 : (x == 0) = false := by simpa using hx0
                  have hx1 : 0 < x := by omega
                  have HWI := Zac (fun V => rin_c y 0 (f.slots.length - 1) V)
                  cases hr : inB y 0 (f.slots.length - 1) with
                  | false =>
                   rw [hr] at HWI
                   have HSPT := Zac (show spotB f (x, y) = false by unfold spotB; simp [hx0, hr])
                   clear hr
                   have hz := Zac (Zaa HBAD (by rw [Zaa HSPT]; simp))
                   go_quiet ((go_at_call 12; exact Calls.quiet_of_same (Zaa HWI _)))
                   go_wp2
                   go_ret
                   exact ⟨by rw [Zaa hz]; rfl, Zah (Zad (Zaa HBV) (Zaa HBU2) (by omega)) _⟩
                  | true =>
                   rw [hr] at HWI
                   have HSP0 := Zac (show spotB f (x, y) = decide (f.slots.getD y.toNat 0 = x) by unfold spotB; simp [hx0, hr])
                   unfold inB at hr
                   obtain ⟨g0, g1⟩ := of_decide_eq_true hr
                   obtain ⟨t, rfl⟩ : ∃ t : Nat, y = t := ⟨y.toNat, by omega⟩
                   have hn : t < f.slots.length := by omega
                   obtain ⟨p2, cap2, he2, -, -, hcc2⟩ := ((Zaa HSC).below (Zad (Zaa HBV) (Zaa HBU2) (by omega))).func.ss
                   injection he2 with e1 e2 e3
                   subst e1 e3
                   obtain ⟨sl, sx, rfl, hsc⟩ := hcc2 (by omega)
                   have csl := hsc t hn
                   rw [Int.toNat_natCast] at HSP0
                   clear hr g0 g1 e2 hcc2 hsc
                   generalize f.slots.getD t 0 = sz at csl HSP0
                   by_cases hsx : sz = x
                   ·
                    have zs : (sz != x) = false := by simp [hsx]
                    have HSPT := Zac (show spotB f (x, (t : Int)) = true by rw [Zaa HSP0]; simp [hsx])
                    have hz := Zac (Zaa HNX (by rw [Zaa HSPT]; simp))
                    clear hsx
                    go_quiet ((go_at_call 12; exact Calls.quiet_of_same (Zaa HWI _)))
                    go_wp2
                    go_roundw
                    case rel => exact ⟨k + 1, by go_num, by omega, Zah (Zaa HBU2) _, Zaa hz⟩
                    case measure => simp [intOf]; omega
                   ·
                    have zs : (sz != x) = true := by simpa using hsx
                    have HSPT := Zac (show spotB f (x, (t : Int)) = false by rw [Zaa HSP0]; simp [hsx])
                    clear hsx
                    have hz := Zac (Zaa HBAD (by rw [Zaa HSPT]; simp))
                    go_quiet ((go_at_call 12; exact Calls.quiet_of_same (Zaa HWI _)))
                    go_wp2
                    go_ret
                    exact ⟨by rw [Zaa hz]; rfl, Zah (Zad (Zaa HBV) (Zaa HBU2) (by omega)) _⟩
                ·
                 have zz : (x != z2) = true := by simpa using hxz
                 have hz := Zac (Zaa HBAD (by simp [hxz]))
                 go_quiet (fail)
                 go_wp2
                 go_ret
                 exact ⟨by rw [Zaa hz]; rfl, Zah (Zad (Zaa HBV) (Zaa HBU2) (by omega)) _⟩
               ·
                have HARG := Zac (show argsB f gs sgl = true by rw [Zaa HAB]; exact upB_true (fun q hq => Zaa HN q (by omega)))
                have hnl : ¬ k < sgl.length := by have := Zaa HNE; omega
                have HBW := Zac hbw
                have hrC := (hbw.block (w.heap.size + 1 + 1) (by omega)).trans (Zaa HVC)
                have y0 := (Zab hrC 0).trans rfl
                have hrS := (hbw.block Tc (by omega)).trans (Zaa HVS)
                have hrF := (hbw.block (w.heap.size + 1) (by omega)).trans (Zaa HVB)
                have c1 := (Zab hrS 1).trans rfl
                have f1 := (Zab hrF 1).trans rfl
                have hz := Zac (show insB p f ⟨17, d, a, bb, n, m, gs, os⟩ last = (res == f.results) from (Zaa HFIN).trans ((Zaa HX).trans (by unfold tailB; simp only; rw [Zaa HARG]; rfl)))
                clear hbw hrC hrS hrF HN
                go_wp2
                go_ret
                exact ⟨by rw [Zaa hz]; rfl, Zad (Zaa HBV) (Zaa HBW) (by omega)⟩
             ·
              have zne : ((gs.length : Int) != (sgl.length : Int)) = true := by simp; omega
              have hz := Zac (show insB p f ⟨17, d, a, bb, n, m, gs, os⟩ last = false from (Zaa HFIN).trans ((Zaa HX).trans (by unfold tailB argsB; simp [hne])))
              clear hne
              go_wp2_with (refine wpList_store_row rfl 79 (.tmp 19) (.tmp 305) rfl Tc #[.slice pq sgl.length cq, .int .i64 res] rfl rfl 79 _ (Zaa HRC6) (Tryz.infSigK.trans rfl) rfl (by simp [Value.oneCell']) ?_)
              go_ret
              exact ⟨by rw [Zaa hz]; rfl, Zaa HBV⟩
end Go.Proofs.YtffemeicclhioaaGreatDoor

