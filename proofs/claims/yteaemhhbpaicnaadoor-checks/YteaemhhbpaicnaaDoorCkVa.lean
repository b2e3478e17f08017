/-
  Checks: prologueref.right, for the operations 1, 2, 3, 10, 14, 15, 16, 18. Own work of the verifier.
-/
import Derived.Test.YteaemhhbpaicnaaDoorM9
namespace Go.Proofs.YteaemhhbpaicnaaDoor
open Go.RowKit

set_option maxHeartbeats 16000000 in
set_option maxRecDepth 100000 in
theorem righta_c (p : ProgE) (f : FuncE) (op d a bb n fx : Int) (gs : List (Int × Int)) (os : List Int) (last : Bool) (fv ev pv hv sv bv av ov : Value) (A E : Nat → Array Value) (B : Nat → Value) (w : World) (hSC : ScD w p f fv ev pv hv sv bv A E B) (ha : LS 2 w av gs.length (fun k => pairA (gs.getD k (0, 0)))) (ho : Li w ov os) (hF : FitD p f) (hn : 0 ≤ n ∧ n < 18446744073709551616) (hg : (op = 1) ∨ (op = 2) ∨ (3 ≤ op ∧ op ≤ 9) ∨ (10 ≤ op ∧ op ≤ 11) ∨ (op = 14) ∨ (op = 15) ∨ (op = 16) ∨ (op = 18)) (hel : decide (14 ≤ op) = last) :
    Calls Tryd.prog 14 #[.agg #[fv, ev], .agg #[pv, .int .i64 f.results, hv, sv, bv], .agg #[.int .i64 op, .int .i64 d, .int .i64 a, .int .i64 bb, .int .u64 n, .int .i64 fx, av, ov], .bool last] w fun e w' => e = .returned (.bool (insB p f ⟨op, d, a, bb, n, fx, gs, os⟩ last)) ∧ Below w.heap.size w w' := by
  have HSC := hideI hSC
  have HA := hideI ha
  have HO := hideI ho
  have HF := hideI hF
  have HNN := hideI hn
  have hl1 : f.homes.length < 9223372036854775808 := hSC.func.hs.lt
  have hl2 : f.slots.length < 9223372036854775808 := hSC.func.ss.lt
  have hl3 : f.blocks.length < 9223372036854775808 := by obtain ⟨_, _, _, _, h, _⟩ := hSC.func.bs; exact h
  have hl4 : p.funcs.length < 9223372036854775808 := by obtain ⟨_, _, _, _, h, _⟩ := hSC.prog.fs; exact h
  have hl5 : p.externs.length < 9223372036854775808 := by obtain ⟨_, _, _, _, h, _⟩ := hSC.prog.es; exact h
  have hl6 : os.length < 9223372036854775808 := ho.lt
  have hl7 : gs.length < 9223372036854775808 := by obtain ⟨_, _, _, _, h, _⟩ := ha; exact h
  obtain ⟨pf, cf, rfl⟩ := hSC.prog.fs.shape
  obtain ⟨pe, ce, rfl⟩ := hSC.prog.es.shape
  obtain ⟨pp, cp, rfl⟩ := hSC.func.ps.shape
  obtain ⟨ph, ch, rfl⟩ := hSC.func.hs.shape
  obtain ⟨ps, cs, rfl⟩ := hSC.func.ss.shape
  obtain ⟨pb, cb, rfl⟩ := hSC.func.bs.shape
  obtain ⟨pa, ca, rfl⟩ := ha.shape
  obtain ⟨po, co, rfl⟩ := ho.shape
  clear hSC ha ho hF hn
  have HB3 := hideI (fun X Y Z : Obj => show Below w.heap.size w (((w.alloc X).alloc Y).alloc Z) from (((Below.refl w.heap.size w).alloc (Nat.le_refl _) X).alloc (by simp) Y).alloc (by simp; omega) Z)
  have HB4 := hideI (fun X Y Z U : Obj => show Below w.heap.size w ((((w.alloc X).alloc Y).alloc Z).alloc U) from (unhideI HB3 X Y Z).alloc (by simp; omega) U)
  have hop : 1 ≤ op ∧ op ≤ 18 := by omega
  have HG := hideI hg
  clear hg
  · skip
    · have hin : inB op 1 18 = true := by unfold inB; exact decide_eq_true hop
      have hne : (last != last) = false := by simp
      have HINS := hideI (show insB p f ⟨op, d, a, bb, n, fx, gs, os⟩ last = (!(InsE.spare ⟨op, d, a, bb, n, fx, gs, os⟩) && fieldsB p f ⟨op, d, a, bb, n, fx, gs, os⟩) by
        unfold insB
        simp only [hin, hel, Bool.true_and]
        simp)
      obtain ⟨hop1, hop2⟩ := hop
      go_enter Tryd.func14, Tryd.ntmps14
      go_wp2_with fail
      refine (rin_c op 1 18 _).mono ?_
      rintro e w5 ⟨rfl, h5⟩
      subst w5
      rw [hin]
      go_upto_if 56 with fail
      clear hin hne hel
      have hst : RSk (((((w.alloc (.cells #[.slice pf p.funcs.length cf, .slice pe p.externs.length ce] 29 (0, 0))).alloc (.cells #[.slice pp f.params.length cp, .int .i64 f.results, .slice ph f.homes.length ch, .slice ps f.slots.length cs, .slice pb f.blocks.length cb] 48 (0, 0))).alloc (.cells #[.int .i64 op, .int .i64 d, .int .i64 a, .int .i64 bb, .int .u64 n, .int .i64 fx, .slice pa gs.length ca, .slice po os.length co] 54 (0, 0))).alloc (.cells #[.string ⟨#[]⟩, .bool false] 74 (0, 0))).alloc (.cells #[.int .i64 op, .int .i64 (d.tmod 2), .int .i64 (a.tmod 2), .int .i64 (bb.tmod 2), .int .u64 n, .int .i64 (fx.tmod 2), .slice pa gs.length ca, .slice po os.length co] 54 (0, 0))) (((((w.alloc (.cells #[.slice pf p.funcs.length cf, .slice pe p.externs.length ce] 29 (0, 0))).alloc (.cells #[.slice pp f.params.length cp, .int .i64 f.results, .slice ph f.homes.length ch, .slice ps f.slots.length cs, .slice pb f.blocks.length cb] 48 (0, 0))).alloc (.cells #[.int .i64 op, .int .i64 d, .int .i64 a, .int .i64 bb, .int .u64 n, .int .i64 fx, .slice pa gs.length ca, .slice po os.length co] 54 (0, 0))).alloc (.cells #[.string ⟨#[]⟩, .bool false] 74 (0, 0))).alloc (.cells #[.int .i64 op, .int .i64 (d.tmod 2), .int .i64 (a.tmod 2), .int .i64 (bb.tmod 2), .int .u64 n, .int .i64 (fx.tmod 2), .slice pa gs.length ca, .slice po os.length co] 54 (0, 0))) (w.heap.size + 1 + 1 + 1 + 1) #[.int .i64 op, .int .i64 (d.tmod 2), .int .i64 (a.tmod 2), .int .i64 (bb.tmod 2), .int .u64 n, .int .i64 (fx.tmod 2), .slice pa gs.length ca, .slice po os.length co] := ⟨Below.refl _ _, by have := heap_alloc_new ((((w.alloc (.cells #[.slice pf p.funcs.length cf, .slice pe p.externs.length ce] 29 (0, 0))).alloc (.cells #[.slice pp f.params.length cp, .int .i64 f.results, .slice ph f.homes.length ch, .slice ps f.slots.length cs, .slice pb f.blocks.length cb] 48 (0, 0))).alloc (.cells #[.int .i64 op, .int .i64 d, .int .i64 a, .int .i64 bb, .int .u64 n, .int .i64 fx, .slice pa gs.length ca, .slice po os.length co] 54 (0, 0))).alloc (.cells #[.string ⟨#[]⟩, .bool false] 74 (0, 0))) (.cells #[.int .i64 op, .int .i64 (d.tmod 2), .int .i64 (a.tmod 2), .int .i64 (bb.tmod 2), .int .u64 n, .int .i64 (fx.tmod 2), .slice pa gs.length ca, .slice po os.length co] 54 (0, 0)); simpa using this⟩
      have hW5 := unhideI HB4 (.cells #[.slice pf p.funcs.length cf, .slice pe p.externs.length ce] 29 (0, 0)) (.cells #[.slice pp f.params.length cp, .int .i64 f.results, .slice ph f.homes.length ch, .slice ps f.slots.length cs, .slice pb f.blocks.length cb] 48 (0, 0)) (.cells #[.int .i64 op, .int .i64 d, .int .i64 a, .int .i64 bb, .int .u64 n, .int .i64 fx, .slice pa gs.length ca, .slice po os.length co] 54 (0, 0)) (.cells #[.string ⟨#[]⟩, .bool false] 74 (0, 0))
      have hrows := rows5 w (.cells #[.slice pf p.funcs.length cf, .slice pe p.externs.length ce] 29 (0, 0)) (.cells #[.slice pp f.params.length cp, .int .i64 f.results, .slice ph f.homes.length ch, .slice ps f.slots.length cs, .slice pb f.blocks.length cb] 48 (0, 0)) (.cells #[.int .i64 op, .int .i64 d, .int .i64 a, .int .i64 bb, .int .u64 n, .int .i64 fx, .slice pa gs.length ca, .slice po os.length co] 54 (0, 0)) (.cells #[.string ⟨#[]⟩, .bool false] 74 (0, 0)) (.cells #[.int .i64 op, .int .i64 (d.tmod 2), .int .i64 (a.tmod 2), .int .i64 (bb.tmod 2), .int .u64 n, .int .i64 (fx.tmod 2), .slice pa gs.length ca, .slice po os.length co] 54 (0, 0))
      have hW := hW5.alloc (by simp; omega) (.cells #[.int .i64 op, .int .i64 (d.tmod 2), .int .i64 (a.tmod 2), .int .i64 (bb.tmod 2), .int .u64 n, .int .i64 (fx.tmod 2), .slice pa gs.length ca, .slice po os.length co] 54 (0, 0))
      generalize World.alloc (World.alloc (World.alloc (World.alloc (World.alloc w _) _) _) _) _ = W at hst hrows hW ⊢
      obtain ⟨hR0, hR1, hR2, hR3, hZ⟩ := hrows
      have HR0 := hideI hR0
      have HR1 := hideI hR1
      have HR2 := hideI hR2
      have HR3 := hideI hR3
      have HZ := hideI hZ
      have HW := hideI hW
      have HST := hideI hst
      clear hR0 hR1 hR2 hR3 hZ hW hW5 hst HB3 HB4
      go_cut [] from 54 to 57 (fun wc => RSk W wc (w.heap.size + 1 + 1 + 1 + 1) #[.int .i64 op, .int .i64 (nz d), .int .i64 (a.tmod 2), .int .i64 (bb.tmod 2), .int .u64 n, .int .i64 (fx.tmod 2), .slice pa gs.length ca, .slice po os.length co])
      case first =>
        have y0 := ((unhideI HST).cell 1).trans rfl
        have y1 := (unhideI HST).fz 1
        by_cases hz : d = 0
        · have zz : (d != 0) = false := by simp [hz]
          have HS2 := hideI (show RSk W _ (w.heap.size + 1 + 1 + 1 + 1) #[.int .i64 op, .int .i64 (nz d), .int .i64 (a.tmod 2), .int .i64 (bb.tmod 2), .int .u64 n, .int .i64 (fx.tmod 2), .slice pa gs.length ca, .slice po os.length co] by have h := unhideI HST; rw [show (d.tmod 2) = nz d by unfold nz; rw [hz]; rfl] at h; exact h)
          clear y0 y1
          go_wp2
          go_meet
          case rel => exact unhideI HS2
        · have zz : (d != 0) = true := by simpa using hz
          have HS2 := hideI (show RSk W _ (w.heap.size + 1 + 1 + 1 + 1) #[.int .i64 op, .int .i64 (nz d), .int .i64 (a.tmod 2), .int .i64 (bb.tmod 2), .int .u64 n, .int .i64 (fx.tmod 2), .slice pa gs.length ca, .slice po os.length co] by have h := (unhideI HST).set 1 (.int .i64 1); rw [show nz d = 1 by unfold nz; rw [if_neg hz]]; exact h)
          clear hz
          go_wp2
          go_meet
          case rel => exact unhideI HS2
      case rest =>
        clear HST
        have HST := hideI hcut
        clear hcut
        have hlt4 : w.heap.size + 1 + 1 < w.heap.size + 1 + 1 + 1 + 1 := by omega
        clear hlt4
        have xr := (cells_of_row ((unhideI HST).low_row (by omega) (unhideI HR2)) 2).trans rfl
        go_upto_if 60 with fail
        clear xr
        go_cut [] from 58 to 61 (fun wc => RSk W wc (w.heap.size + 1 + 1 + 1 + 1) #[.int .i64 op, .int .i64 (nz d), .int .i64 (nz a), .int .i64 (bb.tmod 2), .int .u64 n, .int .i64 (fx.tmod 2), .slice pa gs.length ca, .slice po os.length co])
        case first =>
          have y0 := ((unhideI HST).cell 2).trans rfl
          have y1 := (unhideI HST).fz 2
          by_cases hz : a = 0
          · have zz : (a != 0) = false := by simp [hz]
            have HS2 := hideI (show RSk W _ (w.heap.size + 1 + 1 + 1 + 1) #[.int .i64 op, .int .i64 (nz d), .int .i64 (nz a), .int .i64 (bb.tmod 2), .int .u64 n, .int .i64 (fx.tmod 2), .slice pa gs.length ca, .slice po os.length co] by have h := unhideI HST; rw [show (a.tmod 2) = nz a by unfold nz; rw [hz]; rfl] at h; exact h)
            clear y0 y1
            go_wp2
            go_meet
            case rel => exact unhideI HS2
          · have zz : (a != 0) = true := by simpa using hz
            have HS2 := hideI (show RSk W _ (w.heap.size + 1 + 1 + 1 + 1) #[.int .i64 op, .int .i64 (nz d), .int .i64 (nz a), .int .i64 (bb.tmod 2), .int .u64 n, .int .i64 (fx.tmod 2), .slice pa gs.length ca, .slice po os.length co] by have h := (unhideI HST).set 2 (.int .i64 1); rw [show nz a = 1 by unfold nz; rw [if_neg hz]]; exact h)
            clear hz
            go_wp2
            go_meet
            case rel => exact unhideI HS2
        case rest =>
          clear HST
          have HST := hideI hcut
          clear hcut
          have hlt4 : w.heap.size + 1 + 1 < w.heap.size + 1 + 1 + 1 + 1 := by omega
          clear hlt4
          have xr := (cells_of_row ((unhideI HST).low_row (by omega) (unhideI HR2)) 3).trans rfl
          go_upto_if 64 with fail
          clear xr
          go_cut [] from 62 to 65 (fun wc => RSk W wc (w.heap.size + 1 + 1 + 1 + 1) #[.int .i64 op, .int .i64 (nz d), .int .i64 (nz a), .int .i64 (nz bb), .int .u64 n, .int .i64 (fx.tmod 2), .slice pa gs.length ca, .slice po os.length co])
          case first =>
            have y0 := ((unhideI HST).cell 3).trans rfl
            have y1 := (unhideI HST).fz 3
            by_cases hz : bb = 0
            · have zz : (bb != 0) = false := by simp [hz]
              have HS2 := hideI (show RSk W _ (w.heap.size + 1 + 1 + 1 + 1) #[.int .i64 op, .int .i64 (nz d), .int .i64 (nz a), .int .i64 (nz bb), .int .u64 n, .int .i64 (fx.tmod 2), .slice pa gs.length ca, .slice po os.length co] by have h := unhideI HST; rw [show (bb.tmod 2) = nz bb by unfold nz; rw [hz]; rfl] at h; exact h)
              clear y0 y1
              go_wp2
              go_meet
              case rel => exact unhideI HS2
            · have zz : (bb != 0) = true := by simpa using hz
              have HS2 := hideI (show RSk W _ (w.heap.size + 1 + 1 + 1 + 1) #[.int .i64 op, .int .i64 (nz d), .int .i64 (nz a), .int .i64 (nz bb), .int .u64 n, .int .i64 (fx.tmod 2), .slice pa gs.length ca, .slice po os.length co] by have h := (unhideI HST).set 3 (.int .i64 1); rw [show nz bb = 1 by unfold nz; rw [if_neg hz]]; exact h)
              clear hz
              go_wp2
              go_meet
              case rel => exact unhideI HS2
          case rest =>
            clear HST
            have HST := hideI hcut
            clear hcut
            have hlt4 : w.heap.size + 1 + 1 < w.heap.size + 1 + 1 + 1 + 1 := by omega
            clear hlt4
            have xr := (cells_of_row ((unhideI HST).low_row (by omega) (unhideI HR2)) 5).trans rfl
            go_upto_if 68 with fail
            clear xr
            go_cut [] from 66 to 69 (fun wc => RSk W wc (w.heap.size + 1 + 1 + 1 + 1) #[.int .i64 op, .int .i64 (nz d), .int .i64 (nz a), .int .i64 (nz bb), .int .u64 n, .int .i64 (nz fx), .slice pa gs.length ca, .slice po os.length co])
            case first =>
              have y0 := ((unhideI HST).cell 5).trans rfl
              have y1 := (unhideI HST).fz 5
              by_cases hz : fx = 0
              · have zz : (fx != 0) = false := by simp [hz]
                have HS2 := hideI (show RSk W _ (w.heap.size + 1 + 1 + 1 + 1) #[.int .i64 op, .int .i64 (nz d), .int .i64 (nz a), .int .i64 (nz bb), .int .u64 n, .int .i64 (nz fx), .slice pa gs.length ca, .slice po os.length co] by have h := unhideI HST; rw [show (fx.tmod 2) = nz fx by unfold nz; rw [hz]; rfl] at h; exact h)
                clear y0 y1
                go_wp2
                go_meet
                case rel => exact unhideI HS2
              · have zz : (fx != 0) = true := by simpa using hz
                have HS2 := hideI (show RSk W _ (w.heap.size + 1 + 1 + 1 + 1) #[.int .i64 op, .int .i64 (nz d), .int .i64 (nz a), .int .i64 (nz bb), .int .u64 n, .int .i64 (nz fx), .slice pa gs.length ca, .slice po os.length co] by have h := (unhideI HST).set 5 (.int .i64 1); rw [show nz fx = 1 by unfold nz; rw [if_neg hz]]; exact h)
                clear hz
                go_wp2
                go_meet
                case rel => exact unhideI HS2
            case rest =>
              clear HST
              have HST := hideI hcut
              clear hcut
              have hlt4 : w.heap.size + 1 + 1 < w.heap.size + 1 + 1 + 1 + 1 := by omega
              clear hlt4
              have y6 := ((unhideI HST).cell 6).trans rfl
              have y7 := ((unhideI HST).cell 7).trans rfl
              have g6 := (unhideI HST).fz 6
              have g7 := (unhideI HST).fz 7
              have hs2 := ((unhideI HST).set 6 (.slice none 0 0)).set 7 (.slice none 0 0)
              have x0 := (cells_of_row (hs2.low_row (by omega) (unhideI HR2)) 0).trans rfl
              have HS2 := hideI hs2
              clear hs2
              go_wp2_with fail
              clear y6 y7 g6 g7 x0
              have hs3 : RSk W _ (w.heap.size + 1 + 1 + 1 + 1) #[.int .i64 op, .int .i64 (nz d), .int .i64 (nz a), .int .i64 (nz bb), .int .u64 n, .int .i64 (nz fx), .slice none 0 0, .slice none 0 0] := unhideI HS2
              generalize World.setCell (World.setCell wc _ _) _ _ = V1 at hs3 ⊢
              have HST := hideI hs3
              clear hs3 HS2
              refine (shape_c op V1).mono ?_
              rintro e w5 ⟨rfl, h5⟩
              subst w5
              obtain ⟨s, hs⟩ : ∃ s, s = shapeB op := ⟨_, rfl⟩
              rw [← hs]
              obtain ⟨ls, hls⟩ : ∃ ls, ls = s.data.toList := ⟨_, rfl⟩
              have HS := hideI hs
              have HLS := hideI hls
              have hsl : ls.length = s.size := by rw [hls]; exact Array.length_toList
              have hs4 : s.size ≤ 4 := by have h := shapeLs_le op; rw [← hsl, hls, hs]; exact h
              have HSL := hideI hsl
              clear hs hls hsl
              go_wp2_with fail
              have hV1z := (unhideI HST).low.size
              have hTI : w.heap.size + 1 + 1 + 1 + 1 < V1.heap.size := row_lt (unhideI HST).row
              have HIT := hideI (show (V1.iter s 0).heap[V1.heap.size]? = some (.stringIter s 0) from heap_alloc_new V1 _)
              have HST1 := hideI (show RSk W (V1.iter s 0) (w.heap.size + 1 + 1 + 1 + 1) #[.int .i64 op, .int .i64 (nz d), .int .i64 (nz a), .int .i64 (nz bb), .int .u64 (zn [] n), .int .i64 (nz fx), .slice none 0 0, .slice none 0 0] from ⟨below_cut (unhideI HST).low ((al0 V1 (.stringIter s 0)).2.1) (by omega), ((al0 V1 (.stringIter s 0)).2.1.block _ hTI).trans (by have h := (unhideI HST).row; rw [show zn ([] : List UInt8) n = n from rfl]; exact h)⟩)
              clear HST hV1z
              generalize hTT : V1.heap.size = TI at HIT hTI ⊢
              clear hTT
              go_loopw [] (fun wr => ∃ q : Nat, q ≤ s.size ∧ RSk W wr (w.heap.size + 1 + 1 + 1 + 1) #[.int .i64 op, .int .i64 (nz d), .int .i64 (nz a), .int .i64 (nz bb), .int .u64 (zn (ls.take q) n), .int .i64 (nz fx), .slice none 0 0, .slice none 0 0] ∧ wr.heap[TI]? = some (.stringIter s q)) (fun wr => s.size - wr.iterPos TI)
              case atStart => exact ⟨0, by omega, by rw [List.take_zero]; exact unhideI HST1, unhideI HIT⟩
              case round =>
                obtain ⟨q, hq, hrs, hit⟩ := hrel
                have hm := iterPos_of hit
                clear HST1 HIT
                by_cases hp : q < s.size
                · have hxl : q < ls.length := by rw [unhideI HSL]; exact hp
                  have hmem : ls[q] ∈ shapeLs op := by
                    have h2 : ls = shapeLs op := by rw [unhideI HLS, unhideI HS]; rfl
                    exact (show ∀ x, x ∈ ls → x ∈ shapeLs op from fun x hx => h2 ▸ hx) _ (List.getElem_mem hxl)
                  have hget : s[q]'hp = ls[q] := by
                    have := unhideI HLS
                    subst this
                    rfl
                  have htk : ls.take (q + 1) = ls.take q ++ [ls[q]] := List.take_succ_eq_append_getElem hxl
                  have hlet := shape_letters op _ hmem
                  generalize ls[q] = c at hget htk hlet
                  have hc128 : c.toNat < 128 := by rcases hlet with rfl | rfl | rfl | rfl | rfl | rfl | rfl | rfl | rfl <;> decide
                  have hnx : ∀ ty, (Instr.next (.pointer (some ⟨TI, 0, none⟩)) true ty).run Tryd.prog wr = .ok (.tuple #[.bool true, .int .i64 q, .int .i32 c.toNat]) (wr.iterAt TI s (q + 1)) := fun ty => by
                    have := Lib.run_next_ascii_at (P := Tryd.prog) wr TI s q ty hit hp (by rw [hget]; exact hc128)
                    rw [hget] at this
                    exact this
                  have hrs2 : RSk W (wr.iterAt TI s (q + 1)) (w.heap.size + 1 + 1 + 1 + 1) #[.int .i64 op, .int .i64 (nz d), .int .i64 (nz a), .int .i64 (nz bb), .int .u64 (zn (ls.take q) n), .int .i64 (nz fx), .slice none 0 0, .slice none 0 0] := ⟨⟨hrs.low.os, hrs.low.tape, hrs.low.output, by rw [Lib.iterAt_size]; exact hrs.low.size, fun g hg => (Lib.iterAt_other _ _ _ _ _ (by omega)).trans (hrs.low.block g hg)⟩, (Lib.iterAt_other _ _ _ _ _ (by omega)).trans hrs.row⟩
                  have hit2 := Lib.iterAt_heap wr TI s q (q + 1) hit
                  obtain ⟨u, hu⟩ : ∃ u, u = wr.iterAt TI s (q + 1) := ⟨_, rfl⟩
                  rw [← hu] at hnx hrs2 hit2
                  by_cases hcn : c = 110
                  · subst hcn
                    have y4 := (hrs2.cell 4).trans rfl
                    have g4 := hrs2.fz 4
                    have HZ2 := hideI (show RSk W (u.setCell ⟨w.heap.size + 1 + 1 + 1 + 1, 4, none⟩ (.int .u64 0)) (w.heap.size + 1 + 1 + 1 + 1) #[.int .i64 op, .int .i64 (nz d), .int .i64 (nz a), .int .i64 (nz bb), .int .u64 (zn (ls.take (q + 1)) n), .int .i64 (nz fx), .slice none 0 0, .slice none 0 0] by have h := hrs2.set 4 (.int .u64 0); rw [show zn (ls.take (q + 1)) n = 0 by rw [htk]; unfold zn; simp]; exact h)
                    have HI2 := hideI (show (u.setCell ⟨w.heap.size + 1 + 1 + 1 + 1, 4, none⟩ (.int .u64 0)).heap[TI]? = some (.stringIter s (q + 1)) from (heap_setCell_other _ _ _ _ (by show TI ≠ w.heap.size + 1 + 1 + 1 + 1; omega)).trans hit2)
                    clear hu hrs hrs2 hit hit2 htk hget hmem hlet
                    go_wp2
                    go_roundw
                    case rel => exact ⟨q + 1, hp, unhideI HZ2, unhideI HI2⟩
                    case measure => rw [hm, iterPos_of (unhideI HI2)]; omega
                  · have z110 : ((c.toNat : Int) == 110) = false := by simp; intro h; exact hcn (UInt8.toNat_inj.1 (by rw [show (110 : UInt8).toNat = 110 from rfl]; omega))
                    have HZ2 := hideI (show RSk W u (w.heap.size + 1 + 1 + 1 + 1) #[.int .i64 op, .int .i64 (nz d), .int .i64 (nz a), .int .i64 (nz bb), .int .u64 (zn (ls.take (q + 1)) n), .int .i64 (nz fx), .slice none 0 0, .slice none 0 0] by have h := hrs2; rw [show zn (ls.take (q + 1)) n = zn (ls.take q) n by rw [htk]; unfold zn; simp [Ne.symm hcn]]; exact h)
                    have HI2 := hideI hit2
                    clear hu hrs hrs2 hit hit2 htk hget hmem hlet hcn
                    go_wp2
                    go_roundw
                    case rel => exact ⟨q + 1, hp, unhideI HZ2, unhideI HI2⟩
                    case measure => rw [hm, iterPos_of (unhideI HI2)]; omega
                · obtain rfl : q = s.size := by omega
                  have htl : ls.take s.size = ls := by rw [← unhideI HSL]; exact List.take_length
                  rw [htl] at hrs
                  have hnx : ∀ ty, (Instr.next (.pointer (some ⟨TI, 0, none⟩)) true ty).run Tryd.prog wr = _ := fun ty => Lib.run_next_end_at wr TI s _ ty hit hp
                  have y0 := (hrs.cell 0).trans rfl
                  have y1 := (hrs.cell 1).trans rfl
                  have y2 := (hrs.cell 2).trans rfl
                  have y3 := (hrs.cell 3).trans rfl
                  have y4 := (hrs.cell 4).trans rfl
                  have y5 := (hrs.cell 5).trans rfl
                  have y6 := (hrs.cell 6).trans rfl
                  have y7 := (hrs.cell 7).trans rfl
                  have HRS := hideI hrs
                  clear hrs hm htl hit
                  have HN0 := hideI (show 0 ≤ zn ls n ∧ zn ls n < 18446744073709551616 by have h := unhideI HNN; unfold zn; split; exact ⟨by omega, by omega⟩; exact h)
                  generalize hn0 : zn ls n = n0 at HRS y4 HN0
                  have HNE := hideI hn0
                  clear hn0
                  go_wp2_with fail
                  clear y0 y1 y2 y3 y4 y5 y6 y7 hnx
                  have hpen := (unhideI HRS).low_row (g := w.heap.size + 1 + 1 + 1) (by omega) (unhideI HR3)
                  have hPn : Pn wr (w.heap.size + 1 + 1 + 1) [] false := ⟨(cells_of_row hpen 0).trans rfl, (cells_of_row hpen 1).trans rfl, frozen_of_row _ _ 0 _ _ hpen, frozen_of_row _ _ 1 _ _ hpen⟩
                  refine (pins_c (w.heap.size + 1 + 1 + 1) [] false ⟨op, nz d, nz a, nz bb, n0, nz fx, [], []⟩ _ _ wr hPn (by have h := penIns_le ⟨op, nz d, nz a, nz bb, n0, nz fx, [], []⟩; simp only [mIns, List.length_nil] at h ⊢; omega) (unhideI HN0) [] rfl (by simp) (Or.inl ⟨rfl, none, 0, rfl⟩) (Or.inl ⟨rfl, none, 0, rfl⟩)).mono ?_
                  rintro e w2 ⟨rfl, hpn, hgb⟩
                  have hz4 : w.heap.size + 1 + 1 + 1 + 1 < wr.heap.size := row_lt (unhideI HRS).row
                  have hgz := hgb.size
                  have keep : ∀ g o, g < w.heap.size + 1 + 1 + 1 → W.heap[g]? = some o → w2.heap[g]? = some o := fun g o hg h => (hgb.block g (by omega) (by intro e; injection e with e; omega)).trans ((unhideI HRS).low_row (by omega) h)
                  have HQ0 := hideI (keep _ _ (by omega) (unhideI HR0))
                  have HQ1 := hideI (keep _ _ (by omega) (unhideI HR1))
                  have HQ2 := hideI (keep _ _ (by omega) (unhideI HR2))
                  have HPN := hideI hpn
                  have HZ4 := hideI (show w.heap.size + 1 + 1 + 1 + 1 < w2.heap.size by omega)
                  have HBW := hideI (show Below w.heap.size w w2 from ⟨hgb.os.trans ((unhideI HRS).low.os.trans (unhideI HW).os), hgb.tape.trans ((unhideI HRS).low.tape.trans (unhideI HW).tape), hgb.output.trans ((unhideI HRS).low.output.trans (unhideI HW).output), by omega, fun g hg => (hgb.block g (by omega) (by intro e; injection e with e; omega)).trans (((unhideI HRS).low.block g (by omega)).trans ((unhideI HW).block g hg))⟩)
                  have x6 := (cells_of_row (unhideI HQ2) 6).trans rfl
                  have x7 := (cells_of_row (unhideI HQ2) 7).trans rfl
                  clear hpn hgb hpen hPn keep hgz hz4 HRS
                  go_wp2_with fail
                  clear x6 x7
                  obtain ⟨rB, bB, sB⟩ := al0 w2 (.cells #[.int .u8 82, .int .i64 gs.length, .int .u8 79, .int .i64 os.length] 77 (0, 0))
                  generalize World.alloc w2 _ = W3 at rB bB sB ⊢
                  have HRB := hideI rB
                  have HBB := hideI bB
                  have hW3 : w2.heap.size < W3.heap.size := by omega
                  generalize hTB : w2.heap.size = TB at HRB hW3 ⊢
                  have HTB := hideI hTB
                  clear rB bB sB hTB
                  go_loopw [96] (fun j w' => ∃ k : Nat, j = .int .i64 k ∧ k ≤ 2 ∧ Below W3.heap.size W3 w' ∧ ∀ q, q < k → okc ls gs.length os.length q = true) (fun j _ => 2 - (intOf j).toNat)
                  case atStart => exact ⟨0, rfl, by omega, Below.refl _ _, fun q hq => by omega⟩
                  case round =>
                    obtain ⟨k, rfl, hk, hbw, hno⟩ := hrel
                    have HNO := hideI hno
                    have HBK := hideI hbw
                    have hkz := hbw.size
                    clear hno
                    have hk3 : k = 0 ∨ k = 1 ∨ k = 2 := by omega
                    rcases hk3 with rfl | rfl | rfl
                    · have hrow := (hbw.block TB hW3).trans (unhideI HRB)
                      have k0 := (cells_of_row hrow 0).trans rfl
                      have k1 := (cells_of_row hrow 1).trans rfl
                      clear hbw hrow
                      go_wp2_with fail
                      obtain ⟨rE, bE, sE⟩ := al0 wr (.cells #[.int .u8 82, .int .i64 gs.length] 77 (0, 0))
                      generalize hTx : wr.heap.size = Tx at rE sE ⊢
                      generalize World.alloc wr _ = U at rE bE sE ⊢
                      have q0 := (cells_of_row rE 0).trans rfl
                      have q1 := (cells_of_row rE 1).trans rfl
                      have HBE := hideI (below_cut (unhideI HBK) bE hkz)
                      clear rE bE k0 k1 hTx sE
                      go_loopw [16, 17] (fun t j w' => ∃ i m : Nat, j = .int .i64 i ∧ i ≤ s.size ∧ t = .bool ((ls.take i).contains 82) ∧ w' = U.drewN m) (fun _ j _ => s.size - (intOf j).toNat)
                      case atStart => exact ⟨0, 0, rfl, by omega, rfl, rfl⟩
                      case round =>
                        obtain ⟨i, m, rfl, hi, rfl, hwm⟩ := hrel
                        subst hwm
                        by_cases hi2 : i < s.size
                        · have hil : i < ls.length := by rw [unhideI HSL]; exact hi2
                          have hget : s[i]'hi2 = ls[i] := by
                            have := unhideI HLS
                            subst this
                            rfl
                          have htk : ls.take (i + 1) = ls.take i ++ [ls[i]] := List.take_succ_eq_append_getElem hil
                          cases ht : (ls.take i).contains 82 with
                          | true =>
                            have HTK := hideI (show (ls.take (i + 1)).contains 82 = true by rw [htk]; simp only [List.contains_eq_mem, List.mem_append, decide_eq_true_eq]; left; simpa using ht)
                            clear htk hget ht
                            go_wp2_with fail
                            go_quiet (fail)
                            go_wp2
                            go_roundw
                            case rel => exact ⟨i + 1, _, by go_num, by omega, by rw [unhideI HTK], rfl⟩
                            case measure => simp [intOf]; omega
                          | false =>
                            have HTK := hideI (show ((((s[i]'hi2).toNat : Int) == 82) = (ls.take (i + 1)).contains 82) by rw [htk, cont_snoc _ _ _ ht, ← hget]; exact (u8_eq _ 82).symm)
                            clear htk hget ht
                            go_wp2_with fail
                            go_quiet (fail)
                            go_wp2
                            go_roundw
                            case rel => exact ⟨i + 1, _, by go_num, by omega, congrArg Value.bool (unhideI HTK), rfl⟩
                            case measure => simp [intOf]; omega
                        · obtain rfl : i = s.size := by omega
                          have htl : ls.take s.size = ls := by rw [← unhideI HSL]; exact List.take_length
                          rw [htl]
                          clear htl
                          have HU := hideI (below_drewN (unhideI HBE) m)
                          cases hct : ls.contains 82 with
                          | true =>
                            have hz := hideI (upTo_next (q := okc ls gs.length os.length) (unhideI HNO) (okc0_t hct))
                            clear hct
                            by_cases hcnt : 0 < gs.length
                            · go_wp2
                              go_roundw
                              case rel => exact ⟨1, by go_num, by omega, unhideI HU, unhideI hz⟩
                              case measure => simp [intOf]
                            · go_wp2
                              go_roundw
                              case rel => exact ⟨1, by go_num, by omega, unhideI HU, unhideI hz⟩
                              case measure => simp [intOf]
                          | false =>
                            by_cases hcnt : 0 < gs.length
                            · have HSPR := hideI (spare_list0 hop1 hop2 (show ls = shapeLs op by rw [unhideI HLS, unhideI HS]; rfl) hct hcnt : InsE.spare ⟨op, d, a, bb, n, fx, gs, os⟩ = true)
                              have hz := hideI (show insB p f ⟨op, d, a, bb, n, fx, gs, os⟩ last = false by rw [unhideI HINS, unhideI HSPR]; rfl)
                              clear hct
                              go_wp2
                              go_ret
                              exact ⟨by rw [unhideI hz]; rfl, below_cut (unhideI HBW) (below_cut (unhideI HBB) (unhideI HU) (by have := unhideI HTB; omega)) (by have := unhideI HZ4; omega)⟩
                            · have hz := hideI (upTo_next (q := okc ls gs.length os.length) (unhideI HNO) (okc0_n hcnt))
                              clear hct
                              go_wp2
                              go_roundw
                              case rel => exact ⟨1, by go_num, by omega, unhideI HU, unhideI hz⟩
                              case measure => simp [intOf]
                    · have hrow := (hbw.block TB hW3).trans (unhideI HRB)
                      have k0 := (cells_of_row hrow 2).trans rfl
                      have k1 := (cells_of_row hrow 3).trans rfl
                      clear hbw hrow
                      go_wp2_with fail
                      obtain ⟨rE, bE, sE⟩ := al0 wr (.cells #[.int .u8 79, .int .i64 os.length] 77 (0, 0))
                      generalize hTx : wr.heap.size = Tx at rE sE ⊢
                      generalize World.alloc wr _ = U at rE bE sE ⊢
                      have q0 := (cells_of_row rE 0).trans rfl
                      have q1 := (cells_of_row rE 1).trans rfl
                      have HBE := hideI (below_cut (unhideI HBK) bE hkz)
                      clear rE bE k0 k1 hTx sE
                      go_loopw [16, 17] (fun t j w' => ∃ i m : Nat, j = .int .i64 i ∧ i ≤ s.size ∧ t = .bool ((ls.take i).contains 79) ∧ w' = U.drewN m) (fun _ j _ => s.size - (intOf j).toNat)
                      case atStart => exact ⟨0, 0, rfl, by omega, rfl, rfl⟩
                      case round =>
                        obtain ⟨i, m, rfl, hi, rfl, hwm⟩ := hrel
                        subst hwm
                        by_cases hi2 : i < s.size
                        · have hil : i < ls.length := by rw [unhideI HSL]; exact hi2
                          have hget : s[i]'hi2 = ls[i] := by
                            have := unhideI HLS
                            subst this
                            rfl
                          have htk : ls.take (i + 1) = ls.take i ++ [ls[i]] := List.take_succ_eq_append_getElem hil
                          cases ht : (ls.take i).contains 79 with
                          | true =>
                            have HTK := hideI (show (ls.take (i + 1)).contains 79 = true by rw [htk]; simp only [List.contains_eq_mem, List.mem_append, decide_eq_true_eq]; left; simpa using ht)
                            clear htk hget ht
                            go_wp2_with fail
                            go_quiet (fail)
                            go_wp2
                            go_roundw
                            case rel => exact ⟨i + 1, _, by go_num, by omega, by rw [unhideI HTK], rfl⟩
                            case measure => simp [intOf]; omega
                          | false =>
                            have HTK := hideI (show ((((s[i]'hi2).toNat : Int) == 79) = (ls.take (i + 1)).contains 79) by rw [htk, cont_snoc _ _ _ ht, ← hget]; exact (u8_eq _ 79).symm)
                            clear htk hget ht
                            go_wp2_with fail
                            go_quiet (fail)
                            go_wp2
                            go_roundw
                            case rel => exact ⟨i + 1, _, by go_num, by omega, congrArg Value.bool (unhideI HTK), rfl⟩
                            case measure => simp [intOf]; omega
                        · obtain rfl : i = s.size := by omega
                          have htl : ls.take s.size = ls := by rw [← unhideI HSL]; exact List.take_length
                          rw [htl]
                          clear htl
                          have HU := hideI (below_drewN (unhideI HBE) m)
                          cases hct : ls.contains 79 with
                          | true =>
                            have hz := hideI (upTo_next (q := okc ls gs.length os.length) (unhideI HNO) (okc1_t hct))
                            clear hct
                            by_cases hcnt : 0 < os.length
                            · go_wp2
                              go_roundw
                              case rel => exact ⟨2, by go_num, by omega, unhideI HU, unhideI hz⟩
                              case measure => simp [intOf]
                            · go_wp2
                              go_roundw
                              case rel => exact ⟨2, by go_num, by omega, unhideI HU, unhideI hz⟩
                              case measure => simp [intOf]
                          | false =>
                            by_cases hcnt : 0 < os.length
                            · have HSPR := hideI (spare_list1 hop1 hop2 (show ls = shapeLs op by rw [unhideI HLS, unhideI HS]; rfl) hct hcnt : InsE.spare ⟨op, d, a, bb, n, fx, gs, os⟩ = true)
                              have hz := hideI (show insB p f ⟨op, d, a, bb, n, fx, gs, os⟩ last = false by rw [unhideI HINS, unhideI HSPR]; rfl)
                              clear hct
                              go_wp2
                              go_ret
                              exact ⟨by rw [unhideI hz]; rfl, below_cut (unhideI HBW) (below_cut (unhideI HBB) (unhideI HU) (by have := unhideI HTB; omega)) (by have := unhideI HZ4; omega)⟩
                            · have hz := hideI (upTo_next (q := okc ls gs.length os.length) (unhideI HNO) (okc1_n hcnt))
                              clear hct
                              go_wp2
                              go_roundw
                              case rel => exact ⟨2, by go_num, by omega, unhideI HU, unhideI hz⟩
                              case measure => simp [intOf]
                    · have hpn := (unhideI HPN)
                      have hp3 : w.heap.size + 1 + 1 + 1 < W3.heap.size := by have := unhideI HZ4; have := unhideI HTB; omega
                      have hbW : Below w2.heap.size w2 wr := below_cut (unhideI HBB) hbw (by have := unhideI HTB; omega)
                      have pc := (hbW.cell (p := ⟨w.heap.size + 1 + 1 + 1, 1, none⟩) (by have := unhideI HZ4; show w.heap.size + 1 + 1 + 1 < w2.heap.size; omega)).trans hpn.c1
                      have HOKA := hideI ((unhideI HNO) 0 (by omega))
                      have HOKB := hideI ((unhideI HNO) 1 (by omega))
                      have HBV := hideI hbW
                      have HVZ := hideI (show w.heap.size + 1 + 1 + 1 + 1 < wr.heap.size by have := unhideI HZ4; have := hbW.size; omega)
                      clear hpn hbw hbW hp3
                      have HBAD := hideI (bad_eq (d := d) (a := a) (bb := bb) (n := n) (fx := fx) (gs := gs) (os := os) hop1 hop2 (show ls = shapeLs op by rw [unhideI HLS, unhideI HS]; rfl) (unhideI HNE) (unhideI HOKA) (unhideI HOKB))
                      rw [Bool.false_or, unhideI HBAD] at pc
                      cases hsp : InsE.spare ⟨op, d, a, bb, n, fx, gs, os⟩ with
                      | true =>
                        rw [hsp] at pc
                        have hz := hideI (show insB p f ⟨op, d, a, bb, n, fx, gs, os⟩ last = false by rw [unhideI HINS, hsp]; rfl)
                        clear hsp
                        go_wp2
                        go_ret
                        exact ⟨by rw [unhideI hz]; rfl, below_cut (unhideI HBW) (unhideI HBV) (by have := unhideI HZ4; omega)⟩
                      | false =>
                        rw [hsp] at pc
                        have HFIN := hideI (show insB p f ⟨op, d, a, bb, n, fx, gs, os⟩ last = fieldsB p f ⟨op, d, a, bb, n, fx, gs, os⟩ by rw [unhideI HINS, hsp]; rfl)
                        clear hsp
                        have HQA := hideI (((unhideI HBV).block _ (by have := unhideI HZ4; omega)).trans (unhideI HQ0))
                        have HQB := hideI (((unhideI HBV).block _ (by have := unhideI HZ4; omega)).trans (unhideI HQ1))
                        have HQC := hideI (((unhideI HBV).block _ (by have := unhideI HZ4; omega)).trans (unhideI HQ2))
                        have HB9 := hideI (below_cut (unhideI HBW) (unhideI HBV) (by have := unhideI HZ4; omega))
                        have HVW := hideI (show w.heap.size < wr.heap.size by have := unhideI HVZ; omega)
                        clear HQ0 HQ1 HQ2 HR0 HR1 HR2 HR3 HPN HBB HBK HNO HOKA HOKB HBAD HRB HTB
                        have x0 := (cells_of_row (unhideI HQC) 0).trans rfl
                        have x1 := (cells_of_row (unhideI HQC) 1).trans rfl
                        have x2 := (cells_of_row (unhideI HQC) 2).trans rfl
                        have x3 := (cells_of_row (unhideI HQC) 3).trans rfl
                        have x4 := (cells_of_row (unhideI HQC) 4).trans rfl
                        have x5 := (cells_of_row (unhideI HQC) 5).trans rfl
                        have x6 := (cells_of_row (unhideI HQC) 6).trans rfl
                        have x7 := (cells_of_row (unhideI HQC) 7).trans rfl
                        have f0 := (cells_of_row (unhideI HQB) 0).trans rfl
                        have f1 := (cells_of_row (unhideI HQB) 1).trans rfl
                        have f2 := (cells_of_row (unhideI HQB) 2).trans rfl
                        have f3 := (cells_of_row (unhideI HQB) 3).trans rfl
                        have f4 := (cells_of_row (unhideI HQB) 4).trans rfl
                        rcases unhideI HG with hg | hg | hg | hg | hg | hg | hg | hg
                        · obtain rfl := hg
                          skip
                          go_wp2_with fail
                          refine (rlocal_c f _ _ _ _ _ _ [d] _ ⟨_, _, rfl⟩ hl1 (Li.list (w := wr) [d] (by show 1 < short; decide))).mono ?_
                          rintro e w8 ⟨rfl, hb8⟩
                          have HB8 := hideI (below_cut (al0 wr (.cells (([d] : List Int).map fun n => Value.int .i64 n).toArray 3 (0, 0))).2.1 hb8 (by simp))
                          clear hb8
                          rw [localsB_1]
                          go_wp2
                          go_ret
                          exact ⟨by rw [unhideI HFIN]; rfl, below_cut (unhideI HB9) (unhideI HB8) (by have := unhideI HVW; omega)⟩
                        · obtain rfl := hg
                          skip
                          go_wp2_with fail
                          refine (rlocal_c f _ _ _ _ _ _ [d, a] _ ⟨_, _, rfl⟩ hl1 (Li.list (w := wr) [d, a] (by show 2 < short; decide))).mono ?_
                          rintro e w8 ⟨rfl, hb8⟩
                          have HB8 := hideI (below_cut (al0 wr (.cells (([d, a] : List Int).map fun n => Value.int .i64 n).toArray 3 (0, 0))).2.1 hb8 (by simp))
                          clear hb8
                          rw [localsB_2]
                          go_wp2
                          go_ret
                          exact ⟨by rw [unhideI HFIN]; rfl, below_cut (unhideI HB9) (unhideI HB8) (by have := unhideI HVW; omega)⟩
                        · skip
                          obtain ⟨g3, g9⟩ := hg
                          have z1 : (op == 1) = false := by simp; omega
                          have z2 : (op == 2) = false := by simp; omega
                          have HF3 := hideI (show fieldsB p f ⟨op, d, a, bb, n, fx, gs, os⟩ = (localB f d && (localB f a && localB f bb)) by unfold fieldsB; simp only; rw [if_neg (by omega), if_neg (by omega), if_neg (by omega), if_neg (by omega), if_neg (by omega), if_neg (by omega), if_neg (by omega), if_neg (by omega), if_neg (by omega), if_neg (by omega)])
                          go_wp2_with fail
                          refine (rlocal_c f _ _ _ _ _ _ [d, a, bb] _ ⟨_, _, rfl⟩ hl1 (Li.list (w := wr) [d, a, bb] (by show 3 < short; decide))).mono ?_
                          rintro e w8 ⟨rfl, hb8⟩
                          have HB8 := hideI (below_cut (al0 wr (.cells (([d, a, bb] : List Int).map fun n => Value.int .i64 n).toArray 3 (0, 0))).2.1 hb8 (by simp))
                          clear hb8
                          rw [localsB_3]
                          go_wp2
                          go_ret
                          exact ⟨by rw [unhideI HFIN, unhideI HF3]; rfl, below_cut (unhideI HB9) (unhideI HB8) (by have := unhideI HVW; omega)⟩
                        · skip
                          obtain ⟨g10, g11⟩ := hg
                          have z1 : (op == 1) = false := by simp; omega
                          have z2 : (op == 2) = false := by simp; omega
                          have HF0 := hideI (show fieldsB p f ⟨op, d, a, bb, n, fx, gs, os⟩ = (localB f d && slotB f ⟨op, d, a, bb, n, fx, gs, os⟩) by unfold fieldsB; simp only; rw [if_neg (by omega), if_neg (by omega), if_pos (by omega)])
                          go_wp2_with fail
                          refine (rlocal_c f _ _ _ _ _ _ [d] _ ⟨_, _, rfl⟩ hl1 (Li.list (w := wr) [d] (by show 1 < short; decide))).mono ?_
                          rintro e w8 ⟨rfl, hb8⟩
                          have HB8 := hideI (below_cut (al0 wr (.cells (([d] : List Int).map fun n => Value.int .i64 n).toArray 3 (0, 0))).2.1 hb8 (by simp))
                          clear hb8
                          rw [localsB_1]
                          have hrow := ((unhideI HB8).block _ (by have := unhideI HVZ; omega)).trans (unhideI HQB)
                          have hroX := ((unhideI HB8).block _ (by have := unhideI HVZ; omega)).trans (unhideI HQC)
                          have m3 := (cells_of_row hrow 3).trans rfl
                          have n2 := (cells_of_row hroX 2).trans rfl
                          have n3 := (cells_of_row hroX 3).trans rfl
                          have n4 := (cells_of_row hroX 4).trans rfl
                          clear hrow hroX
                          cases hd : localB f d with
                          | false =>
                            have hz := hideI (show fieldsB p f ⟨op, d, a, bb, n, fx, gs, os⟩ = false by rw [unhideI HF0, hd]; rfl)
                            clear hd
                            go_wp2
                            go_ret
                            exact ⟨by rw [unhideI HFIN, unhideI hz]; rfl, below_cut (unhideI HB9) (unhideI HB8) (by have := unhideI HVW; omega)⟩
                          | true =>
                            have HD := hideI hd
                            clear hd
                            go_wp2_with fail
                            refine (rin_c a 0 (f.slots.length - 1) _).mono ?_
                            rintro e w9 ⟨rfl, h9⟩
                            subst w9
                            cases hia : inB a 0 (f.slots.length - 1) with
                            | false =>
                              have hz := hideI (show fieldsB p f ⟨op, d, a, bb, n, fx, gs, os⟩ = false by rw [unhideI HF0, slotB_false1 (f := f) (i := ⟨op, d, a, bb, n, fx, gs, os⟩) hia]; simp)
                              clear hia
                              go_wp2
                              go_ret
                              exact ⟨by rw [unhideI HFIN, unhideI hz]; rfl, below_cut (unhideI HB9) (unhideI HB8) (by have := unhideI HVW; omega)⟩
                            | true =>
                              by_cases hwd : n = 1 ∨ n = 2 ∨ n = 4 ∨ n = 8
                              · have ha := hia
                                unfold inB at ha
                                obtain ⟨g0, g1⟩ := of_decide_eq_true ha
                                obtain ⟨m, rfl⟩ : ∃ m : Nat, a = m := ⟨a.toNat, by omega⟩
                                have hm : m < f.slots.length := by omega
                                have hsb : inB (f.slots.getD m 0) 1 8 = true := upB_get (unhideI HF).slots hm
                                unfold inB at hsb
                                obtain ⟨s0, s1⟩ := of_decide_eq_true hsb
                                obtain ⟨p', cap', he, -, -, hcc⟩ := ((unhideI HSC).below (below_cut (unhideI HB9) (unhideI HB8) (by have := unhideI HVW; omega))).func.ss
                                injection he with e1 e2 e3
                                subst e1 e3
                                obtain ⟨sb, so, rfl, hc⟩ := hcc (by omega)
                                have c := hc m hm
                                have HSL2 := hideI (show widthB n = true → fieldsB p f ⟨op, d, m, bb, n, fx, gs, os⟩ = (inB bb 0 (8 * f.slots.getD m 0 - n) && decide (bb % n = 0)) from fun hw => by rw [unhideI HF0, unhideI HD]; unfold slotB; simp only [Int.toNat_natCast]; rw [hia, hw]; rfl)
                                clear hc hcc hsb ha e2 g0 g1 hia
                                generalize f.slots.getD m 0 = sz at c HSL2 s0 s1
                                rcases hwd with rfl | rfl | rfl | rfl
                                · have HS3 := hideI (unhideI HSL2 (by decide))
                                  clear HSL2
                                  go_wp2_with fail
                                  by_cases hb0 : 0 ≤ bb
                                  · obtain ⟨t, rfl⟩ : ∃ t : Nat, bb = t := ⟨bb.toNat, by omega⟩
                                    clear hb0
                                    have hmod : (t : Int) % 1 = 0 := by omega
                                    · skip
                                      by_cases hlt : (t : Int) < 8 * sz
                                      · have hz := hideI (show fieldsB p f ⟨op, d, m, t, 1, fx, gs, os⟩ = true by rw [unhideI HS3]; unfold inB; rw [decide_eq_true hmod, decide_eq_true (by omega)]; rfl)
                                        clear hmod
                                        go_quiet (fail)
                                        go_wp2
                                        go_ret
                                        exact ⟨by rw [unhideI HFIN, unhideI hz]; rfl, below_drewN (below_cut (unhideI HB9) (unhideI HB8) (by have := unhideI HVW; omega)) _⟩
                                      · have hz := hideI (show fieldsB p f ⟨op, d, m, t, 1, fx, gs, os⟩ = false by rw [unhideI HS3]; unfold inB; rw [decide_eq_false (show ¬ (0 ≤ (t : Int) ∧ (t : Int) ≤ 8 * sz - 1) by omega)]; rfl)
                                        clear hmod
                                        go_quiet (fail)
                                        go_wp2
                                        go_ret
                                        exact ⟨by rw [unhideI HFIN, unhideI hz]; rfl, below_drewN (below_cut (unhideI HB9) (unhideI HB8) (by have := unhideI HVW; omega)) _⟩
                                  · have hz := hideI (show fieldsB p f ⟨op, d, m, bb, 1, fx, gs, os⟩ = false by rw [unhideI HS3]; unfold inB; rw [decide_eq_false (fun h => hb0 h.1)]; rfl)
                                    have hb1 : bb < 0 := by omega
                                    have hb2 : decide (0 ≤ bb) = false := decide_eq_false hb0
                                    clear hb0
                                    go_quiet (fail)
                                    go_wp2
                                    go_ret
                                    exact ⟨by rw [unhideI HFIN, unhideI hz]; rfl, below_drewN (below_cut (unhideI HB9) (unhideI HB8) (by have := unhideI HVW; omega)) _⟩
                                · have HS3 := hideI (unhideI HSL2 (by decide))
                                  clear HSL2
                                  go_wp2_with fail
                                  by_cases hb0 : 0 ≤ bb
                                  · obtain ⟨t, rfl⟩ : ∃ t : Nat, bb = t := ⟨bb.toNat, by omega⟩
                                    clear hb0
                                    by_cases hmod : (t : Int) % 2 = 0
                                    · have zm : ((t : Int) % 2 == 0) = true := by simpa using hmod
                                      by_cases hlt : (t : Int) < 8 * sz
                                      · have hz := hideI (show fieldsB p f ⟨op, d, m, t, 2, fx, gs, os⟩ = true by rw [unhideI HS3]; unfold inB; rw [decide_eq_true hmod, decide_eq_true (by omega)]; rfl)
                                        clear hmod
                                        go_quiet (fail)
                                        go_wp2
                                        go_ret
                                        exact ⟨by rw [unhideI HFIN, unhideI hz]; rfl, below_drewN (below_cut (unhideI HB9) (unhideI HB8) (by have := unhideI HVW; omega)) _⟩
                                      · have hz := hideI (show fieldsB p f ⟨op, d, m, t, 2, fx, gs, os⟩ = false by rw [unhideI HS3]; unfold inB; rw [decide_eq_false (show ¬ (0 ≤ (t : Int) ∧ (t : Int) ≤ 8 * sz - 2) by omega)]; rfl)
                                        clear hmod
                                        go_quiet (fail)
                                        go_wp2
                                        go_ret
                                        exact ⟨by rw [unhideI HFIN, unhideI hz]; rfl, below_drewN (below_cut (unhideI HB9) (unhideI HB8) (by have := unhideI HVW; omega)) _⟩
                                    · have zm : ((t : Int) % 2 == 0) = false := by simpa using hmod
                                      have hz := hideI (show fieldsB p f ⟨op, d, m, t, 2, fx, gs, os⟩ = false by rw [unhideI HS3, decide_eq_false hmod]; simp)
                                      clear hmod
                                      go_quiet (fail)
                                      go_wp2
                                      go_ret
                                      exact ⟨by rw [unhideI HFIN, unhideI hz]; rfl, below_drewN (below_cut (unhideI HB9) (unhideI HB8) (by have := unhideI HVW; omega)) _⟩
                                  · have hz := hideI (show fieldsB p f ⟨op, d, m, bb, 2, fx, gs, os⟩ = false by rw [unhideI HS3]; unfold inB; rw [decide_eq_false (fun h => hb0 h.1)]; rfl)
                                    have hb1 : bb < 0 := by omega
                                    have hb2 : decide (0 ≤ bb) = false := decide_eq_false hb0
                                    clear hb0
                                    go_quiet (fail)
                                    go_wp2
                                    go_ret
                                    exact ⟨by rw [unhideI HFIN, unhideI hz]; rfl, below_drewN (below_cut (unhideI HB9) (unhideI HB8) (by have := unhideI HVW; omega)) _⟩
                                · have HS3 := hideI (unhideI HSL2 (by decide))
                                  clear HSL2
                                  go_wp2_with fail
                                  by_cases hb0 : 0 ≤ bb
                                  · obtain ⟨t, rfl⟩ : ∃ t : Nat, bb = t := ⟨bb.toNat, by omega⟩
                                    clear hb0
                                    by_cases hmod : (t : Int) % 4 = 0
                                    · have zm : ((t : Int) % 4 == 0) = true := by simpa using hmod
                                      by_cases hlt : (t : Int) < 8 * sz
                                      · have hz := hideI (show fieldsB p f ⟨op, d, m, t, 4, fx, gs, os⟩ = true by rw [unhideI HS3]; unfold inB; rw [decide_eq_true hmod, decide_eq_true (by omega)]; rfl)
                                        clear hmod
                                        go_quiet (fail)
                                        go_wp2
                                        go_ret
                                        exact ⟨by rw [unhideI HFIN, unhideI hz]; rfl, below_drewN (below_cut (unhideI HB9) (unhideI HB8) (by have := unhideI HVW; omega)) _⟩
                                      · have hz := hideI (show fieldsB p f ⟨op, d, m, t, 4, fx, gs, os⟩ = false by rw [unhideI HS3]; unfold inB; rw [decide_eq_false (show ¬ (0 ≤ (t : Int) ∧ (t : Int) ≤ 8 * sz - 4) by omega)]; rfl)
                                        clear hmod
                                        go_quiet (fail)
                                        go_wp2
                                        go_ret
                                        exact ⟨by rw [unhideI HFIN, unhideI hz]; rfl, below_drewN (below_cut (unhideI HB9) (unhideI HB8) (by have := unhideI HVW; omega)) _⟩
                                    · have zm : ((t : Int) % 4 == 0) = false := by simpa using hmod
                                      have hz := hideI (show fieldsB p f ⟨op, d, m, t, 4, fx, gs, os⟩ = false by rw [unhideI HS3, decide_eq_false hmod]; simp)
                                      clear hmod
                                      go_quiet (fail)
                                      go_wp2
                                      go_ret
                                      exact ⟨by rw [unhideI HFIN, unhideI hz]; rfl, below_drewN (below_cut (unhideI HB9) (unhideI HB8) (by have := unhideI HVW; omega)) _⟩
                                  · have hz := hideI (show fieldsB p f ⟨op, d, m, bb, 4, fx, gs, os⟩ = false by rw [unhideI HS3]; unfold inB; rw [decide_eq_false (fun h => hb0 h.1)]; rfl)
                                    have hb1 : bb < 0 := by omega
                                    have hb2 : decide (0 ≤ bb) = false := decide_eq_false hb0
                                    clear hb0
                                    go_quiet (fail)
                                    go_wp2
                                    go_ret
                                    exact ⟨by rw [unhideI HFIN, unhideI hz]; rfl, below_drewN (below_cut (unhideI HB9) (unhideI HB8) (by have := unhideI HVW; omega)) _⟩
                                · have HS3 := hideI (unhideI HSL2 (by decide))
                                  clear HSL2
                                  go_wp2_with fail
                                  by_cases hb0 : 0 ≤ bb
                                  · obtain ⟨t, rfl⟩ : ∃ t : Nat, bb = t := ⟨bb.toNat, by omega⟩
                                    clear hb0
                                    by_cases hmod : (t : Int) % 8 = 0
                                    · have zm : ((t : Int) % 8 == 0) = true := by simpa using hmod
                                      by_cases hlt : (t : Int) < 8 * sz
                                      · have hz := hideI (show fieldsB p f ⟨op, d, m, t, 8, fx, gs, os⟩ = true by rw [unhideI HS3]; unfold inB; rw [decide_eq_true hmod, decide_eq_true (by omega)]; rfl)
                                        clear hmod
                                        go_quiet (fail)
                                        go_wp2
                                        go_ret
                                        exact ⟨by rw [unhideI HFIN, unhideI hz]; rfl, below_drewN (below_cut (unhideI HB9) (unhideI HB8) (by have := unhideI HVW; omega)) _⟩
                                      · have hz := hideI (show fieldsB p f ⟨op, d, m, t, 8, fx, gs, os⟩ = false by rw [unhideI HS3]; unfold inB; rw [decide_eq_false (show ¬ (0 ≤ (t : Int) ∧ (t : Int) ≤ 8 * sz - 8) by omega)]; rfl)
                                        clear hmod
                                        go_quiet (fail)
                                        go_wp2
                                        go_ret
                                        exact ⟨by rw [unhideI HFIN, unhideI hz]; rfl, below_drewN (below_cut (unhideI HB9) (unhideI HB8) (by have := unhideI HVW; omega)) _⟩
                                    · have zm : ((t : Int) % 8 == 0) = false := by simpa using hmod
                                      have hz := hideI (show fieldsB p f ⟨op, d, m, t, 8, fx, gs, os⟩ = false by rw [unhideI HS3, decide_eq_false hmod]; simp)
                                      clear hmod
                                      go_quiet (fail)
                                      go_wp2
                                      go_ret
                                      exact ⟨by rw [unhideI HFIN, unhideI hz]; rfl, below_drewN (below_cut (unhideI HB9) (unhideI HB8) (by have := unhideI HVW; omega)) _⟩
                                  · have hz := hideI (show fieldsB p f ⟨op, d, m, bb, 8, fx, gs, os⟩ = false by rw [unhideI HS3]; unfold inB; rw [decide_eq_false (fun h => hb0 h.1)]; rfl)
                                    have hb1 : bb < 0 := by omega
                                    have hb2 : decide (0 ≤ bb) = false := decide_eq_false hb0
                                    clear hb0
                                    go_quiet (fail)
                                    go_wp2
                                    go_ret
                                    exact ⟨by rw [unhideI HFIN, unhideI hz]; rfl, below_drewN (below_cut (unhideI HB9) (unhideI HB8) (by have := unhideI HVW; omega)) _⟩
                              · have hz := hideI (show fieldsB p f ⟨op, d, a, bb, n, fx, gs, os⟩ = false by rw [unhideI HF0, slotB_false2 (f := f) (i := ⟨op, d, a, bb, n, fx, gs, os⟩) (by unfold widthB; exact decide_eq_false hwd)]; simp)
                                have w1 : (n != 1) = true := by simp; omega
                                have w2 : (n != 2) = true := by simp; omega
                                have w4 : (n != 4) = true := by simp; omega
                                have w8 : (n != 8) = true := by simp; omega
                                clear hwd hia
                                go_wp2
                                go_ret
                                exact ⟨by rw [unhideI HFIN, unhideI hz]; rfl, below_cut (unhideI HB9) (unhideI HB8) (by have := unhideI HVW; omega)⟩
                        · obtain rfl := hg
                          go_wp2_with fail
                          refine (rblock_c f _ _ _ _ _ _ _ wr hl3).mono ?_
                          rintro e w8 ⟨rfl, hb8⟩
                          have HB8 := hideI hb8
                          clear hb8
                          go_wp2
                          go_ret
                          exact ⟨by rw [unhideI HFIN]; rfl, below_cut (unhideI HB9) (unhideI HB8) (by have := unhideI HVW; omega)⟩
                        · obtain rfl := hg
                          skip
                          go_wp2_with fail
                          refine (rlocal_c f _ _ _ _ _ _ [d] _ ⟨_, _, rfl⟩ hl1 (Li.list (w := wr) [d] (by show 1 < short; decide))).mono ?_
                          rintro e w8 ⟨rfl, hb8⟩
                          have HB8 := hideI (below_cut (al0 wr (.cells (([d] : List Int).map fun n => Value.int .i64 n).toArray 3 (0, 0))).2.1 hb8 (by simp))
                          clear hb8
                          rw [localsB_1]
                          have hrow := ((unhideI HB8).block _ (by have := unhideI HVZ; omega)).trans (unhideI HQB)
                          have hroX := ((unhideI HB8).block _ (by have := unhideI HVZ; omega)).trans (unhideI HQC)
                          have m0 := (cells_of_row hrow 0).trans rfl
                          have m1 := (cells_of_row hrow 1).trans rfl
                          have m2 := (cells_of_row hrow 2).trans rfl
                          have m3 := (cells_of_row hrow 3).trans rfl
                          have m4 := (cells_of_row hrow 4).trans rfl
                          have n2 := (cells_of_row hroX 2).trans rfl
                          have n3 := (cells_of_row hroX 3).trans rfl
                          have HQ8 := hideI hrow
                          have HX8 := hideI hroX
                          clear hrow hroX
                          cases hd : localB f d with
                          | false =>
                            have hz := hideI (show fieldsB p f ⟨15, d, a, bb, n, fx, gs, os⟩ = false by unfold fieldsB; simp [hd])
                            clear hd
                            go_wp2
                            go_ret
                            exact ⟨by rw [unhideI HFIN, unhideI hz]; rfl, below_cut (unhideI HB9) (unhideI HB8) (by have := unhideI HVW; omega)⟩
                          | true =>
                            have HD := hideI hd
                            clear hd
                            go_wp2_with fail
                            refine (rblock_c f _ _ _ _ _ _ a w8 hl3).mono ?_
                            rintro e w9 ⟨rfl, hb9⟩
                            have HB8b := hideI (below_cut (unhideI HB8) hb9 (unhideI HB8).size)
                            have hrow := (hb9.block _ (by have := unhideI HVZ; have := (unhideI HB8).size; omega)).trans (unhideI HQ8)
                            have hroX := (hb9.block _ (by have := unhideI HVZ; have := (unhideI HB8).size; omega)).trans (unhideI HX8)
                            have k0 := (cells_of_row hrow 0).trans rfl
                            have k1 := (cells_of_row hrow 1).trans rfl
                            have k2 := (cells_of_row hrow 2).trans rfl
                            have k3 := (cells_of_row hrow 3).trans rfl
                            have k4 := (cells_of_row hrow 4).trans rfl
                            have k6 := (cells_of_row hroX 3).trans rfl
                            clear hb9 hrow hroX
                            cases ha : inB a 0 (f.blocks.length - 1) with
                            | false =>
                              have hz := hideI (show fieldsB p f ⟨15, d, a, bb, n, fx, gs, os⟩ = false by unfold fieldsB; simp [ha])
                              clear ha
                              go_wp2
                              go_ret
                              exact ⟨by rw [unhideI HFIN, unhideI hz]; rfl, below_cut (unhideI HB9) (unhideI HB8b) (by have := unhideI HVW; omega)⟩
                            | true =>
                              have hz := hideI (show fieldsB p f ⟨15, d, a, bb, n, fx, gs, os⟩ = inB bb 0 (f.blocks.length - 1) by unfold fieldsB; simp [unhideI HD, ha])
                              clear ha
                              go_wp2_with fail
                              refine (rblock_c f _ _ _ _ _ _ bb w9 hl3).mono ?_
                              rintro e w10 ⟨rfl, hb10⟩
                              have HB8c := hideI (below_cut (unhideI HB8b) hb10 (unhideI HB8b).size)
                              clear hb10
                              go_wp2
                              go_ret
                              exact ⟨by rw [unhideI HFIN, unhideI hz]; rfl, below_cut (unhideI HB9) (unhideI HB8c) (by have := unhideI HVW; omega)⟩
                        · obtain rfl := hg
                          go_wp2_with fail
                          refine (rlocal_c f _ _ _ _ _ _ os wr ⟨_, _, rfl⟩ hl1 ((unhideI HO).below (unhideI HB9))).mono ?_
                          rintro e w8 ⟨rfl, hb8⟩
                          have HB8 := hideI hb8
                          have hrow := (hb8.block _ (by have := unhideI HVZ; omega)).trans (unhideI HQB)
                          have hroX := (hb8.block _ (by have := unhideI HVZ; omega)).trans (unhideI HQC)
                          have m1 := (cells_of_row hrow 1).trans rfl
                          have n7 := (cells_of_row hroX 7).trans rfl
                          clear hb8 hrow hroX
                          cases ho : localsB f os with
                          | false =>
                            have hz := hideI (show fieldsB p f ⟨16, d, a, bb, n, fx, gs, os⟩ = false by unfold fieldsB; simp [ho])
                            clear ho
                            go_wp2
                            go_ret
                            exact ⟨by rw [unhideI HFIN, unhideI hz]; rfl, below_cut (unhideI HB9) (unhideI HB8) (by have := unhideI HVW; omega)⟩
                          | true =>
                            have hz := hideI (show ((os.length : Int) == f.results) = fieldsB p f ⟨16, d, a, bb, n, fx, gs, os⟩ by unfold fieldsB; simp [ho]; rfl)
                            clear ho
                            go_wp2
                            go_ret
                            exact ⟨by rw [unhideI HFIN, ← unhideI hz]; rfl, below_cut (unhideI HB9) (unhideI HB8) (by have := unhideI HVW; omega)⟩
                        · obtain rfl := hg
                          go_wp2
                          go_ret
                          exact ⟨by rw [unhideI HFIN]; rfl, unhideI HB9⟩
end Go.Proofs.YteaemhhbpaicnaaDoor
