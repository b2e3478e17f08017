/-
 Frames: prologueref.Lay. Own work of the verifier.
-/
import Derived.Test.YtffemeicclhioaaGreatDoorFrN
import Derived.Test.YtffemeicclhioaaGreatDoorFrL
namespace Go.Proofs.YtffemeicclhioaaGreatDoor
open Go.RowKit

theorem Tryz.infFnF : (Tryz.prog.info? 70).map (·.size) = some 5 := by kernel_rfl
theorem kpF_svA (T : TbE) (fn : FuncE) (ss : List (List Int × Int)) : kpF (savF T fn) (at1F T fn ss) = (List.range (savF T fn).length).map (svA T fn ss) := rfl
set_option maxHeartbeats 16000000 in
set_option maxRecDepth 100000 in
theorem rflay_c (T : TbE) (P : ProgE) (k0 : Nat) (fv ev : Value) (A E : Nat → Array Value) (w : World) (hT : TbO w T) (htt : tabT T = true) (hP : ProgC w fv ev P A E) (hk0 : k0 < P.funcs.length) (hok : CallsOk P (P.funcs.getD k0 Zaj)) (hfk : FnOk T (P.funcs.getD k0 Zaj)) (hpl : ∀ k, (P.funcs.getD k Zaj).params.length ≤ 8796093022208) :
 Calls Tryz.prog 14 #[.agg T.box, .agg #[fv, ev], .int .i64 k0] w fun e w' => ∃ slv kv, e = .returned (.agg #[.int .i64 (frmF T P k0).out, .int .i64 (frmF T P k0).cop, .int .i64 (frmF T P k0).cells, slv, kv, .int .i64 (frmF T P k0).link, .int .i64 (frmF T P k0).size, .int .i64 (frmF T P k0).in_]) ∧ FrO w' w.heap.size (frmF T P k0) slv kv ∧ Below w.heap.size w w' := by
 obtain ⟨pf, cf, hfs⟩ := hP.fs.shape
 obtain ⟨pe, ce, hes⟩ := hP.es.shape
 subst hfs hes
 obtain ⟨r0, r1, r2, hZ, hB⟩ := rows3f w (.cells T.box 25 (0, 0)) (.cells #[.slice pf P.funcs.length cf, .slice pe P.externs.length ce] 29 (0, 0)) (.cells #[.int .i64 0, .int .i64 0, .int .i64 0, .slice none 0 0, .slice none 0 0, .int .i64 0, .int .i64 0, .int .i64 0] 32 (0, 0))
 obtain ⟨pf', cf', hfs, -, hlf, hcf⟩ := hP.fs
 injection hfs with f1 _ f3
 obtain ⟨sb, so, hpf, hsb, hc⟩ := hcf (by omega)
 have hck := hc k0 hk0
 obtain ⟨pv, hv, sv, bv, Bv, hA, hD⟩ := hP.feach k0 hk0
 rw [hA] at hck
 rw [← f1] at hpf
 subst hpf
 have hfn : P.funcs.getD k0 Zaj = P.funcs[k0] := getD_at _ _ _ hk0
 have HFF := Zac (show frmF T P k0 = frmE T P.funcs[k0] (accB T P (sigE P.funcs[k0]) P.funcs[k0].blocks P.funcs[k0].blocks.length) by unfold frmF; rw [hfn])
 have hfl := hpl k0
 rw [hfn] at hok hfk hfl
 have hso := acc_ok (T := T) (own := sigE P.funcs[k0]) hok
 generalize hfe : P.funcs[k0] = fn at hok hfk hD hck hso HFF hfl
 clear hfe hfn
 obtain ⟨qp, qc, hpv⟩ := hD.ps.shape
 obtain ⟨qh, ch, hhv⟩ := hD.hs.shape
 obtain ⟨qs, cs, hsv⟩ := hD.ss.shape
 obtain ⟨qb, cb, hbv⟩ := hD.bs.shape
 subst hpv hhv hsv hbv
 have HT := Zac hT
 have HP := Zac hP
 have HD := Zac hD
 have HTO := Zac (tbOk_of htt)
 have HTT := Zac htt
 have HOK := Zac hok
 have HFK := Zac hfk
 have HPL := Zac hpl
 have HSO := Zac hso
 have hlf' : P.funcs.length < 9223372036854775808 := hlf
 have hnb : fn.blocks.length ≤ 12 := hok.num
 have hnh := hfk.nh
 have hns := hfk.ns
 have hal0 := hfk.al0
 have hal1 := hfk.al1
 have HR0 := Zac r0
 have HR1 := Zac r1
 have HR2 := Zac r2
 have HB := Zac hB
 have HCK := Zac (fun (V : World) (hV : Below w.heap.size w V) (j : Nat) (x : Value) (hx : #[.slice qp fn.params.length qc, .int .i64 fn.results, .slice qh fn.homes.length ch, .slice qs fn.slots.length cs, .slice qb fn.blocks.length cb].toList[j]? = some x) => (hV.cell (p := ⟨sb, so + k0 * 5 + j, none⟩) hsb).trans (hck j x hx))
 clear r0 r1 r2 hB hT htt hP hD hok hfk hpl hso hcf hc hck hA f1 f3 hlf
 have hbx : T.box = #[.int .i64 T.r, .int .i64 T.sp, .int .i64 T.lk, .int .i64 T.t0, .int .i64 T.t1, .slice T.pa T.ag.length T.ca, .slice T.pr T.rs.length T.cr, .slice T.ps T.ss.length T.cs, .int .i64 T.al, .int .i64 T.sh, .int .i64 T.br, .bool T.pairs] := rfl
 rw [hbx] at HR0 HR1 HR2 HB hZ ⊢
 clear hbx
 go_enter Tryz.func14, Tryz.ntmps14
 go_upto_region 1 with fail
 generalize World.alloc (World.alloc (World.alloc w _) _) _ = W1 at HR0 HR1 HR2 HB hZ ⊢
 have HZZ := Zac hZ
 clear hZ
 have p0 : W1.cell? ⟨w.heap.size + 1, 0, none⟩ = some (.slice (some ⟨sb, so, none⟩) P.funcs.length cf) := (Zab (Zaa HR1) 0).trans rfl
 have c0 := Zaa HCK W1 (Zaa HB) 0 _ rfl
 have c1 := Zaa HCK W1 (Zaa HB) 1 _ rfl
 have c2 := Zaa HCK W1 (Zaa HB) 2 _ rfl
 have c3 := Zaa HCK W1 (Zaa HB) 3 _ rfl
 have c4 := Zaa HCK W1 (Zaa HB) 4 _ rfl
 rw [Nat.add_zero] at c0
 have half := al0 W1 (.cells #[.slice none 0 0, .int .i64 0, .slice none 0 0, .slice none 0 0, .slice none 0 0] 70 (0, 0))
 have HALf := Zac half
 clear half
 go_upto_region 2 with (refine wpList_store_row rfl 70 _ _ rfl W1.heap.size #[.slice qp fn.params.length qc, .int .i64 fn.results, .slice qh fn.homes.length ch, .slice qs fn.slots.length cs, .slice qb fn.blocks.length cb] rfl rfl 70 _ (Zaa HALf).1 (Tryz.infFnF.trans rfl) rfl (by simp [Value.oneCell']) ?_)
 have hrwf := setRow_heap _ _ _ #[.slice qp fn.params.length qc, .int .i64 fn.results, .slice qh fn.homes.length ch, .slice qs fn.slots.length cs, .slice qb fn.blocks.length cb] _ _ (Zaa HALf).1
 have hblf := Zag (T := W1.heap.size) (cs := #[.slice qp fn.params.length qc, .int .i64 fn.results, .slice qh fn.homes.length ch, .slice qs fn.slots.length cs, .slice qb fn.blocks.length cb]) (Zaa HALf).2.1 (Nat.le_refl _)
 have hszf : ((W1.alloc (.cells #[.slice none 0 0, .int .i64 0, .slice none 0 0, .slice none 0 0, .slice none 0 0] 70 (0, 0))).setRow W1.heap.size #[.slice qp fn.params.length qc, .int .i64 fn.results, .slice qh fn.homes.length ch, .slice qs fn.slots.length cs, .slice qb fn.blocks.length cb]).heap.size = W1.heap.size + 1 := by rw [show (W1.alloc (.cells #[.slice none 0 0, .int .i64 0, .slice none 0 0, .slice none 0 0, .slice none 0 0] 70 (0, 0))).setRow W1.heap.size #[.slice qp fn.params.length qc, .int .i64 fn.results, .slice qh fn.homes.length ch, .slice qs fn.slots.length cs, .slice qb fn.blocks.length cb] = _ from rfl]; simp [World.setRow]
 clear HALf
 generalize World.setRow (World.alloc W1 _) _ _ = W2 at hrwf hblf hszf ⊢
 have HSZf := Zac hszf
 clear hszf
 clear p0 c0 c1 c2 c3 c4 HCK
 have halx := al0 W2 (.cells #[.int .i64 0, .int .i64 0, .int .i64 0, .slice none 0 0, .slice none 0 0, .int .i64 0, .int .i64 0, .int .i64 0] 32 (0, 0))
 have HALx := Zac halx
 clear halx
 go_upto_region 3 with (refine wpList_store_row rfl 32 _ _ rfl W2.heap.size #[.int .i64 0, .int .i64 0, .int .i64 0, .slice none 0 0, .slice none 0 0, .int .i64 (-1), .int .i64 0, .int .i64 0] rfl rfl 32 _ (Zaa HALx).1 (Tryz.infFrF.trans rfl) rfl (by simp [Value.oneCell']) ?_)
 have hrwx := setRow_heap _ _ _ #[.int .i64 0, .int .i64 0, .int .i64 0, .slice none 0 0, .slice none 0 0, .int .i64 (-1), .int .i64 0, .int .i64 0] _ _ (Zaa HALx).1
 have hblx := Zag (T := W2.heap.size) (cs := #[.int .i64 0, .int .i64 0, .int .i64 0, .slice none 0 0, .slice none 0 0, .int .i64 (-1), .int .i64 0, .int .i64 0]) (Zaa HALx).2.1 (Nat.le_refl _)
 have hszx : ((W2.alloc (.cells #[.int .i64 0, .int .i64 0, .int .i64 0, .slice none 0 0, .slice none 0 0, .int .i64 0, .int .i64 0, .int .i64 0] 32 (0, 0))).setRow W2.heap.size #[.int .i64 0, .int .i64 0, .int .i64 0, .slice none 0 0, .slice none 0 0, .int .i64 (-1), .int .i64 0, .int .i64 0]).heap.size = W2.heap.size + 1 := by rw [show (W2.alloc (.cells #[.int .i64 0, .int .i64 0, .int .i64 0, .slice none 0 0, .slice none 0 0, .int .i64 0, .int .i64 0, .int .i64 0] 32 (0, 0))).setRow W2.heap.size #[.int .i64 0, .int .i64 0, .int .i64 0, .slice none 0 0, .slice none 0 0, .int .i64 (-1), .int .i64 0, .int .i64 0] = _ from rfl]; simp [World.setRow]
 clear HALx
 generalize World.setRow (World.alloc W2 _) _ _ = W at hrwx hblx hszx ⊢
 have HSZx := Zac hszx
 clear hszx
 have hs3 : W1.heap.size = w.heap.size + 3 := Zaa HZZ
 have hs4 : W2.heap.size = w.heap.size + 4 := by rw [Zaa HSZf, hs3]
 rw [hs3, hs4]
 rw [hs3] at hrwf hblf
 rw [hs4] at hrwx hblx
 have HQ0 := Zac ((hblx.block w.heap.size (by omega)).trans ((hblf.block w.heap.size (by omega)).trans (Zaa HR0)))
 have HQ1 := Zac ((hblx.block (w.heap.size + 1) (by omega)).trans ((hblf.block (w.heap.size + 1) (by omega)).trans (Zaa HR1)))
 have HQ2 := Zac ((hblx.block (w.heap.size + 1 + 1) (by omega)).trans ((hblf.block (w.heap.size + 1 + 1) (by omega)).trans (Zaa HR2)))
 have HQ3 := Zac ((hblx.block (w.heap.size + 3) (by omega)).trans hrwf)
 have hBW : Below w.heap.size w W := Zad (Zad (Zaa HB) (by rw [hs3]; exact hblf) (by omega)) (by rw [hs4]; exact hblx) (by omega)
 have HLOW := Zac (fun (V : World) (hV : Below (w.heap.size + 4) W V) => show Below w.heap.size w V from ⟨hV.os.trans hBW.os, hV.tape.trans hBW.tape, hV.output.trans hBW.output, Nat.le_trans hBW.size hV.size, fun q hq => (hV.block q (by omega)).trans (hBW.block q hq)⟩)
 have HPT := Zac (show PtI W (w.heap.size + 4) 0 0 0 (.slice none 0 0) (.slice none 0 0) (-1) 0 0 [] [] W from ⟨Below.refl _ _, hrwx, World.ownsRow_nil _ _ _ _, World.ownsRow_nil _ _ _ _⟩)
 have HRF := Zac (fun (V : World) (hV : Below (w.heap.size + 4) W V) => show RfF w.heap.size T P fn (some ⟨sb, so, none⟩) pe qp qh qs qb cf ce qc ch cs cb A E Bv V from ⟨(Zaa HT).below (Zaa HLOW V hV), (Zaa HP).below (Zaa HLOW V hV), (Zaa HD).below (Zaa HLOW V hV), (hV.block _ (by omega)).trans (Zaa HQ0), (hV.block _ (by omega)).trans (Zaa HQ1), (hV.block _ (by omega)).trans (Zaa HQ3)⟩)
 have HIA := Zac (fun (k : Nat) (hk : k < fn.blocks.length) => show ∃ ip ic IA, Bv k = .slice ip (fn.blocks.getD k []).length ic ∧ ∀ V, Below (w.heap.size + 4) W V → LS 8 V (.slice ip (fn.blocks.getD k []).length ic) (fn.blocks.getD k []).length IA ∧ ∀ j (h : j < (fn.blocks.getD k []).length), InsC V (IA j) (fn.blocks.getD k [])[j] by
  obtain ⟨IA, h1, h2⟩ := (Zaa HD).each k hk
  rw [← getD_at fn.blocks [] k hk] at h1 h2
  obtain ⟨ip, ic, e⟩ := h1.shape
  rw [e] at h1
  exact ⟨ip, ic, IA, e, fun V hV => ⟨h1.below (Zaa HLOW V hV), fun j hj => (h2 j hj).below (Zaa HLOW V hV)⟩⟩)
 have f4 : W.cell? ⟨w.heap.size + 3, 4, none⟩ = some (.slice qb fn.blocks.length cb) := (Zab (Zaa HQ3) 4).trans rfl
 clear hrwf hblf HSZf hrwx hblx HSZx hBW HR0 HR1 HR2 HB hs3 hs4 HZZ
 go_wp2_with fail
 clear f4
 refine rfOut T P fn w.heap.size W (some ⟨sb, so, none⟩) pe qp qh qs qb cf ce qc ch cs cb A E Bv W _ _ _ _ _ _ _ _ _ _ _ _ _ _ _ _ _ _ _ _ _ _ _ _ _ _ _ _ _ _ _ _ _ _ _ _ _ _ _ _ _ _ _ _ _ _ _ _ _ _ _ _ _ _ _ _ _ _ _ _ _ _ _ _ _ _ _ _ _ _ _ _ _ _ _ _ _ _ _ _ _ _ _ _ _ _ _ _ _ _ _ _ _ _ _ _ _ _ _ _ _ _ _ _ _ _ _ _ _ _ _ _ _ _ _ _ _ _ _ _ _ _ _ _ _ _ _ _ _ _ _ _ _ _ _ _ _ _ _ _ _ _ _ _ _ _ _ _ _ _ _ _ _ _ _ _ _ _ _ _ _ _ _ _ _ _ _ _ _ _ _ _ _ _ (Zaa HRF) (Zaa HTO) (Zaa HOK) (Zaa HPL) hfl (Zaa HIA) (Zaa HPT) ?_
 intro w1 cb1 hcb1 hP1 u11 u13 u14 u15 u30 u31 u32 u33 u34 u35 u36 u37 u38 u39 u40 u41 u42 u43 u44 u45 u46 u47 u48 u49 u50 u51 u52 u53 u54 u55 u56 u57 u58 u59 u60 u61 u62 u63 u64 u65 u66 u67 u68 u69 u70 u71 u72 u73 u74 u75 u76 u77 u78 u79 u80 u81 u82 u83 u84 u85 u86 u87 u88 u89 u90 u91 u92 u93 u94 u95 u96
 clear HPT HIA
 generalize accB T P (sigE fn) fn.blocks fn.blocks.length = ss at hcb1 hP1 HSO HFF
 have hob := outT_le (Zaa HTO) ss (Zaa HSO) 0 (by omega) (by omega)
 have hcb := copT_le (Zaa HTO) ss (Zaa HSO) 0 (by omega) (by omega)
 change 0 ≤ outT T ss ∧ outT T ss ≤ 1000 at hob
 change 0 ≤ copT T ss ∧ copT T ss ≤ 1000 at hcb
 obtain ⟨ho0, ho1⟩ := hob
 obtain ⟨hc0, hc1⟩ := hcb
 have HA0 := Zac (show at0F T fn ss = outT T ss + copT T ss + 8 * (fn.homes.length : Int) from rfl)
 have HA1 := Zac (show at1F T fn ss = at0F T fn ss + 8 * sumT fn.slots fn.slots.length from rfl)
 have HFE := Zac ((Zaa HFF).trans (show frmE T fn ss = ⟨outT T ss, copT T ss, outT T ss + copT T ss, (List.range fn.slots.length).map (slA T fn ss), (List.range (savF T fn).length).map (svA T fn ss), if hasF T ss = true then at2F T fn ss else -1, inF T fn ss - pshF T, inF T fn ss⟩ from rfl))
 have HP1 := Zac hP1
 have HCB1 := Zac hcb1
 clear hP1 HFF hcb1
 generalize outT T ss = oo at HP1 HA0 HFE ho0 ho1
 generalize copT T ss = cc at HP1 HA0 HFE hc0 hc1
 have y0 := (Zab (Zaa HP1).row 0).trans rfl
 have y1 := (Zab (Zaa HP1).row 1).trans rfl
 have y2 := (Zab (Zaa HP1).row 2).trans rfl
 have z2 := frozen_of_row _ _ 2 _ _ (Zaa HP1).row
 have HP2 := Zac ((Zaa HP1).s2 (oo + cc))
 clear HP1
 go_upto_region 22 with fail
 clear y0 y1 y2 z2
 generalize World.setCell w1 _ _ = U at HP2 ⊢
 have y2 := (Zab (Zaa HP2).row 2).trans rfl
 have hq3 := (Zaa HRF U (Zaa HP2).low).r3
 have h2 : U.cell? ⟨w.heap.size + 3, 2, none⟩ = some (.slice qh fn.homes.length ch) := (Zab hq3 2).trans rfl
 have h3 : U.cell? ⟨w.heap.size + 3, 3, none⟩ = some (.slice qs fn.slots.length cs) := (Zab hq3 3).trans rfl
 clear hq3
 have HSB := Zac (sumT_le (Zaa HFK).sl)
 have HSA := Zac (fun k => show slA T fn ss k = oo + cc + 8 * (fn.homes.length : Int) + 8 * sumT fn.slots k by unfold slA; rw [Zaa HA0])
 have HAE := Zac (show oo + cc + 8 * (fn.homes.length : Int) = slA T fn ss 0 by rw [Zaa HSA]; simp [sumT])
 go_wp2_with fail
 clear y2 h2 h3
 rw [Zaa HAE]
 refine rfSl W U (w.heap.size + 4) oo cc (oo + cc) fn.slots (slA T fn ss) qs cs _ _ _ _ _ _ _ _ _ _ _ _ _ _ _ _ _ _ _ _ _ _ _ _ _ _ _ _ _ _ _ _ _ _ _ _ _ _ _ _ _ _ _ _ _ _ _ _ _ _ _ _ _ _ _ _ _ _ _ _ _ _ _ _ _ _ _ _ _ _ _ _ _ _ _ _ _ _ _ _ _ _ _ _ _ _ _ _ _ _ _ _ _ _ _ _ _ _ _ _ _ _ _ _ _ _ _ _ _ _ _ _ _ _ _ _ _ _ _ _ _ _ _ _ _ _ _ _ _ _ _ _ _ _ _ _ _ _ _ _ _ _ _ _ _ _ _ _ _ _ _ _ _ _ _ _ _ _ _ _ _ _ _ _ _ _ _ _ _ _ _ _ _ _ _ _ _ (fun k hk => by unfold slA; rw [sumT_next _ _ hk]; omega) (fun k hk => by have := Zaa HSB k hk; rw [Zaa HSA]; omega) hns (Zaa HFK).sl (fun V hV => (Zaa HRF V hV).d.ss) (Zaa HP2) ?_
 intro w2 slv hP3 u18 u113 u114 u115 u116 u117 u118 u119 u120 u121 u122 u123 u124 u125 u126 u127
 have hfm := Zan hP3.sl
 simp only [List.length_map, List.length_range] at hfm
 obtain ⟨qp9, qc9, rfl⟩ := hfm
 have hb1 := Zaa HSB fn.slots.length (Nat.le_refl _)
 have HAT1 := Zac (show slA T fn ss fn.slots.length = at1F T fn ss from rfl)
 have ha1b : 0 ≤ at1F T fn ss ∧ at1F T fn ss ≤ 3000 := by rw [← Zaa HAT1, Zaa HSA]; omega
 rw [Zaa HAT1]
 obtain ⟨a1, ha1⟩ : ∃ a1, a1 = at1F T fn ss := ⟨_, rfl⟩
 have HKPE := Zac (show kpF (savF T fn) a1 = (List.range (savF T fn).length).map (svA T fn ss) by rw [ha1]; exact kpF_svA T fn ss)
 have HA2 := Zac (show at2F T fn ss = a1 + 8 * ((savF T fn).length : Int) by rw [ha1]; rfl)
 rw [← ha1] at ha1b ⊢
 obtain ⟨ha10, ha11⟩ := ha1b
 have HP3 := Zac hP3
 clear hP3 ha1 hb1 HP2 HSA HSB HAE HA0 HA1
 go_wp2_with fail
 refine rfSv T fn W w2 w.heap.size (w.heap.size + 3) (w.heap.size + 4) oo cc (oo + cc) a1 (.slice qp9 fn.slots.length qc9) ((List.range fn.slots.length).map (slA T fn ss)) qp qh qs qb qc ch cs cb _ _ _ _ _ _ _ _ _ _ _ _ _ _ _ _ _ _ _ _ _ _ _ _ _ _ _ _ _ _ _ _ _ _ _ _ _ _ _ _ _ _ _ _ _ _ _ _ _ _ _ _ _ _ _ _ _ _ _ _ _ _ _ _ _ _ _ _ _ _ _ _ _ _ _ _ _ _ _ _ _ _ _ _ _ _ _ _ _ _ _ _ _ _ _ _ _ _ _ _ _ _ _ _ _ _ _ _ _ _ _ _ _ _ _ _ _ _ _ _ _ _ _ _ _ _ _ _ _ _ _ _ _ _ _ _ _ _ _ _ _ _ _ _ _ _ _ _ _ _ _ _ _ _ _ _ _ _ _ _ _ _ _ _ _ _ _ _ _ _ _ _ _ _ _ _ _ ha10 ha11 (by omega) (Zaa HFK).ss (fun V hV => ⟨(Zaa HRF V hV).r0, (Zaa HRF V hV).r3, (Zaa HRF V hV).t.s, (Zaa HRF V hV).d.hs⟩) (Zaa HP3) ?_
 intro w3 kv hP4 u19 u128 u129 u130 u131 u132 u133 u134 u135 u136 u137 u138 u139 u140 u141 u142 u143 u144 u145 u146 u147 u148 u149 u150 u151
 rw [savF_16 (Zaa HTT)] at hP4 ⊢
 have hfm := Zan hP4.kp
 rw [kpF_len] at hfm
 obtain ⟨kp9, kc9, rfl⟩ := hfm
 have hsvl : (savF T fn).length ≤ 16 := Nat.le_trans (savL_len _ _ _) (by have := (Zaa HFK).r1; omega)
 have HP4 := Zac hP4
 have ht0 := (Zaa HRF w3 hP4.low).r0
 have t2 : w3.cell? ⟨w.heap.size, 2, none⟩ = some (.int .i64 T.lk) := (Zab ht0 2).trans rfl
 clear hP4 HP3 ht0
 obtain ⟨a2, ha2⟩ : ∃ a2, a2 = a1 + 8 * ((savF T fn).length : Int) := ⟨_, rfl⟩
 have ha20 : 0 ≤ a2 := by omega
 have ha21 : a2 ≤ 4000 := by omega
 rw [← ha2] at HA2 ⊢
 clear ha2 ha10 ha11
 rcases tab_link (Zaa HTT) with hlk | hlk
 ·
  have HHS := Zac (show hasF T ss = false by unfold hasF; rw [hlk]; rfl)
  have HPS := Zac (show pshF T = 8 by unfold pshF; rw [if_pos hlk])
  have HIN := Zac (show inF T fn ss = (a2 + 8 + T.al - 1) / T.al * T.al by unfold inF at3F; rw [Zaa HHS, Zaa HPS, Zaa HA2]; rfl)
  rw [hlk] at t2
  have HT9 := Zac (show w3.heap[w.heap.size]? = some (.cells #[.int .i64 T.r, .int .i64 T.sp, .int .i64 T.lk, .int .i64 T.t0, .int .i64 T.t1, .slice T.pa T.ag.length T.ca, .slice T.pr T.rs.length T.cr, .slice T.ps T.ss.length T.cs, .int .i64 T.al, .int .i64 T.sh, .int .i64 T.br, .bool T.pairs] 25 (0, 0)) from (Zaa HRF w3 (Zaa HP4).low).r0)
  have HI9 := HP4
  clear hlk HP4
  go_wp2_with fail
  refine rfUp T _ w.heap.size a2 8 _ _ _ _ _ _ _ _ _ _ _ _ _ _ _ _ _ _ _ _ _ _ _ _ _ _ _ _ _ _ _ _ _ _ _ _ _ _ _ _ _ _ _ _ _ _ _ _ _ _ _ _ _ _ _ _ _ _ _ _ _ _ _ _ _ _ _ _ _ _ _ _ _ _ _ _ _ _ _ _ _ _ _ _ _ _ _ _ _ _ _ _ _ _ _ _ _ _ _ _ _ _ _ _ _ _ _ _ _ _ _ _ _ _ _ _ _ _ _ _ _ _ _ _ _ _ _ _ _ _ _ _ _ _ _ _ _ _ _ _ _ _ _ _ _ _ _ _ _ _ _ _ _ _ _ _ _ _ _ _ _ _ _ _ _ _ _ _ _ _ _ _ _ _ _ _ _ _ _ (by omega) (by omega) (by omega) (by omega) hal0 hal1 (Zaa HT9) ?_
  intro u165 u166 u167 u168 u169 u170 u171 u172 u173
  obtain ⟨up, hup⟩ : ∃ up, up = (a2 + 8 + T.al - 1) / T.al * T.al := ⟨_, rfl⟩
  have hub : up ≤ a2 + 8 + T.al - 1 := by rw [hup]; exact Int.ediv_mul_le _ (by omega)
  have huf : a2 + 8 ≤ up := by rw [hup]; exact up_first hal0
  rw [← hup]
  have HUP := Zac hup
  clear hup
  have HI6 := Zac ((Zaa HI9).s6 (up - 8))
  have y6 := (Zab (Zaa HI9).row 6).trans rfl
  have z6 := frozen_of_row _ _ 6 _ _ (Zaa HI9).row
  go_upto_region 44 with fail
  clear y6 z6
  generalize World.setCell _ ⟨w.heap.size + 4, 6, none⟩ _ = U6 at HI6 ⊢
  have HI7 := Zac ((Zaa HI6).s7 up)
  have y7 := (Zab (Zaa HI6).row 7).trans rfl
  have z7 := frozen_of_row _ _ 7 _ _ (Zaa HI6).row
  have hps : up - 8 + 8 = up := by omega
  go_upto_region 45 with fail
  clear y7 z7
  clear hps
  generalize World.setCell U6 ⟨w.heap.size + 4, 7, none⟩ _ = U7 at HI7 ⊢
  have e0 : U7.cell? ⟨w.heap.size + 4, 0, none⟩ = some (.int .i64 oo) := (Zab (Zaa HI7).row 0).trans rfl
  have e1 : U7.cell? ⟨w.heap.size + 4, 1, none⟩ = some (.int .i64 cc) := (Zab (Zaa HI7).row 1).trans rfl
  have e2 : U7.cell? ⟨w.heap.size + 4, 2, none⟩ = some (.int .i64 (oo + cc)) := (Zab (Zaa HI7).row 2).trans rfl
  have e3 : U7.cell? ⟨w.heap.size + 4, 3, none⟩ = some (.slice qp9 fn.slots.length qc9) := (Zab (Zaa HI7).row 3).trans rfl
  have e4 : U7.cell? ⟨w.heap.size + 4, 4, none⟩ = some (.slice kp9 (savF T fn).length kc9) := (Zab (Zaa HI7).row 4).trans rfl
  have e5 : U7.cell? ⟨w.heap.size + 4, 5, none⟩ = some (.int .i64 (-1)) := (Zab (Zaa HI7).row 5).trans rfl
  have e6 : U7.cell? ⟨w.heap.size + 4, 6, none⟩ = some (.int .i64 (up - 8)) := (Zab (Zaa HI7).row 6).trans rfl
  have e7 : U7.cell? ⟨w.heap.size + 4, 7, none⟩ = some (.int .i64 up) := (Zab (Zaa HI7).row 7).trans rfl
  have HRR := Zac (((Zaa HI7).low.block (w.heap.size + 1 + 1) (by omega)).trans (Zaa HQ2))
  go_wp2_with (refine wpList_store_row rfl 32 _ _ rfl (w.heap.size + 1 + 1) #[.int .i64 oo, .int .i64 cc, .int .i64 (oo + cc), .slice qp9 fn.slots.length qc9, .slice kp9 (savF T fn).length kc9, .int .i64 (-1), .int .i64 (up - 8), .int .i64 up] rfl rfl 32 _ (Zaa HRR) (Tryz.infFrF.trans rfl) rfl (by simp [Value.oneCell']) ?_)
  refine bodyPost_ret (resultsK (fn := Tryz.f14) (q := 6) (uy := 32) rfl _ _ (w.heap.size + 1 + 1) 32 #[.int .i64 oo, .int .i64 cc, .int .i64 (oo + cc), .slice qp9 fn.slots.length qc9, .slice kp9 (savF T fn).length kc9, .int .i64 (-1), .int .i64 (up - 8), .int .i64 up] (0, 0) _ rfl (setRow_heap _ _ _ _ _ _ (Zaa HRR)) Tryz.underlying32 rfl (Tryz.infFrF.trans rfl)) rfl ?_
  have hI := Zaa HI7
  have hkl := hI.kp
  rw [kpF_len] at hkl
  have hsl := hI.sl
  rw [Zaa HFE]
  refine ⟨.slice qp9 fn.slots.length qc9, .slice kp9 (savF T fn).length kc9, ?_, ⟨own_monoF (own_setF hI.sl (by omega) _) (by omega), ?_⟩, Zag (Zaa HLOW U7 hI.low) (by omega)⟩
  ·
   rw [Zaa HHS, Zaa HIN, Zaa HPS, ← Zaa HUP]; rfl
  ·
   have h := own_monoF (own_setF hI.kp (show w.heap.size + 1 + 1 < w.heap.size + 4 + 1 by omega) #[.int .i64 oo, .int .i64 cc, .int .i64 (oo + cc), .slice qp9 fn.slots.length qc9, .slice kp9 (savF T fn).length kc9, .int .i64 (-1), .int .i64 (up - 8), .int .i64 up]) (show w.heap.size ≤ w.heap.size + 4 + 1 by omega)
   rw [Zaa HKPE] at h
   exact h
 ·
  have hne : ¬ T.lk = -1 := by omega
  have HPS := Zac (show pshF T = 0 by unfold pshF; rw [if_neg hne])
  cases cb1 with
  | false =>
   have hz : ¬ 0 < ss.length := of_decide_eq_false (Zaa HCB1).symm
   have HHS := Zac (show hasF T ss = false by unfold hasF; rw [decide_eq_false hz, Bool.and_false])
   have HIN := Zac (show inF T fn ss = (a2 + 0 + T.al - 1) / T.al * T.al by unfold inF at3F; rw [Zaa HHS, Zaa HPS, Zaa HA2]; rfl)
   have HT9 := Zac (show w3.heap[w.heap.size]? = some (.cells #[.int .i64 T.r, .int .i64 T.sp, .int .i64 T.lk, .int .i64 T.t0, .int .i64 T.t1, .slice T.pa T.ag.length T.ca, .slice T.pr T.rs.length T.cr, .slice T.ps T.ss.length T.cs, .int .i64 T.al, .int .i64 T.sh, .int .i64 T.br, .bool T.pairs] 25 (0, 0)) from (Zaa HRF w3 (Zaa HP4).low).r0)
   have HI9 := HP4
   clear HP4 hz hne
   go_wp2_with fail
   refine rfUp T _ w.heap.size a2 0 _ _ _ _ _ _ _ _ _ _ _ _ _ _ _ _ _ _ _ _ _ _ _ _ _ _ _ _ _ _ _ _ _ _ _ _ _ _ _ _ _ _ _ _ _ _ _ _ _ _ _ _ _ _ _ _ _ _ _ _ _ _ _ _ _ _ _ _ _ _ _ _ _ _ _ _ _ _ _ _ _ _ _ _ _ _ _ _ _ _ _ _ _ _ _ _ _ _ _ _ _ _ _ _ _ _ _ _ _ _ _ _ _ _ _ _ _ _ _ _ _ _ _ _ _ _ _ _ _ _ _ _ _ _ _ _ _ _ _ _ _ _ _ _ _ _ _ _ _ _ _ _ _ _ _ _ _ _ _ _ _ _ _ _ _ _ _ _ _ _ _ _ _ _ _ _ _ _ _ (by omega) (by omega) (by omega) (by omega) hal0 hal1 (Zaa HT9) ?_
   intro u165 u166 u167 u168 u169 u170 u171 u172 u173
   obtain ⟨up, hup⟩ : ∃ up, up = (a2 + 0 + T.al - 1) / T.al * T.al := ⟨_, rfl⟩
   have hub : up ≤ a2 + 0 + T.al - 1 := by rw [hup]; exact Int.ediv_mul_le _ (by omega)
   have huf : a2 + 0 ≤ up := by rw [hup]; exact up_first hal0
   rw [← hup]
   have HUP := Zac hup
   clear hup
   have HI6 := Zac ((Zaa HI9).s6 (up))
   have y6 := (Zab (Zaa HI9).row 6).trans rfl
   have z6 := frozen_of_row _ _ 6 _ _ (Zaa HI9).row
   go_upto_region 44 with fail
   clear y6 z6
   generalize World.setCell _ ⟨w.heap.size + 4, 6, none⟩ _ = U6 at HI6 ⊢
   have HI7 := Zac ((Zaa HI6).s7 up)
   have y7 := (Zab (Zaa HI6).row 7).trans rfl
   have z7 := frozen_of_row _ _ 7 _ _ (Zaa HI6).row
   go_upto_region 45 with fail
   clear y7 z7
   generalize World.setCell U6 ⟨w.heap.size + 4, 7, none⟩ _ = U7 at HI7 ⊢
   have e0 : U7.cell? ⟨w.heap.size + 4, 0, none⟩ = some (.int .i64 oo) := (Zab (Zaa HI7).row 0).trans rfl
   have e1 : U7.cell? ⟨w.heap.size + 4, 1, none⟩ = some (.int .i64 cc) := (Zab (Zaa HI7).row 1).trans rfl
   have e2 : U7.cell? ⟨w.heap.size + 4, 2, none⟩ = some (.int .i64 (oo + cc)) := (Zab (Zaa HI7).row 2).trans rfl
   have e3 : U7.cell? ⟨w.heap.size + 4, 3, none⟩ = some (.slice qp9 fn.slots.length qc9) := (Zab (Zaa HI7).row 3).trans rfl
   have e4 : U7.cell? ⟨w.heap.size + 4, 4, none⟩ = some (.slice kp9 (savF T fn).length kc9) := (Zab (Zaa HI7).row 4).trans rfl
   have e5 : U7.cell? ⟨w.heap.size + 4, 5, none⟩ = some (.int .i64 (-1)) := (Zab (Zaa HI7).row 5).trans rfl
   have e6 : U7.cell? ⟨w.heap.size + 4, 6, none⟩ = some (.int .i64 (up)) := (Zab (Zaa HI7).row 6).trans rfl
   have e7 : U7.cell? ⟨w.heap.size + 4, 7, none⟩ = some (.int .i64 up) := (Zab (Zaa HI7).row 7).trans rfl
   have HRR := Zac (((Zaa HI7).low.block (w.heap.size + 1 + 1) (by omega)).trans (Zaa HQ2))
   go_wp2_with (refine wpList_store_row rfl 32 _ _ rfl (w.heap.size + 1 + 1) #[.int .i64 oo, .int .i64 cc, .int .i64 (oo + cc), .slice qp9 fn.slots.length qc9, .slice kp9 (savF T fn).length kc9, .int .i64 (-1), .int .i64 (up), .int .i64 up] rfl rfl 32 _ (Zaa HRR) (Tryz.infFrF.trans rfl) rfl (by simp [Value.oneCell']) ?_)
   refine bodyPost_ret (resultsK (fn := Tryz.f14) (q := 6) (uy := 32) rfl _ _ (w.heap.size + 1 + 1) 32 #[.int .i64 oo, .int .i64 cc, .int .i64 (oo + cc), .slice qp9 fn.slots.length qc9, .slice kp9 (savF T fn).length kc9, .int .i64 (-1), .int .i64 (up), .int .i64 up] (0, 0) _ rfl (setRow_heap _ _ _ _ _ _ (Zaa HRR)) Tryz.underlying32 rfl (Tryz.infFrF.trans rfl)) rfl ?_
   have hI := Zaa HI7
   have hkl := hI.kp
   rw [kpF_len] at hkl
   have hsl := hI.sl
   rw [Zaa HFE]
   refine ⟨.slice qp9 fn.slots.length qc9, .slice kp9 (savF T fn).length kc9, ?_, ⟨own_monoF (own_setF hI.sl (by omega) _) (by omega), ?_⟩, Zag (Zaa HLOW U7 hI.low) (by omega)⟩
   ·
    rw [Zaa HHS, Zaa HIN, Zaa HPS, ← Zaa HUP, Int.sub_zero]; rfl
   ·
    have h := own_monoF (own_setF hI.kp (show w.heap.size + 1 + 1 < w.heap.size + 4 + 1 by omega) #[.int .i64 oo, .int .i64 cc, .int .i64 (oo + cc), .slice qp9 fn.slots.length qc9, .slice kp9 (savF T fn).length kc9, .int .i64 (-1), .int .i64 (up), .int .i64 up]) (show w.heap.size ≤ w.heap.size + 4 + 1 by omega)
    rw [Zaa HKPE] at h
    exact h
  | true =>
   have hz : 0 < ss.length := of_decide_eq_true (Zaa HCB1).symm
   have HHS := Zac (show hasF T ss = true by unfold hasF; rw [decide_eq_true hz, decide_eq_true hne]; rfl)
   have HIN := Zac (show inF T fn ss = (a2 + 8 + 0 + T.al - 1) / T.al * T.al by unfold inF at3F; rw [Zaa HHS, Zaa HPS, Zaa HA2]; rfl)
   have y5 := (Zab (Zaa HP4).row 5).trans rfl
   have z5 := frozen_of_row _ _ 5 _ _ (Zaa HP4).row
   have HI9 := Zac ((Zaa HP4).s5 a2)
   go_upto_region 37 with fail
   clear y5 z5 t2 HP4 hz hne
   generalize World.setCell w3 _ _ = w4 at HI9 ⊢
   have ht0 := (Zaa HRF w4 (Zaa HI9).low).r0
   have t2 : w4.cell? ⟨w.heap.size, 2, none⟩ = some (.int .i64 T.lk) := (Zab ht0 2).trans rfl
   have HT9 := Zac ht0
   clear ht0
   go_wp2_with fail
   refine rfUp T _ w.heap.size (a2 + 8) 0 _ _ _ _ _ _ _ _ _ _ _ _ _ _ _ _ _ _ _ _ _ _ _ _ _ _ _ _ _ _ _ _ _ _ _ _ _ _ _ _ _ _ _ _ _ _ _ _ _ _ _ _ _ _ _ _ _ _ _ _ _ _ _ _ _ _ _ _ _ _ _ _ _ _ _ _ _ _ _ _ _ _ _ _ _ _ _ _ _ _ _ _ _ _ _ _ _ _ _ _ _ _ _ _ _ _ _ _ _ _ _ _ _ _ _ _ _ _ _ _ _ _ _ _ _ _ _ _ _ _ _ _ _ _ _ _ _ _ _ _ _ _ _ _ _ _ _ _ _ _ _ _ _ _ _ _ _ _ _ _ _ _ _ _ _ _ _ _ _ _ _ _ _ _ _ _ _ _ _ (by omega) (by omega) (by omega) (by omega) hal0 hal1 (Zaa HT9) ?_
   intro u165 u166 u167 u168 u169 u170 u171 u172 u173
   obtain ⟨up, hup⟩ : ∃ up, up = ((a2 + 8) + 0 + T.al - 1) / T.al * T.al := ⟨_, rfl⟩
   have hub : up ≤ (a2 + 8) + 0 + T.al - 1 := by rw [hup]; exact Int.ediv_mul_le _ (by omega)
   have huf : (a2 + 8) + 0 ≤ up := by rw [hup]; exact up_first hal0
   rw [← hup]
   have HUP := Zac hup
   clear hup
   have HI6 := Zac ((Zaa HI9).s6 (up))
   have y6 := (Zab (Zaa HI9).row 6).trans rfl
   have z6 := frozen_of_row _ _ 6 _ _ (Zaa HI9).row
   go_upto_region 44 with fail
   clear y6 z6
   generalize World.setCell _ ⟨w.heap.size + 4, 6, none⟩ _ = U6 at HI6 ⊢
   have HI7 := Zac ((Zaa HI6).s7 up)
   have y7 := (Zab (Zaa HI6).row 7).trans rfl
   have z7 := frozen_of_row _ _ 7 _ _ (Zaa HI6).row
   go_upto_region 45 with fail
   clear y7 z7
   generalize World.setCell U6 ⟨w.heap.size + 4, 7, none⟩ _ = U7 at HI7 ⊢
   have e0 : U7.cell? ⟨w.heap.size + 4, 0, none⟩ = some (.int .i64 oo) := (Zab (Zaa HI7).row 0).trans rfl
   have e1 : U7.cell? ⟨w.heap.size + 4, 1, none⟩ = some (.int .i64 cc) := (Zab (Zaa HI7).row 1).trans rfl
   have e2 : U7.cell? ⟨w.heap.size + 4, 2, none⟩ = some (.int .i64 (oo + cc)) := (Zab (Zaa HI7).row 2).trans rfl
   have e3 : U7.cell? ⟨w.heap.size + 4, 3, none⟩ = some (.slice qp9 fn.slots.length qc9) := (Zab (Zaa HI7).row 3).trans rfl
   have e4 : U7.cell? ⟨w.heap.size + 4, 4, none⟩ = some (.slice kp9 (savF T fn).length kc9) := (Zab (Zaa HI7).row 4).trans rfl
   have e5 : U7.cell? ⟨w.heap.size + 4, 5, none⟩ = some (.int .i64 (a2)) := (Zab (Zaa HI7).row 5).trans rfl
   have e6 : U7.cell? ⟨w.heap.size + 4, 6, none⟩ = some (.int .i64 (up)) := (Zab (Zaa HI7).row 6).trans rfl
   have e7 : U7.cell? ⟨w.heap.size + 4, 7, none⟩ = some (.int .i64 up) := (Zab (Zaa HI7).row 7).trans rfl
   have HRR := Zac (((Zaa HI7).low.block (w.heap.size + 1 + 1) (by omega)).trans (Zaa HQ2))
   go_wp2_with (refine wpList_store_row rfl 32 _ _ rfl (w.heap.size + 1 + 1) #[.int .i64 oo, .int .i64 cc, .int .i64 (oo + cc), .slice qp9 fn.slots.length qc9, .slice kp9 (savF T fn).length kc9, .int .i64 (a2), .int .i64 (up), .int .i64 up] rfl rfl 32 _ (Zaa HRR) (Tryz.infFrF.trans rfl) rfl (by simp [Value.oneCell']) ?_)
   refine bodyPost_ret (resultsK (fn := Tryz.f14) (q := 6) (uy := 32) rfl _ _ (w.heap.size + 1 + 1) 32 #[.int .i64 oo, .int .i64 cc, .int .i64 (oo + cc), .slice qp9 fn.slots.length qc9, .slice kp9 (savF T fn).length kc9, .int .i64 (a2), .int .i64 (up), .int .i64 up] (0, 0) _ rfl (setRow_heap _ _ _ _ _ _ (Zaa HRR)) Tryz.underlying32 rfl (Tryz.infFrF.trans rfl)) rfl ?_
   have hI := Zaa HI7
   have hkl := hI.kp
   rw [kpF_len] at hkl
   have hsl := hI.sl
   rw [Zaa HFE]
   refine ⟨.slice qp9 fn.slots.length qc9, .slice kp9 (savF T fn).length kc9, ?_, ⟨own_monoF (own_setF hI.sl (by omega) _) (by omega), ?_⟩, Zag (Zaa HLOW U7 hI.low) (by omega)⟩
   ·
    rw [Zaa HHS, Zaa HIN, Zaa HPS, Zaa HA2, ← Zaa HUP, Int.sub_zero]; rfl
   ·
    have h := own_monoF (own_setF hI.kp (show w.heap.size + 1 + 1 < w.heap.size + 4 + 1 by omega) #[.int .i64 oo, .int .i64 cc, .int .i64 (oo + cc), .slice qp9 fn.slots.length qc9, .slice kp9 (savF T fn).length kc9, .int .i64 (a2), .int .i64 (up), .int .i64 up]) (show w.heap.size ≤ w.heap.size + 4 + 1 by omega)
    rw [Zaa HKPE] at h
    exact h
end Go.Proofs.YtffemeicclhioaaGreatDoor
