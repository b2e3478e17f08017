/-
 Frames: frame.parts. Own work of the verifier.
-/
import Derived.Test.YtffemeicclhioaaGreatDoorPk
import Derived.Test.YtffemeicclhioaaGreatDoorJ26
namespace Go.Proofs.YtffemeicclhioaaGreatDoor
open Go.RowKit

theorem Tryz.infFrF : (Tryz.prog.info? 32).map (·.size) = some 8 := by kernel_rfl
theorem Tryz.infoKp : (Tryz.prog.info? 56).map (fun i => (i.zero, i.size, i.bytes)) = some (some (.agg #[.int .i64 0, .int .i64 0]), 2, 16) := by kernel_rfl
theorem rows4g (w : World) (X0 X1 X2 X3 : Obj) : ((((w.alloc X0).alloc X1).alloc X2).alloc X3).heap[w.heap.size]? = some X0 ∧ ((((w.alloc X0).alloc X1).alloc X2).alloc X3).heap[w.heap.size + 1]? = some X1 ∧ ((((w.alloc X0).alloc X1).alloc X2).alloc X3).heap[w.heap.size + 1 + 1]? = some X2 ∧ ((((w.alloc X0).alloc X1).alloc X2).alloc X3).heap[w.heap.size + 1 + 1 + 1]? = some X3 ∧ ((((w.alloc X0).alloc X1).alloc X2).alloc X3).heap.size = w.heap.size + 1 + 1 + 1 + 1 ∧ Below w.heap.size w ((((w.alloc X0).alloc X1).alloc X2).alloc X3) := by
 obtain ⟨r0, r1, r2, s2, b2⟩ := rows3f w X0 X1 X2
 obtain ⟨r3, b3, s3⟩ := al0 (((w.alloc X0).alloc X1).alloc X2) X3
 rw [s2] at r3
 exact ⟨(b3.block _ (by omega)).trans r0, (b3.block _ (by omega)).trans r1, (b3.block _ (by omega)).trans r2, r3, by omega, Zad b2 b3 (by omega)⟩
set_option maxHeartbeats 8000000 in
set_option maxRecDepth 100000 in
theorem parts_c (T : TbE) (fn : FuncE) (ss : List (List Int × Int)) (v pv hv sv bv : Value) (Bc : Nat) (w : World) (hT : TbO w T) (hto : TbOk T) (hly : LyO w Bc v T ss) (hso : ∀ s ∈ ss, SgOk s) (hh : Li w hv fn.homes) (hs : Li w sv fn.slots) (hsl : ∀ k, k < fn.slots.length → 0 ≤ fn.slots.getD k 0 ∧ fn.slots.getD k 0 ≤ 8) (hnh : fn.homes.length ≤ 12) (hns : fn.slots.length ≤ 6) (hr0 : 0 ≤ T.r) (hr1 : T.r ≤ 16) (hal0 : 1 ≤ T.al) (hal1 : T.al ≤ 1000) (hssl : T.ss.length ≤ 1000000) (hln : ss.length ≤ 1000) (hpv : ∃ p n c, pv = .slice p n c) (hbv : ∃ p n c, bv = .slice p n c) :
 Calls Tryz.prog 44 #[.agg T.box, .agg #[pv, .int .i64 fn.results, hv, sv, bv], v] w fun e w' => ∃ slv kv, e = .returned (.agg #[.int .i64 (frmE T fn ss).out, .int .i64 (frmE T fn ss).cop, .int .i64 (frmE T fn ss).cells, slv, kv, .int .i64 (frmE T fn ss).link, .int .i64 (frmE T fn ss).size, .int .i64 (frmE T fn ss).in_]) ∧ w'.ownsRow w.heap.size 3 1 slv (frmE T fn ss).slots.length (iC (frmE T fn ss).slots) ∧ w'.ownsRow w.heap.size 56 2 kv (frmE T fn ss).saves.length (plC (frmE T fn ss).saves) ∧ Below w.heap.size w w' := by
 obtain ⟨ti, hti, hty0, hty1, hty2⟩ := info_K Tryz.infoInt
 obtain ⟨tk, htk, hky0, hky1, hky2⟩ := info_K Tryz.infoKp
 obtain ⟨p1, n1, c1, rfl⟩ := hpv
 obtain ⟨p3, n3, c3, rfl⟩ := hbv
 obtain ⟨hp, hc, rfl⟩ := hh.shape
 obtain ⟨sp, sc, rfl⟩ := hs.shape
 obtain ⟨vp, vc, rfl⟩ := hly.form
 obtain ⟨r0, r1, r2, r3, hZ, hB⟩ := rows4g w (.cells T.box 25 (0, 0)) (.cells #[.slice p1 n1 c1, .int .i64 fn.results, .slice hp fn.homes.length hc, .slice sp fn.slots.length sc, .slice p3 n3 c3] 70 (0, 0)) (.cells #[.int .i64 0, .int .i64 0, .int .i64 0, .slice none 0 0, .slice none 0 0, .int .i64 0, .int .i64 0, .int .i64 0] 32 (0, 0)) (.cells #[.int .i64 0, .int .i64 0, .int .i64 0, .slice none 0 0, .slice none 0 0, .int .i64 0, .int .i64 0, .int .i64 0] 32 (0, 0))
 have HT := Zac hT
 have HH := Zac hh
 have HS := Zac hs
 have HLY := Zac hly
 have HSO := Zac hso
 have HTO := Zac hto
 have HSL := Zac hsl
 have HR0 := Zac r0
 have HR1 := Zac r1
 have HR2 := Zac r2
 have HR3 := Zac r3
 have HB := Zac hB
 clear hT hh hs hly hso hto hsl r0 r1 r2 r3 hB
 have hbx : T.box = #[.int .i64 T.r, .int .i64 T.sp, .int .i64 T.lk, .int .i64 T.t0, .int .i64 T.t1, .slice T.pa T.ag.length T.ca, .slice T.pr T.rs.length T.cr, .slice T.ps T.ss.length T.cs, .int .i64 T.al, .int .i64 T.sh, .int .i64 T.br, .bool T.pairs] := rfl
 rw [hbx] at HR0 HR1 HR2 HR3 HB hZ ⊢
 clear hbx
 go_enter Tryz.func44, Tryz.ntmps44
 go_upto_region 2 with (refine wpList_store_row rfl 32 _ _ rfl (w.heap.size + 1 + 1 + 1) #[.int .i64 0, .int .i64 0, .int .i64 0, .slice none 0 0, .slice none 0 0, .int .i64 (-1), .int .i64 0, .int .i64 0] rfl rfl 32 _ (Zaa HR3) (Tryz.infFrF.trans rfl) rfl (by simp [Value.oneCell']) ?_)
 have q3 := setRow_heap _ _ _ #[.int .i64 0, .int .i64 0, .int .i64 0, .slice none 0 0, .slice none 0 0, .int .i64 (-1), .int .i64 0, .int .i64 0] _ _ (Zaa HR3)
 have q0 := (setRow_other _ (w.heap.size + 1 + 1 + 1) _ #[.int .i64 0, .int .i64 0, .int .i64 0, .slice none 0 0, .slice none 0 0, .int .i64 (-1), .int .i64 0, .int .i64 0] (by omega)).trans (Zaa HR0)
 have q1 := (setRow_other _ (w.heap.size + 1 + 1 + 1) _ #[.int .i64 0, .int .i64 0, .int .i64 0, .slice none 0 0, .slice none 0 0, .int .i64 (-1), .int .i64 0, .int .i64 0] (by omega)).trans (Zaa HR1)
 have q2 := (setRow_other _ (w.heap.size + 1 + 1 + 1) _ #[.int .i64 0, .int .i64 0, .int .i64 0, .slice none 0 0, .slice none 0 0, .int .i64 (-1), .int .i64 0, .int .i64 0] (by omega)).trans (Zaa HR2)
 have hWw := Zag (T := w.heap.size + 1 + 1 + 1) (cs := #[.int .i64 0, .int .i64 0, .int .i64 0, .slice none 0 0, .slice none 0 0, .int .i64 (-1), .int .i64 0, .int .i64 0]) (Zaa HB) (by omega)
 clear HR0 HR1 HR2 HR3 HB
 generalize World.setRow (World.alloc (World.alloc (World.alloc (World.alloc w _) _) _) _) _ _ = W at q0 q1 q2 q3 hWw ⊢
 have HPT := Zac (show PtI W (w.heap.size + 1 + 1 + 1) 0 0 0 (.slice none 0 0) (.slice none 0 0) (-1) 0 0 [] [] W from ⟨Below.refl _ _, q3, World.ownsRow_nil _ _ _ _, World.ownsRow_nil _ _ _ _⟩)
 have HQ0 := Zac q0
 have HQ1 := Zac q1
 have HQ2 := Zac q2
 have HWW := Zac hWw
 have HLOW := Zac (fun (V : World) (hV : Below (w.heap.size + 1 + 1 + 1) W V) => show Below w.heap.size w V from ⟨hV.os.trans hWw.os, hV.tape.trans hWw.tape, hV.output.trans hWw.output, Nat.le_trans hWw.size hV.size, fun q hq => (hV.block q (by omega)).trans (hWw.block q hq)⟩)
 have hzW := row_lt q3
 clear q0 q1 q2 q3 hWw hZ
 have hln' : ss.length < 9223372036854775808 := by omega
 go_wp2
 go_loopw [18] (fun sk w' => ∃ (k : Nat), sk = .int .i64 k ∧ k ≤ ss.length ∧ PtI W (w.heap.size + 1 + 1 + 1) (outT T (ss.take k)) (copT T (ss.take k)) 0 (.slice none 0 0) (.slice none 0 0) (-1) 0 0 [] [] w') (fun sk _ => ss.length - (intOf sk).toNat)
 case atStart => exact ⟨0, rfl, by omega, Zaa HPT⟩
 case round =>
  clear HPT
  obtain ⟨k, rfl, hk, hI⟩ := hrel
  by_cases hk2 : k < ss.length
  ·
   obtain ⟨vs, hvl, hvo, how⟩ := Zaa HLY
   obtain ⟨g, gc, e1, -, hg, hcell⟩ := own_some how (by omega)
   injection e1 with f1 f2 f3
   subst f1 f3
   obtain ⟨xa, xr, ho1, ho2, g0, g1, g2, g3⟩ := lyC_get vs (ss.map (layT T)) k hvo (by simp [hvl]) (by simpa using hk2)
   have hlk : (ss.map (layT T)).getD k noLayF = layT T (ss.getD k ([], 0)) := by simp [List.getD, hk2]
   rw [hlk] at g2 g3
   have hlw := Zaa HLOW wr hI.low
   have d0 := (hlw.cell (p := ⟨g, k * 4, none⟩) hg).trans ((hcell (k * 4) (by omega)).trans g0)
   have d1 := (hlw.cell (p := ⟨g, k * 4 + 1, none⟩) hg).trans ((hcell (k * 4 + 1) (by omega)).trans g1)
   have d2 := (hlw.cell (p := ⟨g, k * 4 + 2, none⟩) hg).trans ((hcell (k * 4 + 2) (by omega)).trans g2)
   have d3 := (hlw.cell (p := ⟨g, k * 4 + 3, none⟩) hg).trans ((hcell (k * 4 + 3) (by omega)).trans g3)
   have HON := Zac (outT_next T ss k hk2)
   have HCN := Zac (copT_next T ss k hk2)
   have HI := Zac hI
   clear hlw hcell g0 g1 g2 g3 hlk how hvl hvo f2 hI
   generalize layT T (ss.getD k ([], 0)) = lt at d2 d3 HON HCN
   generalize outT T (ss.take k) = oo at HON HI
   generalize copT T (ss.take k) = cc at HCN HI
   have hall := al0 wr (.cells #[.slice none 0 0, .slice none 0 0, .int .i64 0, .int .i64 0] 85 (0, 0))
   have HALl := Zac hall
   clear hall
   go_upto_region 5 with (refine wpList_store_row rfl 85 _ _ rfl wr.heap.size #[xa, xr, .int .i64 lt.size, .int .i64 lt.copies] rfl rfl 85 _ (Zaa HALl).1 (Tryz.infLyK.trans rfl) rfl (by have h1 := ho1; have h2 := ho2; simp [Value.oneCell'] at h1 h2 ⊢; exact ⟨h1, h2⟩) ?_)
   have hrwl := setRow_heap _ _ _ #[xa, xr, .int .i64 lt.size, .int .i64 lt.copies] _ _ (Zaa HALl).1
   have hbll := Zag (T := wr.heap.size) (cs := #[xa, xr, .int .i64 lt.size, .int .i64 lt.copies]) (Zaa HALl).2.1 (Nat.le_refl _)
   clear HALl
   generalize World.setRow (World.alloc wr _) _ _ = V1 at hrwl hbll ⊢
   have hI1 := (Zaa HI).next hbll
   have HI1 := Zac hI1
   have HC5 := Zac (show (V1.drew.cell? ⟨wr.heap.size, 2, none⟩ = some (.int .i64 lt.size) ∧ V1.drew.cell? ⟨wr.heap.size, 3, none⟩ = some (.int .i64 lt.copies)) ∧ V1.drew.cell? ⟨w.heap.size + 1 + 1 + 1, 0, none⟩ = some (.int .i64 oo) ∧ V1.drew.cell? ⟨w.heap.size + 1 + 1 + 1, 1, none⟩ = some (.int .i64 cc) from ⟨⟨(Zab hrwl 2).trans rfl, (Zab hrwl 3).trans rfl⟩, (Zab hI1.row 0).trans rfl, (Zab hI1.row 1).trans rfl⟩)
   have HNB := Zac (show w.heap.size + 1 + 1 + 1 ≠ wr.heap.size by have := (Zaa HI).size; omega)
   have z0 := frozen_of_row _ _ 0 _ _ hI1.row
   have z1 := frozen_of_row _ _ 1 _ _ hI1.row
   have y0 := (Zab hI1.row 0).trans rfl
   have y1 := (Zab hI1.row 1).trans rfl
   clear d0 d1 d2 d3 hI1 hrwl hbll HI
   generalize wr.heap.size = bl at HC5 HNB ⊢
   have HC6 := Zac (show ((V1.setCell ⟨w.heap.size + 1 + 1 + 1, 0, none⟩ (.int .i64 (max oo lt.size))).drew.cell? ⟨bl, 2, none⟩ = some (.int .i64 lt.size) ∧ (V1.setCell ⟨w.heap.size + 1 + 1 + 1, 0, none⟩ (.int .i64 (max oo lt.size))).drew.cell? ⟨bl, 3, none⟩ = some (.int .i64 lt.copies)) ∧ (V1.setCell ⟨w.heap.size + 1 + 1 + 1, 0, none⟩ (.int .i64 (max oo lt.size))).drew.cell? ⟨w.heap.size + 1 + 1 + 1, 1, none⟩ = some (.int .i64 cc) from ⟨⟨(World.cell?_setCell_far V1.drew _ _ _ (Zaa HNB)).trans (Zaa HC5).1.1, (World.cell?_setCell_far V1.drew _ _ _ (Zaa HNB)).trans (Zaa HC5).1.2⟩, (World.cell?_setCell_other V1.drew _ _ _ (by simp)).trans (Zaa HC5).2.2⟩)
   have HC7 := Zac (show ((V1.setCell ⟨w.heap.size + 1 + 1 + 1, 0, none⟩ (.int .i64 (max oo lt.size))).setCell ⟨w.heap.size + 1 + 1 + 1, 1, none⟩ (.int .i64 (max cc lt.copies))).drew.cell? ⟨bl, 2, none⟩ = some (.int .i64 lt.size) ∧ ((V1.setCell ⟨w.heap.size + 1 + 1 + 1, 0, none⟩ (.int .i64 (max oo lt.size))).setCell ⟨w.heap.size + 1 + 1 + 1, 1, none⟩ (.int .i64 (max cc lt.copies))).drew.cell? ⟨bl, 3, none⟩ = some (.int .i64 lt.copies) from ⟨(World.cell?_setCell_far (V1.setCell ⟨w.heap.size + 1 + 1 + 1, 0, none⟩ (.int .i64 (max oo lt.size))).drew _ _ _ (Zaa HNB)).trans (Zaa HC6).1.1, (World.cell?_setCell_far (V1.setCell ⟨w.heap.size + 1 + 1 + 1, 0, none⟩ (.int .i64 (max oo lt.size))).drew _ _ _ (Zaa HNB)).trans (Zaa HC6).1.2⟩)
   have HI2x := Zac ((Zaa HI1).s0 (max oo lt.size))
   have x1 := (Zab (Zaa HI2x).row 1).trans rfl
   have zx1 := frozen_of_row _ _ 1 _ _ (Zaa HI2x).row
   refine wp_region_W (S := fun V => V.cell? ⟨bl, 2, none⟩ = some (.int .i64 lt.size) ∧ V.cell? ⟨bl, 3, none⟩ = some (.int .i64 lt.copies)) (C1 := fun V => V.cell? ⟨w.heap.size + 1 + 1 + 1, 0, none⟩ = some (.int .i64 oo)) (C2 := fun V => V.cell? ⟨w.heap.size + 1 + 1 + 1, 1, none⟩ = some (.int .i64 cc)) (d1 := 11) (d2 := 13) (by kernel_rfl) ?_
   refine anyW_take (i := 0) (v := ?v0) false false rfl rfl rfl (by kernel_rfl) (by kernel_rfl) (by kernel_rfl) (by kernel_rfl) (by kernel_rfl) (by kernel_rfl) (by kernel_rfl) (by kernel_rfl) (fun _ _ _ h => h) (Or.inl ⟨by rfl, ?hy0⟩) (⟨(Zaa HC5).1, fun _ => (Zaa HC5).2.1, fun _ => (Zaa HC5).2.2⟩) ?_
   case hy0 =>
    intro V hV
    obtain ⟨⟨e2, e3⟩, e0, e1⟩ := hV
    clear e0
    clear e1
    go_simp
    all_goals (with_reducible rfl)
   simp only [Act.put, zA, zB, zC, zD, zE]
   refine anyW_take (i := 1) (v := ?v1) true false rfl rfl rfl (by kernel_rfl) (by kernel_rfl) (by kernel_rfl) (by kernel_rfl) (by kernel_rfl) (by kernel_rfl) (by kernel_rfl) (by kernel_rfl) (fun _ _ _ h => h) (Or.inl ⟨by rfl, ?hy1⟩) (⟨(Zaa HC5).1, fun _ => (Zaa HC5).2.1, fun _ => (Zaa HC5).2.2⟩) ?_
   case hy1 =>
    intro V hV
    obtain ⟨⟨e2, e3⟩, e0, e1⟩ := hV
    have e0 := e0 rfl
    clear e1
    go_simp
    all_goals (with_reducible rfl)
   simp only [Act.put, zA, zB, zC, zD, zE, zF]
   refine anyW_take (i := 2) (v := ?v2) false false rfl rfl rfl (by kernel_rfl) (by kernel_rfl) (by kernel_rfl) (by kernel_rfl) (by kernel_rfl) (by kernel_rfl) (by kernel_rfl) (by kernel_rfl) (fun _ _ _ h => h) (Or.inl ⟨by rfl, ?hy2⟩) (⟨(Zaa HC5).1, fun _ => (Zaa HC5).2.1, fun _ => (Zaa HC5).2.2⟩) ?_
   case hy2 =>
    intro V hV
    obtain ⟨⟨e2, e3⟩, e0, e1⟩ := hV
    clear e0
    clear e1
    go_simp
    all_goals (with_reducible rfl)
   simp only [Act.put, zA, zB, zC, zD, zE, zF]
   refine anyW_take (i := 3) (v := ?v3) false false rfl rfl rfl (by kernel_rfl) (by kernel_rfl) (by kernel_rfl) (by kernel_rfl) (by kernel_rfl) (by kernel_rfl) (by kernel_rfl) (by kernel_rfl) (fun _ _ _ h => h) (Or.inl ⟨by rfl, ?hy3⟩) (⟨(Zaa HC5).1, fun _ => (Zaa HC5).2.1, fun _ => (Zaa HC5).2.2⟩) ?_
   case hy3 =>
    intro V hV
    obtain ⟨⟨e2, e3⟩, e0, e1⟩ := hV
    clear e0
    clear e1
    go_simp
    all_goals (with_reducible rfl)
   simp only [Act.put, zA, zB, zC, zD, zE, zF]
   refine anyW_take (i := 4) (v := ?v4) false false rfl rfl rfl (by kernel_rfl) (by kernel_rfl) (by kernel_rfl) (by kernel_rfl) (by kernel_rfl) (by kernel_rfl) (by kernel_rfl) (by kernel_rfl) (fun _ _ _ h => h) (Or.inl ⟨by rfl, ?hy4⟩) (⟨(Zaa HC5).1, fun _ => (Zaa HC5).2.1, fun _ => (Zaa HC5).2.2⟩) ?_
   case hy4 =>
    intro V hV
    obtain ⟨⟨e2, e3⟩, e0, e1⟩ := hV
    clear e0
    clear e1
    go_simp
    all_goals (with_reducible rfl)
   simp only [Act.put, zA, zB, zC, zD, zE, zF]
   refine anyW_take (i := 5) (v := ?v5) false false rfl rfl rfl (by kernel_rfl) (by kernel_rfl) (by kernel_rfl) (by kernel_rfl) (by kernel_rfl) (by kernel_rfl) (by kernel_rfl) (by kernel_rfl) (fun _ _ _ h => h) (Or.inl ⟨by rfl, ?hy5⟩) (⟨(Zaa HC5).1, fun _ => (Zaa HC5).2.1, fun _ => (Zaa HC5).2.2⟩) ?_
   case hy5 =>
    intro V hV
    obtain ⟨⟨e2, e3⟩, e0, e1⟩ := hV
    clear e0
    clear e1
    go_simp
    all_goals (with_reducible rfl)
   simp only [Act.put, zA, zB, zC, zD, zE, zF]
   refine anyW_take (i := 6) (v := ?v6) false true rfl rfl rfl (by kernel_rfl) (by kernel_rfl) (by kernel_rfl) (by kernel_rfl) (by kernel_rfl) (by kernel_rfl) (by kernel_rfl) (by kernel_rfl) (fun _ _ _ h => h) (Or.inl ⟨by rfl, ?hy6⟩) (⟨(Zaa HC5).1, fun _ => (Zaa HC5).2.1, fun _ => (Zaa HC5).2.2⟩) ?_
   case hy6 =>
    intro V hV
    obtain ⟨⟨e2, e3⟩, e0, e1⟩ := hV
    clear e0
    have e1 := e1 rfl
    go_simp
    all_goals (with_reducible rfl)
   simp only [Act.put, zA, zB, zC, zD, zE, zF]
   refine anyW_take (i := 7) (v := ?v7) false false rfl rfl rfl (by kernel_rfl) (by kernel_rfl) (by kernel_rfl) (by kernel_rfl) (by kernel_rfl) (by kernel_rfl) (by kernel_rfl) (by kernel_rfl) (fun _ _ _ h => h) (Or.inl ⟨by rfl, ?hy7⟩) (⟨(Zaa HC5).1, fun _ => (Zaa HC5).2.1, fun _ => (Zaa HC5).2.2⟩) ?_
   case hy7 =>
    intro V hV
    obtain ⟨⟨e2, e3⟩, e0, e1⟩ := hV
    clear e0
    clear e1
    go_simp
    all_goals (with_reducible rfl)
   simp only [Act.put, zA, zB, zC, zD, zE, zF]
   refine anyW_take (i := 8) (v := ?v8) false false rfl rfl rfl (by kernel_rfl) (by kernel_rfl) (by kernel_rfl) (by kernel_rfl) (by kernel_rfl) (by kernel_rfl) (by kernel_rfl) (by kernel_rfl) (fun _ _ _ h => h) (Or.inl ⟨by rfl, ?hy8⟩) (⟨(Zaa HC5).1, fun _ => (Zaa HC5).2.1, fun _ => (Zaa HC5).2.2⟩) ?_
   case hy8 =>
    intro V hV
    obtain ⟨⟨e2, e3⟩, e0, e1⟩ := hV
    clear e0
    clear e1
    go_simp
    all_goals (with_reducible rfl)
   simp only [Act.put, zA, zB, zC, zD, zE, zF]
   refine anyW_take (i := 9) (v := ?v9) false false rfl rfl rfl (by kernel_rfl) (by kernel_rfl) (by kernel_rfl) (by kernel_rfl) (by kernel_rfl) (by kernel_rfl) (by kernel_rfl) (by kernel_rfl) (fun _ _ _ h => h) (Or.inl ⟨by rfl, ?hy9⟩) (⟨(Zaa HC5).1, fun _ => (Zaa HC5).2.1, fun _ => (Zaa HC5).2.2⟩) ?_
   case hy9 =>
    intro V hV
    obtain ⟨⟨e2, e3⟩, e0, e1⟩ := hV
    clear e0
    clear e1
    go_simp
    all_goals (with_reducible rfl)
   simp only [Act.put, zA, zB, zC, zD, zE, zF]
   refine anyW_take (i := 10) (v := ?v10) false false rfl rfl rfl (by kernel_rfl) (by kernel_rfl) (by kernel_rfl) (by kernel_rfl) (by kernel_rfl) (by kernel_rfl) (by kernel_rfl) (by kernel_rfl) (fun _ _ _ h => h) (Or.inl ⟨by rfl, ?hy10⟩) (⟨(Zaa HC5).1, fun _ => (Zaa HC5).2.1, fun _ => (Zaa HC5).2.2⟩) ?_
   case hy10 =>
    intro V hV
    obtain ⟨⟨e2, e3⟩, e0, e1⟩ := hV
    clear e0
    clear e1
    go_simp
    all_goals (with_reducible rfl)
   simp only [Act.put, zA, zB, zC, zD, zE, zF]
   refine anyW_one (i := 11) (by kernel_rfl) rfl (fun K hK => ?_)
   go_simp
   refine hK.out _ _ (⟨⟨(World.cell?_setCell_far _ _ _ _ (Zaa HNB)).trans (Zaa HC5).1.1, (World.cell?_setCell_far _ _ _ _ (Zaa HNB)).trans (Zaa HC5).1.2⟩, fun h => absurd h (by simp), fun _ => (World.cell?_setCell_other _ _ _ _ (by simp)).trans (Zaa HC5).2.2⟩) ?_
   clear hK K
   try simp only [Act.put]
   refine anyW_one (i := 12) (by kernel_rfl) rfl (fun K hK => ?_)
   go_simp
   refine hK.out _ _ (⟨(Zaa HC6).1, fun h => absurd h (by simp), fun _ => (Zaa HC6).2⟩) ?_
   clear hK K
   try simp only [Act.put, zA, zB, zC, zD, zE, zF]
   refine anyW_one (i := 13) (by kernel_rfl) rfl (fun K hK => ?_)
   go_simp
   refine hK.out _ _ (⟨Zaa HC7, fun h => absurd h (by simp), fun h => absurd h (by simp)⟩) ?_
   clear hK K
   try simp only [Act.put]
   refine anyW_done (by kernel_rfl) ?_ _
   have HX := Zac (((Zaa HI2x).s1 (max cc lt.copies)).next (Below.refl _ _).drew)
   clear y0 y1 z0 z1 x1 zx1 HC5 HC6 HC7 HI1 HI2x
   go_wp2
   go_roundw
   case rel => exact ⟨k + 1, by go_num, by omega, by rw [Zaa HON, Zaa HCN]; exact Zaa HX⟩
   case measure => simp [intOf]; omega
  ·
   obtain rfl : k = ss.length := by omega
   rw [List.take_length] at hI
   have hob := outT_le (Zaa HTO) ss (Zaa HSO) 0 (by omega) (by omega)
   have hcb := copT_le (Zaa HTO) ss (Zaa HSO) 0 (by omega) (by omega)
   change 0 ≤ outT T ss ∧ outT T ss ≤ 1000 at hob
   change 0 ≤ copT T ss ∧ copT T ss ≤ 1000 at hcb
   obtain ⟨ho0, ho1⟩ := hob
   obtain ⟨hc0, hc1⟩ := hcb
   have HA0 := Zac (show at0F T fn ss = outT T ss + copT T ss + 8 * (fn.homes.length : Int) from rfl)
   have HA1 := Zac (show at1F T fn ss = at0F T fn ss + 8 * sumT fn.slots fn.slots.length from rfl)
   have HFE := Zac (show frmE T fn ss = ⟨outT T ss, copT T ss, outT T ss + copT T ss, (List.range fn.slots.length).map (slA T fn ss), (List.range (savF T fn).length).map (svA T fn ss), if hasF T ss = true then at2F T fn ss else -1, inF T fn ss - pshF T, inF T fn ss⟩ from rfl)
   have HI := Zac hI
   clear hI HSO
   generalize outT T ss = oo at HI HA0 HFE ho0 ho1
   generalize copT T ss = cc at HI HA0 HFE hc0 hc1
   have y0 := (Zab (Zaa HI).row 0).trans rfl
   have y1 := (Zab (Zaa HI).row 1).trans rfl
   have y2 := (Zab (Zaa HI).row 2).trans rfl
   have z2 := frozen_of_row _ _ 2 _ _ (Zaa HI).row
   have HI2 := Zac ((Zaa HI).s2 (oo + cc))
   clear HI
   go_upto_region 8 with fail
   clear y0 y1 y2 z2
   generalize World.setCell wr _ _ = U at HI2 ⊢
   have y2 := (Zab (Zaa HI2).row 2).trans rfl
   have hq1 := ((Zaa HI2).low.block (w.heap.size + 1) (by omega)).trans (Zaa HQ1)
   have h2 : U.cell? ⟨w.heap.size + 1, 2, none⟩ = some (.slice hp fn.homes.length hc) := (Zab hq1 2).trans rfl
   have h3 : U.cell? ⟨w.heap.size + 1, 3, none⟩ = some (.slice sp fn.slots.length sc) := (Zab hq1 3).trans rfl
   clear hq1
   have hsb := sumT_le (Zaa HSL)
   have HSB := Zac hsb
   clear hsb
   go_wp2
   clear y2 h2 h3
   have HA := Zac (show slA T fn ss 0 = oo + cc + 8 * (fn.homes.length : Int) by unfold slA; rw [Zaa HA0]; simp [sumT])
   go_loopw [51, 10] (fun sk sa w' => ∃ (k : Nat) (slv : Value), sk = .int .i64 k ∧ sa = .int .i64 (slA T fn ss k) ∧ k ≤ fn.slots.length ∧ PtI W (w.heap.size + 1 + 1 + 1) oo cc (oo + cc) slv (.slice none 0 0) (-1) 0 0 ((List.range k).map (slA T fn ss)) [] w') (fun sk _ _ => fn.slots.length - (intOf sk).toNat)
   case atStart => exact ⟨0, _, rfl, by rw [Zaa HA], by omega, Zaa HI2⟩
   case round =>
    clear HI2
    obtain ⟨k, slv, rfl, rfl, hk, hI⟩ := hrel
    have hfm := Zan hI.sl
    simp only [List.length_map, List.length_range] at hfm
    obtain ⟨qp, qc, rfl⟩ := hfm
    have hsb := Zaa HSB k hk
    have hsa : slA T fn ss k = oo + cc + 8 * (fn.homes.length : Int) + 8 * sumT fn.slots k := by unfold slA; rw [Zaa HA0]
    have hy0 : 0 ≤ slA T fn ss k := by rw [hsa]; omega
    have hy1 : slA T fn ss k ≤ 3000 := by rw [hsa]; omega
    by_cases hk2 : k < fn.slots.length
    ·
     obtain ⟨p', c', e1, -, -, hcc⟩ := Zaa HS
     injection e1 with f1 f2 f3
     obtain ⟨sb, so, hsp, hcell⟩ := hcc (by omega)
     rw [← f1] at hsp
     subst hsp
     have d := ((Zaa HLOW wr hI.low).cell (p := ⟨sb, so + k, none⟩) (World.block_lt_of_cell? w _ (hcell k hk2))).trans (hcell k hk2)
     have hx := Zaa HSL k hk2
     have HNX := Zac (show slA T fn ss (k + 1) = slA T fn ss k + 8 * fn.slots.getD k 0 by unfold slA; rw [sumT_next _ _ hk2]; omega)
     have a3 := (Zab hI.row 3).trans rfl
     have HOW := Zac (show wr.ownsRow (w.heap.size + 1 + 1 + 1 + 1) 3 1 (.slice qp k qc) k (iC ((List.range k).map (slA T fn ss))) by have h := hI.sl; simp only [List.length_map, List.length_range] at h; exact h)
     have hwz := hI.size
     have HI := Zac hI
     clear hI f1 f2 f3 hcc hcell hsa hsb
     generalize fn.slots.getD k 0 = x at d hx HNX
     obtain ⟨hx0, hx1⟩ := hx
     obtain ⟨y, hy⟩ : ∃ y, y = slA T fn ss k := ⟨_, rfl⟩
     rw [← hy] at HNX hy0 hy1 ⊢
     have HY := Zac hy
     clear hy
     go_wp2_with (at_builtin; refine wpList_append_own _ rfl _ _ 23 rfl (w.heap.size + 1 + 1 + 1 + 1) 3 ti _ 1 8 Tryz.underlying23 hti hty0 hty1 hty2 rfl (by decide) _ _ _ rfl (World.ownsRow.alloc (Zaa HOW) _) ⟨wr.heap.size, 0, none⟩ 1 1 [.int .i64 y] rfl rfl (by intro j u hj; match j, hj with | 0, hj => (simp at hj; subst hj; simp [Addr.add])) (by intro u hu; simp at hu; subst hu; rfl) ?c3 ?c4 ?c5 ?_)
     case c3 => unfold maxLen; omega
     case c4 => omega
     case c5 => first | omega | (simp; omega)
     intro v7 w7 hown7 hgr7 _
     have hX := (Zaa HI).slot (x := y) hgr7 (by simp only [List.length_map, List.length_range]; exact hown7)
     have hr7 := ((Zaa HI).low_app _ (Zaa HOW) hgr7).2.trans (Zaa HI).row
     have j3 := (Zab hr7 3).trans rfl
     have g3 := frozen_of_row _ _ 3 _ _ hr7
     obtain ⟨gg7, cc7, rfl⟩ := own_formK hown7
     have HX := Zac (show PtI W (w.heap.size + 1 + 1 + 1) oo cc (oo + cc) (.slice (some ⟨gg7, 0, none⟩) (k + 1) cc7) (.slice none 0 0) (-1) 0 0 ((List.range (k + 1)).map (slA T fn ss)) [] (w7.setCell ⟨w.heap.size + 1 + 1 + 1, 3, none⟩ (.slice (some ⟨gg7, 0, none⟩) (k + 1) cc7)) by rw [map_range_snoc, ← Zaa HY]; exact hX)
     clear hown7 hgr7 hr7 hX d a3 HOW HI
     go_wp2
     go_roundw
     case rel => exact ⟨k + 1, _, by go_num, by rw [Zaa HNX], by omega, Zaa HX⟩
     case measure => simp [intOf]; omega
    ·
     obtain rfl : k = fn.slots.length := by omega
     have HAT1 := Zac (show slA T fn ss fn.slots.length = at1F T fn ss from rfl)
     obtain ⟨a1, ha1⟩ : ∃ a1, a1 = at1F T fn ss := ⟨_, rfl⟩
     rw [Zaa HAT1, ← ha1] at hy0 hy1 ⊢
     have HA1E := Zac ha1
     have hq0 := (hI.low.block w.heap.size (by omega)).trans (Zaa HQ0)
     have hq1 := (hI.low.block (w.heap.size + 1) (by omega)).trans (Zaa HQ1)
     have t0 : wr.cell? ⟨w.heap.size, 0, none⟩ = some (.int .i64 T.r) := (Zab hq0 0).trans rfl
     have t1 : wr.cell? ⟨w.heap.size, 1, none⟩ = some (.int .i64 T.sp) := (Zab hq0 1).trans rfl
     have t2 : wr.cell? ⟨w.heap.size, 2, none⟩ = some (.int .i64 T.lk) := (Zab hq0 2).trans rfl
     have t3 : wr.cell? ⟨w.heap.size, 3, none⟩ = some (.int .i64 T.t0) := (Zab hq0 3).trans rfl
     have t4 : wr.cell? ⟨w.heap.size, 4, none⟩ = some (.int .i64 T.t1) := (Zab hq0 4).trans rfl
     have t5 : wr.cell? ⟨w.heap.size, 5, none⟩ = some (.slice T.pa T.ag.length T.ca) := (Zab hq0 5).trans rfl
     have t6 : wr.cell? ⟨w.heap.size, 6, none⟩ = some (.slice T.pr T.rs.length T.cr) := (Zab hq0 6).trans rfl
     have t7 : wr.cell? ⟨w.heap.size, 7, none⟩ = some (.slice T.ps T.ss.length T.cs) := (Zab hq0 7).trans rfl
     have t8 : wr.cell? ⟨w.heap.size, 8, none⟩ = some (.int .i64 T.al) := (Zab hq0 8).trans rfl
     have t9 : wr.cell? ⟨w.heap.size, 9, none⟩ = some (.int .i64 T.sh) := (Zab hq0 9).trans rfl
     have t10 : wr.cell? ⟨w.heap.size, 10, none⟩ = some (.int .i64 T.br) := (Zab hq0 10).trans rfl
     have t11 : wr.cell? ⟨w.heap.size, 11, none⟩ = some (.bool T.pairs) := (Zab hq0 11).trans rfl
     have f0 : wr.cell? ⟨w.heap.size + 1, 0, none⟩ = some (.slice p1 n1 c1) := (Zab hq1 0).trans rfl
     have f1 : wr.cell? ⟨w.heap.size + 1, 1, none⟩ = some (.int .i64 fn.results) := (Zab hq1 1).trans rfl
     have f2 : wr.cell? ⟨w.heap.size + 1, 2, none⟩ = some (.slice hp fn.homes.length hc) := (Zab hq1 2).trans rfl
     have f3 : wr.cell? ⟨w.heap.size + 1, 3, none⟩ = some (.slice sp fn.slots.length sc) := (Zab hq1 3).trans rfl
     have f4 : wr.cell? ⟨w.heap.size + 1, 4, none⟩ = some (.slice p3 n3 c3) := (Zab hq1 4).trans rfl
     have HSV := Zac (show Calls Tryz.prog 62 #[.agg #[.int .i64 T.r, .int .i64 T.sp, .int .i64 T.lk, .int .i64 T.t0, .int .i64 T.t1, .slice T.pa T.ag.length T.ca, .slice T.pr T.rs.length T.cr, .slice T.ps T.ss.length T.cs, .int .i64 T.al, .int .i64 T.sh, .int .i64 T.br, .bool T.pairs], .agg #[.slice p1 n1 c1, .int .i64 fn.results, .slice hp fn.homes.length hc, .slice sp fn.slots.length sc, .slice p3 n3 c3]] wr (fun e w' => ∃ v, e = .returned v ∧ w'.ownsRow wr.heap.size 3 1 v (savF T fn).length (iC (savF T fn)) ∧ Below wr.heap.size wr w') from saved_c T fn _ _ _ _ wr ((Zaa HT).below (Zaa HLOW wr hI.low)) ((Zaa HH).below (Zaa HLOW wr hI.low)) hr0 hr1 hssl (by omega) ⟨_, _, _, rfl⟩ ⟨_, _, _, rfl⟩ ⟨_, _, _, rfl⟩)
     have hwz := hI.size
     have HI := Zac hI
     clear hI hq0 hq1 ha1 hsb hsa
     go_wp2_with fail
     clear f0 f1 f2 f3 f4
     clear t0 t1 t2 t3 t4 t5 t6 t7 t8 t9 t10 t11
     refine (Zaa HSV).mono ?_
     rintro e w2 ⟨v2, rfl, how2, hb2⟩
     have hsvl : (savF T fn).length ≤ 16 := Nat.le_trans (savL_len _ _ _) (by omega)
     obtain ⟨sav, hsav⟩ : ∃ sav, sav = savF T fn := ⟨_, rfl⟩
     rw [← hsav] at how2 hsvl
     have HSAV := Zac hsav
     obtain ⟨sp2, sc2, rfl⟩ := Zan how2
     have HI3 := Zac ((Zaa HI).next hb2)
     have HOS := Zac (own_monoF how2 (show w.heap.size + 1 + 1 + 1 + 1 ≤ wr.heap.size by omega))
     clear how2 hb2 hsav HI HSV
     go_wp2
     go_loopw [70, 10] (fun sk sa w' => ∃ (k : Nat) (kv : Value), sk = .int .i64 k ∧ sa = .int .i64 (a1 + 8 * (k : Int)) ∧ k ≤ sav.length ∧ PtI W (w.heap.size + 1 + 1 + 1) oo cc (oo + cc) (.slice qp fn.slots.length qc) kv (-1) 0 0 ((List.range fn.slots.length).map (slA T fn ss)) ((List.range k).map (fun q => (sav.getD q 0, a1 + 8 * (q : Int)))) w' ∧ w'.ownsRow (w.heap.size + 1 + 1 + 1 + 1) 3 1 (.slice sp2 sav.length sc2) sav.length (iC sav)) (fun sk _ _ => sav.length - (intOf sk).toNat)
     case atStart => exact ⟨0, _, rfl, by simp, by omega, Zaa HI3, Zaa HOS⟩
     case round =>
      clear HI3 HOS
      obtain ⟨k, kv, rfl, rfl, hk, hI, hos⟩ := hrel
      have hfm := Zan hI.kp
      simp only [List.length_map, List.length_range] at hfm
      obtain ⟨kp, kc, rfl⟩ := hfm
      by_cases hk2 : k < sav.length
      ·
       obtain ⟨g, gc, e1, -, hg, hcell⟩ := own_some hos (by omega)
       injection e1 with f1 f2 f3
       subst f1 f3
       have d : wr.cell? ⟨g, k, none⟩ = some (.int .i64 (sav.getD k 0)) := (hcell k (by omega)).trans (by simp [iC, List.getD, hk2])
       have a4 := (Zab hI.row 4).trans rfl
       have HOW := Zac (show wr.ownsRow (w.heap.size + 1 + 1 + 1 + 1) 56 2 (.slice kp k kc) k (plC ((List.range k).map (fun q => (sav.getD q 0, a1 + 8 * (q : Int))))) by have h := hI.kp; simp only [List.length_map, List.length_range] at h; exact h)
       have hwz2 := hI.size
       have HI := Zac hI
       have HOS := Zac hos
       clear hI hos hcell f2
       have HMR := Zac (map_range_snoc (fun q : Nat => (sav.getD q 0, a1 + 8 * (q : Int))) k)
       generalize hxx : sav.getD k 0 = x at d HMR
       clear hxx
       obtain ⟨y, hy⟩ : ∃ y, y = a1 + 8 * (k : Int) := ⟨_, rfl⟩
       have hyb0 : 0 ≤ y := by omega
       have hyb1 : y ≤ 4000 := by omega
       have HNX := Zac (show a1 + 8 * ((k + 1 : Nat) : Int) = y + 8 by omega)
       rw [← hy] at HMR ⊢
       clear hy
       go_wp2_with (at_builtin; refine wpList_append_own _ rfl _ _ 30 rfl (w.heap.size + 1 + 1 + 1 + 1) 56 tk _ 2 16 Tryz.underlying30 htk hky0 hky1 hky2 rfl (by decide) _ _ _ rfl (World.ownsRow.alloc (Zaa HOW) _) ⟨wr.heap.size, 0, none⟩ 1 1 [.int .i64 x, .int .i64 y] rfl rfl (by intro j u hj; match j, hj with | 0, hj => (simp at hj; subst hj; simp [Addr.add]) | 1, hj => (simp at hj; subst hj; simp [Addr.add])) (by intro u hu; simp at hu; rcases hu with rfl | rfl <;> rfl) ?k3 ?k4 ?k5 ?_)
       case k3 => unfold maxLen; omega
       case k4 => omega
       case k5 => first | omega | (simp; omega)
       intro v7 w7 hown7 hgr7 _
       have hX := (Zaa HI).kept (x := x) (y := y) hgr7 (by simp only [List.length_map, List.length_range]; exact hown7)
       have hr7 := ((Zaa HI).low_app _ (Zaa HOW) hgr7).2.trans (Zaa HI).row
       have hos7 := own_gb (World.ownsRow.alloc (Zaa HOS) _) hgr7 (own_other (Zaa HOS) (Zaa HOW) (by decide))
       have j4 := (Zab hr7 4).trans rfl
       have g4 := frozen_of_row _ _ 4 _ _ hr7
       obtain ⟨gg7, cc7, rfl⟩ := own_sliceL hown7
       have HX := Zac (show PtI W (w.heap.size + 1 + 1 + 1) oo cc (oo + cc) (.slice qp fn.slots.length qc) (.slice (some ⟨gg7, 0, none⟩) (k + 1) cc7) (-1) 0 0 ((List.range fn.slots.length).map (slA T fn ss)) ((List.range (k + 1)).map (fun q => (sav.getD q 0, a1 + 8 * (q : Int)))) (w7.setCell ⟨w.heap.size + 1 + 1 + 1, 4, none⟩ (.slice (some ⟨gg7, 0, none⟩) (k + 1) cc7)) by rw [Zaa HMR]; exact hX)
       have HOX := Zac (ownsRow_setCell_below hos7 (a := ⟨w.heap.size + 1 + 1 + 1, 4, none⟩) (by show w.heap.size + 1 + 1 + 1 < w.heap.size + 1 + 1 + 1 + 1; omega) (.slice (some ⟨gg7, 0, none⟩) (k + 1) cc7))
       clear hown7 hgr7 hr7 hX d a4 HOW HI HOS hos7
       go_wp2
       go_roundw
       case rel => exact ⟨k + 1, _, by go_num, by rw [Zaa HNX], by omega, Zaa HX, Zaa HOX⟩
       case measure => simp [intOf]; omega
      ·
       obtain rfl : k = sav.length := by omega
       clear hos
       obtain ⟨a2, ha2⟩ : ∃ a2, a2 = a1 + 8 * (sav.length : Int) := ⟨_, rfl⟩
       rw [← ha2]
       have hb20 : 0 ≤ a2 := by omega
       have hb21 : a2 ≤ 4000 := by omega
       have HA2 := Zac (show at2F T fn ss = a2 by rw [ha2, Zaa HA1E, Zaa HSAV]; rfl)
       have HKP := Zac (show (List.range (savF T fn).length).map (svA T fn ss) = ((List.range sav.length).map (fun q => (sav.getD q 0, a1 + 8 * (q : Int)))) by rw [← Zaa HSAV]; unfold svA; rw [← Zaa HSAV, ← Zaa HA1E])
       clear ha2
       obtain ⟨hs, hhs⟩ : ∃ hs, hs = hasF T ss := ⟨_, rfl⟩
       have HHS := Zac hhs
       have HI := Zac hI
       have t2 : wr.cell? ⟨w.heap.size, 2, none⟩ = some (.int .i64 T.lk) := (Zab (((Zaa HI).low.block w.heap.size (by omega)).trans (Zaa HQ0)) 2).trans rfl
       clear hI
       go_upto_region 21 with fail
       go_cut [92] (fun b wd => b = .bool hs ∧ wd = wr)
       case first =>
        unfold hasF at hhs
        by_cases hl : T.lk = -1
        ·
         have z : (T.lk != -1) = false := by simp [hl]
         have HG := Zac (show hs = false by rw [hhs]; simp [hl])
         clear hl hhs
         go_wp2
         go_meet
         case rel => exact ⟨by rw [Zaa HG], rfl⟩
        ·
         have z : (T.lk != -1) = true := by simp [hl]
         by_cases hn : 0 < ss.length
         ·
          have HG := Zac (show hs = true by rw [hhs]; simp [hl, hn])
          clear hl hhs
          go_wp2
          go_meet
          case rel => exact ⟨by rw [Zaa HG], rfl⟩
         ·
          have HG := Zac (show hs = false by rw [hhs]; simp [hn])
          clear hl hhs
          go_wp2
          go_meet
          case rel => exact ⟨by rw [Zaa HG], rfl⟩
       case rest =>
        obtain ⟨rfl, hwc⟩ := hcut
        subst wc
        clear hhs t2
        obtain ⟨a3, ha3⟩ : ∃ a3, a3 = if hs = true then a2 + 8 else a2 := ⟨_, rfl⟩
        obtain ⟨lkv, hlk⟩ : ∃ lkv, lkv = if hs = true then a2 else -1 := ⟨_, rfl⟩
        have hb30 : 0 ≤ a3 := by rw [ha3]; split <;> omega
        have hb31 : a3 ≤ 4008 := by rw [ha3]; split <;> omega
        have HA3 := Zac ha3
        have HLK := Zac hlk
        clear ha3 hlk
        go_upto_if 92 with fail
        go_cut [10] (fun sa wd => sa = .int .i64 a3 ∧ PtI W (w.heap.size + 1 + 1 + 1) oo cc (oo + cc) (.slice qp fn.slots.length qc) (.slice kp sav.length kc) lkv 0 0 ((List.range fn.slots.length).map (slA T fn ss)) ((List.range sav.length).map (fun q => (sav.getD q 0, a1 + 8 * (q : Int)))) wd)
        case first =>
         cases hs with
         | true =>
          have y5 := (Zab (Zaa HI).row 5).trans rfl
          have z5 := frozen_of_row _ _ 5 _ _ (Zaa HI).row
          have HX := Zac ((Zaa HI).s5 a2)
          go_wp2
          go_meet
          case rel => exact ⟨by rw [Zaa HA3]; rfl, by rw [Zaa HLK]; exact Zaa HX⟩
         | false =>
          go_wp2
          go_meet
          case rel => exact ⟨by rw [Zaa HA3]; rfl, by rw [Zaa HLK]; exact Zaa HI⟩
        case rest =>
         clear HI
         obtain ⟨rfl, hI⟩ := hcut
         have HI := Zac hI
         have hwz4 := hI.size
         clear hI
         have hpb : 0 ≤ pshF T ∧ pshF T ≤ 8 := by unfold pshF; split <;> omega
         have HPC := Zac (fun V => pushed_c T V)
         have HIN := Zac (show inF T fn ss = (at3F T fn ss + pshF T + T.al - 1) / T.al * T.al from rfl)
         have HA3F := Zac (show at3F T fn ss = a3 by rw [Zaa HA3, Zaa HHS, ← Zaa HA2]; rfl)
         rw [Zaa HA3F] at HIN
         obtain ⟨psh, hpsh⟩ : ∃ psh, psh = pshF T := ⟨_, rfl⟩
         rw [← hpsh] at HPC HIN hpb
         have HPS := Zac hpsh
         obtain ⟨hp0, hp1⟩ := hpb
         obtain ⟨inn, hinn⟩ : ∃ inn, inn = (a3 + psh + T.al - 1) / T.al * T.al := ⟨_, rfl⟩
         have hi0 : 0 ≤ inn := by rw [hinn]; exact Int.mul_nonneg (Int.ediv_nonneg (by omega) (by omega)) (by omega)
         have hi1 : inn ≤ 6000 := by have := Int.ediv_mul_le (a3 + psh + T.al - 1) (show T.al ≠ 0 by omega); omega
         have HINN := Zac hinn
         clear hpsh hinn
         have hwa : IntKind.i64.wrap (a3 + psh) = a3 + psh := IntKind.wrap_of_boundsK (by omega) (by omega)
         have hws : IntKind.i64.wrap (inn - psh) = inn - psh := IntKind.wrap_of_boundsK (by omega) (by omega)
         go_upto_region 24 with fail
         refine wp_region_held_drew (S := fun V => V.cell? ⟨w.heap.size, 0, none⟩ = some (.int .i64 T.r) ∧ V.cell? ⟨w.heap.size, 1, none⟩ = some (.int .i64 T.sp) ∧ V.cell? ⟨w.heap.size, 2, none⟩ = some (.int .i64 T.lk) ∧ V.cell? ⟨w.heap.size, 3, none⟩ = some (.int .i64 T.t0) ∧ V.cell? ⟨w.heap.size, 4, none⟩ = some (.int .i64 T.t1) ∧ V.cell? ⟨w.heap.size, 5, none⟩ = some (.slice T.pa T.ag.length T.ca) ∧ V.cell? ⟨w.heap.size, 6, none⟩ = some (.slice T.pr T.rs.length T.cr) ∧ V.cell? ⟨w.heap.size, 7, none⟩ = some (.slice T.ps T.ss.length T.cs) ∧ V.cell? ⟨w.heap.size, 8, none⟩ = some (.int .i64 T.al) ∧ V.cell? ⟨w.heap.size, 9, none⟩ = some (.int .i64 T.sh) ∧ V.cell? ⟨w.heap.size, 10, none⟩ = some (.int .i64 T.br) ∧ V.cell? ⟨w.heap.size, 11, none⟩ = some (.bool T.pairs)) (by kernel_rfl) (⟨(Zab (((Zaa HI).low.block w.heap.size (by omega)).trans (Zaa HQ0)) 0).trans rfl, (Zab (((Zaa HI).low.block w.heap.size (by omega)).trans (Zaa HQ0)) 1).trans rfl, (Zab (((Zaa HI).low.block w.heap.size (by omega)).trans (Zaa HQ0)) 2).trans rfl, (Zab (((Zaa HI).low.block w.heap.size (by omega)).trans (Zaa HQ0)) 3).trans rfl, (Zab (((Zaa HI).low.block w.heap.size (by omega)).trans (Zaa HQ0)) 4).trans rfl, (Zab (((Zaa HI).low.block w.heap.size (by omega)).trans (Zaa HQ0)) 5).trans rfl, (Zab (((Zaa HI).low.block w.heap.size (by omega)).trans (Zaa HQ0)) 6).trans rfl, (Zab (((Zaa HI).low.block w.heap.size (by omega)).trans (Zaa HQ0)) 7).trans rfl, (Zab (((Zaa HI).low.block w.heap.size (by omega)).trans (Zaa HQ0)) 8).trans rfl, (Zab (((Zaa HI).low.block w.heap.size (by omega)).trans (Zaa HQ0)) 9).trans rfl, (Zab (((Zaa HI).low.block w.heap.size (by omega)).trans (Zaa HQ0)) 10).trans rfl, (Zab (((Zaa HI).low.block w.heap.size (by omega)).trans (Zaa HQ0)) 11).trans rfl⟩) (fun hHeld => ?_)
         refine tT 0 ?vp0 rfl (by kernel_rfl) (fun _ _ _ h => h) (by rfl) ?hyp0 (by assumption) ?_
         case hyp0 =>
          intro V hV
          try dsimp only at hV
          go_simp
          all_goals (with_reducible rfl)
         simp only [Act.put, zA, zB, zC, zD, zE]
         refine tT 1 ?vp1 rfl (by kernel_rfl) (fun _ _ _ h => h) (by rfl) ?hyp1 (by assumption) ?_
         case hyp1 =>
          intro V hV
          try dsimp only at hV
          go_simp
          all_goals (with_reducible rfl)
         simp only [Act.put, zA, zB, zC, zD, zE, zF]
         refine tT 4 ?vp4 rfl (by kernel_rfl) (fun _ _ _ h => h) (by rfl) ?hyp4 (by assumption) ?_
         case hyp4 =>
          intro V hV
          try dsimp only at hV
          go_simp
          all_goals (with_reducible rfl)
         simp only [Act.put, zA, zB, zC, zD, zE, zF]
         refine tT 5 ?vp5 rfl (by kernel_rfl) (fun _ _ _ h => h) (by rfl) ?hyp5 (by assumption) ?_
         case hyp5 =>
          intro V hV
          try dsimp only at hV
          go_simp
          all_goals (with_reducible rfl)
         simp only [Act.put, zA, zB, zC, zD, zE, zF]
         refine wpAnyH_ready (rs := [2]) (by kernel_rfl) (by simp) ?_
         refine AllReadyH.cons rfl (fun K hK => ?_) AllReadyH.nil
         go_simp
         refine (Zaa HPC _).mono ?_
         rintro e w5 ⟨rfl, hb5⟩
         have hI5 := ((Zaa HI).next (Below.refl _ _).drew).next hb5
         have HI5 := Zac hI5
         have y7 := (Zab hI5.row 7).trans rfl
         have z7 := frozen_of_row _ _ 7 _ _ hI5.row
         clear hb5 hI5
         refine hK.out _ _ (show _ from ⟨(Zab (((Zaa HI5).low.block w.heap.size (by omega)).trans (Zaa HQ0)) 0).trans rfl, (Zab (((Zaa HI5).low.block w.heap.size (by omega)).trans (Zaa HQ0)) 1).trans rfl, (Zab (((Zaa HI5).low.block w.heap.size (by omega)).trans (Zaa HQ0)) 2).trans rfl, (Zab (((Zaa HI5).low.block w.heap.size (by omega)).trans (Zaa HQ0)) 3).trans rfl, (Zab (((Zaa HI5).low.block w.heap.size (by omega)).trans (Zaa HQ0)) 4).trans rfl, (Zab (((Zaa HI5).low.block w.heap.size (by omega)).trans (Zaa HQ0)) 5).trans rfl, (Zab (((Zaa HI5).low.block w.heap.size (by omega)).trans (Zaa HQ0)) 6).trans rfl, (Zab (((Zaa HI5).low.block w.heap.size (by omega)).trans (Zaa HQ0)) 7).trans rfl, (Zab (((Zaa HI5).low.block w.heap.size (by omega)).trans (Zaa HQ0)) 8).trans rfl, (Zab (((Zaa HI5).low.block w.heap.size (by omega)).trans (Zaa HQ0)) 9).trans rfl, (Zab (((Zaa HI5).low.block w.heap.size (by omega)).trans (Zaa HQ0)) 10).trans rfl, (Zab (((Zaa HI5).low.block w.heap.size (by omega)).trans (Zaa HQ0)) 11).trans rfl⟩) (fun hHeld2 => ?_)
         clear hK K
         try simp only [Act.put, zA, zB, zC, zD, zE, zF]
         refine tT 3 ?vp3 rfl (by kernel_rfl) (fun _ _ _ h => h) (by rfl) ?hyp3 (by assumption) ?_
         case hyp3 =>
          intro V hV
          try dsimp only at hV
          go_simp
          all_goals (with_reducible rfl)
         simp only [Act.put, zA, zB, zC, zD, zE, zF]
         refine wpAnyH_ready (rs := [6]) (by kernel_rfl) (by simp) ?_
         refine AllReadyH.cons rfl (fun K hK => ?_) AllReadyH.nil
         go_simp
         refine (roundUp_c (a3 + psh) T.al w5 (by omega) (by omega) hal0 hal1).mono ?_
         rintro e w6 ⟨rfl, hw6⟩
         subst w6
         rw [← Zaa HINN]
         refine hK.out _ _ (show _ from ⟨(Zab (((Zaa HI5).low.block w.heap.size (by omega)).trans (Zaa HQ0)) 0).trans rfl, (Zab (((Zaa HI5).low.block w.heap.size (by omega)).trans (Zaa HQ0)) 1).trans rfl, (Zab (((Zaa HI5).low.block w.heap.size (by omega)).trans (Zaa HQ0)) 2).trans rfl, (Zab (((Zaa HI5).low.block w.heap.size (by omega)).trans (Zaa HQ0)) 3).trans rfl, (Zab (((Zaa HI5).low.block w.heap.size (by omega)).trans (Zaa HQ0)) 4).trans rfl, (Zab (((Zaa HI5).low.block w.heap.size (by omega)).trans (Zaa HQ0)) 5).trans rfl, (Zab (((Zaa HI5).low.block w.heap.size (by omega)).trans (Zaa HQ0)) 6).trans rfl, (Zab (((Zaa HI5).low.block w.heap.size (by omega)).trans (Zaa HQ0)) 7).trans rfl, (Zab (((Zaa HI5).low.block w.heap.size (by omega)).trans (Zaa HQ0)) 8).trans rfl, (Zab (((Zaa HI5).low.block w.heap.size (by omega)).trans (Zaa HQ0)) 9).trans rfl, (Zab (((Zaa HI5).low.block w.heap.size (by omega)).trans (Zaa HQ0)) 10).trans rfl, (Zab (((Zaa HI5).low.block w.heap.size (by omega)).trans (Zaa HQ0)) 11).trans rfl⟩) (fun hHeld2 => ?_)
         clear hK K
         try simp only [Act.put, zA, zB, zC, zD, zE, zF]
         refine tT 7 ?vp7 rfl (by kernel_rfl) (fun _ _ _ h => h) (by rfl) ?hyp7 (by assumption) ?_
         case hyp7 =>
          intro V hV
          try dsimp only at hV
          go_simp
          all_goals (with_reducible rfl)
         simp only [Act.put, zA, zB, zC, zD, zE, zF]
         refine wpAnyH_ready (rs := [8]) (by kernel_rfl) (by simp) ?_
         refine AllReadyH.cons rfl (fun K hK => ?_) AllReadyH.nil
         go_simp
         have HI7 := Zac ((Zaa HI5).s7 inn)
         refine hK.out _ _ (show _ from ⟨(Zab (((Zaa HI7).low.block w.heap.size (by omega)).trans (Zaa HQ0)) 0).trans rfl, (Zab (((Zaa HI7).low.block w.heap.size (by omega)).trans (Zaa HQ0)) 1).trans rfl, (Zab (((Zaa HI7).low.block w.heap.size (by omega)).trans (Zaa HQ0)) 2).trans rfl, (Zab (((Zaa HI7).low.block w.heap.size (by omega)).trans (Zaa HQ0)) 3).trans rfl, (Zab (((Zaa HI7).low.block w.heap.size (by omega)).trans (Zaa HQ0)) 4).trans rfl, (Zab (((Zaa HI7).low.block w.heap.size (by omega)).trans (Zaa HQ0)) 5).trans rfl, (Zab (((Zaa HI7).low.block w.heap.size (by omega)).trans (Zaa HQ0)) 6).trans rfl, (Zab (((Zaa HI7).low.block w.heap.size (by omega)).trans (Zaa HQ0)) 7).trans rfl, (Zab (((Zaa HI7).low.block w.heap.size (by omega)).trans (Zaa HQ0)) 8).trans rfl, (Zab (((Zaa HI7).low.block w.heap.size (by omega)).trans (Zaa HQ0)) 9).trans rfl, (Zab (((Zaa HI7).low.block w.heap.size (by omega)).trans (Zaa HQ0)) 10).trans rfl, (Zab (((Zaa HI7).low.block w.heap.size (by omega)).trans (Zaa HQ0)) 11).trans rfl⟩) (fun hHeld2 => ?_)
         clear hK K
         try simp only [Act.put]
         refine wpAnyH_done (by kernel_rfl) ?_ _
         clear y7 z7 HI HI5
         generalize World.setCell w5 _ _ = U7 at HI7 ⊢
         go_upto_region 25 with fail
         refine wp_region_held_drew (S := fun V => V.cell? ⟨w.heap.size + 1 + 1 + 1, 7, none⟩ = some (.int .i64 inn) ∧ V.cell? ⟨w.heap.size, 0, none⟩ = some (.int .i64 T.r) ∧ V.cell? ⟨w.heap.size, 1, none⟩ = some (.int .i64 T.sp) ∧ V.cell? ⟨w.heap.size, 2, none⟩ = some (.int .i64 T.lk) ∧ V.cell? ⟨w.heap.size, 3, none⟩ = some (.int .i64 T.t0) ∧ V.cell? ⟨w.heap.size, 4, none⟩ = some (.int .i64 T.t1) ∧ V.cell? ⟨w.heap.size, 5, none⟩ = some (.slice T.pa T.ag.length T.ca) ∧ V.cell? ⟨w.heap.size, 6, none⟩ = some (.slice T.pr T.rs.length T.cr) ∧ V.cell? ⟨w.heap.size, 7, none⟩ = some (.slice T.ps T.ss.length T.cs) ∧ V.cell? ⟨w.heap.size, 8, none⟩ = some (.int .i64 T.al) ∧ V.cell? ⟨w.heap.size, 9, none⟩ = some (.int .i64 T.sh) ∧ V.cell? ⟨w.heap.size, 10, none⟩ = some (.int .i64 T.br) ∧ V.cell? ⟨w.heap.size, 11, none⟩ = some (.bool T.pairs)) (by kernel_rfl) (⟨(Zab (Zaa HI7).row 7).trans rfl, (Zab (((Zaa HI7).low.block w.heap.size (by omega)).trans (Zaa HQ0)) 0).trans rfl, (Zab (((Zaa HI7).low.block w.heap.size (by omega)).trans (Zaa HQ0)) 1).trans rfl, (Zab (((Zaa HI7).low.block w.heap.size (by omega)).trans (Zaa HQ0)) 2).trans rfl, (Zab (((Zaa HI7).low.block w.heap.size (by omega)).trans (Zaa HQ0)) 3).trans rfl, (Zab (((Zaa HI7).low.block w.heap.size (by omega)).trans (Zaa HQ0)) 4).trans rfl, (Zab (((Zaa HI7).low.block w.heap.size (by omega)).trans (Zaa HQ0)) 5).trans rfl, (Zab (((Zaa HI7).low.block w.heap.size (by omega)).trans (Zaa HQ0)) 6).trans rfl, (Zab (((Zaa HI7).low.block w.heap.size (by omega)).trans (Zaa HQ0)) 7).trans rfl, (Zab (((Zaa HI7).low.block w.heap.size (by omega)).trans (Zaa HQ0)) 8).trans rfl, (Zab (((Zaa HI7).low.block w.heap.size (by omega)).trans (Zaa HQ0)) 9).trans rfl, (Zab (((Zaa HI7).low.block w.heap.size (by omega)).trans (Zaa HQ0)) 10).trans rfl, (Zab (((Zaa HI7).low.block w.heap.size (by omega)).trans (Zaa HQ0)) 11).trans rfl⟩) (fun hHeld => ?_)
         refine tT 0 ?vq0 rfl (by kernel_rfl) (fun _ _ _ h => h) (by rfl) ?hyq0 (by assumption) ?_
         case hyq0 =>
          intro V hV
          try dsimp only at hV
          go_simp
          all_goals (with_reducible rfl)
         simp only [Act.put, zA, zB, zC, zD, zE]
         refine tT 1 ?vq1 rfl (by kernel_rfl) (fun _ _ _ h => h) (by rfl) ?hyq1 (by assumption) ?_
         case hyq1 =>
          intro V hV
          try dsimp only at hV
          go_simp
          all_goals (with_reducible rfl)
         simp only [Act.put, zA, zB, zC, zD, zE, zF]
         refine tT 2 ?vq2 rfl (by kernel_rfl) (fun _ _ _ h => h) (by rfl) ?hyq2 (by assumption) ?_
         case hyq2 =>
          intro V hV
          try dsimp only at hV
          go_simp
          all_goals (with_reducible rfl)
         simp only [Act.put, zA, zB, zC, zD, zE, zF]
         refine wpAnyH_ready (rs := [3]) (by kernel_rfl) (by simp) ?_
         refine AllReadyH.cons rfl (fun K hK => ?_) AllReadyH.nil
         go_simp
         refine (Zaa HPC _).mono ?_
         rintro e w8 ⟨rfl, hb8⟩
         have hI8 := ((Zaa HI7).next (Below.refl _ _).drew).next hb8
         have HI8 := Zac hI8
         have y6 := (Zab hI8.row 6).trans rfl
         have z6 := frozen_of_row _ _ 6 _ _ hI8.row
         clear hb8 hI8
         refine hK.out _ _ (show _ from ⟨(Zab (Zaa HI8).row 7).trans rfl, (Zab (((Zaa HI8).low.block w.heap.size (by omega)).trans (Zaa HQ0)) 0).trans rfl, (Zab (((Zaa HI8).low.block w.heap.size (by omega)).trans (Zaa HQ0)) 1).trans rfl, (Zab (((Zaa HI8).low.block w.heap.size (by omega)).trans (Zaa HQ0)) 2).trans rfl, (Zab (((Zaa HI8).low.block w.heap.size (by omega)).trans (Zaa HQ0)) 3).trans rfl, (Zab (((Zaa HI8).low.block w.heap.size (by omega)).trans (Zaa HQ0)) 4).trans rfl, (Zab (((Zaa HI8).low.block w.heap.size (by omega)).trans (Zaa HQ0)) 5).trans rfl, (Zab (((Zaa HI8).low.block w.heap.size (by omega)).trans (Zaa HQ0)) 6).trans rfl, (Zab (((Zaa HI8).low.block w.heap.size (by omega)).trans (Zaa HQ0)) 7).trans rfl, (Zab (((Zaa HI8).low.block w.heap.size (by omega)).trans (Zaa HQ0)) 8).trans rfl, (Zab (((Zaa HI8).low.block w.heap.size (by omega)).trans (Zaa HQ0)) 9).trans rfl, (Zab (((Zaa HI8).low.block w.heap.size (by omega)).trans (Zaa HQ0)) 10).trans rfl, (Zab (((Zaa HI8).low.block w.heap.size (by omega)).trans (Zaa HQ0)) 11).trans rfl⟩) (fun hHeld2 => ?_)
         clear hK K
         try simp only [Act.put, zA, zB, zC, zD, zE, zF]
         refine tT 4 ?vq4 rfl (by kernel_rfl) (fun _ _ _ h => h) (by rfl) ?hyq4 (by assumption) ?_
         case hyq4 =>
          intro V hV
          try dsimp only at hV
          go_simp
          all_goals (with_reducible rfl)
         simp only [Act.put, zA, zB, zC, zD, zE, zF]
         refine tT 5 ?vq5 rfl (by kernel_rfl) (fun _ _ _ h => h) (by rfl) ?hyq5 (by assumption) ?_
         case hyq5 =>
          intro V hV
          try dsimp only at hV
          go_simp
          all_goals (with_reducible rfl)
         simp only [Act.put, zA, zB, zC, zD, zE, zF]
         refine wpAnyH_ready (rs := [6]) (by kernel_rfl) (by simp) ?_
         refine AllReadyH.cons rfl (fun K hK => ?_) AllReadyH.nil
         go_simp
         have HI9 := Zac ((Zaa HI8).s6 (inn - psh))
         refine hK.out _ _ (show _ from ⟨(Zab (Zaa HI9).row 7).trans rfl, (Zab (((Zaa HI9).low.block w.heap.size (by omega)).trans (Zaa HQ0)) 0).trans rfl, (Zab (((Zaa HI9).low.block w.heap.size (by omega)).trans (Zaa HQ0)) 1).trans rfl, (Zab (((Zaa HI9).low.block w.heap.size (by omega)).trans (Zaa HQ0)) 2).trans rfl, (Zab (((Zaa HI9).low.block w.heap.size (by omega)).trans (Zaa HQ0)) 3).trans rfl, (Zab (((Zaa HI9).low.block w.heap.size (by omega)).trans (Zaa HQ0)) 4).trans rfl, (Zab (((Zaa HI9).low.block w.heap.size (by omega)).trans (Zaa HQ0)) 5).trans rfl, (Zab (((Zaa HI9).low.block w.heap.size (by omega)).trans (Zaa HQ0)) 6).trans rfl, (Zab (((Zaa HI9).low.block w.heap.size (by omega)).trans (Zaa HQ0)) 7).trans rfl, (Zab (((Zaa HI9).low.block w.heap.size (by omega)).trans (Zaa HQ0)) 8).trans rfl, (Zab (((Zaa HI9).low.block w.heap.size (by omega)).trans (Zaa HQ0)) 9).trans rfl, (Zab (((Zaa HI9).low.block w.heap.size (by omega)).trans (Zaa HQ0)) 10).trans rfl, (Zab (((Zaa HI9).low.block w.heap.size (by omega)).trans (Zaa HQ0)) 11).trans rfl⟩) (fun hHeld2 => ?_)
         clear hK K
         try simp only [Act.put]
         refine wpAnyH_done (by kernel_rfl) ?_ _
         clear y6 z6 HI8 HI7
         generalize World.setCell w8 _ _ = U9 at HI9 ⊢
         have e0 : U9.cell? ⟨w.heap.size + 1 + 1 + 1, 0, none⟩ = some (.int .i64 oo) := (Zab (Zaa HI9).row 0).trans rfl
         have e1 : U9.cell? ⟨w.heap.size + 1 + 1 + 1, 1, none⟩ = some (.int .i64 cc) := (Zab (Zaa HI9).row 1).trans rfl
         have e2 : U9.cell? ⟨w.heap.size + 1 + 1 + 1, 2, none⟩ = some (.int .i64 (oo + cc)) := (Zab (Zaa HI9).row 2).trans rfl
         have e3 : U9.cell? ⟨w.heap.size + 1 + 1 + 1, 3, none⟩ = some (.slice qp fn.slots.length qc) := (Zab (Zaa HI9).row 3).trans rfl
         have e4 : U9.cell? ⟨w.heap.size + 1 + 1 + 1, 4, none⟩ = some (.slice kp sav.length kc) := (Zab (Zaa HI9).row 4).trans rfl
         have e5 : U9.cell? ⟨w.heap.size + 1 + 1 + 1, 5, none⟩ = some (.int .i64 lkv) := (Zab (Zaa HI9).row 5).trans rfl
         have e6 : U9.cell? ⟨w.heap.size + 1 + 1 + 1, 6, none⟩ = some (.int .i64 (inn - psh)) := (Zab (Zaa HI9).row 6).trans rfl
         have e7 : U9.cell? ⟨w.heap.size + 1 + 1 + 1, 7, none⟩ = some (.int .i64 inn) := (Zab (Zaa HI9).row 7).trans rfl
         have HRR := Zac (((Zaa HI9).low.block (w.heap.size + 1 + 1) (by omega)).trans (Zaa HQ2))
         go_wp2_with (refine wpList_store_row rfl 32 _ _ rfl (w.heap.size + 1 + 1) #[.int .i64 oo, .int .i64 cc, .int .i64 (oo + cc), .slice qp fn.slots.length qc, .slice kp sav.length kc, .int .i64 lkv, .int .i64 (inn - psh), .int .i64 inn] rfl rfl 32 _ (Zaa HRR) (Tryz.infFrF.trans rfl) rfl (by simp [Value.oneCell']) ?_)
         refine bodyPost_ret (resultsK (fn := Tryz.f44) (q := 6) (uy := 32) rfl _ _ (w.heap.size + 1 + 1) 32 #[.int .i64 oo, .int .i64 cc, .int .i64 (oo + cc), .slice qp fn.slots.length qc, .slice kp sav.length kc, .int .i64 lkv, .int .i64 (inn - psh), .int .i64 inn] (0, 0) _ rfl (setRow_heap _ _ _ _ _ _ (Zaa HRR)) Tryz.underlying32 rfl (Tryz.infFrF.trans rfl)) rfl ?_
         have hI := Zaa HI9
         have hk : ∀ {n size : Nat} {e : TypeId} {v : Value} {xs : List Value}, U9.ownsRow (w.heap.size + 1 + 1 + 1 + 1) e size v n xs → (U9.setRow (w.heap.size + 1 + 1) #[.int .i64 oo, .int .i64 cc, .int .i64 (oo + cc), .slice qp fn.slots.length qc, .slice kp sav.length kc, .int .i64 lkv, .int .i64 (inn - psh), .int .i64 inn]).ownsRow w.heap.size e size v n xs := fun {n size e v xs} h => by
          obtain ⟨h1, h2 | ⟨g, cap, cur, e1, e2, e3, e4⟩⟩ := h
          ·
           exact ⟨h1, Or.inl h2⟩
          ·
           exact ⟨h1, Or.inr ⟨g, cap, cur, e1, by omega, (setRow_other _ _ _ _ (by omega)).trans e3, e4⟩⟩
         rw [Zaa HFE, Zaa HKP, Zaa HA2, ← Zaa HHS, Zaa HIN, ← Zaa HPS, ← Zaa HINN, ← Zaa HLK]
         exact ⟨_, _, rfl, hk hI.sl, hk hI.kp, Zag (Zaa HLOW U9 hI.low) (by omega)⟩
end Go.Proofs.YtffemeicclhioaaGreatDoor
