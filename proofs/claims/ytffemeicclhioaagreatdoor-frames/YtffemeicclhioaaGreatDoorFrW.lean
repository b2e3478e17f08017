/-
 prologuelaw.Frames: its walk. Own work of the verifier.
-/
import Derived.Test.YtffemeicclhioaaGreatDoorFrY
import Derived.Test.YtffemeicclhioaaGreatDoorJ45
import Derived.Test.YtffemeicclhioaaGreatDoorJ15
namespace Go.Proofs.YtffemeicclhioaaGreatDoor
open Go.RowKit

/-- Two new rows, written whole. -/
theorem newRowsF (w : World) (z1 z2 c1 c2 : Array Value) (t1 t2 : TypeId) : ∀ V, V = (((w.alloc (.cells z1 t1 (0, 0))).alloc (.cells z2 t2 (0, 0))).setRow w.heap.size c1).setRow (w.heap.size + 1) c2 → V.heap[w.heap.size]? = some (.cells c1 t1 (0, 0)) ∧ V.heap[w.heap.size + 1]? = some (.cells c2 t2 (0, 0)) ∧ Below w.heap.size w V ∧ V.heap.size = w.heap.size + 1 + 1 := fun V e => by
 obtain ⟨r0, r1, -, hb⟩ := rows2f w (.cells z1 t1 (0, 0)) (.cells z2 t2 (0, 0))
 subst e
 exact ⟨(setRow_other _ _ _ _ (by omega)).trans (setRow_heap _ _ _ _ _ _ r0), setRow_heap _ _ _ _ _ _ ((setRow_other _ _ _ _ (by omega)).trans r1), Zag (Zag hb (Nat.le_refl _)) (by omega), by simp [World.setRow]⟩
theorem frO_lt {V : World} {B : Nat} {fr : FrmE} {slv kv : Value} (h : FrO V B fr slv kv) : (∀ g, slv.ownBlock = some g → g < V.heap.size) ∧ ∀ g, kv.ownBlock = some g → g < V.heap.size := ⟨fun g e => (World.ownsRow.lt h.1 g e).2, fun g e => (World.ownsRow.lt h.2 g e).2⟩
/-- Spoiling leaves what lies outside. -/
theorem spL_own {B E Bm n size : Nat} {w w' : World} {e : TypeId} {v : Value} {xs : List Value} (h : SpL B E w w') (hv : w.ownsRow Bm e size v n xs) (hB : E ≤ Bm) : w'.ownsRow Bm e size v n xs := by
 obtain ⟨h1, h2 | ⟨g, cap, cur, e1, e2, e3, e4⟩⟩ := hv
 ·
  exact ⟨h1, Or.inl h2⟩
 ·
  exact ⟨h1, Or.inr ⟨g, cap, cur, e1, e2, (h.oth g (row_lt e3) (Or.inr (by omega))).trans e3, e4⟩⟩
theorem frF_slots {T : TbE} {P : ProgE} {k : Nat} (h : FnOk T (P.funcs.getD k Zaj)) : (frmF T P k).slots.length ≤ 6 := by
 have := h.ns
 unfold frmF frmE
 simpa using this
theorem frmL_slots (T : TbE) (P : ProgE) (f : Int) : (frmL T P f).slots.length ≤ 1000 := by
 unfold frmL
 split
 ·
  rename_i hc
  split
  ·
   rename_i hf
   obtain ⟨h1, -, h3, -⟩ := chk_good (show (chkB (tabT T) T.r (ownL T.sp T.lk T.t0 T.t1) P).e = 0 from hc)
   have := frF_slots (T := T) (P := P) (k := f.toNat) (fnOk_of h1 (h3 f.toNat (by omega)))
   unfold frmN
   split
   ·
    simp [noFrm]
   ·
    omega
  ·
   simp [noFrm]
 ·
  simp [noFrm]
set_option maxHeartbeats 8000000 in
set_option maxRecDepth 100000 in
theorem frames_walk (T : TbE) (P : ProgE) (f : Int) (fv ev : Value) (A E : Nat → Array Value) (w : World) (hA : FrG0 w T P fv ev A E) :
 Calls Tryz.prog 3 #[.agg T.box, .agg #[fv, ev], .int .i64 f] w fun e w' => e = .returned (.bool true) ∧ Below w.heap.size w w' := by
 obtain ⟨pf, cf, hfs⟩ := hA.p.fs.shape
 obtain ⟨pe, ce, hes⟩ := hA.p.es.shape
 subst hfs hes
 have hlf : P.funcs.length < 9223372036854775808 := by obtain ⟨_, _, _, _, h, _⟩ := hA.p.fs; exact h
 obtain ⟨r0, r1, hZ, hB⟩ := rows2f w (.cells T.box 25 (0, 0)) (.cells #[.slice pf P.funcs.length cf, .slice pe P.externs.length ce] 29 (0, 0))
 have hns := frmL_slots T P f
 have HPL := Zac (fun (V : World) (hV : Below w.heap.size w V) => plfr_c T P f _ _ A E V (frG0_below hA hV))
 have HRF := Zac (fun (V : World) (hV : Below w.heap.size w V) => rframe_c T P f _ _ A E V (frG0_below hA hV))
 have hbx : T.box = #[.int .i64 T.r, .int .i64 T.sp, .int .i64 T.lk, .int .i64 T.t0, .int .i64 T.t1, .slice T.pa T.ag.length T.ca, .slice T.pr T.rs.length T.cr, .slice T.ps T.ss.length T.cs, .int .i64 T.al, .int .i64 T.sh, .int .i64 T.br, .bool T.pairs] := rfl
 rw [hbx] at HPL HRF r0 r1 hB hZ ⊢
 clear hbx
 generalize frmL T P f = fr at HPL HRF hns
 generalize frmY T P f = fy at HPL HRF
 obtain ⟨fe, ff, fb, fa⟩ := fy
 change Hid (∀ V, Below w.heap.size w V → Calls Tryz.prog 4 #[.agg #[.int .i64 T.r, .int .i64 T.sp, .int .i64 T.lk, .int .i64 T.t0, .int .i64 T.t1, .slice T.pa T.ag.length T.ca, .slice T.pr T.rs.length T.cr, .slice T.ps T.ss.length T.cs, .int .i64 T.al, .int .i64 T.sh, .int .i64 T.br, .bool T.pairs], .agg #[.slice pf P.funcs.length cf, .slice pe P.externs.length ce], .int .i64 f] V (fun e w' => ∃ slv kv, e = .returned (.tuple #[.agg #[.int .i64 fr.out, .int .i64 fr.cop, .int .i64 fr.cells, slv, kv, .int .i64 fr.link, .int .i64 fr.size, .int .i64 fr.in_], .agg #[.int .i64 fe, .int .i64 ff, .int .i64 fb, .int .i64 fa]]) ∧ FrO w' V.heap.size fr slv kv ∧ Below V.heap.size V w')) at HPL
 change Hid (∀ V, Below w.heap.size w V → Calls Tryz.prog 5 #[.agg #[.int .i64 T.r, .int .i64 T.sp, .int .i64 T.lk, .int .i64 T.t0, .int .i64 T.t1, .slice T.pa T.ag.length T.ca, .slice T.pr T.rs.length T.cr, .slice T.ps T.ss.length T.cs, .int .i64 T.al, .int .i64 T.sh, .int .i64 T.br, .bool T.pairs], .agg #[.slice pf P.funcs.length cf, .slice pe P.externs.length ce], .int .i64 f] V (fun e w' => ∃ slv kv, e = .returned (.tuple #[.agg #[.int .i64 fr.out, .int .i64 fr.cop, .int .i64 fr.cells, slv, kv, .int .i64 fr.link, .int .i64 fr.size, .int .i64 fr.in_], .agg #[.int .i64 fe, .int .i64 ff, .int .i64 fb, .int .i64 fa]]) ∧ FrO w' V.heap.size fr slv kv ∧ Below V.heap.size V w')) at HRF
 have HR0 := Zac r0
 have HR1 := Zac r1
 have HB := Zac hB
 clear r0 r1 hB hA
 go_enter Tryz.func3, Tryz.ntmps3
 go_wp2_with fail
 generalize World.alloc (World.alloc w _) _ = W at HR0 HR1 HB hZ ⊢
 refine (Zaa HPL W (Zaa HB)).mono ?_
 rintro e w2 ⟨slv, kv, rfl, ho, hb2⟩
 obtain ⟨ap, ac, rfl⟩ := Zan ho.1
 obtain ⟨bp, bc, rfl⟩ := Zan ho.2
 have hz2 := hb2.size
 have HO := Zac ho
 have HB2 := Zac hb2
 clear ho hb2
 have hna := newRowsF w2 #[.int .i64 0, .int .i64 0, .int .i64 0, .slice none 0 0, .slice none 0 0, .int .i64 0, .int .i64 0, .int .i64 0] #[.int .i64 0, .int .i64 0, .int .i64 0, .int .i64 0] #[.int .i64 fr.out, .int .i64 fr.cop, .int .i64 fr.cells, .slice ap fr.slots.length ac, .slice bp fr.saves.length bc, .int .i64 fr.link, .int .i64 fr.size, .int .i64 fr.in_] #[.int .i64 fe, .int .i64 ff, .int .i64 fb, .int .i64 fa] 32 34 _ rfl
 have HNa := Zac (rows2f w2 (.cells #[.int .i64 0, .int .i64 0, .int .i64 0, .slice none 0 0, .slice none 0 0, .int .i64 0, .int .i64 0, .int .i64 0] 32 (0, 0)) (.cells #[.int .i64 0, .int .i64 0, .int .i64 0, .int .i64 0] 34 (0, 0)))
 have HMa := Zac ((setRow_other ((w2.alloc (.cells #[.int .i64 0, .int .i64 0, .int .i64 0, .slice none 0 0, .slice none 0 0, .int .i64 0, .int .i64 0, .int .i64 0] 32 (0, 0))).alloc (.cells #[.int .i64 0, .int .i64 0, .int .i64 0, .int .i64 0] 34 (0, 0))) w2.heap.size (w2.heap.size + 1) #[.int .i64 fr.out, .int .i64 fr.cop, .int .i64 fr.cells, .slice ap fr.slots.length ac, .slice bp fr.saves.length bc, .int .i64 fr.link, .int .i64 fr.size, .int .i64 fr.in_] (by omega)).trans (Zaa HNa).2.1)
 have HNRa := Zac hna
 clear hna
 go_upto_region 2 with (first | (refine wpList_store_row rfl 32 _ _ rfl (w2.heap.size) #[.int .i64 fr.out, .int .i64 fr.cop, .int .i64 fr.cells, .slice ap fr.slots.length ac, .slice bp fr.saves.length bc, .int .i64 fr.link, .int .i64 fr.size, .int .i64 fr.in_] rfl rfl 32 _ ((Zaa HNa).1) (Tryz.infFrF.trans rfl) rfl (by simp [Value.oneCell']) ?_) | (refine wpList_store_row rfl 34 _ _ rfl (w2.heap.size + 1) #[.int .i64 fe, .int .i64 ff, .int .i64 fb, .int .i64 fa] rfl rfl 34 _ (Zaa HMa) (Tryz.infPfK.trans rfl) rfl (by simp [Value.oneCell']) ?_))
 generalize World.setRow (World.setRow (World.alloc (World.alloc w2 _) _) _ _) _ _ = V2 at HNRa ⊢
 obtain ⟨raa, rba, hba, hza⟩ := Zaa HNRa
 clear HNRa HNa HMa
 have hBV : Below W.heap.size W V2 := Zad (Zaa HB2) hba hz2
 have HLO := Zac (frO_below (Zaa HO) hba)
 have HLT := Zac (frO_lt (Zaa HO))
 have HBV := Zac hBV
 have HRA := Zac raa
 have HRB := Zac rba
 have q0 := (hBV.block w.heap.size (by omega)).trans (Zaa HR0)
 have q1 := (hBV.block (w.heap.size + 1) (by omega)).trans (Zaa HR1)
 have hWV := Zad (Zaa HB) hBV (by omega)
 have HQ0 := Zac q0
 have HQ1 := Zac q1
 have HWV := Zac hWV
 have t0 : V2.cell? ⟨w.heap.size, 0, none⟩ = some (.int .i64 T.r) := (Zab q0 0).trans rfl
 have t1 : V2.cell? ⟨w.heap.size, 1, none⟩ = some (.int .i64 T.sp) := (Zab q0 1).trans rfl
 have t2 : V2.cell? ⟨w.heap.size, 2, none⟩ = some (.int .i64 T.lk) := (Zab q0 2).trans rfl
 have t3 : V2.cell? ⟨w.heap.size, 3, none⟩ = some (.int .i64 T.t0) := (Zab q0 3).trans rfl
 have t4 : V2.cell? ⟨w.heap.size, 4, none⟩ = some (.int .i64 T.t1) := (Zab q0 4).trans rfl
 have t5 : V2.cell? ⟨w.heap.size, 5, none⟩ = some (.slice T.pa T.ag.length T.ca) := (Zab q0 5).trans rfl
 have t6 : V2.cell? ⟨w.heap.size, 6, none⟩ = some (.slice T.pr T.rs.length T.cr) := (Zab q0 6).trans rfl
 have t7 : V2.cell? ⟨w.heap.size, 7, none⟩ = some (.slice T.ps T.ss.length T.cs) := (Zab q0 7).trans rfl
 have t8 : V2.cell? ⟨w.heap.size, 8, none⟩ = some (.int .i64 T.al) := (Zab q0 8).trans rfl
 have t9 : V2.cell? ⟨w.heap.size, 9, none⟩ = some (.int .i64 T.sh) := (Zab q0 9).trans rfl
 have t10 : V2.cell? ⟨w.heap.size, 10, none⟩ = some (.int .i64 T.br) := (Zab q0 10).trans rfl
 have t11 : V2.cell? ⟨w.heap.size, 11, none⟩ = some (.bool T.pairs) := (Zab q0 11).trans rfl
 have p0 : V2.cell? ⟨w.heap.size + 1, 0, none⟩ = some (.slice pf P.funcs.length cf) := (Zab q1 0).trans rfl
 have p1 : V2.cell? ⟨w.heap.size + 1, 1, none⟩ = some (.slice pe P.externs.length ce) := (Zab q1 1).trans rfl
 have HC2 := Zac (Zaa HRF V2 hWV)
 clear q0 q1 hBV hWV raa rba hba HO HB2
 go_wp2_with fail
 clear t0 t1 t2 t3 t4 t5 t6 t7 t8 t9 t10 t11
 clear p0 p1
 refine (Zaa HC2).mono ?_
 rintro e w3 ⟨smv, kmv, rfl, hom, hb3⟩
 obtain ⟨mp, mc, rfl⟩ := Zan hom.1
 obtain ⟨np, nc, rfl⟩ := Zan hom.2
 have hz3 := hb3.size
 have HOM := Zac hom
 have HB3 := Zac hb3
 clear hom hb3 HC2
 have hnb := newRowsF w3 #[.int .i64 0, .int .i64 0, .int .i64 0, .slice none 0 0, .slice none 0 0, .int .i64 0, .int .i64 0, .int .i64 0] #[.int .i64 0, .int .i64 0, .int .i64 0, .int .i64 0] #[.int .i64 fr.out, .int .i64 fr.cop, .int .i64 fr.cells, .slice mp fr.slots.length mc, .slice np fr.saves.length nc, .int .i64 fr.link, .int .i64 fr.size, .int .i64 fr.in_] #[.int .i64 fe, .int .i64 ff, .int .i64 fb, .int .i64 fa] 32 37 _ rfl
 have HNb := Zac (rows2f w3 (.cells #[.int .i64 0, .int .i64 0, .int .i64 0, .slice none 0 0, .slice none 0 0, .int .i64 0, .int .i64 0, .int .i64 0] 32 (0, 0)) (.cells #[.int .i64 0, .int .i64 0, .int .i64 0, .int .i64 0] 37 (0, 0)))
 have HMb := Zac ((setRow_other ((w3.alloc (.cells #[.int .i64 0, .int .i64 0, .int .i64 0, .slice none 0 0, .slice none 0 0, .int .i64 0, .int .i64 0, .int .i64 0] 32 (0, 0))).alloc (.cells #[.int .i64 0, .int .i64 0, .int .i64 0, .int .i64 0] 37 (0, 0))) w3.heap.size (w3.heap.size + 1) #[.int .i64 fr.out, .int .i64 fr.cop, .int .i64 fr.cells, .slice mp fr.slots.length mc, .slice np fr.saves.length nc, .int .i64 fr.link, .int .i64 fr.size, .int .i64 fr.in_] (by omega)).trans (Zaa HNb).2.1)
 have HNRb := Zac hnb
 clear hnb
 go_upto_region 3 with (first | (refine wpList_store_row rfl 32 _ _ rfl (w3.heap.size) #[.int .i64 fr.out, .int .i64 fr.cop, .int .i64 fr.cells, .slice mp fr.slots.length mc, .slice np fr.saves.length nc, .int .i64 fr.link, .int .i64 fr.size, .int .i64 fr.in_] rfl rfl 32 _ ((Zaa HNb).1) (Tryz.infFrF.trans rfl) rfl (by simp [Value.oneCell']) ?_) | (refine wpList_store_row rfl 37 _ _ rfl (w3.heap.size + 1) #[.int .i64 fe, .int .i64 ff, .int .i64 fb, .int .i64 fa] rfl rfl 37 _ (Zaa HMb) (Tryz.infRFlt.trans rfl) rfl (by simp [Value.oneCell']) ?_))
 generalize World.setRow (World.setRow (World.alloc (World.alloc w3 _) _) _ _) _ _ = V3 at HNRb ⊢
 obtain ⟨rab, rbb, hbb, hzb⟩ := Zaa HNRb
 clear HNRb HNb HMb
 have hBV3 : Below V2.heap.size V2 V3 := Zad (Zaa HB3) hbb hz3
 have HLO3 := Zac (frO_below (Zaa HLO) hBV3)
 have HMO3 := Zac (frO_below (Zaa HOM) hbb)
 have hra := (hBV3.block w2.heap.size (by omega)).trans (Zaa HRA)
 have hrb := (hBV3.block (w2.heap.size + 1) (by omega)).trans (Zaa HRB)
 have HRA3 := Zac hra
 have HRM3 := Zac rab
 have HW3 := Zac (Zad (Zaa HWV) hBV3 (by have := (Zaa HWV).size; omega))
 have HQ03 := Zac ((hBV3.block w.heap.size (by omega)).trans (Zaa HQ0))
 have HQ13 := Zac ((hBV3.block (w.heap.size + 1) (by omega)).trans (Zaa HQ1))
 have HFB := Zac hrb
 have HFM := Zac rbb
 have x0 : V3.cell? ⟨w2.heap.size, 0, none⟩ = some (.int .i64 fr.out) := (Zab hra 0).trans rfl
 have x1 : V3.cell? ⟨w2.heap.size, 1, none⟩ = some (.int .i64 fr.cop) := (Zab hra 1).trans rfl
 have x2 : V3.cell? ⟨w2.heap.size, 2, none⟩ = some (.int .i64 fr.cells) := (Zab hra 2).trans rfl
 have x3 : V3.cell? ⟨w2.heap.size, 3, none⟩ = some (.slice ap fr.slots.length ac) := (Zab hra 3).trans rfl
 have x4 : V3.cell? ⟨w2.heap.size, 4, none⟩ = some (.slice bp fr.saves.length bc) := (Zab hra 4).trans rfl
 have x5 : V3.cell? ⟨w2.heap.size, 5, none⟩ = some (.int .i64 fr.link) := (Zab hra 5).trans rfl
 have x6 : V3.cell? ⟨w2.heap.size, 6, none⟩ = some (.int .i64 fr.size) := (Zab hra 6).trans rfl
 have x7 : V3.cell? ⟨w2.heap.size, 7, none⟩ = some (.int .i64 fr.in_) := (Zab hra 7).trans rfl
 have y0 : V3.cell? ⟨w3.heap.size, 0, none⟩ = some (.int .i64 fr.out) := (Zab rab 0).trans rfl
 have y1 : V3.cell? ⟨w3.heap.size, 1, none⟩ = some (.int .i64 fr.cop) := (Zab rab 1).trans rfl
 have y2 : V3.cell? ⟨w3.heap.size, 2, none⟩ = some (.int .i64 fr.cells) := (Zab rab 2).trans rfl
 have y3 : V3.cell? ⟨w3.heap.size, 3, none⟩ = some (.slice mp fr.slots.length mc) := (Zab rab 3).trans rfl
 have y4 : V3.cell? ⟨w3.heap.size, 4, none⟩ = some (.slice np fr.saves.length nc) := (Zab rab 4).trans rfl
 have y5 : V3.cell? ⟨w3.heap.size, 5, none⟩ = some (.int .i64 fr.link) := (Zab rab 5).trans rfl
 have y6 : V3.cell? ⟨w3.heap.size, 6, none⟩ = some (.int .i64 fr.size) := (Zab rab 6).trans rfl
 have y7 : V3.cell? ⟨w3.heap.size, 7, none⟩ = some (.int .i64 fr.in_) := (Zab rab 7).trans rfl
 clear hra hrb rab rbb hBV3 hbb HQ0 HQ1 HRA HRB HLO HOM HB3 HBV HWV
 have HFR := Zac (frames_c fr _ _ _ _ W.heap.size V2.heap.size V3 (Zaa HLO3).1 (Zaa HLO3).2 (Zaa HMO3).1 (Zaa HMO3).2)
 go_wp2_with fail
 clear x0 x1 x2 x3 x4 x5 x6 x7
 clear y0 y1 y2 y3 y4 y5 y6 y7
 refine (Zaa HFR).mono ?_
 rintro e w4 ⟨rfl, hb4⟩
 have hz4 := hb4.size
 have hrb := (hb4.block (w2.heap.size + 1) (by omega)).trans (Zaa HFB)
 have hrm := (hb4.block (w3.heap.size + 1) (by omega)).trans (Zaa HFM)
 have x0 : w4.cell? ⟨w2.heap.size + 1, 0, none⟩ = some (.int .i64 fe) := (Zab hrb 0).trans rfl
 have x1 : w4.cell? ⟨w2.heap.size + 1, 1, none⟩ = some (.int .i64 ff) := (Zab hrb 1).trans rfl
 have x2 : w4.cell? ⟨w2.heap.size + 1, 2, none⟩ = some (.int .i64 fb) := (Zab hrb 2).trans rfl
 have x3 : w4.cell? ⟨w2.heap.size + 1, 3, none⟩ = some (.int .i64 fa) := (Zab hrb 3).trans rfl
 have y0 : w4.cell? ⟨w3.heap.size + 1, 0, none⟩ = some (.int .i64 fe) := (Zab hrm 0).trans rfl
 have y1 : w4.cell? ⟨w3.heap.size + 1, 1, none⟩ = some (.int .i64 ff) := (Zab hrm 1).trans rfl
 have y2 : w4.cell? ⟨w3.heap.size + 1, 2, none⟩ = some (.int .i64 fb) := (Zab hrm 2).trans rfl
 have y3 : w4.cell? ⟨w3.heap.size + 1, 3, none⟩ = some (.int .i64 fa) := (Zab hrm 3).trans rfl
 have HAG := Zac (agrees_sameE fe ff fb fa w4)
 unfold flt at HAG
 have HB4 := Zac hb4
 clear hrb hrm hb4 HFR HFB HFM
 go_wp2_with fail
 clear x0 x1 x2 x3
 clear y0 y1 y2 y3
 refine (Zaa HAG).mono ?_
 rintro e w5 ⟨rfl, hb5⟩
 have hz5 := hb5.size
 have hB35 : Below V3.heap.size V3 w5 := Zad (Zaa HB4) hb5 hz4
 have hra := (hB35.block w2.heap.size (by omega)).trans (Zaa HRA3)
 have HLO5 := Zac (frO_below (Zaa HLO3) hB35)
 have HMO5 := Zac (frO_below (Zaa HMO3) hB35)
 have HRM5 := Zac ((hB35.block w3.heap.size (by omega)).trans (Zaa HRM3))
 have HW5 := Zac (Zad (Zaa HW3) hB35 (by have := (Zaa HW3).size; omega))
 have HQ05 := Zac ((hB35.block w.heap.size (by omega)).trans (Zaa HQ03))
 have HQ15 := Zac ((hB35.block (w.heap.size + 1) (by omega)).trans (Zaa HQ13))
 have x0 : w5.cell? ⟨w2.heap.size, 0, none⟩ = some (.int .i64 fr.out) := (Zab hra 0).trans rfl
 have x1 : w5.cell? ⟨w2.heap.size, 1, none⟩ = some (.int .i64 fr.cop) := (Zab hra 1).trans rfl
 have x2 : w5.cell? ⟨w2.heap.size, 2, none⟩ = some (.int .i64 fr.cells) := (Zab hra 2).trans rfl
 have x3 : w5.cell? ⟨w2.heap.size, 3, none⟩ = some (.slice ap fr.slots.length ac) := (Zab hra 3).trans rfl
 have x4 : w5.cell? ⟨w2.heap.size, 4, none⟩ = some (.slice bp fr.saves.length bc) := (Zab hra 4).trans rfl
 have x5 : w5.cell? ⟨w2.heap.size, 5, none⟩ = some (.int .i64 fr.link) := (Zab hra 5).trans rfl
 have x6 : w5.cell? ⟨w2.heap.size, 6, none⟩ = some (.int .i64 fr.size) := (Zab hra 6).trans rfl
 have x7 : w5.cell? ⟨w2.heap.size, 7, none⟩ = some (.int .i64 fr.in_) := (Zab hra 7).trans rfl
 have HSP := Zac (spoilFrame_c fr _ _ W.heap.size w2.heap.size w5 (Zaa HLO5) (by omega) (Zaa HLT).1 (Zaa HLT).2 hns)
 clear hra hb5 hB35 HAG HB4 HLO3 HMO3 HRA3 HRM3 HW3 HQ03 HQ13
 go_wp2_with fail
 clear x0 x1 x2 x3 x4 x5 x6 x7
 refine (Zaa HSP).mono ?_
 rintro e w6 ⟨⟨xv, rfl⟩, hsp⟩
 have hz6 := hsp.size
 have hW6 : Below w.heap.size w w6 := ⟨hsp.os.trans (Zaa HW5).os, hsp.tape.trans (Zaa HW5).tape, hsp.output.trans (Zaa HW5).output, by have := (Zaa HW5).size; omega, fun q hq => (hsp.oth q (by omega) (Or.inl (by omega))).trans ((Zaa HW5).block q hq)⟩
 have q0 := (hsp.oth w.heap.size (by omega) (Or.inl (by omega))).trans (Zaa HQ05)
 have q1 := (hsp.oth (w.heap.size + 1) (by omega) (Or.inl (by omega))).trans (Zaa HQ15)
 have HRM6 := Zac ((hsp.oth w3.heap.size (by omega) (Or.inr (by omega))).trans (Zaa HRM5))
 have HMO6 := Zac (show FrO w6 V2.heap.size fr _ _ from ⟨spL_own hsp (Zaa HMO5).1 (by omega), spL_own hsp (Zaa HMO5).2 (by omega)⟩)
 have HW6 := Zac hW6
 have HC6 := Zac (Zaa HPL w6 hW6)
 have t0 : w6.cell? ⟨w.heap.size, 0, none⟩ = some (.int .i64 T.r) := (Zab q0 0).trans rfl
 have t1 : w6.cell? ⟨w.heap.size, 1, none⟩ = some (.int .i64 T.sp) := (Zab q0 1).trans rfl
 have t2 : w6.cell? ⟨w.heap.size, 2, none⟩ = some (.int .i64 T.lk) := (Zab q0 2).trans rfl
 have t3 : w6.cell? ⟨w.heap.size, 3, none⟩ = some (.int .i64 T.t0) := (Zab q0 3).trans rfl
 have t4 : w6.cell? ⟨w.heap.size, 4, none⟩ = some (.int .i64 T.t1) := (Zab q0 4).trans rfl
 have t5 : w6.cell? ⟨w.heap.size, 5, none⟩ = some (.slice T.pa T.ag.length T.ca) := (Zab q0 5).trans rfl
 have t6 : w6.cell? ⟨w.heap.size, 6, none⟩ = some (.slice T.pr T.rs.length T.cr) := (Zab q0 6).trans rfl
 have t7 : w6.cell? ⟨w.heap.size, 7, none⟩ = some (.slice T.ps T.ss.length T.cs) := (Zab q0 7).trans rfl
 have t8 : w6.cell? ⟨w.heap.size, 8, none⟩ = some (.int .i64 T.al) := (Zab q0 8).trans rfl
 have t9 : w6.cell? ⟨w.heap.size, 9, none⟩ = some (.int .i64 T.sh) := (Zab q0 9).trans rfl
 have t10 : w6.cell? ⟨w.heap.size, 10, none⟩ = some (.int .i64 T.br) := (Zab q0 10).trans rfl
 have t11 : w6.cell? ⟨w.heap.size, 11, none⟩ = some (.bool T.pairs) := (Zab q0 11).trans rfl
 have p0 : w6.cell? ⟨w.heap.size + 1, 0, none⟩ = some (.slice pf P.funcs.length cf) := (Zab q1 0).trans rfl
 have p1 : w6.cell? ⟨w.heap.size + 1, 1, none⟩ = some (.slice pe P.externs.length ce) := (Zab q1 1).trans rfl
 clear q0 q1 hsp hW6 HSP HLO5 HMO5 HRM5 HW5 HQ05 HQ15 HLT
 go_wp2_with fail
 clear t0 t1 t2 t3 t4 t5 t6 t7 t8 t9 t10 t11
 clear p0 p1
 refine (Zaa HC6).mono ?_
 rintro e w7 ⟨sav, kav, rfl, hoa, hb7⟩
 obtain ⟨cp, cc, rfl⟩ := Zan hoa.1
 obtain ⟨dp, dc, rfl⟩ := Zan hoa.2
 have hz7 := hb7.size
 have HOA := Zac hoa
 have HB7 := Zac hb7
 clear hoa hb7 HC6
 have hnc := newRowsF w7 #[.int .i64 0, .int .i64 0, .int .i64 0, .slice none 0 0, .slice none 0 0, .int .i64 0, .int .i64 0, .int .i64 0] #[.int .i64 0, .int .i64 0, .int .i64 0, .int .i64 0] #[.int .i64 fr.out, .int .i64 fr.cop, .int .i64 fr.cells, .slice cp fr.slots.length cc, .slice dp fr.saves.length dc, .int .i64 fr.link, .int .i64 fr.size, .int .i64 fr.in_] #[.int .i64 fe, .int .i64 ff, .int .i64 fb, .int .i64 fa] 32 34 _ rfl
 have HNc := Zac (rows2f w7 (.cells #[.int .i64 0, .int .i64 0, .int .i64 0, .slice none 0 0, .slice none 0 0, .int .i64 0, .int .i64 0, .int .i64 0] 32 (0, 0)) (.cells #[.int .i64 0, .int .i64 0, .int .i64 0, .int .i64 0] 34 (0, 0)))
 have HMc := Zac ((setRow_other ((w7.alloc (.cells #[.int .i64 0, .int .i64 0, .int .i64 0, .slice none 0 0, .slice none 0 0, .int .i64 0, .int .i64 0, .int .i64 0] 32 (0, 0))).alloc (.cells #[.int .i64 0, .int .i64 0, .int .i64 0, .int .i64 0] 34 (0, 0))) w7.heap.size (w7.heap.size + 1) #[.int .i64 fr.out, .int .i64 fr.cop, .int .i64 fr.cells, .slice cp fr.slots.length cc, .slice dp fr.saves.length dc, .int .i64 fr.link, .int .i64 fr.size, .int .i64 fr.in_] (by omega)).trans (Zaa HNc).2.1)
 have HNRc := Zac hnc
 clear hnc
 go_upto_region 7 with (first | (refine wpList_store_row rfl 32 _ _ rfl (w7.heap.size) #[.int .i64 fr.out, .int .i64 fr.cop, .int .i64 fr.cells, .slice cp fr.slots.length cc, .slice dp fr.saves.length dc, .int .i64 fr.link, .int .i64 fr.size, .int .i64 fr.in_] rfl rfl 32 _ ((Zaa HNc).1) (Tryz.infFrF.trans rfl) rfl (by simp [Value.oneCell']) ?_) | (refine wpList_store_row rfl 34 _ _ rfl (w7.heap.size + 1) #[.int .i64 fe, .int .i64 ff, .int .i64 fb, .int .i64 fa] rfl rfl 34 _ (Zaa HMc) (Tryz.infPfK.trans rfl) rfl (by simp [Value.oneCell']) ?_))
 generalize World.setRow (World.setRow (World.alloc (World.alloc w7 _) _) _ _) _ _ = V8 at HNRc ⊢
 obtain ⟨rac, rbc, hbc, hzc⟩ := Zaa HNRc
 clear HNRc HNc HMc
 have hBV8 : Below w6.heap.size w6 V8 := Zad (Zaa HB7) hbc hz7
 have HAO := Zac (frO_below (Zaa HOA) hbc)
 have HMO := Zac (frO_below (Zaa HMO6) hBV8)
 have hrm := (hBV8.block w3.heap.size (by omega)).trans (Zaa HRM6)
 have HW8 := Zac (Zad (Zaa HW6) hBV8 (by have := (Zaa HW6).size; omega))
 have x0 : V8.cell? ⟨w7.heap.size, 0, none⟩ = some (.int .i64 fr.out) := (Zab rac 0).trans rfl
 have x1 : V8.cell? ⟨w7.heap.size, 1, none⟩ = some (.int .i64 fr.cop) := (Zab rac 1).trans rfl
 have x2 : V8.cell? ⟨w7.heap.size, 2, none⟩ = some (.int .i64 fr.cells) := (Zab rac 2).trans rfl
 have x3 : V8.cell? ⟨w7.heap.size, 3, none⟩ = some (.slice cp fr.slots.length cc) := (Zab rac 3).trans rfl
 have x4 : V8.cell? ⟨w7.heap.size, 4, none⟩ = some (.slice dp fr.saves.length dc) := (Zab rac 4).trans rfl
 have x5 : V8.cell? ⟨w7.heap.size, 5, none⟩ = some (.int .i64 fr.link) := (Zab rac 5).trans rfl
 have x6 : V8.cell? ⟨w7.heap.size, 6, none⟩ = some (.int .i64 fr.size) := (Zab rac 6).trans rfl
 have x7 : V8.cell? ⟨w7.heap.size, 7, none⟩ = some (.int .i64 fr.in_) := (Zab rac 7).trans rfl
 have y0 : V8.cell? ⟨w3.heap.size, 0, none⟩ = some (.int .i64 fr.out) := (Zab hrm 0).trans rfl
 have y1 : V8.cell? ⟨w3.heap.size, 1, none⟩ = some (.int .i64 fr.cop) := (Zab hrm 1).trans rfl
 have y2 : V8.cell? ⟨w3.heap.size, 2, none⟩ = some (.int .i64 fr.cells) := (Zab hrm 2).trans rfl
 have y3 : V8.cell? ⟨w3.heap.size, 3, none⟩ = some (.slice mp fr.slots.length mc) := (Zab hrm 3).trans rfl
 have y4 : V8.cell? ⟨w3.heap.size, 4, none⟩ = some (.slice np fr.saves.length nc) := (Zab hrm 4).trans rfl
 have y5 : V8.cell? ⟨w3.heap.size, 5, none⟩ = some (.int .i64 fr.link) := (Zab hrm 5).trans rfl
 have y6 : V8.cell? ⟨w3.heap.size, 6, none⟩ = some (.int .i64 fr.size) := (Zab hrm 6).trans rfl
 have y7 : V8.cell? ⟨w3.heap.size, 7, none⟩ = some (.int .i64 fr.in_) := (Zab hrm 7).trans rfl
 have HFR := Zac (frames_c fr _ _ _ _ w6.heap.size V2.heap.size V8 (Zaa HAO).1 (Zaa HAO).2 (Zaa HMO).1 (Zaa HMO).2)
 clear hrm rac rbc hbc hBV8
 go_wp2_with fail
 clear x0 x1 x2 x3 x4 x5 x6 x7
 clear y0 y1 y2 y3 y4 y5 y6 y7
 refine (Zaa HFR).mono ?_
 rintro e w9 ⟨rfl, hb9⟩
 have HB9 := Zac (Zad (Zaa HW8) hb9 (by have := (Zaa HW8).size; omega))
 clear hb9
 go_wp2
 go_ret
 exact ⟨rfl, Zaa HB9⟩
end Go.Proofs.YtffemeicclhioaaGreatDoor
