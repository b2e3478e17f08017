/-
 Frames: prologueref.Frame. Own work of the verifier.
-/
import Derived.Test.YtffemeicclhioaaGreatDoorPk
import Derived.Test.YtffemeicclhioaaGreatDoorFrX
import Derived.Test.YtffemeicclhioaaGreatDoorCkY
import Derived.Test.YtffemeicclhioaaGreatDoorClI
namespace Go.Proofs.YtffemeicclhioaaGreatDoor
open Go.RowKit

set_option maxHeartbeats 1000000 in
theorem fine_f (w : World) : Calls Tryz.prog 15 #[] w fun e w' => e = .returned (flt 0 (-1) (-1) (-1)) ∧ Below w.heap.size w w' := by
 go_enter Tryz.func15, Tryz.ntmps15
 go_wp2
 go_returns
 exact ⟨rfl, by go_grown⟩
theorem frmN_big {T : TbE} {P : ProgE} {k : Nat} (h : 1024 < (frmF T P k).size) : frmN T P k = noFrm ∧ frmX T P k = ⟨7, k, -1, -1⟩ := by unfold frmN frmX; rw [if_pos h, if_pos h]; exact ⟨rfl, rfl⟩
theorem frmN_fit {T : TbE} {P : ProgE} {k : Nat} (h : ¬ 1024 < (frmF T P k).size) : frmN T P k = frmF T P k ∧ frmX T P k = ⟨0, -1, -1, -1⟩ := by unfold frmN frmX; rw [if_neg h, if_neg h]; exact ⟨rfl, rfl⟩
set_option maxHeartbeats 8000000 in
set_option maxRecDepth 100000 in
theorem rframe_c (T : TbE) (P : ProgE) (f : Int) (fv ev : Value) (A E : Nat → Array Value) (w : World) (hA : FrG0 w T P fv ev A E) :
 Calls Tryz.prog 5 #[.agg T.box, .agg #[fv, ev], .int .i64 f] w fun e w' => ∃ slv kv, e = .returned (.tuple #[.agg #[.int .i64 (frmL T P f).out, .int .i64 (frmL T P f).cop, .int .i64 (frmL T P f).cells, slv, kv, .int .i64 (frmL T P f).link, .int .i64 (frmL T P f).size, .int .i64 (frmL T P f).in_], flt (frmY T P f).e (frmY T P f).f (frmY T P f).b (frmY T P f).a]) ∧ FrO w' w.heap.size (frmL T P f) slv kv ∧ Below w.heap.size w w' := by
 obtain ⟨pf, cf, hfs⟩ := hA.p.fs.shape
 obtain ⟨pe, ce, hes⟩ := hA.p.es.shape
 subst hfs hes
 have hlf : P.funcs.length < 9223372036854775808 := by obtain ⟨_, _, _, _, h, _⟩ := hA.p.fs; exact h
 obtain ⟨r0, r1, r2, r3, hZ, hB⟩ := rows4g w (.cells T.box 25 (0, 0)) (.cells #[.slice pf P.funcs.length cf, .slice pe P.externs.length ce] 29 (0, 0)) (.cells #[.int .i64 0, .int .i64 0, .int .i64 0, .slice none 0 0, .slice none 0 0, .int .i64 0, .int .i64 0, .int .i64 0] 32 (0, 0)) (.cells #[.int .i64 0, .int .i64 0, .int .i64 0, .int .i64 0] 37 (0, 0))
 have HA := Zac hA
 have HCK := Zac (fun (V : World) (hV : Below w.heap.size w V) => show Calls Tryz.prog 11 #[.agg #[.int .i64 T.r, .int .i64 T.sp, .int .i64 T.lk, .int .i64 T.t0, .int .i64 T.t1, .slice T.pa T.ag.length T.ca, .slice T.pr T.rs.length T.cr, .slice T.ps T.ss.length T.cs, .int .i64 T.al, .int .i64 T.sh, .int .i64 T.br, .bool T.pairs], .agg #[.slice pf P.funcs.length cf, .slice pe P.externs.length ce]] V (fun e w' => e = .returned (flt (frmC T P).e (frmC T P).f (frmC T P).b (frmC T P).a) ∧ Below V.heap.size V w') from rcheck_c T.r T.sp T.lk T.t0 T.t1 _ _ _ T.al T.sh T.br T.pairs T.ag T.rs T.ss P _ _ A E V (tbO_tab (frG0_below hA hV).t) (frG0_below hA hV).p hA.nn hA.pl)
 have HR0 := Zac r0
 have HR1 := Zac r1
 have HR2 := Zac r2
 have HR3 := Zac r3
 have HB := Zac hB
 clear r0 r1 r2 r3 hB hA
 have hbx : T.box = #[.int .i64 T.r, .int .i64 T.sp, .int .i64 T.lk, .int .i64 T.t0, .int .i64 T.t1, .slice T.pa T.ag.length T.ca, .slice T.pr T.rs.length T.cr, .slice T.ps T.ss.length T.cs, .int .i64 T.al, .int .i64 T.sh, .int .i64 T.br, .bool T.pairs] := rfl
 rw [hbx] at HR0 HR1 HR2 HR3 HB hZ ⊢
 clear hbx
 obtain ⟨fc, hfc⟩ : ∃ fc, fc = frmC T P := ⟨_, rfl⟩
 rw [← hfc] at HCK
 have HFC0 := Zac hfc
 clear hfc
 obtain ⟨xe, xf, xb, xa⟩ := fc
 unfold flt at HCK
 simp only at HCK
 go_enter Tryz.func5, Tryz.ntmps5
 go_wp2_with fail
 generalize World.alloc (World.alloc (World.alloc (World.alloc w _) _) _) _ = W at HR0 HR1 HR2 HR3 HB hZ ⊢
 refine (Zaa HCK W (Zaa HB)).mono ?_
 rintro e w2 ⟨rfl, hb⟩
 have hz2 := hb.size
 have HB2 := Zac (Zad (Zaa HB) hb (by omega))
 have HD0 := Zac ((hb.block w.heap.size (by omega)).trans (Zaa HR0))
 have HD1 := Zac ((hb.block (w.heap.size + 1) (by omega)).trans (Zaa HR1))
 have HD2 := Zac ((hb.block (w.heap.size + 1 + 1) (by omega)).trans (Zaa HR2))
 have HD3 := Zac ((hb.block (w.heap.size + 1 + 1 + 1) (by omega)).trans (Zaa HR3))
 clear hb HCK HR0 HR1 HR2 HR3 HB
 have hal := al0 w2 (.cells #[.int .i64 0, .int .i64 0, .int .i64 0, .int .i64 0] 37 (0, 0))
 have HAL := Zac hal
 clear hal
 go_upto_region 2 with (refine wpList_store_row rfl 37 _ _ rfl (w2.heap.size) #[.int .i64 xe, .int .i64 xf, .int .i64 xb, .int .i64 xa] rfl rfl 37 _ ((Zaa HAL).1) (Tryz.infRFlt.trans rfl) rfl (by simp [Value.oneCell']) ?_)
 have hrl := setRow_heap _ _ _ #[.int .i64 xe, .int .i64 xf, .int .i64 xb, .int .i64 xa] _ _ (Zaa HAL).1
 have hbl := Zag (T := w2.heap.size) (cs := #[.int .i64 xe, .int .i64 xf, .int .i64 xb, .int .i64 xa]) (Zaa HAL).2.1 (Nat.le_refl _)
 have hlt := row_lt hrl
 clear HAL
 generalize World.setRow (World.alloc w2 _) _ _ = V2 at hrl hbl hlt ⊢
 have HRE := Zac hrl
 have HQ0 := Zac ((hbl.block w.heap.size (by omega)).trans (Zaa HD0))
 have HQ1 := Zac ((hbl.block (w.heap.size + 1) (by omega)).trans (Zaa HD1))
 have HQ2 := Zac ((hbl.block (w.heap.size + 1 + 1) (by omega)).trans (Zaa HD2))
 have HQ3 := Zac ((hbl.block (w.heap.size + 1 + 1 + 1) (by omega)).trans (Zaa HD3))
 have HB5 := Zac (Zad (Zaa HB2) hbl (by omega))
 have hTe : w.heap.size + 1 + 1 + 1 < w2.heap.size := by omega
 have x0 : V2.cell? ⟨w2.heap.size, 0, none⟩ = some (.int .i64 xe) := (Zab hrl 0).trans rfl
 clear hrl hbl HD0 HD1 HD2 HD3 HB2
 generalize w2.heap.size = Te at HRE hlt hTe x0 ⊢
 by_cases hxe : xe = 0
 ·
  subst hxe
  have hc : (frmC T P).e = 0 := by rw [← Zaa HFC0]
  have HC0 := Zac hc
  have HG := Zac (chk_good (show (chkB (tabT T) T.r (ownL T.sp T.lk T.t0 T.t1) P).e = 0 from hc))
  have p0 : V2.cell? ⟨w.heap.size + 1, 0, none⟩ = some (.slice pf P.funcs.length cf) := (Zab (Zaa HQ1) 0).trans rfl
  clear hc
  go_wp2_with fail
  clear x0 p0
  refine (rin_c f 0 _ _).mono ?_
  rintro e w3 ⟨rfl, h3⟩
  subst w3
  by_cases hf : 0 ≤ f ∧ f < P.funcs.length
  ·
   have hin : inB f 0 ((P.funcs.length : Int) - 1) = true := by unfold inB; exact decide_eq_true (by omega)
   rw [hin]
   clear hin
   obtain ⟨k0, hk⟩ : ∃ k : Nat, f = k := ⟨f.toNat, by omega⟩
   subst hk
   have hk0 : k0 < P.funcs.length := by omega
   have HFL := Zac (frm_in (Zaa HC0) hk0)
   have HC := Zac (show Calls Tryz.prog 14 #[.agg #[.int .i64 T.r, .int .i64 T.sp, .int .i64 T.lk, .int .i64 T.t0, .int .i64 T.t1, .slice T.pa T.ag.length T.ca, .slice T.pr T.rs.length T.cr, .slice T.ps T.ss.length T.cs, .int .i64 T.al, .int .i64 T.sh, .int .i64 T.br, .bool T.pairs], .agg #[.slice pf P.funcs.length cf, .slice pe P.externs.length ce], .int .i64 k0] V2 (fun e w' => ∃ slv kv, e = .returned (.agg #[.int .i64 (frmF T P k0).out, .int .i64 (frmF T P k0).cop, .int .i64 (frmF T P k0).cells, slv, kv, .int .i64 (frmF T P k0).link, .int .i64 (frmF T P k0).size, .int .i64 (frmF T P k0).in_]) ∧ FrO w' V2.heap.size (frmF T P k0) slv kv ∧ Below V2.heap.size V2 w') from
    rflay_c T P k0 _ _ A E V2 ((Zaa HA).t.below (Zaa HB5)) (Zaa HG).1 ((Zaa HA).p.below (Zaa HB5)) hk0 (callsOk_of (Zaa HG).2.1 (Zaa HG).2.2.1 (Zaa HG).2.2.2 k0 hk0) (fnOk_of (Zaa HG).1 ((Zaa HG).2.2.1 k0 hk0)) (Zaa HA).pl)
   have HNB := Zac (frmN_big (T := T) (P := P) (k := k0))
   have HNF := Zac (frmN_fit (T := T) (P := P) (k := k0))
   clear hf HG HA HC0 HFC0
   have t0 : V2.cell? ⟨w.heap.size, 0, none⟩ = some (.int .i64 T.r) := (Zab (Zaa HQ0) 0).trans rfl
   have t1 : V2.cell? ⟨w.heap.size, 1, none⟩ = some (.int .i64 T.sp) := (Zab (Zaa HQ0) 1).trans rfl
   have t2 : V2.cell? ⟨w.heap.size, 2, none⟩ = some (.int .i64 T.lk) := (Zab (Zaa HQ0) 2).trans rfl
   have t3 : V2.cell? ⟨w.heap.size, 3, none⟩ = some (.int .i64 T.t0) := (Zab (Zaa HQ0) 3).trans rfl
   have t4 : V2.cell? ⟨w.heap.size, 4, none⟩ = some (.int .i64 T.t1) := (Zab (Zaa HQ0) 4).trans rfl
   have t5 : V2.cell? ⟨w.heap.size, 5, none⟩ = some (.slice T.pa T.ag.length T.ca) := (Zab (Zaa HQ0) 5).trans rfl
   have t6 : V2.cell? ⟨w.heap.size, 6, none⟩ = some (.slice T.pr T.rs.length T.cr) := (Zab (Zaa HQ0) 6).trans rfl
   have t7 : V2.cell? ⟨w.heap.size, 7, none⟩ = some (.slice T.ps T.ss.length T.cs) := (Zab (Zaa HQ0) 7).trans rfl
   have t8 : V2.cell? ⟨w.heap.size, 8, none⟩ = some (.int .i64 T.al) := (Zab (Zaa HQ0) 8).trans rfl
   have t9 : V2.cell? ⟨w.heap.size, 9, none⟩ = some (.int .i64 T.sh) := (Zab (Zaa HQ0) 9).trans rfl
   have t10 : V2.cell? ⟨w.heap.size, 10, none⟩ = some (.int .i64 T.br) := (Zab (Zaa HQ0) 10).trans rfl
   have t11 : V2.cell? ⟨w.heap.size, 11, none⟩ = some (.bool T.pairs) := (Zab (Zaa HQ0) 11).trans rfl
   have p0 : V2.cell? ⟨w.heap.size + 1, 0, none⟩ = some (.slice pf P.funcs.length cf) := (Zab (Zaa HQ1) 0).trans rfl
   have p1 : V2.cell? ⟨w.heap.size + 1, 1, none⟩ = some (.slice pe P.externs.length ce) := (Zab (Zaa HQ1) 1).trans rfl
   go_wp2_with fail
   clear t0 t1 t2 t3 t4 t5 t6 t7 t8 t9 t10 t11
   clear p0 p1
   refine (Zaa HC).mono ?_
   rintro e w3 ⟨slv, kv, rfl, ho, hb3⟩
   obtain ⟨sp9, sc9, rfl⟩ := Zan ho.1
   obtain ⟨kp9, kc9, rfl⟩ := Zan ho.2
   have hz3 := hb3.size
   have HD2 := Zac ((hb3.block (w.heap.size + 1 + 1) (by omega)).trans (Zaa HQ2))
   have HD3 := Zac ((hb3.block (w.heap.size + 1 + 1 + 1) (by omega)).trans (Zaa HQ3))
   have HB3 := Zac (Zad (Zaa HB5) hb3 (by omega))
   have HO3 := Zac (frO_mono ho (show w.heap.size + 1 + 1 + 1 + 1 ≤ V2.heap.size by omega))
   clear ho hb3 HC HQ0 HQ1 HQ2 HQ3 HB5 HRE
   generalize frmF T P k0 = fr at HO3 HNB HNF ⊢
   have hal := al0 w3 (.cells #[.int .i64 0, .int .i64 0, .int .i64 0, .slice none 0 0, .slice none 0 0, .int .i64 0, .int .i64 0, .int .i64 0] 32 (0, 0))
   have HAL := Zac hal
   clear hal
   go_upto_region 7 with (refine wpList_store_row rfl 32 _ _ rfl (w3.heap.size) #[.int .i64 fr.out, .int .i64 fr.cop, .int .i64 fr.cells, .slice sp9 fr.slots.length sc9, .slice kp9 fr.saves.length kc9, .int .i64 fr.link, .int .i64 fr.size, .int .i64 fr.in_] rfl rfl 32 _ ((Zaa HAL).1) (Tryz.infFrF.trans rfl) rfl (by simp [Value.oneCell']) ?_)
   have hrl := setRow_heap _ _ _ #[.int .i64 fr.out, .int .i64 fr.cop, .int .i64 fr.cells, .slice sp9 fr.slots.length sc9, .slice kp9 fr.saves.length kc9, .int .i64 fr.link, .int .i64 fr.size, .int .i64 fr.in_] _ _ (Zaa HAL).1
   have hbl := Zag (T := w3.heap.size) (cs := #[.int .i64 fr.out, .int .i64 fr.cop, .int .i64 fr.cells, .slice sp9 fr.slots.length sc9, .slice kp9 fr.saves.length kc9, .int .i64 fr.link, .int .i64 fr.size, .int .i64 fr.in_]) (Zaa HAL).2.1 (Nat.le_refl _)
   have hlt3 := row_lt hrl
   clear HAL
   generalize World.setRow (World.alloc w3 _) _ _ = U at hrl hbl hlt3 ⊢
   have HRL := Zac hrl
   have HE2 := Zac ((hbl.block (w.heap.size + 1 + 1) (by omega)).trans (Zaa HD2))
   have HE3 := Zac ((hbl.block (w.heap.size + 1 + 1 + 1) (by omega)).trans (Zaa HD3))
   have HB5 := Zac (Zad (Zaa HB3) hbl (by omega))
   have HO5 := Zac (frO_below (Zaa HO3) hbl)
   have e6 : U.cell? ⟨w3.heap.size, 6, none⟩ = some (.int .i64 fr.size) := (Zab hrl 6).trans rfl
   have hTl : w.heap.size + 1 + 1 + 1 < w3.heap.size := by omega
   clear hrl hbl HD2 HD3 HB3 HO3
   generalize w3.heap.size = Tl at HRL hlt3 hTl e6 ⊢
   by_cases hsz : 1024 < fr.size
   ·
    have HFF := Zac (show frmL T P k0 = noFrm ∧ frmY T P k0 = ⟨7, k0, -1, -1⟩ from ⟨(Zaa HFL).1.trans (Zaa HNB hsz).1, (Zaa HFL).2.trans (Zaa HNB hsz).2⟩)
    have HS4 := Zac ((setRow_other U (w.heap.size + 1 + 1) (w.heap.size + 1 + 1 + 1) #[.int .i64 0, .int .i64 0, .int .i64 0, .slice none 0 0, .slice none 0 0, .int .i64 0, .int .i64 0, .int .i64 0] (by omega)).trans (Zaa HE3))
    have HZ2 := Zac ((setRow_other (U.setRow (w.heap.size + 1 + 1) #[.int .i64 0, .int .i64 0, .int .i64 0, .slice none 0 0, .slice none 0 0, .int .i64 0, .int .i64 0, .int .i64 0]) (w.heap.size + 1 + 1 + 1) (w.heap.size + 1 + 1) #[.int .i64 7, .int .i64 k0, .int .i64 (-1), .int .i64 (-1)] (by omega)).trans (setRow_heap _ _ _ #[.int .i64 0, .int .i64 0, .int .i64 0, .slice none 0 0, .slice none 0 0, .int .i64 0, .int .i64 0, .int .i64 0] _ _ (Zaa HE2)))
    have HZ3 := Zac (setRow_heap _ _ _ #[.int .i64 7, .int .i64 k0, .int .i64 (-1), .int .i64 (-1)] _ _ (Zaa HS4))
    go_wp2_with (first | (refine wpList_store_row rfl 32 _ _ rfl (w.heap.size + 1 + 1) #[.int .i64 0, .int .i64 0, .int .i64 0, .slice none 0 0, .slice none 0 0, .int .i64 0, .int .i64 0, .int .i64 0] rfl rfl 32 _ (Zaa HE2) (Tryz.infFrF.trans rfl) rfl (by simp [Value.oneCell']) ?_) | (refine wpList_store_row rfl 37 _ _ rfl (w.heap.size + 1 + 1 + 1) #[.int .i64 7, .int .i64 k0, .int .i64 (-1), .int .i64 (-1)] rfl rfl 37 _ (Zaa HS4) (Tryz.infRFlt.trans rfl) rfl (by simp [Value.oneCell']) ?_))
    refine bodyPost_ret (results_cc (fn := Tryz.f5) (p := 6) (q := 7) (px := 32) (uy := 37) rfl _ _ (w.heap.size + 1 + 1) 32 #[.int .i64 0, .int .i64 0, .int .i64 0, .slice none 0 0, .slice none 0 0, .int .i64 0, .int .i64 0, .int .i64 0] (0, 0) _ (w.heap.size + 1 + 1 + 1) 37 #[.int .i64 7, .int .i64 k0, .int .i64 (-1), .int .i64 (-1)] (0, 0) _ rfl (Zaa HZ2) Tryz.underlying32 rfl (Tryz.infFrF.trans rfl) rfl (Zaa HZ3) Tryz.underlying37 rfl (Tryz.infRFlt.trans rfl)) rfl ?_
    rw [(Zaa HFF).1, (Zaa HFF).2]
    exact ⟨_, _, rfl, frO_none _ _, Zag (Zag (Zaa HB5) (by omega)) (by omega)⟩
   ·
    have HFF := Zac (show frmL T P k0 = fr ∧ frmY T P k0 = ⟨0, -1, -1, -1⟩ from ⟨(Zaa HFL).1.trans (Zaa HNF (by omega)).1, (Zaa HFL).2.trans (Zaa HNF (by omega)).2⟩)
    have HFC := Zac (fine_f U.drew)
    go_upto_region 9 with fail
    clear e6
    refine wp_region_held_drew (S := fun V => V.heap[Tl]? = some (.cells #[.int .i64 fr.out, .int .i64 fr.cop, .int .i64 fr.cells, .slice sp9 fr.slots.length sc9, .slice kp9 fr.saves.length kc9, .int .i64 fr.link, .int .i64 fr.size, .int .i64 fr.in_] 32 (0, 0))) (by kernel_rfl) (Zaa HRL) (fun hHeld => ?_)
    refine tT 0 ?v0 rfl (by kernel_rfl) (fun _ _ _ h => h) (by rfl) ?hy0 (by assumption) ?_
    case hy0 =>
     intro V hV
     have c0 : V.cell? ⟨Tl, 0, none⟩ = some (.int .i64 fr.out) := (Zab hV 0).trans rfl
     have c1 : V.cell? ⟨Tl, 1, none⟩ = some (.int .i64 fr.cop) := (Zab hV 1).trans rfl
     have c2 : V.cell? ⟨Tl, 2, none⟩ = some (.int .i64 fr.cells) := (Zab hV 2).trans rfl
     have c3 : V.cell? ⟨Tl, 3, none⟩ = some (.slice sp9 fr.slots.length sc9) := (Zab hV 3).trans rfl
     have c4 : V.cell? ⟨Tl, 4, none⟩ = some (.slice kp9 fr.saves.length kc9) := (Zab hV 4).trans rfl
     have c5 : V.cell? ⟨Tl, 5, none⟩ = some (.int .i64 fr.link) := (Zab hV 5).trans rfl
     have c6 : V.cell? ⟨Tl, 6, none⟩ = some (.int .i64 fr.size) := (Zab hV 6).trans rfl
     have c7 : V.cell? ⟨Tl, 7, none⟩ = some (.int .i64 fr.in_) := (Zab hV 7).trans rfl
     go_simp
     all_goals (with_reducible rfl)
    simp only [Act.put, zA, zB, zC, zD, zE]
    refine wpAnyH_ready (rs := [1]) (by kernel_rfl) (by simp) ?_
    refine AllReadyH.cons rfl (fun K hK => ?_) AllReadyH.nil
    go_simp
    refine (Zaa HFC).mono ?_
    rintro e w5 ⟨rfl, hb5⟩
    have HS2 := Zac ((hb5.block (w.heap.size + 1 + 1) (by show w.heap.size + 1 + 1 < U.heap.size; omega)).trans (Zaa HE2))
    have HS3 := Zac ((hb5.block (w.heap.size + 1 + 1 + 1) (by show w.heap.size + 1 + 1 + 1 < U.heap.size; omega)).trans (Zaa HE3))
    have HSL := Zac ((hb5.block Tl (by show Tl < U.heap.size; omega)).trans (Zaa HRL))
    have HBU := Zac (Zad (Below.refl U.heap.size U).drew hb5 (Nat.le_refl _))
    have hz5 := hb5.size
    clear hb5
    unfold flt
    go_wp2_with fail
    refine hK.out _ _ (Zaa HSL) (fun hHeld2 => ?_)
    clear hK K
    try simp only [Act.put, zA, zB, zC, zD, zE, zF]
    refine wpAnyH_ready (rs := [2]) (by kernel_rfl) (by simp) ?_
    refine AllReadyH.cons rfl (fun K hK => ?_) AllReadyH.nil
    rw [if_pos (by rfl)]
    refine wp_store_row 32 _ _ rfl (w.heap.size + 1 + 1) #[.int .i64 fr.out, .int .i64 fr.cop, .int .i64 fr.cells, .slice sp9 fr.slots.length sc9, .slice kp9 fr.saves.length kc9, .int .i64 fr.link, .int .i64 fr.size, .int .i64 fr.in_] rfl rfl 32 _ (Zaa HS2) (Tryz.infFrF.trans rfl) rfl (by simp [Value.oneCell']) ?_
    have HS4 := Zac ((setRow_other w5 (w.heap.size + 1 + 1) (w.heap.size + 1 + 1 + 1) #[.int .i64 fr.out, .int .i64 fr.cop, .int .i64 fr.cells, .slice sp9 fr.slots.length sc9, .slice kp9 fr.saves.length kc9, .int .i64 fr.link, .int .i64 fr.size, .int .i64 fr.in_] (by omega)).trans (Zaa HS3))
    have HSM := Zac ((setRow_other w5 (w.heap.size + 1 + 1) Tl #[.int .i64 fr.out, .int .i64 fr.cop, .int .i64 fr.cells, .slice sp9 fr.slots.length sc9, .slice kp9 fr.saves.length kc9, .int .i64 fr.link, .int .i64 fr.size, .int .i64 fr.in_] (by omega)).trans (Zaa HSL))
    refine hK.out _ _ (Zaa HSM) (fun hHeld2 => ?_)
    clear hK K
    try simp only [Act.put]
    refine wpAnyH_ready (rs := [3]) (by kernel_rfl) (by simp) ?_
    refine AllReadyH.cons rfl (fun K hK => ?_) AllReadyH.nil
    rw [if_pos (by rfl)]
    refine wp_store_row 37 _ _ rfl (w.heap.size + 1 + 1 + 1) #[.int .i64 0, .int .i64 (-1), .int .i64 (-1), .int .i64 (-1)] rfl rfl 37 _ (Zaa HS4) (Tryz.infRFlt.trans rfl) rfl (by simp [Value.oneCell']) ?_
    refine hK.out _ _ ((setRow_other _ (w.heap.size + 1 + 1 + 1) Tl _ (by omega)).trans (Zaa HSM)) (fun hHeld2 => ?_)
    clear hK K
    try simp only [Act.put]
    refine wpAnyH_done (by kernel_rfl) ?_ _
    have HZ2 := Zac ((setRow_other (w5.setRow (w.heap.size + 1 + 1) #[.int .i64 fr.out, .int .i64 fr.cop, .int .i64 fr.cells, .slice sp9 fr.slots.length sc9, .slice kp9 fr.saves.length kc9, .int .i64 fr.link, .int .i64 fr.size, .int .i64 fr.in_]) (w.heap.size + 1 + 1 + 1) (w.heap.size + 1 + 1) #[.int .i64 0, .int .i64 (-1), .int .i64 (-1), .int .i64 (-1)] (by omega)).trans (setRow_heap _ _ _ #[.int .i64 fr.out, .int .i64 fr.cop, .int .i64 fr.cells, .slice sp9 fr.slots.length sc9, .slice kp9 fr.saves.length kc9, .int .i64 fr.link, .int .i64 fr.size, .int .i64 fr.in_] _ _ (Zaa HS2)))
    have HZ3 := Zac (setRow_heap _ _ _ #[.int .i64 0, .int .i64 (-1), .int .i64 (-1), .int .i64 (-1)] _ _ (Zaa HS4))
    go_wp2
    refine bodyPost_ret (results_cc (fn := Tryz.f5) (p := 6) (q := 7) (px := 32) (uy := 37) rfl _ _ (w.heap.size + 1 + 1) 32 #[.int .i64 fr.out, .int .i64 fr.cop, .int .i64 fr.cells, .slice sp9 fr.slots.length sc9, .slice kp9 fr.saves.length kc9, .int .i64 fr.link, .int .i64 fr.size, .int .i64 fr.in_] (0, 0) _ (w.heap.size + 1 + 1 + 1) 37 #[.int .i64 0, .int .i64 (-1), .int .i64 (-1), .int .i64 (-1)] (0, 0) _ rfl (Zaa HZ2) Tryz.underlying32 rfl (Tryz.infFrF.trans rfl) rfl (Zaa HZ3) Tryz.underlying37 rfl (Tryz.infRFlt.trans rfl)) rfl ?_
    have h6 := Zad (Zaa HB5) (Zaa HBU) (by omega)
    rw [(Zaa HFF).1, (Zaa HFF).2]
    exact ⟨_, _, rfl, frO_mono (frO_set (frO_set (frO_below (Zaa HO5) (Zaa HBU)) (by omega) _) (by omega) _) (by omega), Zag (Zag h6 (by omega)) (by omega)⟩
  ·
   have hin : inB f 0 ((P.funcs.length : Int) - 1) = false := by unfold inB; exact decide_eq_false (by omega)
   have HFF := Zac (frm_out (Zaa HC0) hf)
   rw [hin]
   clear hin hf
   go_wp2_with fail
   refine (only_l 6 V2).mono ?_
   rintro e w3 ⟨rfl, hb3⟩
   have hz3 := hb3.size
   have HD2 := Zac ((hb3.block (w.heap.size + 1 + 1) (by omega)).trans (Zaa HQ2))
   have HD3 := Zac ((hb3.block (w.heap.size + 1 + 1 + 1) (by omega)).trans (Zaa HQ3))
   have HB3 := Zac (Zad (Zaa HB5) hb3 (by omega))
   clear hb3
   unfold flt
   have HS4 := Zac ((setRow_other w3 (w.heap.size + 1 + 1) (w.heap.size + 1 + 1 + 1) #[.int .i64 0, .int .i64 0, .int .i64 0, .slice none 0 0, .slice none 0 0, .int .i64 0, .int .i64 0, .int .i64 0] (by omega)).trans (Zaa HD3))
   have HZ2 := Zac ((setRow_other (w3.setRow (w.heap.size + 1 + 1) #[.int .i64 0, .int .i64 0, .int .i64 0, .slice none 0 0, .slice none 0 0, .int .i64 0, .int .i64 0, .int .i64 0]) (w.heap.size + 1 + 1 + 1) (w.heap.size + 1 + 1) #[.int .i64 6, .int .i64 (-1), .int .i64 (-1), .int .i64 (-1)] (by omega)).trans (setRow_heap _ _ _ #[.int .i64 0, .int .i64 0, .int .i64 0, .slice none 0 0, .slice none 0 0, .int .i64 0, .int .i64 0, .int .i64 0] _ _ (Zaa HD2)))
   have HZ3 := Zac (setRow_heap _ _ _ #[.int .i64 6, .int .i64 (-1), .int .i64 (-1), .int .i64 (-1)] _ _ (Zaa HS4))
   go_wp2_with (first | (refine wpList_store_row rfl 32 _ _ rfl (w.heap.size + 1 + 1) #[.int .i64 0, .int .i64 0, .int .i64 0, .slice none 0 0, .slice none 0 0, .int .i64 0, .int .i64 0, .int .i64 0] rfl rfl 32 _ (Zaa HD2) (Tryz.infFrF.trans rfl) rfl (by simp [Value.oneCell']) ?_) | (refine wpList_store_row rfl 37 _ _ rfl (w.heap.size + 1 + 1 + 1) #[.int .i64 6, .int .i64 (-1), .int .i64 (-1), .int .i64 (-1)] rfl rfl 37 _ (Zaa HS4) (Tryz.infRFlt.trans rfl) rfl (by simp [Value.oneCell']) ?_))
   refine bodyPost_ret (results_cc (fn := Tryz.f5) (p := 6) (q := 7) (px := 32) (uy := 37) rfl _ _ (w.heap.size + 1 + 1) 32 #[.int .i64 0, .int .i64 0, .int .i64 0, .slice none 0 0, .slice none 0 0, .int .i64 0, .int .i64 0, .int .i64 0] (0, 0) _ (w.heap.size + 1 + 1 + 1) 37 #[.int .i64 6, .int .i64 (-1), .int .i64 (-1), .int .i64 (-1)] (0, 0) _ rfl (Zaa HZ2) Tryz.underlying32 rfl (Tryz.infFrF.trans rfl) rfl (Zaa HZ3) Tryz.underlying37 rfl (Tryz.infRFlt.trans rfl)) rfl ?_
   rw [(Zaa HFF).1, (Zaa HFF).2]
   exact ⟨_, _, rfl, frO_none _ _, Zag (Zag (Zaa HB3) (by omega)) (by omega)⟩
 ·
  have HFF := Zac (frm_bad (T := T) (P := P) (f := f) (by rw [← Zaa HFC0]; exact hxe))
  have zx : (xe != 0) = true := by simpa using hxe
  clear hxe
  go_upto_region 3 with fail
  clear x0
  refine wp_region_held_drew (S := fun V => V.heap[Te]? = some (.cells #[.int .i64 xe, .int .i64 xf, .int .i64 xb, .int .i64 xa] 37 (0, 0))) (by kernel_rfl) (Zaa HRE) (fun hHeld => ?_)
  refine tT 0 ?vq0 rfl (by kernel_rfl) (fun _ _ _ h => h) (by rfl) ?hyq0 (by assumption) ?_
  case hyq0 =>
   intro V hV
   go_simp
   all_goals (with_reducible rfl)
  simp only [Act.put, zA, zB, zC, zD, zE]
  refine tT 1 ?vq1 rfl (by kernel_rfl) (fun _ _ _ h => h) (by rfl) ?hyq1 (by assumption) ?_
  case hyq1 =>
   intro V hV
   have c0 : V.cell? ⟨Te, 0, none⟩ = some (.int .i64 xe) := (Zab hV 0).trans rfl
   have c1 : V.cell? ⟨Te, 1, none⟩ = some (.int .i64 xf) := (Zab hV 1).trans rfl
   have c2 : V.cell? ⟨Te, 2, none⟩ = some (.int .i64 xb) := (Zab hV 2).trans rfl
   have c3 : V.cell? ⟨Te, 3, none⟩ = some (.int .i64 xa) := (Zab hV 3).trans rfl
   go_simp
   all_goals (with_reducible rfl)
  simp only [Act.put, zA, zB, zC, zD, zE, zF]
  refine wpAnyH_ready (rs := [2]) (by kernel_rfl) (by simp) ?_
  refine AllReadyH.cons rfl (fun K hK => ?_) AllReadyH.nil
  rw [if_pos (by rfl)]
  refine wp_store_row 32 _ _ rfl (w.heap.size + 1 + 1) #[.int .i64 0, .int .i64 0, .int .i64 0, .slice none 0 0, .slice none 0 0, .int .i64 0, .int .i64 0, .int .i64 0] rfl rfl 32 _ (Zaa HQ2) (Tryz.infFrF.trans rfl) rfl (by simp [Value.oneCell']) ?_
  have HS4 := Zac ((setRow_other V2.drew (w.heap.size + 1 + 1) (w.heap.size + 1 + 1 + 1) #[.int .i64 0, .int .i64 0, .int .i64 0, .slice none 0 0, .slice none 0 0, .int .i64 0, .int .i64 0, .int .i64 0] (by omega)).trans (Zaa HQ3))
  have HSM := Zac ((setRow_other V2.drew (w.heap.size + 1 + 1) Te #[.int .i64 0, .int .i64 0, .int .i64 0, .slice none 0 0, .slice none 0 0, .int .i64 0, .int .i64 0, .int .i64 0] (by omega)).trans (Zaa HRE))
  refine hK.out _ _ (Zaa HSM) (fun hHeld2 => ?_)
  clear hK K
  try simp only [Act.put]
  refine wpAnyH_ready (rs := [3]) (by kernel_rfl) (by simp) ?_
  refine AllReadyH.cons rfl (fun K hK => ?_) AllReadyH.nil
  rw [if_pos (by rfl)]
  refine wp_store_row 37 _ _ rfl (w.heap.size + 1 + 1 + 1) #[.int .i64 xe, .int .i64 xf, .int .i64 xb, .int .i64 xa] rfl rfl 37 _ (Zaa HS4) (Tryz.infRFlt.trans rfl) rfl (by simp [Value.oneCell']) ?_
  refine hK.out _ _ ((setRow_other _ (w.heap.size + 1 + 1 + 1) Te _ (by omega)).trans (Zaa HSM)) (fun hHeld2 => ?_)
  clear hK K
  try simp only [Act.put]
  refine wpAnyH_done (by kernel_rfl) ?_ _
  have HZ2 := Zac ((setRow_other (V2.drew.setRow (w.heap.size + 1 + 1) #[.int .i64 0, .int .i64 0, .int .i64 0, .slice none 0 0, .slice none 0 0, .int .i64 0, .int .i64 0, .int .i64 0]) (w.heap.size + 1 + 1 + 1) (w.heap.size + 1 + 1) #[.int .i64 xe, .int .i64 xf, .int .i64 xb, .int .i64 xa] (by omega)).trans (setRow_heap _ _ _ #[.int .i64 0, .int .i64 0, .int .i64 0, .slice none 0 0, .slice none 0 0, .int .i64 0, .int .i64 0, .int .i64 0] _ _ (show V2.drew.heap[w.heap.size + 1 + 1]? = _ from Zaa HQ2)))
  have HZ3 := Zac (setRow_heap _ _ _ #[.int .i64 xe, .int .i64 xf, .int .i64 xb, .int .i64 xa] _ _ (Zaa HS4))
  go_wp2
  refine bodyPost_ret (results_cc (fn := Tryz.f5) (p := 6) (q := 7) (px := 32) (uy := 37) rfl _ _ (w.heap.size + 1 + 1) 32 #[.int .i64 0, .int .i64 0, .int .i64 0, .slice none 0 0, .slice none 0 0, .int .i64 0, .int .i64 0, .int .i64 0] (0, 0) _ (w.heap.size + 1 + 1 + 1) 37 #[.int .i64 xe, .int .i64 xf, .int .i64 xb, .int .i64 xa] (0, 0) _ rfl (Zaa HZ2) Tryz.underlying32 rfl (Tryz.infFrF.trans rfl) rfl (Zaa HZ3) Tryz.underlying37 rfl (Tryz.infRFlt.trans rfl)) rfl ?_
  rw [(Zaa HFF).1, (Zaa HFF).2, ← Zaa HFC0]
  exact ⟨_, _, rfl, frO_none _ _, Zag (Zag (Zaa HB5).drew (by omega)) (by omega)⟩
end Go.Proofs.YtffemeicclhioaaGreatDoor
