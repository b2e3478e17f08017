/-
 Layouts of calls: a parameter's places by the reference. Own work of the verifier.
-/
import Derived.Test.YtffemeicclhioaaGreatDoorJ20
import Derived.Deep.RegionLaw
import Derived.WalkSmall
namespace Go.Proofs.YtffemeicclhioaaGreatDoor
open Go.RowKit

set_option maxHeartbeats 8000000 in
set_option maxRecDepth 100000 in
theorem rlInT (T : TbE) (w0 u : World) (b0 Ta N u1 : Nat) (c AT PP : Int) (av : Value) (bref : Bool) (Q0 : Exit → Act → World → Prop) (s0 s1 s3 s4 s5 s8 s9 s10 s15 s16 s17 s18 s19 s20 s21 s22 s23 s24 s25 s26 s27 s28 s29 s30 s31 s32 s33 s34 s35 s36 s37 s38 s39 s40 s41 s42 s43 s44 s45 s46 s47 s48 s49 s50 s51 s52 s53 s54 s55 s56 s57 s58 s59 s60 s61 s62 s63 s64 s65 s66 s67 s68 s69 s70 s71 s72 s73 s74 s75 s76 s77 s78 s79 s80 s81 s82 s83 s84 s85 s86 s87 s88 s89 s90 s91 s92 s93 s94 s95 s96 s97 s98 s99 s100 s101 s102 s103 s104 s105 s106 s107 s108 s109 s110 s111 s112 s113 s114 s115 s116 s117 s118 s119 s120 s121 s122 s123 s124 s125 s126 s127 s128 s129 s130 s131 s132 s133 s134 s135 s136 s137 s138 s139 s140 s141 s142 s143 s144 s145 s146 : Value) (hb : b0 + 3 < Ta) (hN : N ≤ 8) (hu : u1 ≤ 1000) (_hc0 : 0 ≤ c) (_hc1 : c ≤ 100000) (hL : T.ag.length ≤ 1000)
 (hR0 : w0.heap[b0]? = some (.cells T.box 25 (0, 0))) (hT : RsB w0 b0 (.slice T.pa T.ag.length T.ca) T.ag) (hJ : RlJ w0 b0 Ta av (.slice none 0 0) bref AT PP [] u) (hrg : u1 + N ≤ T.ag.length)
 (hexit : ∀ (w' : World) (pv : Value), RlJ w0 b0 Ta av pv bref AT PP ((List.range N).map (plS T.ag true u1 c)) w' → ∀ (u14 u67 u68 u69 u70 u71 u72 u73 u74 u75 u76 u77 u78 u79 u80 u81 u82 u83 u84 u85 u86 u87 u88 u89 u90 u91 u92 u93 u94 : Value), Q0 (.exit 2) ⟨List.toArray (s0 :: s1 :: .pointer (some ⟨b0, 0, none⟩) :: s3 :: s4 :: s5 :: .int .i64 u1 :: .int .i64 c :: s8 :: s9 :: s10 :: .int .i64 N :: .pointer (some ⟨Ta, 0, none⟩) :: .bool true :: u14 :: s15 :: s16 :: s17 :: s18 :: s19 :: s20 :: s21 :: s22 :: s23 :: s24 :: s25 :: s26 :: s27 :: s28 :: s29 :: s30 :: s31 :: s32 :: s33 :: s34 :: s35 :: s36 :: s37 :: s38 :: s39 :: s40 :: s41 :: s42 :: s43 :: s44 :: s45 :: s46 :: s47 :: s48 :: s49 :: s50 :: s51 :: s52 :: s53 :: s54 :: s55 :: s56 :: s57 :: s58 :: s59 :: s60 :: s61 :: s62 :: s63 :: s64 :: s65 :: s66 :: u67 :: u68 :: u69 :: u70 :: u71 :: u72 :: u73 :: u74 :: u75 :: u76 :: u77 :: u78 :: u79 :: u80 :: u81 :: u82 :: u83 :: u84 :: u85 :: u86 :: u87 :: u88 :: u89 :: u90 :: u91 :: u92 :: u93 :: u94 :: s95 :: s96 :: s97 :: s98 :: s99 :: s100 :: s101 :: s102 :: s103 :: s104 :: s105 :: s106 :: s107 :: s108 :: s109 :: s110 :: s111 :: s112 :: s113 :: s114 :: s115 :: s116 :: s117 :: s118 :: s119 :: s120 :: s121 :: s122 :: s123 :: s124 :: s125 :: s126 :: s127 :: s128 :: s129 :: s130 :: s131 :: s132 :: s133 :: s134 :: s135 :: s136 :: s137 :: s138 :: s139 :: s140 :: s141 :: s142 :: s143 :: s144 :: s145 :: s146 :: []), []⟩ w') :
 Code.wp Tryz.prog (layLoop Tryz.f26 1) Q0 ⟨List.toArray (s0 :: s1 :: .pointer (some ⟨b0, 0, none⟩) :: s3 :: s4 :: s5 :: .int .i64 u1 :: .int .i64 c :: s8 :: s9 :: s10 :: .int .i64 N :: .pointer (some ⟨Ta, 0, none⟩) :: .bool true :: .int .i64 0 :: s15 :: s16 :: s17 :: s18 :: s19 :: s20 :: s21 :: s22 :: s23 :: s24 :: s25 :: s26 :: s27 :: s28 :: s29 :: s30 :: s31 :: s32 :: s33 :: s34 :: s35 :: s36 :: s37 :: s38 :: s39 :: s40 :: s41 :: s42 :: s43 :: s44 :: s45 :: s46 :: s47 :: s48 :: s49 :: s50 :: s51 :: s52 :: s53 :: s54 :: s55 :: s56 :: s57 :: s58 :: s59 :: s60 :: s61 :: s62 :: s63 :: s64 :: s65 :: s66 :: s67 :: s68 :: s69 :: s70 :: s71 :: s72 :: s73 :: s74 :: s75 :: s76 :: s77 :: s78 :: s79 :: s80 :: s81 :: s82 :: s83 :: s84 :: s85 :: s86 :: s87 :: s88 :: s89 :: s90 :: s91 :: s92 :: s93 :: s94 :: s95 :: s96 :: s97 :: s98 :: s99 :: s100 :: s101 :: s102 :: s103 :: s104 :: s105 :: s106 :: s107 :: s108 :: s109 :: s110 :: s111 :: s112 :: s113 :: s114 :: s115 :: s116 :: s117 :: s118 :: s119 :: s120 :: s121 :: s122 :: s123 :: s124 :: s125 :: s126 :: s127 :: s128 :: s129 :: s130 :: s131 :: s132 :: s133 :: s134 :: s135 :: s136 :: s137 :: s138 :: s139 :: s140 :: s141 :: s142 :: s143 :: s144 :: s145 :: s146 :: []), []⟩ u := by
 obtain ⟨tp, htp, hq0, hq1, hq2⟩ := info_K Tryz.infoPl
 have HJ := Zac hJ
 have HT := Zac hT
 have HR0 := Zac hR0
 have HEX := Zac hexit
 clear hJ hT hR0 hexit
 refine onlyX_wp (id := 2) ?_
 conv => arg 2; whnf
 go_loopw [7, 14] (fun sa si w' => ∃ (i : Nat) (pv : Value), sa = .int .i64 c ∧ si = .int .i64 i ∧ i ≤ N ∧ RlJ w0 b0 Ta av pv bref AT PP ((List.range i).map (plS T.ag true u1 c)) w') (fun _ si _ => N - (intOf si).toNat)
 case atStart => exact ⟨0, _, rfl, rfl, by omega, Zaa HJ⟩
 case round =>
  obtain ⟨i, pv, rfl, rfl, hi, hJ⟩ := hrel
  by_cases hi2 : i < N
  ·
   clear HEX HJ
   obtain ⟨qp, qc, hpv⟩ := plo_form hJ.pl
   rw [map_len] at hpv
   subst hpv
   obtain ⟨sa, oa, hpa, hsa, hca⟩ := (Zaa HT).at (k := u1 + i) (by omega)
   have ca := hca (u1 + i) (by omega)
   have cw2 : wr.cell? ⟨sa, oa + (u1 + i), none⟩ = some (.int .i64 (T.ag.getD (u1 + i) 0)) := (World.cell?_of_block (show wr.heap[sa]? = w0.heap[sa]? from hJ.oth sa (by omega) (by omega))).trans ca
   have hrT := (hJ.oth b0 (by omega) (by omega)).trans (Zaa HR0)
   have t5 : wr.cell? ⟨b0, 5, none⟩ = some (.slice T.pa T.ag.length T.ca) := (Zab hrT 5).trans rfl
   rw [hpa] at t5
   have hwrp : IntKind.i64.wrap ((u1 : Int) + (i : Int)) = ((u1 + i : Nat) : Int) := by rw [IntKind.wrap_of_boundsK (by omega) (by omega)]; omega
   have hid0 : 0 ≤ (u1 : Int) + (i : Int) := by omega
   have hid1 : (u1 : Int) + (i : Int) < (T.ag.length : Int) := by omega
   have hid2 : ((u1 : Int) + (i : Int)).toNat = u1 + i := by omega
   have a0 := (Zab hJ.arow 0).trans rfl
   have a0x := fun X : Obj => (row_al hJ.arow 0 X).trans rfl
   have HJ2 := Zac hJ
   have HR7 := Zac (fun w7 (hgr : (wr.alloc (.cells #[.int .i64 (T.ag.getD (u1 + i) 0), .int .i64 0] 119 (0, 0))).grownBy w7 (Value.slice qp i qc).ownBlock) => (hgr.block Ta (by have := hJ.size; simp; omega) (by intro e; have := (World.ownsRow.lt hJ.pl Ta e.symm).1; omega)).trans (((al0 wr (.cells #[.int .i64 (T.ag.getD (u1 + i) 0), .int .i64 0] 119 (0, 0))).2.1.block Ta hJ.size).trans hJ.arow))
   have HPX := Zac (plS_t T.ag u1 c i)
   have HOWP := Zac (show wr.ownsRow (Ta + 1) 119 2 (.slice qp i qc) i (plC ((List.range i).map (plS T.ag true u1 c))) by have h := hJ.pl; unfold PlO at h; rw [map_len] at h; exact h)
   have hwz := hJ.size
   clear hJ hca ca hrT hpa
   generalize T.ag.getD (u1 + i) 0 = x at cw2 HPX HR7
   go_wp2_with fail
   go_region_law (first | (refine stepA_l rfl (.tmp 74) (.tmp 83) 83 rfl (Ta + 1) 119 tp _ 2 16 Tryz.underlying83 htp hq0 hq1 hq2 rfl (by decide) (.slice qp i qc) i (plC ((List.range i).map (plS T.ag true u1 c))) (by simp [Act.eval]) (World.ownsRow.alloc (w := wr.drew) (Zaa HOWP) _) ⟨wr.heap.size, 0, none⟩ 1 1 [.int .i64 x, .int .i64 0] (by simp [Act.eval]) rfl (by intro j u hj; match j, hj with | 0, hj => (simp at hj; subst hj; simp [Addr.add]) | 1, hj => (simp at hj; subst hj; simp [Addr.add])) (by intro u hu; simp at hu; rcases hu with rfl | rfl <;> rfl) (by unfold maxLen; omega) (by omega) (by simp; omega) ?_; intro v7 w7 hown7 hgr7; have hJ7 := (Zaa HJ2).next (x := x) (y := 0) (v7 := v7) (w7 := w7) hb (gb_undrew hgr7) (by rw [map_len]; exact hown7); have hr7 := Zaa HR7 w7 (gb_undrew hgr7); have j0 := (Zab hr7 0).trans rfl; have g0 := frozen_of_row _ _ 0 _ _ hr7; obtain ⟨gg7, cc7, rfl⟩ := own_sliceL hown7; have HJ7 := Zac hJ7; clear hown7 hgr7 hr7 hJ7))
   all_goals (
    have HRL := Zac (show RlJ w0 b0 Ta av (.slice (some ⟨gg7, 0, none⟩) (i + 1) cc7) bref AT PP ((List.range (i + 1)).map (plS T.ag true u1 c)) _ by rw [map_range_snoc, Zaa HPX]; exact Zaa HJ7)
    clear HR7 a0 a0x t5 cw2 HJ7 HPX HJ2 HOWP hwrp hid0 hid1 hid2
    go_wp2
    go_roundw
    case rel => exact ⟨i + 1, _, rfl, by go_num, by omega, Zaa HRL⟩
    case measure => simp [intOf]; omega)
  ·
   have hiN : i = N := by omega
   subst hiN
   have HX := Zac (Zaa HEX wr _ hJ)
   clear hJ HJ
   go_wp2_with fail
   exact ⟨rfl, Zaa HX _ _ _ _ _ _ _ _ _ _ _ _ _ _ _ _ _ _ _ _ _ _ _ _ _ _ _ _ _⟩
set_option maxHeartbeats 8000000 in
set_option maxRecDepth 100000 in
theorem rlInF (T : TbE) (w0 u : World) (b0 Ta N u1 : Nat) (c AT PP : Int) (av : Value) (bref : Bool) (Q0 : Exit → Act → World → Prop) (s0 s1 s3 s4 s5 s8 s9 s10 s15 s16 s17 s18 s19 s20 s21 s22 s23 s24 s25 s26 s27 s28 s29 s30 s31 s32 s33 s34 s35 s36 s37 s38 s39 s40 s41 s42 s43 s44 s45 s46 s47 s48 s49 s50 s51 s52 s53 s54 s55 s56 s57 s58 s59 s60 s61 s62 s63 s64 s65 s66 s67 s68 s69 s70 s71 s72 s73 s74 s75 s76 s77 s78 s79 s80 s81 s82 s83 s84 s85 s86 s87 s88 s89 s90 s91 s92 s93 s94 s95 s96 s97 s98 s99 s100 s101 s102 s103 s104 s105 s106 s107 s108 s109 s110 s111 s112 s113 s114 s115 s116 s117 s118 s119 s120 s121 s122 s123 s124 s125 s126 s127 s128 s129 s130 s131 s132 s133 s134 s135 s136 s137 s138 s139 s140 s141 s142 s143 s144 s145 s146 : Value) (hb : b0 + 3 < Ta) (hN : N ≤ 8) (_hu : u1 ≤ 1000) (hc0 : 0 ≤ c) (hc1 : c ≤ 100000) (_hL : T.ag.length ≤ 1000)
 (hR0 : w0.heap[b0]? = some (.cells T.box 25 (0, 0))) (hT : RsB w0 b0 (.slice T.pa T.ag.length T.ca) T.ag) (hJ : RlJ w0 b0 Ta av (.slice none 0 0) bref AT PP [] u) 
 (hexit : ∀ (w' : World) (pv : Value), RlJ w0 b0 Ta av pv bref AT PP ((List.range N).map (plS T.ag false u1 c)) w' → ∀ (u14 u67 u68 u69 u70 u71 u72 u73 u74 u75 u76 u77 u78 u79 u80 u81 u82 u83 u84 u85 u86 u87 u88 u89 u90 u91 u92 u93 u94 : Value), Q0 (.exit 2) ⟨List.toArray (s0 :: s1 :: .pointer (some ⟨b0, 0, none⟩) :: s3 :: s4 :: s5 :: .int .i64 u1 :: .int .i64 (c + 8 * (N : Int)) :: s8 :: s9 :: s10 :: .int .i64 N :: .pointer (some ⟨Ta, 0, none⟩) :: .bool false :: u14 :: s15 :: s16 :: s17 :: s18 :: s19 :: s20 :: s21 :: s22 :: s23 :: s24 :: s25 :: s26 :: s27 :: s28 :: s29 :: s30 :: s31 :: s32 :: s33 :: s34 :: s35 :: s36 :: s37 :: s38 :: s39 :: s40 :: s41 :: s42 :: s43 :: s44 :: s45 :: s46 :: s47 :: s48 :: s49 :: s50 :: s51 :: s52 :: s53 :: s54 :: s55 :: s56 :: s57 :: s58 :: s59 :: s60 :: s61 :: s62 :: s63 :: s64 :: s65 :: s66 :: u67 :: u68 :: u69 :: u70 :: u71 :: u72 :: u73 :: u74 :: u75 :: u76 :: u77 :: u78 :: u79 :: u80 :: u81 :: u82 :: u83 :: u84 :: u85 :: u86 :: u87 :: u88 :: u89 :: u90 :: u91 :: u92 :: u93 :: u94 :: s95 :: s96 :: s97 :: s98 :: s99 :: s100 :: s101 :: s102 :: s103 :: s104 :: s105 :: s106 :: s107 :: s108 :: s109 :: s110 :: s111 :: s112 :: s113 :: s114 :: s115 :: s116 :: s117 :: s118 :: s119 :: s120 :: s121 :: s122 :: s123 :: s124 :: s125 :: s126 :: s127 :: s128 :: s129 :: s130 :: s131 :: s132 :: s133 :: s134 :: s135 :: s136 :: s137 :: s138 :: s139 :: s140 :: s141 :: s142 :: s143 :: s144 :: s145 :: s146 :: []), []⟩ w') :
 Code.wp Tryz.prog (layLoop Tryz.f26 1) Q0 ⟨List.toArray (s0 :: s1 :: .pointer (some ⟨b0, 0, none⟩) :: s3 :: s4 :: s5 :: .int .i64 u1 :: .int .i64 c :: s8 :: s9 :: s10 :: .int .i64 N :: .pointer (some ⟨Ta, 0, none⟩) :: .bool false :: .int .i64 0 :: s15 :: s16 :: s17 :: s18 :: s19 :: s20 :: s21 :: s22 :: s23 :: s24 :: s25 :: s26 :: s27 :: s28 :: s29 :: s30 :: s31 :: s32 :: s33 :: s34 :: s35 :: s36 :: s37 :: s38 :: s39 :: s40 :: s41 :: s42 :: s43 :: s44 :: s45 :: s46 :: s47 :: s48 :: s49 :: s50 :: s51 :: s52 :: s53 :: s54 :: s55 :: s56 :: s57 :: s58 :: s59 :: s60 :: s61 :: s62 :: s63 :: s64 :: s65 :: s66 :: s67 :: s68 :: s69 :: s70 :: s71 :: s72 :: s73 :: s74 :: s75 :: s76 :: s77 :: s78 :: s79 :: s80 :: s81 :: s82 :: s83 :: s84 :: s85 :: s86 :: s87 :: s88 :: s89 :: s90 :: s91 :: s92 :: s93 :: s94 :: s95 :: s96 :: s97 :: s98 :: s99 :: s100 :: s101 :: s102 :: s103 :: s104 :: s105 :: s106 :: s107 :: s108 :: s109 :: s110 :: s111 :: s112 :: s113 :: s114 :: s115 :: s116 :: s117 :: s118 :: s119 :: s120 :: s121 :: s122 :: s123 :: s124 :: s125 :: s126 :: s127 :: s128 :: s129 :: s130 :: s131 :: s132 :: s133 :: s134 :: s135 :: s136 :: s137 :: s138 :: s139 :: s140 :: s141 :: s142 :: s143 :: s144 :: s145 :: s146 :: []), []⟩ u := by
 obtain ⟨tp, htp, hq0, hq1, hq2⟩ := info_K Tryz.infoPl
 have HJ := Zac hJ
 have HT := Zac hT
 have HR0 := Zac hR0
 have HEX := Zac hexit
 clear hJ hT hR0 hexit
 refine onlyX_wp (id := 2) ?_
 conv => arg 2; whnf
 go_loopw [7, 14] (fun sa si w' => ∃ (i : Nat) (pv : Value), sa = .int .i64 (c + 8 * (i : Int)) ∧ si = .int .i64 i ∧ i ≤ N ∧ RlJ w0 b0 Ta av pv bref AT PP ((List.range i).map (plS T.ag false u1 c)) w') (fun _ si _ => N - (intOf si).toNat)
 case atStart => exact ⟨0, _, by simp, rfl, by omega, Zaa HJ⟩
 case round =>
  obtain ⟨i, pv, rfl, rfl, hi, hJ⟩ := hrel
  by_cases hi2 : i < N
  ·
   clear HEX HJ
   obtain ⟨qp, qc, hpv⟩ := plo_form hJ.pl
   rw [map_len] at hpv
   subst hpv
   have a0 := (Zab hJ.arow 0).trans rfl
   have HJ2 := Zac hJ
   have HPX := Zac (plS_f T.ag u1 c i)
   have HOWP := Zac (show wr.ownsRow (Ta + 1) 119 2 (.slice qp i qc) i (plC ((List.range i).map (plS T.ag false u1 c))) by have h := hJ.pl; unfold PlO at h; rw [map_len] at h; exact h)
   have hwz := hJ.size
   obtain ⟨y, hy⟩ : ∃ y, y = c + 8 * (i : Int) := ⟨_, rfl⟩
   have hy0 : 0 ≤ y := by omega
   have hy1 : y ≤ 100064 := by omega
   have HY := Zac (show c + 8 * ((i + 1 : Nat) : Int) = y + 8 by omega)
   rw [← hy] at HPX ⊢
   have HR7 := Zac (fun w7 (hgr : (wr.alloc (.cells #[.int .i64 (-1), .int .i64 y] 119 (0, 0))).grownBy w7 (Value.slice qp i qc).ownBlock) => (hgr.block Ta (by have := hJ.size; simp; omega) (by intro e; have := (World.ownsRow.lt hJ.pl Ta e.symm).1; omega)).trans (((al0 wr (.cells #[.int .i64 (-1), .int .i64 y] 119 (0, 0))).2.1.block Ta hJ.size).trans hJ.arow))
   clear hJ hy
   go_wp2_with (at_builtin; refine wpList_append_own _ rfl _ _ 83 rfl (Ta + 1) 119 tp _ 2 16 Tryz.underlying83 htp hq0 hq1 hq2 rfl (by decide) _ _ _ rfl (World.ownsRow.alloc (Zaa HOWP) _) ⟨wr.heap.size, 0, none⟩ 1 1 [.int .i64 (-1), .int .i64 y] rfl rfl (by intro j u hj; match j, hj with | 0, hj => (simp at hj; subst hj; simp [Addr.add]) | 1, hj => (simp at hj; subst hj; simp [Addr.add])) (by intro u hu; simp at hu; rcases hu with rfl | rfl <;> rfl) ?c3 ?c4 ?c5 ?_)
   case c3 => unfold maxLen; omega
   case c4 => omega
   case c5 => first | omega | (simp; omega)
   intro v7 w7 hown7 hgr7 _
   have hJ7 := (Zaa HJ2).next (x := -1) (y := y) (v7 := v7) (w7 := w7) hb hgr7 (by rw [map_len]; exact hown7)
   have hr7 := Zaa HR7 w7 hgr7
   have j0 := (Zab hr7 0).trans rfl
   have g0 := frozen_of_row _ _ 0 _ _ hr7
   obtain ⟨gg7, cc7, rfl⟩ := own_sliceL hown7
   have HRL := Zac (show RlJ w0 b0 Ta av (.slice (some ⟨gg7, 0, none⟩) (i + 1) cc7) bref AT PP ((List.range (i + 1)).map (plS T.ag false u1 c)) _ by rw [map_range_snoc, Zaa HPX]; exact hJ7)
   clear hown7 hgr7 hr7 hJ7 HR7 a0 HPX HJ2 HOWP
   go_wp2
   go_roundw
   case rel => exact ⟨i + 1, _, by rw [Zaa HY], by go_num, by omega, Zaa HRL⟩
   case measure => simp [intOf]; omega
  ·
   have hiN : i = N := by omega
   subst hiN
   have HX := Zac (Zaa HEX wr _ hJ)
   clear hJ HJ
   go_wp2_with fail
   exact ⟨rfl, Zaa HX _ _ _ _ _ _ _ _ _ _ _ _ _ _ _ _ _ _ _ _ _ _ _ _ _ _ _ _ _⟩
set_option maxHeartbeats 8000000 in
set_option maxRecDepth 100000 in
theorem rlIn (T : TbE) (w0 u : World) (b0 Ta N u1 : Nat) (c AT PP : Int) (av : Value) (bref : Bool) (Q0 : Exit → Act → World → Prop) (rg : Bool) (s0 s1 s3 s4 s5 s8 s9 s10 s15 s16 s17 s18 s19 s20 s21 s22 s23 s24 s25 s26 s27 s28 s29 s30 s31 s32 s33 s34 s35 s36 s37 s38 s39 s40 s41 s42 s43 s44 s45 s46 s47 s48 s49 s50 s51 s52 s53 s54 s55 s56 s57 s58 s59 s60 s61 s62 s63 s64 s65 s66 s67 s68 s69 s70 s71 s72 s73 s74 s75 s76 s77 s78 s79 s80 s81 s82 s83 s84 s85 s86 s87 s88 s89 s90 s91 s92 s93 s94 s95 s96 s97 s98 s99 s100 s101 s102 s103 s104 s105 s106 s107 s108 s109 s110 s111 s112 s113 s114 s115 s116 s117 s118 s119 s120 s121 s122 s123 s124 s125 s126 s127 s128 s129 s130 s131 s132 s133 s134 s135 s136 s137 s138 s139 s140 s141 s142 s143 s144 s145 s146 : Value) (hb : b0 + 3 < Ta) (hN : N ≤ 8) (hu : u1 ≤ 1000) (hc0 : 0 ≤ c) (hc1 : c ≤ 100000) (hL : T.ag.length ≤ 1000)
 (hR0 : w0.heap[b0]? = some (.cells T.box 25 (0, 0))) (hT : RsB w0 b0 (.slice T.pa T.ag.length T.ca) T.ag) (hJ : RlJ w0 b0 Ta av (.slice none 0 0) bref AT PP [] u) (hrg : rg = true → u1 + N ≤ T.ag.length)
 (hexit : ∀ (w' : World) (pv : Value), RlJ w0 b0 Ta av pv bref AT PP ((List.range N).map (plS T.ag rg u1 c)) w' → ∀ (u14 u67 u68 u69 u70 u71 u72 u73 u74 u75 u76 u77 u78 u79 u80 u81 u82 u83 u84 u85 u86 u87 u88 u89 u90 u91 u92 u93 u94 : Value), Q0 (.exit 2) ⟨List.toArray (s0 :: s1 :: .pointer (some ⟨b0, 0, none⟩) :: s3 :: s4 :: s5 :: .int .i64 u1 :: .int .i64 (if rg = true then c else c + 8 * (N : Int)) :: s8 :: s9 :: s10 :: .int .i64 N :: .pointer (some ⟨Ta, 0, none⟩) :: .bool rg :: u14 :: s15 :: s16 :: s17 :: s18 :: s19 :: s20 :: s21 :: s22 :: s23 :: s24 :: s25 :: s26 :: s27 :: s28 :: s29 :: s30 :: s31 :: s32 :: s33 :: s34 :: s35 :: s36 :: s37 :: s38 :: s39 :: s40 :: s41 :: s42 :: s43 :: s44 :: s45 :: s46 :: s47 :: s48 :: s49 :: s50 :: s51 :: s52 :: s53 :: s54 :: s55 :: s56 :: s57 :: s58 :: s59 :: s60 :: s61 :: s62 :: s63 :: s64 :: s65 :: s66 :: u67 :: u68 :: u69 :: u70 :: u71 :: u72 :: u73 :: u74 :: u75 :: u76 :: u77 :: u78 :: u79 :: u80 :: u81 :: u82 :: u83 :: u84 :: u85 :: u86 :: u87 :: u88 :: u89 :: u90 :: u91 :: u92 :: u93 :: u94 :: s95 :: s96 :: s97 :: s98 :: s99 :: s100 :: s101 :: s102 :: s103 :: s104 :: s105 :: s106 :: s107 :: s108 :: s109 :: s110 :: s111 :: s112 :: s113 :: s114 :: s115 :: s116 :: s117 :: s118 :: s119 :: s120 :: s121 :: s122 :: s123 :: s124 :: s125 :: s126 :: s127 :: s128 :: s129 :: s130 :: s131 :: s132 :: s133 :: s134 :: s135 :: s136 :: s137 :: s138 :: s139 :: s140 :: s141 :: s142 :: s143 :: s144 :: s145 :: s146 :: []), []⟩ w') :
 Code.wp Tryz.prog (layLoop Tryz.f26 1) Q0 ⟨List.toArray (s0 :: s1 :: .pointer (some ⟨b0, 0, none⟩) :: s3 :: s4 :: s5 :: .int .i64 u1 :: .int .i64 c :: s8 :: s9 :: s10 :: .int .i64 N :: .pointer (some ⟨Ta, 0, none⟩) :: .bool rg :: .int .i64 0 :: s15 :: s16 :: s17 :: s18 :: s19 :: s20 :: s21 :: s22 :: s23 :: s24 :: s25 :: s26 :: s27 :: s28 :: s29 :: s30 :: s31 :: s32 :: s33 :: s34 :: s35 :: s36 :: s37 :: s38 :: s39 :: s40 :: s41 :: s42 :: s43 :: s44 :: s45 :: s46 :: s47 :: s48 :: s49 :: s50 :: s51 :: s52 :: s53 :: s54 :: s55 :: s56 :: s57 :: s58 :: s59 :: s60 :: s61 :: s62 :: s63 :: s64 :: s65 :: s66 :: s67 :: s68 :: s69 :: s70 :: s71 :: s72 :: s73 :: s74 :: s75 :: s76 :: s77 :: s78 :: s79 :: s80 :: s81 :: s82 :: s83 :: s84 :: s85 :: s86 :: s87 :: s88 :: s89 :: s90 :: s91 :: s92 :: s93 :: s94 :: s95 :: s96 :: s97 :: s98 :: s99 :: s100 :: s101 :: s102 :: s103 :: s104 :: s105 :: s106 :: s107 :: s108 :: s109 :: s110 :: s111 :: s112 :: s113 :: s114 :: s115 :: s116 :: s117 :: s118 :: s119 :: s120 :: s121 :: s122 :: s123 :: s124 :: s125 :: s126 :: s127 :: s128 :: s129 :: s130 :: s131 :: s132 :: s133 :: s134 :: s135 :: s136 :: s137 :: s138 :: s139 :: s140 :: s141 :: s142 :: s143 :: s144 :: s145 :: s146 :: []), []⟩ u := by
 cases rg with
 | true => exact rlInT T w0 u b0 Ta N u1 c AT PP av bref Q0 s0 s1 s3 s4 s5 s8 s9 s10 s15 s16 s17 s18 s19 s20 s21 s22 s23 s24 s25 s26 s27 s28 s29 s30 s31 s32 s33 s34 s35 s36 s37 s38 s39 s40 s41 s42 s43 s44 s45 s46 s47 s48 s49 s50 s51 s52 s53 s54 s55 s56 s57 s58 s59 s60 s61 s62 s63 s64 s65 s66 s67 s68 s69 s70 s71 s72 s73 s74 s75 s76 s77 s78 s79 s80 s81 s82 s83 s84 s85 s86 s87 s88 s89 s90 s91 s92 s93 s94 s95 s96 s97 s98 s99 s100 s101 s102 s103 s104 s105 s106 s107 s108 s109 s110 s111 s112 s113 s114 s115 s116 s117 s118 s119 s120 s121 s122 s123 s124 s125 s126 s127 s128 s129 s130 s131 s132 s133 s134 s135 s136 s137 s138 s139 s140 s141 s142 s143 s144 s145 s146 hb hN hu hc0 hc1 hL hR0 hT hJ (hrg rfl) hexit
 | false => exact rlInF T w0 u b0 Ta N u1 c AT PP av bref Q0 s0 s1 s3 s4 s5 s8 s9 s10 s15 s16 s17 s18 s19 s20 s21 s22 s23 s24 s25 s26 s27 s28 s29 s30 s31 s32 s33 s34 s35 s36 s37 s38 s39 s40 s41 s42 s43 s44 s45 s46 s47 s48 s49 s50 s51 s52 s53 s54 s55 s56 s57 s58 s59 s60 s61 s62 s63 s64 s65 s66 s67 s68 s69 s70 s71 s72 s73 s74 s75 s76 s77 s78 s79 s80 s81 s82 s83 s84 s85 s86 s87 s88 s89 s90 s91 s92 s93 s94 s95 s96 s97 s98 s99 s100 s101 s102 s103 s104 s105 s106 s107 s108 s109 s110 s111 s112 s113 s114 s115 s116 s117 s118 s119 s120 s121 s122 s123 s124 s125 s126 s127 s128 s129 s130 s131 s132 s133 s134 s135 s136 s137 s138 s139 s140 s141 s142 s143 s144 s145 s146 hb hN hu hc0 hc1 hL hR0 hT hJ hexit
end Go.Proofs.YtffemeicclhioaaGreatDoor

