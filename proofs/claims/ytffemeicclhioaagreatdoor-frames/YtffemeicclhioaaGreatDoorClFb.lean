/-
 Layouts of calls: results by the reference. Own work of the verifier.
-/
import Derived.Test.YtffemeicclhioaaGreatDoorJ20
import Derived.Deep.RegionLaw
import Derived.WalkSmall
namespace Go.Proofs.YtffemeicclhioaaGreatDoor
open Go.RowKit

set_option maxHeartbeats 8000000 in
set_option maxRecDepth 100000 in
theorem rlRes (T : TbE) (w0 u : World) (b0 Tb m : Nat) (c p : Int) (av sv : Value) (Q0 : Exit → Act → World → Prop) (s0 s1 s4 s6 s8 s9 s10 s11 s12 s13 s14 s16 s17 s18 s19 s20 s21 s22 s23 s24 s25 s26 s27 s28 s29 s30 s31 s32 s33 s34 s35 s36 s37 s38 s39 s40 s41 s42 s43 s44 s45 s46 s47 s48 s49 s50 s51 s52 s53 s54 s55 s56 s57 s58 s59 s60 s61 s62 s63 s64 s65 s66 s67 s68 s69 s70 s71 s72 s73 s74 s75 s76 s77 s78 s79 s80 s81 s82 s83 s84 s85 s86 s87 s88 s89 s90 s91 s92 s93 s94 s95 s96 s97 s98 s99 s100 s101 s102 s103 s104 s105 s106 s107 s108 s109 s110 s111 s112 s113 s114 s115 s116 s117 s118 s119 s120 s121 s122 s123 s124 s125 s126 s127 s128 s129 s130 s131 s132 s133 s134 s135 s136 s137 s138 s139 s140 s141 s142 s143 s144 s145 s146 : Value) (hb : b0 + 3 < Tb) (hm : m ≤ 8) (hc0 : 0 ≤ c) (hc1 : c ≤ 100000) (hL : T.rs.length ≤ 1000)
 (hR0 : w0.heap[b0]? = some (.cells T.box 25 (0, 0))) (hR1 : w0.heap[b0 + 1]? = some (.cells #[sv, .int .i64 m] 79 (0, 0))) (hT : RsB w0 b0 (.slice T.pr T.rs.length T.cr) T.rs) (hK : RlK w0 b0 Tb av (.slice none 0 0) p [] u)
 (hexit : ∀ (w' : World) (rv : Value), RlK w0 b0 Tb av rv p ((List.range m).map (resS T.rs c)) w' → ∀ (u15 u113 u114 u115 u116 u117 u118 u119 u120 u121 u122 u123 u124 u125 u126 u127 u128 u129 u130 u131 u132 u133 u134 u135 u136 u137 u138 u139 u140 u141 u142 u143 : Value), Q0 (.exit 5) ⟨List.toArray (s0 :: s1 :: .pointer (some ⟨b0, 0, none⟩) :: .pointer (some ⟨b0 + 1, 0, none⟩) :: s4 :: .pointer (some ⟨b0 + 3, 0, none⟩) :: s6 :: .int .i64 (resC T.rs c m) :: s8 :: s9 :: s10 :: s11 :: s12 :: s13 :: s14 :: u15 :: s16 :: s17 :: s18 :: s19 :: s20 :: s21 :: s22 :: s23 :: s24 :: s25 :: s26 :: s27 :: s28 :: s29 :: s30 :: s31 :: s32 :: s33 :: s34 :: s35 :: s36 :: s37 :: s38 :: s39 :: s40 :: s41 :: s42 :: s43 :: s44 :: s45 :: s46 :: s47 :: s48 :: s49 :: s50 :: s51 :: s52 :: s53 :: s54 :: s55 :: s56 :: s57 :: s58 :: s59 :: s60 :: s61 :: s62 :: s63 :: s64 :: s65 :: s66 :: s67 :: s68 :: s69 :: s70 :: s71 :: s72 :: s73 :: s74 :: s75 :: s76 :: s77 :: s78 :: s79 :: s80 :: s81 :: s82 :: s83 :: s84 :: s85 :: s86 :: s87 :: s88 :: s89 :: s90 :: s91 :: s92 :: s93 :: s94 :: s95 :: s96 :: s97 :: s98 :: s99 :: s100 :: s101 :: s102 :: s103 :: s104 :: s105 :: s106 :: s107 :: s108 :: s109 :: s110 :: s111 :: s112 :: u113 :: u114 :: u115 :: u116 :: u117 :: u118 :: u119 :: u120 :: u121 :: u122 :: u123 :: u124 :: u125 :: u126 :: u127 :: u128 :: u129 :: u130 :: u131 :: u132 :: u133 :: u134 :: u135 :: u136 :: u137 :: u138 :: u139 :: u140 :: u141 :: u142 :: u143 :: s144 :: s145 :: s146 :: []), []⟩ w') :
 Code.wp Tryz.prog (layLoop Tryz.f26 2) Q0 ⟨List.toArray (s0 :: s1 :: .pointer (some ⟨b0, 0, none⟩) :: .pointer (some ⟨b0 + 1, 0, none⟩) :: s4 :: .pointer (some ⟨b0 + 3, 0, none⟩) :: s6 :: .int .i64 c :: s8 :: s9 :: s10 :: s11 :: s12 :: s13 :: s14 :: .int .i64 0 :: s16 :: s17 :: s18 :: s19 :: s20 :: s21 :: s22 :: s23 :: s24 :: s25 :: s26 :: s27 :: s28 :: s29 :: s30 :: s31 :: s32 :: s33 :: s34 :: s35 :: s36 :: s37 :: s38 :: s39 :: s40 :: s41 :: s42 :: s43 :: s44 :: s45 :: s46 :: s47 :: s48 :: s49 :: s50 :: s51 :: s52 :: s53 :: s54 :: s55 :: s56 :: s57 :: s58 :: s59 :: s60 :: s61 :: s62 :: s63 :: s64 :: s65 :: s66 :: s67 :: s68 :: s69 :: s70 :: s71 :: s72 :: s73 :: s74 :: s75 :: s76 :: s77 :: s78 :: s79 :: s80 :: s81 :: s82 :: s83 :: s84 :: s85 :: s86 :: s87 :: s88 :: s89 :: s90 :: s91 :: s92 :: s93 :: s94 :: s95 :: s96 :: s97 :: s98 :: s99 :: s100 :: s101 :: s102 :: s103 :: s104 :: s105 :: s106 :: s107 :: s108 :: s109 :: s110 :: s111 :: s112 :: s113 :: s114 :: s115 :: s116 :: s117 :: s118 :: s119 :: s120 :: s121 :: s122 :: s123 :: s124 :: s125 :: s126 :: s127 :: s128 :: s129 :: s130 :: s131 :: s132 :: s133 :: s134 :: s135 :: s136 :: s137 :: s138 :: s139 :: s140 :: s141 :: s142 :: s143 :: s144 :: s145 :: s146 :: []), []⟩ u := by
 obtain ⟨tp, htp, hq0, hq1, hq2⟩ := info_K Tryz.infoPl
 have HK := Zac hK
 have HT := Zac hT
 have HR0 := Zac hR0
 have HR1 := Zac hR1
 have HEX := Zac hexit
 clear hK hT hR0 hR1 hexit
 refine onlyX_wp (id := 5) ?_
 conv => arg 2; whnf
 go_loopw [7, 15] (fun sa si w' => ∃ (i : Nat) (rv : Value), sa = .int .i64 (resC T.rs c i) ∧ si = .int .i64 i ∧ i ≤ m ∧ RlK w0 b0 Tb av rv p ((List.range i).map (resS T.rs c)) w') (fun _ si _ => m - (intOf si).toNat)
 case atStart => exact ⟨0, _, by rw [show resC T.rs c 0 = c by unfold resC; simp], rfl, by omega, Zaa HK⟩
 case round =>
  obtain ⟨i, rv, rfl, rfl, hi, hK⟩ := hrel
  have s1 := (Zab ((hK.oth (b0 + 1) (by omega) (by omega)).trans (Zaa HR1)) 1).trans rfl
  by_cases hi2 : i < m
  ·
   clear HEX HK
   obtain ⟨qp, qc, hpv⟩ := plo_form hK.pl
   rw [map_len] at hpv
   subst hpv
   have hrT := (hK.oth b0 (by omega) (by omega)).trans (Zaa HR0)
   have t6 : wr.cell? ⟨b0, 6, none⟩ = some (.slice T.pr T.rs.length T.cr) := (Zab hrT 6).trans rfl
   have a0 := (Zab hK.lrow 1).trans rfl
   have a0x := fun X : Obj => (row_al hK.lrow 1 X).trans rfl
   have HK2 := Zac hK
   have HOWP := Zac (show wr.ownsRow Tb 119 2 (.slice qp i qc) i (plC ((List.range i).map (resS T.rs c))) by have h := hK.pl; unfold PlO at h; rw [map_len] at h; exact h)
   have hwz := hK.size
   have HR7 := Zac (fun x y w7 (hgr : (wr.alloc (.cells #[.int .i64 x, .int .i64 y] 119 (0, 0))).grownBy w7 (Value.slice qp i qc).ownBlock) => (hgr.block (b0 + 3) (by have := hK.size; simp; omega) (by intro e; have := (World.ownsRow.lt hK.pl (b0 + 3) e.symm).1; omega)).trans (((al0 wr (.cells #[.int .i64 x, .int .i64 y] 119 (0, 0))).2.1.block (b0 + 3) (by omega)).trans hK.lrow))
   by_cases hr : i < T.rs.length
   ·
    obtain ⟨sa, oa, hpa, hsa, hca⟩ := (Zaa HT).at (k := i) hr
    have ca := hca i hr
    have cw2 : wr.cell? ⟨sa, oa + i, none⟩ = some (.int .i64 (T.rs.getD i 0)) := (World.cell?_of_block (show wr.heap[sa]? = w0.heap[sa]? from hK.oth sa (by omega) (by omega))).trans ca
    rw [hpa] at t6
    have HPX := Zac (show resS T.rs c i = (T.rs.getD i 0, 0) by unfold resS; rw [if_pos hr])
    have HRC := Zac (show resC T.rs c (i + 1) = resC T.rs c i by unfold resC; rw [show i + 1 - T.rs.length = 0 by omega, show i - T.rs.length = 0 by omega])
    clear hK hca ca hrT hpa
    generalize T.rs.getD i 0 = x at cw2 HPX
    generalize resC T.rs c i = y at HRC ⊢
    go_wp2_with fail
    go_region_law (first | (refine stepA_l rfl (.tmp 125) (.tmp 132) 83 rfl Tb 119 tp _ 2 16 Tryz.underlying83 htp hq0 hq1 hq2 rfl (by decide) (.slice qp i qc) i (plC ((List.range i).map (resS T.rs c))) (by simp [Act.eval]) (World.ownsRow.alloc (w := wr.drew) (Zaa HOWP) _) ⟨wr.heap.size, 0, none⟩ 1 1 [.int .i64 x, .int .i64 0] (by simp [Act.eval]) rfl (by intro j u hj; match j, hj with | 0, hj => (simp at hj; subst hj; simp [Addr.add]) | 1, hj => (simp at hj; subst hj; simp [Addr.add])) (by intro u hu; simp at hu; rcases hu with rfl | rfl <;> rfl) (by unfold maxLen; omega) (by omega) (by simp; omega) ?_; intro v7 w7 hown7 hgr7; have hK7 := (Zaa HK2).next (x := x) (y := 0) (v7 := v7) (w7 := w7) hb (gb_undrew hgr7) (by rw [map_len]; exact hown7); have hr7 := Zaa HR7 x 0 w7 (gb_undrew hgr7); have j0 := (Zab hr7 1).trans rfl; have g0 := frozen_of_row _ _ 1 _ _ hr7; obtain ⟨gg7, cc7, rfl⟩ := own_sliceL hown7; have HK7 := Zac hK7; clear hown7 hgr7 hr7 hK7))
    all_goals (
     have HRL := Zac (show RlK w0 b0 Tb av (.slice (some ⟨gg7, 0, none⟩) (i + 1) cc7) p ((List.range (i + 1)).map (resS T.rs c)) _ by rw [map_range_snoc, Zaa HPX]; exact Zaa HK7)
     clear HR7 a0 a0x t6 cw2 HK7 HPX HK2 HOWP s1
     go_wp2
     go_roundw
     case rel => exact ⟨i + 1, _, by rw [Zaa HRC], by go_num, by omega, Zaa HRL⟩
     case measure => simp [intOf]; omega)
   ·
    have HPX := Zac (show resS T.rs c i = (-1, resC T.rs c i) by unfold resS resC; rw [if_neg hr])
    have HRC := Zac (show resC T.rs c (i + 1) = resC T.rs c i + 8 by unfold resC; rw [show i + 1 - T.rs.length = (i - T.rs.length) + 1 by omega]; omega)
    have hrb : 0 ≤ resC T.rs c i ∧ resC T.rs c i ≤ 200000 := by unfold resC; omega
    obtain ⟨hy0, hy1⟩ := hrb
    clear hK hrT
    generalize resC T.rs c i = y at HRC HPX hy0 hy1 ⊢
    go_wp2_with (at_builtin; refine wpList_append_own _ rfl _ _ 83 rfl Tb 119 tp _ 2 16 Tryz.underlying83 htp hq0 hq1 hq2 rfl (by decide) _ _ _ rfl (World.ownsRow.alloc (Zaa HOWP) _) ⟨wr.heap.size, 0, none⟩ 1 1 [.int .i64 (-1), .int .i64 y] rfl rfl (by intro j u hj; match j, hj with | 0, hj => (simp at hj; subst hj; simp [Addr.add]) | 1, hj => (simp at hj; subst hj; simp [Addr.add])) (by intro u hu; simp at hu; rcases hu with rfl | rfl <;> rfl) ?c3 ?c4 ?c5 ?_)
    case c3 => unfold maxLen; omega
    case c4 => omega
    case c5 => first | omega | (simp; omega)
    intro v7 w7 hown7 hgr7 _
    have hK7 := (Zaa HK2).next (x := -1) (y := y) (v7 := v7) (w7 := w7) hb hgr7 (by rw [map_len]; exact hown7)
    have hr7 := Zaa HR7 (-1) y w7 hgr7
    have j0 := (Zab hr7 1).trans rfl
    have g0 := frozen_of_row _ _ 1 _ _ hr7
    obtain ⟨gg7, cc7, rfl⟩ := own_sliceL hown7
    have HRL := Zac (show RlK w0 b0 Tb av (.slice (some ⟨gg7, 0, none⟩) (i + 1) cc7) p ((List.range (i + 1)).map (resS T.rs c)) _ by rw [map_range_snoc, Zaa HPX]; exact hK7)
    clear hown7 hgr7 hr7 hK7 HR7 a0 a0x t6 HPX HK2 HOWP s1
    go_wp2
    go_roundw
    case rel => exact ⟨i + 1, _, by rw [Zaa HRC], by go_num, by omega, Zaa HRL⟩
    case measure => simp [intOf]; omega
  ·
   have hiN : i = m := by omega
   subst hiN
   have HX := Zac (Zaa HEX wr _ hK)
   clear hK HK
   go_wp2_with fail
   exact ⟨rfl, Zaa HX _ _ _ _ _ _ _ _ _ _ _ _ _ _ _ _ _ _ _ _ _ _ _ _ _ _ _ _ _ _ _ _⟩
end Go.Proofs.YtffemeicclhioaaGreatDoor

