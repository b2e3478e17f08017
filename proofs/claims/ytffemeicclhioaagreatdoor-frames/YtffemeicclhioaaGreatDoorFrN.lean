/-
 Frames: prologueref.Lay: its other loops. Own work of the verifier.
-/
import Derived.Test.YtffemeicclhioaaGreatDoorFrM
import Derived.Test.YtffemeicclhioaaGreatDoorJ29
import Derived.Test.YtffemeicclhioaaGreatDoorFrF
import Derived.Test.YtffemeicclhioaaGreatDoorJ3
namespace Go.Proofs.YtffemeicclhioaaGreatDoor
open Go.RowKit

set_option maxHeartbeats 16000000 in
set_option maxRecDepth 100000 in
theorem rfOut (T : TbE) (P : ProgE) (fn : FuncE) (b0 : Nat) (W : World) (pf pe qp qh qs qb : Option Addr) (cf ce qc ch cs cb : Nat) (A E : Nat → Array Value) (B : Nat → Value) (u : World) (Q0 : Exit → Act → World → Prop) (s0 s1 s2 s5 s6 s10 s11 s12 s13 s14 s15 s16 s17 s18 s19 s20 s21 s22 s23 s24 s25 s26 s27 s31 s32 s33 s34 s35 s36 s37 s38 s39 s40 s41 s42 s43 s44 s45 s46 s47 s48 s49 s50 s51 s52 s53 s54 s55 s56 s57 s58 s59 s60 s61 s62 s63 s64 s65 s66 s67 s68 s69 s70 s71 s72 s73 s74 s75 s76 s77 s78 s79 s80 s81 s82 s83 s84 s85 s86 s87 s88 s89 s90 s91 s92 s93 s94 s95 s96 s97 s98 s99 s100 s101 s102 s103 s104 s105 s106 s107 s108 s109 s110 s111 s112 s113 s114 s115 s116 s117 s118 s119 s120 s121 s122 s123 s124 s125 s126 s127 s128 s129 s130 s131 s132 s133 s134 s135 s136 s137 s138 s139 s140 s141 s142 s143 s144 s145 s146 s147 s148 s149 s150 s151 s152 s153 s154 s155 s156 s157 s158 s159 s160 s161 s162 s163 s164 s165 s166 s167 s168 s169 s170 s171 s172 s173 s174 s175 s176 s177 s178 s179 s180 : Value)
 (hF : ∀ V, Below (b0 + 4) W V → RfF b0 T P fn pf pe qp qh qs qb cf ce qc ch cs cb A E B V) (hto : TbOk T) (hok : CallsOk P fn) (hpl : ∀ k, (P.funcs.getD k Zaj).params.length ≤ 8796093022208) (hfl : fn.params.length ≤ 8796093022208)
 (hI : ∀ k, k < fn.blocks.length → ∃ ip ic IA, B k = .slice ip (fn.blocks.getD k []).length ic ∧ ∀ V, Below (b0 + 4) W V → LS 8 V (.slice ip (fn.blocks.getD k []).length ic) (fn.blocks.getD k []).length IA ∧ ∀ j (h : j < (fn.blocks.getD k []).length), InsC V (IA j) (fn.blocks.getD k [])[j])
 (hu : PtI W (b0 + 4) (outT T ([])) (copT T ([])) 0 (.slice none 0 0) (.slice none 0 0) (-1) 0 0 [] [] u)
 (hexit : ∀ (w' : World) (cb1 : Bool), cb1 = decide (0 < (accB T P (sigE fn) fn.blocks fn.blocks.length).length) → PtI W (b0 + 4) (outT T (accB T P (sigE fn) fn.blocks fn.blocks.length)) (copT T (accB T P (sigE fn) fn.blocks fn.blocks.length)) 0 (.slice none 0 0) (.slice none 0 0) (-1) 0 0 [] [] w' → ∀ (u11 u13 u14 u15 u30 u31 u32 u33 u34 u35 u36 u37 u38 u39 u40 u41 u42 u43 u44 u45 u46 u47 u48 u49 u50 u51 u52 u53 u54 u55 u56 u57 u58 u59 u60 u61 u62 u63 u64 u65 u66 u67 u68 u69 u70 u71 u72 u73 u74 u75 u76 u77 u78 u79 u80 u81 u82 u83 u84 u85 u86 u87 u88 u89 u90 u91 u92 u93 u94 u95 u96 : Value), Q0 (.exit 0) ⟨List.toArray (s0 :: s1 :: s2 :: .pointer (some ⟨b0, 0, none⟩) :: .pointer (some ⟨b0 + 1, 0, none⟩) :: s5 :: s6 :: .pointer (some ⟨b0 + 3, 0, none⟩) :: .pointer (some ⟨b0 + 4, 0, none⟩) :: .bool cb1 :: s10 :: u11 :: s12 :: u13 :: u14 :: u15 :: s16 :: s17 :: s18 :: s19 :: s20 :: s21 :: s22 :: s23 :: s24 :: s25 :: s26 :: s27 :: .slice qb fn.blocks.length cb :: .int .i64 fn.blocks.length :: u30 :: u31 :: u32 :: u33 :: u34 :: u35 :: u36 :: u37 :: u38 :: u39 :: u40 :: u41 :: u42 :: u43 :: u44 :: u45 :: u46 :: u47 :: u48 :: u49 :: u50 :: u51 :: u52 :: u53 :: u54 :: u55 :: u56 :: u57 :: u58 :: u59 :: u60 :: u61 :: u62 :: u63 :: u64 :: u65 :: u66 :: u67 :: u68 :: u69 :: u70 :: u71 :: u72 :: u73 :: u74 :: u75 :: u76 :: u77 :: u78 :: u79 :: u80 :: u81 :: u82 :: u83 :: u84 :: u85 :: u86 :: u87 :: u88 :: u89 :: u90 :: u91 :: u92 :: u93 :: u94 :: u95 :: u96 :: s97 :: s98 :: s99 :: s100 :: s101 :: s102 :: s103 :: s104 :: s105 :: s106 :: s107 :: s108 :: s109 :: s110 :: s111 :: s112 :: s113 :: s114 :: s115 :: s116 :: s117 :: s118 :: s119 :: s120 :: s121 :: s122 :: s123 :: s124 :: s125 :: s126 :: s127 :: s128 :: s129 :: s130 :: s131 :: s132 :: s133 :: s134 :: s135 :: s136 :: s137 :: s138 :: s139 :: s140 :: s141 :: s142 :: s143 :: s144 :: s145 :: s146 :: s147 :: s148 :: s149 :: s150 :: s151 :: s152 :: s153 :: s154 :: s155 :: s156 :: s157 :: s158 :: s159 :: s160 :: s161 :: s162 :: s163 :: s164 :: s165 :: s166 :: s167 :: s168 :: s169 :: s170 :: s171 :: s172 :: s173 :: s174 :: s175 :: s176 :: s177 :: s178 :: s179 :: s180 :: []), []⟩ w') :
 Code.wp Tryz.prog (fLoop Tryz.f14 0) Q0 ⟨List.toArray (s0 :: s1 :: s2 :: .pointer (some ⟨b0, 0, none⟩) :: .pointer (some ⟨b0 + 1, 0, none⟩) :: s5 :: s6 :: .pointer (some ⟨b0 + 3, 0, none⟩) :: .pointer (some ⟨b0 + 4, 0, none⟩) :: .bool false :: s10 :: s11 :: s12 :: s13 :: s14 :: s15 :: s16 :: s17 :: s18 :: s19 :: s20 :: s21 :: s22 :: s23 :: s24 :: s25 :: s26 :: s27 :: .slice qb fn.blocks.length cb :: .int .i64 fn.blocks.length :: .int .i64 0 :: s31 :: s32 :: s33 :: s34 :: s35 :: s36 :: s37 :: s38 :: s39 :: s40 :: s41 :: s42 :: s43 :: s44 :: s45 :: s46 :: s47 :: s48 :: s49 :: s50 :: s51 :: s52 :: s53 :: s54 :: s55 :: s56 :: s57 :: s58 :: s59 :: s60 :: s61 :: s62 :: s63 :: s64 :: s65 :: s66 :: s67 :: s68 :: s69 :: s70 :: s71 :: s72 :: s73 :: s74 :: s75 :: s76 :: s77 :: s78 :: s79 :: s80 :: s81 :: s82 :: s83 :: s84 :: s85 :: s86 :: s87 :: s88 :: s89 :: s90 :: s91 :: s92 :: s93 :: s94 :: s95 :: s96 :: s97 :: s98 :: s99 :: s100 :: s101 :: s102 :: s103 :: s104 :: s105 :: s106 :: s107 :: s108 :: s109 :: s110 :: s111 :: s112 :: s113 :: s114 :: s115 :: s116 :: s117 :: s118 :: s119 :: s120 :: s121 :: s122 :: s123 :: s124 :: s125 :: s126 :: s127 :: s128 :: s129 :: s130 :: s131 :: s132 :: s133 :: s134 :: s135 :: s136 :: s137 :: s138 :: s139 :: s140 :: s141 :: s142 :: s143 :: s144 :: s145 :: s146 :: s147 :: s148 :: s149 :: s150 :: s151 :: s152 :: s153 :: s154 :: s155 :: s156 :: s157 :: s158 :: s159 :: s160 :: s161 :: s162 :: s163 :: s164 :: s165 :: s166 :: s167 :: s168 :: s169 :: s170 :: s171 :: s172 :: s173 :: s174 :: s175 :: s176 :: s177 :: s178 :: s179 :: s180 :: []), []⟩ u := by
 have HF := Zac hF
 have HI := Zac hI
 have HU := Zac hu
 have HEX := Zac hexit
 have HOK := Zac hok
 have HPL := Zac hpl
 have HTO := Zac hto
 have HFL := Zac hfl
 have hnb : fn.blocks.length ≤ 12 := hok.num
 clear hF hI hu hexit hok hpl hto hfl
 refine onlyX_wp (id := 0) ?_
 conv => arg 2; whnf
 go_loopw [30, 9] (fun sk s9 w' => ∃ (k : Nat) (cb : Bool), sk = .int .i64 k ∧ s9 = .bool cb ∧ k ≤ fn.blocks.length ∧ cb = decide (0 < (accB T P (sigE fn) fn.blocks k).length) ∧ PtI W (b0 + 4) (outT T (accB T P (sigE fn) fn.blocks k)) (copT T (accB T P (sigE fn) fn.blocks k)) 0 (.slice none 0 0) (.slice none 0 0) (-1) 0 0 [] [] w') (fun sk _ _ => fn.blocks.length - (intOf sk).toNat)
 case atStart => exact ⟨0, false, rfl, rfl, by omega, by simp [accB], by simpa [accB] using Zaa HU⟩
 case round =>
  clear HU
  obtain ⟨k, cb9, rfl, rfl, hk, hcb9, hP⟩ := hrel
  by_cases hk2 : k < fn.blocks.length
  ·
   clear HEX
   obtain ⟨ip, ic, IA, hBk, hIk⟩ := Zaa HI k hk2
   obtain ⟨bp, bcap, hbe, -, -, hbc⟩ := (Zaa HF wr hP.low).d.bs.ones
   injection hbe with e1 e2 e3
   subst e1 e3
   clear e2
   obtain ⟨bb, bo2, hbp, hbcell⟩ := hbc (by omega)
   subst hbp
   have hcell := hbcell k hk2
   rw [hBk] at hcell
   have HIK := Zac hIk
   have HCB9 := Zac (show cb9 = decide (0 < (accI T P (sigE fn) fn.blocks k 0).length) by rw [accI_zero]; exact hcb9)
   have HPT := Zac (show PtI W (b0 + 4) (outT T (accI T P (sigE fn) fn.blocks k 0)) (copT T (accI T P (sigE fn) fn.blocks k 0)) 0 (.slice none 0 0) (.slice none 0 0) (-1) 0 0 [] [] wr by rw [accI_zero]; exact hP)
   have HAN := Zac (accB_next T P (sigE fn) fn.blocks k hk2)
   have hlk : (fn.blocks.getD k []).length ≤ 24 := (Zaa HOK).len k hk2
   clear hbc hbcell hBk hIk hcb9 hP
   obtain ⟨bk, hbk⟩ : ∃ bk, bk = fn.blocks.getD k [] := ⟨_, rfl⟩
   rw [← hbk] at hcell HIK HAN hlk
   have HBK := Zac hbk.symm
   clear hbk
   go_wp2_with fail
   clear hcell
   refine rfIn T P fn b0 W pf pe qp qh qs (some ⟨bb, bo2, none⟩) cf ce qc ch cs cb A E B bk k wr ip ic IA cb9 _ _ _ _ _ _ _ _ _ _ _ _ _ _ _ _ _ _ _ _ _ _ _ _ _ _ _ _ _ _ _ _ _ _ _ _ _ _ _ _ _ _ _ _ _ _ _ _ _ _ _ _ _ _ _ _ _ _ _ _ _ _ _ _ _ _ _ _ _ _ _ _ _ _ _ _ _ _ _ _ _ _ _ _ _ _ _ _ _ _ _ _ _ _ _ _ _ _ _ _ _ _ _ _ _ _ _ _ _ _ _ _ _ _ _ _ _ _ _ _ _ _ _ _ _ _ _ _ _ _ _ _ _ _ _ _ _ _ _ _ _ _ _ _ _ _ _ _ _ _ _ _ _ _ _ _ _ _ _ _ _ _ _ _ _ _ _ _ _ _ _ _ _ _ (Zaa HF) (Zaa HTO) (Zaa HOK) (Zaa HPL) (Zaa HFL) hk2 (Zaa HBK) (Zaa HIK) (Zaa HPT) (Zaa HCB9) ?_
   intro w7 cb7 hcb7 hP7 u13 u14 u15 u36 u37 u38 u39 u40 u41 u42 u43 u44 u45 u46 u47 u48 u49 u50 u51 u52 u53 u54 u55 u56 u57 u58 u59 u60 u61 u62 u63 u64 u65 u66 u67 u68 u69 u70 u71 u72 u73 u74 u75 u76 u77 u78 u79 u80 u81 u82 u83 u84 u85 u86 u87 u88 u89 u90 u91 u92 u93 u94 u95
   rw [Zaa HAN] at hcb7 hP7
   have HCB7 := Zac hcb7
   have HP7 := Zac hP7
   clear hcb7 hP7
   go_wp2
   go_roundw
   case rel => exact ⟨k + 1, cb7, by go_num, rfl, by omega, Zaa HCB7, Zaa HP7⟩
   case measure => simp [intOf]; omega
  ·
   have hkn : k = fn.blocks.length := by omega
   subst hkn
   have HX := Zac (Zaa HEX wr cb9 hcb9 hP)
   clear hP hcb9
   go_wp2_with fail
   exact ⟨rfl, Zaa HX _ _ _ _ _ _ _ _ _ _ _ _ _ _ _ _ _ _ _ _ _ _ _ _ _ _ _ _ _ _ _ _ _ _ _ _ _ _ _ _ _ _ _ _ _ _ _ _ _ _ _ _ _ _ _ _ _ _ _ _ _ _ _ _ _ _ _ _ _ _ _⟩
set_option maxHeartbeats 16000000 in
set_option maxRecDepth 100000 in
theorem rfSl (W u : World) (b4 : Nat) (oo cc ce : Int) (ns : List Int) (f : Nat → Int) (qs : Option Addr) (cs : Nat) (Q0 : Exit → Act → World → Prop) (s0 s1 s2 s3 s4 s5 s6 s7 s9 s10 s11 s12 s13 s14 s15 s17 s18 s19 s20 s21 s22 s23 s24 s25 s26 s27 s28 s29 s30 s31 s32 s33 s34 s35 s36 s37 s38 s39 s40 s41 s42 s43 s44 s45 s46 s47 s48 s49 s50 s51 s52 s53 s54 s55 s56 s57 s58 s59 s60 s61 s62 s63 s64 s65 s66 s67 s68 s69 s70 s71 s72 s73 s74 s75 s76 s77 s78 s79 s80 s81 s82 s83 s84 s85 s86 s87 s88 s89 s90 s91 s92 s93 s94 s95 s96 s97 s98 s99 s100 s101 s102 s103 s104 s105 s106 s107 s108 s109 s110 s114 s115 s116 s117 s118 s119 s120 s121 s122 s123 s124 s125 s126 s127 s128 s129 s130 s131 s132 s133 s134 s135 s136 s137 s138 s139 s140 s141 s142 s143 s144 s145 s146 s147 s148 s149 s150 s151 s152 s153 s154 s155 s156 s157 s158 s159 s160 s161 s162 s163 s164 s165 s166 s167 s168 s169 s170 s171 s172 s173 s174 s175 s176 s177 s178 s179 s180 : Value)
 (hf : ∀ k, k < ns.length → f (k + 1) = f k + 8 * ns.getD k 0) (hfb : ∀ k, k ≤ ns.length → 0 ≤ f k ∧ f k ≤ 3000) (hn : ns.length ≤ 6) (hns : ∀ k, k < ns.length → 0 ≤ ns.getD k 0 ∧ ns.getD k 0 ≤ 8)
 (hS : ∀ V, Below b4 W V → Li V (.slice qs ns.length cs) ns) (hu : PtI W b4 oo cc ce (.slice none 0 0) (.slice none 0 0) (-1) 0 0 [] [] u)
 (hexit : ∀ (w' : World) (slv : Value), PtI W b4 oo cc ce slv (.slice none 0 0) (-1) 0 0 ((List.range ns.length).map f) [] w' → ∀ (u18 u113 u114 u115 u116 u117 u118 u119 u120 u121 u122 u123 u124 u125 u126 u127 : Value), Q0 (.exit 5) ⟨List.toArray (s0 :: s1 :: s2 :: s3 :: s4 :: s5 :: s6 :: s7 :: .pointer (some ⟨b4, 0, none⟩) :: s9 :: s10 :: s11 :: s12 :: s13 :: s14 :: s15 :: .int .i64 (f ns.length) :: s17 :: u18 :: s19 :: s20 :: s21 :: s22 :: s23 :: s24 :: s25 :: s26 :: s27 :: s28 :: s29 :: s30 :: s31 :: s32 :: s33 :: s34 :: s35 :: s36 :: s37 :: s38 :: s39 :: s40 :: s41 :: s42 :: s43 :: s44 :: s45 :: s46 :: s47 :: s48 :: s49 :: s50 :: s51 :: s52 :: s53 :: s54 :: s55 :: s56 :: s57 :: s58 :: s59 :: s60 :: s61 :: s62 :: s63 :: s64 :: s65 :: s66 :: s67 :: s68 :: s69 :: s70 :: s71 :: s72 :: s73 :: s74 :: s75 :: s76 :: s77 :: s78 :: s79 :: s80 :: s81 :: s82 :: s83 :: s84 :: s85 :: s86 :: s87 :: s88 :: s89 :: s90 :: s91 :: s92 :: s93 :: s94 :: s95 :: s96 :: s97 :: s98 :: s99 :: s100 :: s101 :: s102 :: s103 :: s104 :: s105 :: s106 :: s107 :: s108 :: s109 :: s110 :: .slice qs ns.length cs :: .int .i64 ns.length :: u113 :: u114 :: u115 :: u116 :: u117 :: u118 :: u119 :: u120 :: u121 :: u122 :: u123 :: u124 :: u125 :: u126 :: u127 :: s128 :: s129 :: s130 :: s131 :: s132 :: s133 :: s134 :: s135 :: s136 :: s137 :: s138 :: s139 :: s140 :: s141 :: s142 :: s143 :: s144 :: s145 :: s146 :: s147 :: s148 :: s149 :: s150 :: s151 :: s152 :: s153 :: s154 :: s155 :: s156 :: s157 :: s158 :: s159 :: s160 :: s161 :: s162 :: s163 :: s164 :: s165 :: s166 :: s167 :: s168 :: s169 :: s170 :: s171 :: s172 :: s173 :: s174 :: s175 :: s176 :: s177 :: s178 :: s179 :: s180 :: []), []⟩ w') :
 Code.wp Tryz.prog (fLoop Tryz.f14 2) Q0 ⟨List.toArray (s0 :: s1 :: s2 :: s3 :: s4 :: s5 :: s6 :: s7 :: .pointer (some ⟨b4, 0, none⟩) :: s9 :: s10 :: s11 :: s12 :: s13 :: s14 :: s15 :: .int .i64 (f 0) :: s17 :: s18 :: s19 :: s20 :: s21 :: s22 :: s23 :: s24 :: s25 :: s26 :: s27 :: s28 :: s29 :: s30 :: s31 :: s32 :: s33 :: s34 :: s35 :: s36 :: s37 :: s38 :: s39 :: s40 :: s41 :: s42 :: s43 :: s44 :: s45 :: s46 :: s47 :: s48 :: s49 :: s50 :: s51 :: s52 :: s53 :: s54 :: s55 :: s56 :: s57 :: s58 :: s59 :: s60 :: s61 :: s62 :: s63 :: s64 :: s65 :: s66 :: s67 :: s68 :: s69 :: s70 :: s71 :: s72 :: s73 :: s74 :: s75 :: s76 :: s77 :: s78 :: s79 :: s80 :: s81 :: s82 :: s83 :: s84 :: s85 :: s86 :: s87 :: s88 :: s89 :: s90 :: s91 :: s92 :: s93 :: s94 :: s95 :: s96 :: s97 :: s98 :: s99 :: s100 :: s101 :: s102 :: s103 :: s104 :: s105 :: s106 :: s107 :: s108 :: s109 :: s110 :: .slice qs ns.length cs :: .int .i64 ns.length :: .int .i64 0 :: s114 :: s115 :: s116 :: s117 :: s118 :: s119 :: s120 :: s121 :: s122 :: s123 :: s124 :: s125 :: s126 :: s127 :: s128 :: s129 :: s130 :: s131 :: s132 :: s133 :: s134 :: s135 :: s136 :: s137 :: s138 :: s139 :: s140 :: s141 :: s142 :: s143 :: s144 :: s145 :: s146 :: s147 :: s148 :: s149 :: s150 :: s151 :: s152 :: s153 :: s154 :: s155 :: s156 :: s157 :: s158 :: s159 :: s160 :: s161 :: s162 :: s163 :: s164 :: s165 :: s166 :: s167 :: s168 :: s169 :: s170 :: s171 :: s172 :: s173 :: s174 :: s175 :: s176 :: s177 :: s178 :: s179 :: s180 :: []), []⟩ u := by
 obtain ⟨ti, hti, hty0, hty1, hty2⟩ := info_K Tryz.infoInt
 have HF := Zac hf
 have HFB := Zac hfb
 have HNS := Zac hns
 have HS := Zac hS
 have HU := Zac hu
 have HEX := Zac hexit
 clear hf hfb hns hS hu hexit
 refine onlyX_wp (id := 5) ?_
 conv => arg 2; whnf
 go_loopw [113, 16] (fun sk sa w' => ∃ (k : Nat) (slv : Value), sk = .int .i64 k ∧ sa = .int .i64 (f k) ∧ k ≤ ns.length ∧ PtI W b4 oo cc ce slv (.slice none 0 0) (-1) 0 0 ((List.range k).map f) [] w') (fun sk _ _ => ns.length - (intOf sk).toNat)
 case atStart => exact ⟨0, _, rfl, rfl, by omega, Zaa HU⟩
 case round =>
  clear HU
  obtain ⟨k, slv, rfl, rfl, hk, hI⟩ := hrel
  have hfm := Zan hI.sl
  simp only [List.length_map, List.length_range] at hfm
  obtain ⟨qp, qc, rfl⟩ := hfm
  by_cases hk2 : k < ns.length
  ·
   clear HEX
   obtain ⟨p', c', e1, -, -, hcc⟩ := Zaa HS wr hI.low
   injection e1 with f1 f2 f3
   obtain ⟨sb, so, hsp, hcell⟩ := hcc (by omega)
   rw [← f1] at hsp
   subst hsp
   have d := hcell k hk2
   obtain ⟨hx0, hx1⟩ := Zaa HNS k hk2
   obtain ⟨hy0, hy1⟩ := Zaa HFB k hk
   have HNX := Zac (Zaa HF k hk2)
   have a3 := (Zab hI.row 3).trans rfl
   have HOW := Zac (show wr.ownsRow (b4 + 1) 3 1 (.slice qp k qc) k (iC ((List.range k).map f)) by have h := hI.sl; simp only [List.length_map, List.length_range] at h; exact h)
   have hwz := hI.size
   have HI := Zac hI
   clear hI f1 f2 f3 hcc hcell
   generalize ns.getD k 0 = x at d hx0 hx1 HNX
   obtain ⟨y, hy⟩ : ∃ y, y = f k := ⟨_, rfl⟩
   rw [← hy] at HNX hy0 hy1 ⊢
   have HY := Zac hy
   clear hy
   go_wp2_with (at_builtin; refine wpList_append_own _ rfl _ _ 23 rfl (b4 + 1) 3 ti _ 1 8 Tryz.underlying23 hti hty0 hty1 hty2 rfl (by decide) _ _ _ rfl (World.ownsRow.alloc (Zaa HOW) _) ⟨wr.heap.size, 0, none⟩ 1 1 [.int .i64 y] rfl rfl (by intro j u hj; match j, hj with | 0, hj => (simp at hj; subst hj; simp [Addr.add])) (by intro u hu; simp at hu; subst hu; rfl) ?c3 ?c4 ?c5 ?_)
   case c3 => unfold maxLen; omega
   case c4 => omega
   case c5 => first | omega | (simp; omega)
   intro v7 w7 hown7 hgr7 _
   have hX := (Zaa HI).slot (x := y) hgr7 (by simp only [List.length_map, List.length_range]; exact hown7)
   have hr7 := ((Zaa HI).low_app _ (Zaa HOW) hgr7).2.trans (Zaa HI).row
   have j3 := (Zab hr7 3).trans rfl
   have g3 := frozen_of_row _ _ 3 _ _ hr7
   obtain ⟨gg7, cc7, rfl⟩ := own_formK hown7
   have HX := Zac (show PtI W b4 oo cc ce (.slice (some ⟨gg7, 0, none⟩) (k + 1) cc7) (.slice none 0 0) (-1) 0 0 ((List.range (k + 1)).map f) [] (w7.setCell ⟨b4, 3, none⟩ (.slice (some ⟨gg7, 0, none⟩) (k + 1) cc7)) by rw [map_range_snoc, ← Zaa HY]; exact hX)
   clear hown7 hgr7 hr7 hX d a3 HOW HI
   go_wp2
   go_roundw
   case rel => exact ⟨k + 1, _, by go_num, by rw [Zaa HNX], by omega, Zaa HX⟩
   case measure => simp [intOf]; omega
  ·
   have hkn : k = ns.length := by omega
   subst hkn
   have HX := Zac (Zaa HEX wr _ hI)
   clear hI
   go_wp2_with fail
   exact ⟨rfl, Zaa HX _ _ _ _ _ _ _ _ _ _ _ _ _ _ _ _⟩
/-- Where the registers of a list are kept, from a on. -/
def kpF (l : List Int) (a : Int) : List (Int × Int) := (List.range l.length).map fun q : Nat => (l.getD q 0, a + 8 * (q : Int))
theorem kpF_snoc (l : List Int) (a x : Int) : kpF (l ++ [x]) a = kpF l a ++ [(x, a + 8 * (l.length : Int))] := by
 unfold kpF
 rw [List.length_append, List.length_singleton, map_range_snoc]
 congr 1
 ·
  apply List.map_congr_left
  intro q hq
  have hq := List.mem_range.1 hq
  simp only [List.getD, List.getElem?_append_left hq]
 ·
  simp [List.getD]
theorem kpF_len (l : List Int) (a : Int) : (kpF l a).length = l.length := by simp [kpF]
set_option maxHeartbeats 16000000 in
set_option maxRecDepth 100000 in
theorem rfSv (T : TbE) (fn : FuncE) (W u : World) (b0 b3 b4 : Nat) (oo cc ce a1 : Int) (slv : Value) (sl : List Int) (qp qh qs qb : Option Addr) (qc ch cs cb : Nat) (Q0 : Exit → Act → World → Prop) (s0 s1 s2 s4 s5 s6 s9 s10 s11 s12 s13 s14 s15 s17 s18 s20 s21 s22 s23 s24 s25 s26 s27 s28 s29 s30 s31 s32 s33 s34 s35 s36 s37 s38 s39 s40 s41 s42 s43 s44 s45 s46 s47 s48 s49 s50 s51 s52 s53 s54 s55 s56 s57 s58 s59 s60 s61 s62 s63 s64 s65 s66 s67 s68 s69 s70 s71 s72 s73 s74 s75 s76 s77 s78 s79 s80 s81 s82 s83 s84 s85 s86 s87 s88 s89 s90 s91 s92 s93 s94 s95 s96 s97 s98 s99 s100 s101 s102 s103 s104 s105 s106 s107 s108 s109 s110 s111 s112 s113 s114 s115 s116 s117 s118 s119 s120 s121 s122 s123 s124 s125 s126 s127 s128 s129 s130 s131 s132 s133 s134 s135 s136 s137 s138 s139 s140 s141 s142 s143 s144 s145 s146 s147 s148 s149 s150 s151 s152 s153 s154 s155 s156 s157 s158 s159 s160 s161 s162 s163 s164 s165 s166 s167 s168 s169 s170 s171 s172 s173 s174 s175 s176 s177 s178 s179 s180 : Value)
 (ha0 : 0 ≤ a1) (ha1 : a1 ≤ 3000) (hnh : fn.homes.length ≤ 1000000) (hnss : T.ss.length ≤ 1000000)
 (hF : ∀ V, Below b4 W V → V.heap[b0]? = some (.cells #[.int .i64 T.r, .int .i64 T.sp, .int .i64 T.lk, .int .i64 T.t0, .int .i64 T.t1, .slice T.pa T.ag.length T.ca, .slice T.pr T.rs.length T.cr, .slice T.ps T.ss.length T.cs, .int .i64 T.al, .int .i64 T.sh, .int .i64 T.br, .bool T.pairs] 25 (0, 0)) ∧ V.heap[b3]? = some (.cells #[.slice qp fn.params.length qc, .int .i64 fn.results, .slice qh fn.homes.length ch, .slice qs fn.slots.length cs, .slice qb fn.blocks.length cb] 70 (0, 0)) ∧ Li V (.slice T.ps T.ss.length T.cs) T.ss ∧ Li V (.slice qh fn.homes.length ch) fn.homes)
 (hu : PtI W b4 oo cc ce slv (.slice none 0 0) (-1) 0 0 sl [] u)
 (hexit : ∀ (w' : World) (kv : Value), PtI W b4 oo cc ce slv kv (-1) 0 0 sl (kpF (savL T.ss fn.homes 16) a1) w' → ∀ (u19 u128 u129 u130 u131 u132 u133 u134 u135 u136 u137 u138 u139 u140 u141 u142 u143 u144 u145 u146 u147 u148 u149 u150 u151 : Value), Q0 (.exit 7) ⟨List.toArray (s0 :: s1 :: s2 :: .pointer (some ⟨b0, 0, none⟩) :: s4 :: s5 :: s6 :: .pointer (some ⟨b3, 0, none⟩) :: .pointer (some ⟨b4, 0, none⟩) :: s9 :: s10 :: s11 :: s12 :: s13 :: s14 :: s15 :: .int .i64 (a1 + 8 * ((savL T.ss fn.homes 16).length : Int)) :: s17 :: s18 :: u19 :: s20 :: s21 :: s22 :: s23 :: s24 :: s25 :: s26 :: s27 :: s28 :: s29 :: s30 :: s31 :: s32 :: s33 :: s34 :: s35 :: s36 :: s37 :: s38 :: s39 :: s40 :: s41 :: s42 :: s43 :: s44 :: s45 :: s46 :: s47 :: s48 :: s49 :: s50 :: s51 :: s52 :: s53 :: s54 :: s55 :: s56 :: s57 :: s58 :: s59 :: s60 :: s61 :: s62 :: s63 :: s64 :: s65 :: s66 :: s67 :: s68 :: s69 :: s70 :: s71 :: s72 :: s73 :: s74 :: s75 :: s76 :: s77 :: s78 :: s79 :: s80 :: s81 :: s82 :: s83 :: s84 :: s85 :: s86 :: s87 :: s88 :: s89 :: s90 :: s91 :: s92 :: s93 :: s94 :: s95 :: s96 :: s97 :: s98 :: s99 :: s100 :: s101 :: s102 :: s103 :: s104 :: s105 :: s106 :: s107 :: s108 :: s109 :: s110 :: s111 :: s112 :: s113 :: s114 :: s115 :: s116 :: s117 :: s118 :: s119 :: s120 :: s121 :: s122 :: s123 :: s124 :: s125 :: s126 :: s127 :: u128 :: u129 :: u130 :: u131 :: u132 :: u133 :: u134 :: u135 :: u136 :: u137 :: u138 :: u139 :: u140 :: u141 :: u142 :: u143 :: u144 :: u145 :: u146 :: u147 :: u148 :: u149 :: u150 :: u151 :: s152 :: s153 :: s154 :: s155 :: s156 :: s157 :: s158 :: s159 :: s160 :: s161 :: s162 :: s163 :: s164 :: s165 :: s166 :: s167 :: s168 :: s169 :: s170 :: s171 :: s172 :: s173 :: s174 :: s175 :: s176 :: s177 :: s178 :: s179 :: s180 :: []), []⟩ w') :
 Code.wp Tryz.prog (fLoop Tryz.f14 3) Q0 ⟨List.toArray (s0 :: s1 :: s2 :: .pointer (some ⟨b0, 0, none⟩) :: s4 :: s5 :: s6 :: .pointer (some ⟨b3, 0, none⟩) :: .pointer (some ⟨b4, 0, none⟩) :: s9 :: s10 :: s11 :: s12 :: s13 :: s14 :: s15 :: .int .i64 a1 :: s17 :: s18 :: .int .i64 0 :: s20 :: s21 :: s22 :: s23 :: s24 :: s25 :: s26 :: s27 :: s28 :: s29 :: s30 :: s31 :: s32 :: s33 :: s34 :: s35 :: s36 :: s37 :: s38 :: s39 :: s40 :: s41 :: s42 :: s43 :: s44 :: s45 :: s46 :: s47 :: s48 :: s49 :: s50 :: s51 :: s52 :: s53 :: s54 :: s55 :: s56 :: s57 :: s58 :: s59 :: s60 :: s61 :: s62 :: s63 :: s64 :: s65 :: s66 :: s67 :: s68 :: s69 :: s70 :: s71 :: s72 :: s73 :: s74 :: s75 :: s76 :: s77 :: s78 :: s79 :: s80 :: s81 :: s82 :: s83 :: s84 :: s85 :: s86 :: s87 :: s88 :: s89 :: s90 :: s91 :: s92 :: s93 :: s94 :: s95 :: s96 :: s97 :: s98 :: s99 :: s100 :: s101 :: s102 :: s103 :: s104 :: s105 :: s106 :: s107 :: s108 :: s109 :: s110 :: s111 :: s112 :: s113 :: s114 :: s115 :: s116 :: s117 :: s118 :: s119 :: s120 :: s121 :: s122 :: s123 :: s124 :: s125 :: s126 :: s127 :: s128 :: s129 :: s130 :: s131 :: s132 :: s133 :: s134 :: s135 :: s136 :: s137 :: s138 :: s139 :: s140 :: s141 :: s142 :: s143 :: s144 :: s145 :: s146 :: s147 :: s148 :: s149 :: s150 :: s151 :: s152 :: s153 :: s154 :: s155 :: s156 :: s157 :: s158 :: s159 :: s160 :: s161 :: s162 :: s163 :: s164 :: s165 :: s166 :: s167 :: s168 :: s169 :: s170 :: s171 :: s172 :: s173 :: s174 :: s175 :: s176 :: s177 :: s178 :: s179 :: s180 :: []), []⟩ u := by
 obtain ⟨tk, htk, hky0, hky1, hky2⟩ := info_K Tryz.infoKp
 have HF := Zac hF
 have HU := Zac hu
 have HEX := Zac hexit
 clear hF hu hexit
 refine onlyX_wp (id := 7) ?_
 conv => arg 2; whnf
 go_loopw [19, 16] (fun sr sa w' => ∃ (r : Nat) (kv : Value), sr = .int .i64 r ∧ sa = .int .i64 (a1 + 8 * ((savL T.ss fn.homes r).length : Int)) ∧ r ≤ 16 ∧ PtI W b4 oo cc ce slv kv (-1) 0 0 sl (kpF (savL T.ss fn.homes r) a1) w') (fun sr _ _ => 16 - (intOf sr).toNat)
 case atStart => exact ⟨0, _, rfl, by simp [savL], by omega, Zaa HU⟩
 case round =>
  clear HU
  obtain ⟨r, kv, rfl, rfl, hr, hI⟩ := hrel
  have hsl := savL_len T.ss fn.homes r
  have hfm := Zan hI.kp
  rw [kpF_len] at hfm
  obtain ⟨kp, kc, rfl⟩ := hfm
  by_cases hr2 : r < 16
  ·
   clear HEX
   obtain ⟨h0, h3, hls, hlh⟩ := Zaa HF wr hI.low
   have t7 : wr.cell? ⟨b0, 7, none⟩ = some (.slice T.ps T.ss.length T.cs) := (Zab h0 7).trans rfl
   have f2 : wr.cell? ⟨b3, 2, none⟩ = some (.slice qh fn.homes.length ch) := (Zab h3 2).trans rfl
   have HH1 := Zac (hasT_c T.ss (r : Int) _ wr hls.rs hnss)
   have HH2 := Zac (hasT_c fn.homes (r : Int) _ wr hlh.rs hnh)
   have HSN := Zac (savL_next T.ss fn.homes r)
   have HI := Zac hI
   have a4 := (Zab hI.row 4).trans rfl
   have HOW := Zac (show wr.ownsRow (b4 + 1) 56 2 (.slice kp (savL T.ss fn.homes r).length kc) (savL T.ss fn.homes r).length (plC (kpF (savL T.ss fn.homes r) a1)) by have h := hI.kp; rw [kpF_len] at h; exact h)
   have hwz := hI.size
   clear hI h0 h3 hls hlh
   generalize savL T.ss fn.homes r = sv at HI HOW HSN hsl a4 ⊢
   obtain ⟨y, hy⟩ : ∃ y, y = a1 + 8 * (sv.length : Int) := ⟨_, rfl⟩
   have hyb0 : 0 ≤ y := by omega
   have hyb1 : y ≤ 4000 := by omega
   have HY := Zac hy
   rw [← hy]
   clear hy
   go_wp2_with fail
   refine (Zaa HH1).mono ?_
   rintro e w1 ⟨rfl, hw⟩
   subst w1
   by_cases hm1 : (r : Int) ∈ T.ss
   ·
    rw [decide_eq_true hm1]
    go_wp2_with fail
    refine (Zaa HH2).mono ?_
    rintro e w1 ⟨rfl, hw⟩
    subst w1
    by_cases hm2 : (r : Int) ∈ fn.homes
    ·
     have HSX := Zac (show savL T.ss fn.homes (r + 1) = sv ++ [(r : Int)] by rw [Zaa HSN, decide_eq_true hm1, decide_eq_true hm2]; rfl)
     rw [decide_eq_true hm2]
     clear hm1 hm2 HH1 HH2 HSN t7 f2
     go_wp2_with (at_builtin; refine wpList_append_own _ rfl _ _ 30 rfl (b4 + 1) 56 tk _ 2 16 Tryz.underlying30 htk hky0 hky1 hky2 rfl (by decide) _ _ _ rfl (World.ownsRow.alloc (Zaa HOW) _) ⟨wr.heap.size, 0, none⟩ 1 1 [.int .i64 (r : Int), .int .i64 y] rfl rfl (by intro j u hj; match j, hj with | 0, hj => (simp at hj; subst hj; simp [Addr.add]) | 1, hj => (simp at hj; subst hj; simp [Addr.add])) (by intro u hu; simp at hu; rcases hu with rfl | rfl <;> rfl) ?k3 ?k4 ?k5 ?_)
     case k3 => unfold maxLen; omega
     case k4 => omega
     case k5 => first | omega | (simp; omega)
     intro v7 w7 hown7 hgr7 _
     have hX := (Zaa HI).kept (x := (r : Int)) (y := y) hgr7 (by rw [kpF_len]; exact hown7)
     have hr7 := ((Zaa HI).low_app _ (Zaa HOW) hgr7).2.trans (Zaa HI).row
     have j4 := (Zab hr7 4).trans rfl
     have g4 := frozen_of_row _ _ 4 _ _ hr7
     obtain ⟨gg7, cc7, rfl⟩ := own_sliceL hown7
     have HX := Zac (show PtI W b4 oo cc ce slv (.slice (some ⟨gg7, 0, none⟩) (sv.length + 1) cc7) (-1) 0 0 sl (kpF (savL T.ss fn.homes (r + 1)) a1) (w7.setCell ⟨b4, 4, none⟩ (.slice (some ⟨gg7, 0, none⟩) (sv.length + 1) cc7)) by rw [Zaa HSX, kpF_snoc, ← Zaa HY]; exact hX)
     have HNY := Zac (show a1 + 8 * ((savL T.ss fn.homes (r + 1)).length : Int) = y + 8 by rw [Zaa HSX, List.length_append, List.length_singleton, Zaa HY]; omega)
     clear hown7 hgr7 hr7 hX a4 HOW HI
     go_wp2
     go_roundw
     case rel => exact ⟨r + 1, _, by go_num, by rw [Zaa HNY], by omega, Zaa HX⟩
     case measure => simp [intOf]; omega
    ·
     have HSX := Zac (show savL T.ss fn.homes (r + 1) = sv by rw [Zaa HSN, decide_eq_false hm2]; simp)
     rw [decide_eq_false hm2]
     clear hm1 hm2 HH1 HH2 HSN t7 f2
     go_wp2
     go_roundw
     case rel => exact ⟨r + 1, _, by go_num, by rw [Zaa HSX, Zaa HY], by omega, by rw [Zaa HSX]; exact Zaa HI⟩
     case measure => simp [intOf]; omega
   ·
    have HSX := Zac (show savL T.ss fn.homes (r + 1) = sv by rw [Zaa HSN, decide_eq_false hm1]; simp)
    rw [decide_eq_false hm1]
    clear hm1 HH1 HH2 HSN t7 f2
    go_wp2
    go_roundw
    case rel => exact ⟨r + 1, _, by go_num, by rw [Zaa HSX, Zaa HY], by omega, by rw [Zaa HSX]; exact Zaa HI⟩
    case measure => simp [intOf]; omega
  ·
   have hrn : r = 16 := by omega
   subst hrn
   have HX := Zac (Zaa HEX wr _ hI)
   clear hI
   go_wp2_with fail
   exact ⟨rfl, Zaa HX _ _ _ _ _ _ _ _ _ _ _ _ _ _ _ _ _ _ _ _ _ _ _ _ _⟩
set_option maxHeartbeats 16000000 in
set_option maxRecDepth 100000 in
theorem rfUp (T : TbE) (u : World) (b0 : Nat) (a0 ps : Int) (Q0 : Exit → Act → World → Prop) (s0 s1 s2 s4 s5 s6 s7 s8 s9 s10 s11 s12 s13 s14 s15 s17 s18 s19 s21 s22 s23 s24 s25 s26 s27 s28 s29 s30 s31 s32 s33 s34 s35 s36 s37 s38 s39 s40 s41 s42 s43 s44 s45 s46 s47 s48 s49 s50 s51 s52 s53 s54 s55 s56 s57 s58 s59 s60 s61 s62 s63 s64 s65 s66 s67 s68 s69 s70 s71 s72 s73 s74 s75 s76 s77 s78 s79 s80 s81 s82 s83 s84 s85 s86 s87 s88 s89 s90 s91 s92 s93 s94 s95 s96 s97 s98 s99 s100 s101 s102 s103 s104 s105 s106 s107 s108 s109 s110 s111 s112 s113 s114 s115 s116 s117 s118 s119 s120 s121 s122 s123 s124 s125 s126 s127 s128 s129 s130 s131 s132 s133 s134 s135 s136 s137 s138 s139 s140 s141 s142 s143 s144 s145 s146 s147 s148 s149 s150 s151 s152 s153 s154 s155 s156 s157 s158 s159 s160 s161 s162 s163 s164 s165 s166 s167 s168 s169 s170 s171 s172 s173 s174 s175 s176 s177 s178 s179 s180 : Value)
 (ha0 : 0 ≤ a0) (ha1 : a0 ≤ 5000) (hp0 : 0 ≤ ps) (hp1 : ps ≤ 8) (hal0 : 1 ≤ T.al) (hal1 : T.al ≤ 1000) (hr : u.heap[b0]? = some (.cells #[.int .i64 T.r, .int .i64 T.sp, .int .i64 T.lk, .int .i64 T.t0, .int .i64 T.t1, .slice T.pa T.ag.length T.ca, .slice T.pr T.rs.length T.cr, .slice T.ps T.ss.length T.cs, .int .i64 T.al, .int .i64 T.sh, .int .i64 T.br, .bool T.pairs] 25 (0, 0)))
 (hexit : ∀ (u165 u166 u167 u168 u169 u170 u171 u172 u173 : Value), Q0 (.exit 9) ⟨List.toArray (s0 :: s1 :: s2 :: .pointer (some ⟨b0, 0, none⟩) :: s4 :: s5 :: s6 :: s7 :: s8 :: s9 :: s10 :: s11 :: s12 :: s13 :: s14 :: s15 :: .int .i64 ((a0 + ps + T.al - 1) / T.al * T.al - ps) :: s17 :: s18 :: s19 :: .int .i64 ps :: s21 :: s22 :: s23 :: s24 :: s25 :: s26 :: s27 :: s28 :: s29 :: s30 :: s31 :: s32 :: s33 :: s34 :: s35 :: s36 :: s37 :: s38 :: s39 :: s40 :: s41 :: s42 :: s43 :: s44 :: s45 :: s46 :: s47 :: s48 :: s49 :: s50 :: s51 :: s52 :: s53 :: s54 :: s55 :: s56 :: s57 :: s58 :: s59 :: s60 :: s61 :: s62 :: s63 :: s64 :: s65 :: s66 :: s67 :: s68 :: s69 :: s70 :: s71 :: s72 :: s73 :: s74 :: s75 :: s76 :: s77 :: s78 :: s79 :: s80 :: s81 :: s82 :: s83 :: s84 :: s85 :: s86 :: s87 :: s88 :: s89 :: s90 :: s91 :: s92 :: s93 :: s94 :: s95 :: s96 :: s97 :: s98 :: s99 :: s100 :: s101 :: s102 :: s103 :: s104 :: s105 :: s106 :: s107 :: s108 :: s109 :: s110 :: s111 :: s112 :: s113 :: s114 :: s115 :: s116 :: s117 :: s118 :: s119 :: s120 :: s121 :: s122 :: s123 :: s124 :: s125 :: s126 :: s127 :: s128 :: s129 :: s130 :: s131 :: s132 :: s133 :: s134 :: s135 :: s136 :: s137 :: s138 :: s139 :: s140 :: s141 :: s142 :: s143 :: s144 :: s145 :: s146 :: s147 :: s148 :: s149 :: s150 :: s151 :: s152 :: s153 :: s154 :: s155 :: s156 :: s157 :: s158 :: s159 :: s160 :: s161 :: s162 :: s163 :: s164 :: u165 :: u166 :: u167 :: u168 :: u169 :: u170 :: u171 :: u172 :: u173 :: s174 :: s175 :: s176 :: s177 :: s178 :: s179 :: s180 :: []), []⟩ u) :
 Code.wp Tryz.prog (fLoop Tryz.f14 4) Q0 ⟨List.toArray (s0 :: s1 :: s2 :: .pointer (some ⟨b0, 0, none⟩) :: s4 :: s5 :: s6 :: s7 :: s8 :: s9 :: s10 :: s11 :: s12 :: s13 :: s14 :: s15 :: .int .i64 a0 :: s17 :: s18 :: s19 :: .int .i64 ps :: s21 :: s22 :: s23 :: s24 :: s25 :: s26 :: s27 :: s28 :: s29 :: s30 :: s31 :: s32 :: s33 :: s34 :: s35 :: s36 :: s37 :: s38 :: s39 :: s40 :: s41 :: s42 :: s43 :: s44 :: s45 :: s46 :: s47 :: s48 :: s49 :: s50 :: s51 :: s52 :: s53 :: s54 :: s55 :: s56 :: s57 :: s58 :: s59 :: s60 :: s61 :: s62 :: s63 :: s64 :: s65 :: s66 :: s67 :: s68 :: s69 :: s70 :: s71 :: s72 :: s73 :: s74 :: s75 :: s76 :: s77 :: s78 :: s79 :: s80 :: s81 :: s82 :: s83 :: s84 :: s85 :: s86 :: s87 :: s88 :: s89 :: s90 :: s91 :: s92 :: s93 :: s94 :: s95 :: s96 :: s97 :: s98 :: s99 :: s100 :: s101 :: s102 :: s103 :: s104 :: s105 :: s106 :: s107 :: s108 :: s109 :: s110 :: s111 :: s112 :: s113 :: s114 :: s115 :: s116 :: s117 :: s118 :: s119 :: s120 :: s121 :: s122 :: s123 :: s124 :: s125 :: s126 :: s127 :: s128 :: s129 :: s130 :: s131 :: s132 :: s133 :: s134 :: s135 :: s136 :: s137 :: s138 :: s139 :: s140 :: s141 :: s142 :: s143 :: s144 :: s145 :: s146 :: s147 :: s148 :: s149 :: s150 :: s151 :: s152 :: s153 :: s154 :: s155 :: s156 :: s157 :: s158 :: s159 :: s160 :: s161 :: s162 :: s163 :: s164 :: s165 :: s166 :: s167 :: s168 :: s169 :: s170 :: s171 :: s172 :: s173 :: s174 :: s175 :: s176 :: s177 :: s178 :: s179 :: s180 :: []), []⟩ u := by
 have HEX := Zac hexit
 have t8 : u.cell? ⟨b0, 8, none⟩ = some (.int .i64 T.al) := (Zab hr 8).trans rfl
 obtain ⟨up, hup⟩ : ∃ up, up = (a0 + ps + T.al - 1) / T.al * T.al := ⟨_, rfl⟩
 have hub : up ≤ a0 + ps + T.al - 1 := by rw [hup]; exact Int.ediv_mul_le _ (by omega)
 have HUP := Zac hup
 have HFI := Zac (show a0 + ps ≤ up by rw [hup]; exact up_first hal0)
 have HEN := Zac (fun (a : Int) (h0 : a0 + ps ≤ a) (h1 : a ≤ up) (hm : a % T.al = 0) => show a = up by rw [hup] at h1 ⊢; exact up_ends hal0 h0 h1 hm)
 have HGO := Zac (fun (a : Int) (h1 : a ≤ up) (hm : ¬ a % T.al = 0) => show a + 1 ≤ up by rw [hup] at h1 ⊢; exact up_goes h1 hm)
 rw [← hup] at HEX
 have hne : (T.al == 0) = false := by simp; omega
 clear hexit hr hup
 refine onlyX_wp (id := 9) ?_
 conv => arg 2; whnf
 go_loopw [16] (fun sa w' => ∃ a : Int, sa = .int .i64 a ∧ a0 ≤ a ∧ a + ps ≤ up ∧ w' = u) (fun sa _ => (up - ps - intOf sa).toNat)
 case atStart => exact ⟨a0, rfl, by omega, Zaa HFI, rfl⟩
 case round =>
  obtain ⟨a, rfl, h0, h1, hw⟩ := hrel
  subst hw
  have htm : (a + ps).tmod T.al = (a + ps) % T.al := Int.tmod_eq_emod_of_nonneg (by omega)
  by_cases hm : (a + ps) % T.al = 0
  ·
   have he := Zaa HEN (a + ps) (by omega) h1 hm
   have hz : Int.tmod (a + ps) T.al = 0 := htm.trans hm
   have hae : a = up - ps := by omega
   clear htm hm he
   have HX := Zac (Zaa HEX)
   have HAE := Zac hae
   clear hae
   go_wp2_with fail
   exact ⟨rfl, by rw [Zaa HAE]; exact Zaa HX _ _ _ _ _ _ _ _ _⟩
  ·
   have hg := Zaa HGO (a + ps) h1 hm
   obtain ⟨m, hmm⟩ : ∃ m, Int.tmod (a + ps) T.al = m := ⟨_, rfl⟩
   have hz : (m != 0) = true := by rw [← hmm, htm]; simpa using hm
   clear htm hm
   go_wp2
   go_roundw
   case rel => exact ⟨a + 1, by go_num, by omega, by omega, by first | rfl | trivial⟩
   case measure => simp [intOf]; omega
end Go.Proofs.YtffemeicclhioaaGreatDoor
