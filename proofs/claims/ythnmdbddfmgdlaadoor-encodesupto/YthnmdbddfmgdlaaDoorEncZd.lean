/-
  Encodes: prologueref.Encode by its contract. Own work of the verifier.
-/
import Derived.Test.YthnmdbddfmgdlaaDoorEncZc
import Derived.RegionCalls
namespace Go.Proofs.YthnmdbddfmgdlaaDoor
open Go.RowKit

set_option maxHeartbeats 8000000 in
set_option maxRecDepth 100000 in
theorem loopExterns (b : Nat) (l : List UInt8) (bad : Bool) (pp : Option Addr) (cap : Nat) (ps : List (Array Value × (List Int × Int))) (w : World) (Q0 : Exit → Act → World → Prop) (s0 s1 s2 s3 s5 s6 s7 s8 s9 s10 s11 s12 s13 s14 s15 s16 s17 s18 s19 s20 s21 s22 s23 s24 s25 s26 s30 s31 s32 s33 s34 s35 s36 s37 s38 s39 s40 s41 s42 s43 s44 s45 s46 s47 s48 s49 s50 s51 s52 s53 s54 s55 s56 s57 s58 s59 s60 s61 s62 s63 s64 s65 s66 s67 s68 s69 s70 s71 s72 s73 s74 s75 s76 s77 s78 s79 s80 s81 s82 s83 s84 s85 s86 s87 s88 s89 s90 s91 s92 s93 s94 s95 s96 s97 s98 s99 s100 s101 s102 s103 s104 s105 s106 s107 s108 s109 s110 s111 s112 s113 s114 s115 s116 s117 s118 s119 s120 s121 s122 s123 s124 s125 s126 s127 s128 s129 s130 s131 s132 s133 s134 s135 s136 s137 s138 s139 s140 s141 s142 s143 s144 s145 s146 s147 s148 s149 s150 s151 : Value)
    (h : Pn w b l bad) (hl : l.length + (penAll penSig (ps.map (·.2))).1.length < 9223372036854775807) (hlen : ps.length < 9223372036854775808) (hns : LsB 2 w b (.slice pp ps.length cap) ps) (hvals : ∀ q ∈ ps, SigAt w b q)
    (hexit : ∀ (u6 u29 u30 u31 u32 u33 u34 u35 u36 : Value) (w' : World), Pn w' b (l ++ (penAll penSig (ps.map (·.2))).1) (bad || (penAll penSig (ps.map (·.2))).2) → w.grownBy w' (some b) → Q0 (.exit 0) ⟨List.toArray (s0 :: s1 :: s2 :: s3 :: .pointer (some ⟨b, 0, none⟩) :: s5 :: u6 :: s7 :: s8 :: s9 :: s10 :: s11 :: s12 :: s13 :: s14 :: s15 :: s16 :: s17 :: s18 :: s19 :: s20 :: s21 :: s22 :: s23 :: s24 :: s25 :: s26 :: .slice pp ps.length cap :: .int .i64 ps.length :: u29 :: u30 :: u31 :: u32 :: u33 :: u34 :: u35 :: u36 :: s37 :: s38 :: s39 :: s40 :: s41 :: s42 :: s43 :: s44 :: s45 :: s46 :: s47 :: s48 :: s49 :: s50 :: s51 :: s52 :: s53 :: s54 :: s55 :: s56 :: s57 :: s58 :: s59 :: s60 :: s61 :: s62 :: s63 :: s64 :: s65 :: s66 :: s67 :: s68 :: s69 :: s70 :: s71 :: s72 :: s73 :: s74 :: s75 :: s76 :: s77 :: s78 :: s79 :: s80 :: s81 :: s82 :: s83 :: s84 :: s85 :: s86 :: s87 :: s88 :: s89 :: s90 :: s91 :: s92 :: s93 :: s94 :: s95 :: s96 :: s97 :: s98 :: s99 :: s100 :: s101 :: s102 :: s103 :: s104 :: s105 :: s106 :: s107 :: s108 :: s109 :: s110 :: s111 :: s112 :: s113 :: s114 :: s115 :: s116 :: s117 :: s118 :: s119 :: s120 :: s121 :: s122 :: s123 :: s124 :: s125 :: s126 :: s127 :: s128 :: s129 :: s130 :: s131 :: s132 :: s133 :: s134 :: s135 :: s136 :: s137 :: s138 :: s139 :: s140 :: s141 :: s142 :: s143 :: s144 :: s145 :: s146 :: s147 :: s148 :: s149 :: s150 :: s151 :: []), []⟩ w') :
    Code.wp Tryd.prog (encLoop Tryd.f6 0) Q0 ⟨List.toArray (s0 :: s1 :: s2 :: s3 :: .pointer (some ⟨b, 0, none⟩) :: s5 :: s6 :: s7 :: s8 :: s9 :: s10 :: s11 :: s12 :: s13 :: s14 :: s15 :: s16 :: s17 :: s18 :: s19 :: s20 :: s21 :: s22 :: s23 :: s24 :: s25 :: s26 :: .slice pp ps.length cap :: .int .i64 ps.length :: .int .i64 0 :: s30 :: s31 :: s32 :: s33 :: s34 :: s35 :: s36 :: s37 :: s38 :: s39 :: s40 :: s41 :: s42 :: s43 :: s44 :: s45 :: s46 :: s47 :: s48 :: s49 :: s50 :: s51 :: s52 :: s53 :: s54 :: s55 :: s56 :: s57 :: s58 :: s59 :: s60 :: s61 :: s62 :: s63 :: s64 :: s65 :: s66 :: s67 :: s68 :: s69 :: s70 :: s71 :: s72 :: s73 :: s74 :: s75 :: s76 :: s77 :: s78 :: s79 :: s80 :: s81 :: s82 :: s83 :: s84 :: s85 :: s86 :: s87 :: s88 :: s89 :: s90 :: s91 :: s92 :: s93 :: s94 :: s95 :: s96 :: s97 :: s98 :: s99 :: s100 :: s101 :: s102 :: s103 :: s104 :: s105 :: s106 :: s107 :: s108 :: s109 :: s110 :: s111 :: s112 :: s113 :: s114 :: s115 :: s116 :: s117 :: s118 :: s119 :: s120 :: s121 :: s122 :: s123 :: s124 :: s125 :: s126 :: s127 :: s128 :: s129 :: s130 :: s131 :: s132 :: s133 :: s134 :: s135 :: s136 :: s137 :: s138 :: s139 :: s140 :: s141 :: s142 :: s143 :: s144 :: s145 :: s146 :: s147 :: s148 :: s149 :: s150 :: s151 :: []), []⟩ w := by
  have hbl := h.lt
  have HNS := hideE hns
  have HP0 := hideE h
  have HL := hideE hl
  have HEX := hideE hexit
  have HV := hideE hvals
  clear hvals
  clear hns h hl hexit
  conv => arg 2; whnf
  go_loopw [29] (fun j w' => ∃ k : Nat, j = .int .i64 k ∧ k ≤ ps.length ∧ Pn w' b (l ++ (penAll penSig ((ps.take k).map (·.2))).1) (bad || (penAll penSig ((ps.take k).map (·.2))).2) ∧ w.grownBy w' (some b)) (fun j _ => ps.length - (intOf j).toNat)
  case atStart => exact ⟨0, rfl, by omega, by simpa [penAll] using unhideE HP0, ⟨rfl, rfl, rfl, Nat.le_refl _, fun _ _ _ => rfl⟩⟩
  case round =>
    obtain ⟨k, rfl, hk, hp, hg⟩ := hrel
    by_cases hlt : k < ps.length
    · have hbd := map_bound penSig ps k hlt
      have hrs := (unhideE HNS).same (same_gb hg (by omega))
      obtain ⟨sb, so, cap', hv, hsb, hc⟩ := hrs.resolve_left (fun c => by rw [c.1] at hlt; simp at hlt)
      injection hv with e1 e2 e3
      subst e1
      have hrg := hc k hlt
      have HSN := hideE (map_snoc penSig ps k hlt)
      have hmem := List.getElem_mem hlt
      clear hc e2 e3 hrs
      obtain ⟨lv, hval, hrs, hrl⟩ := (unhideE HV) ps[k] hmem
      generalize ps[k] = y at hrg HSN hbd hval hrs hrl
      obtain ⟨arr, y1, y2⟩ := y
      simp only at hrg HSN hbd hval hrs hrl
      subst hval
      obtain ⟨lp, lc, hlv⟩ := hrs.shape
      obtain ⟨R, hR⟩ : ∃ R, R = penAll penSig ((ps.take k).map (·.2)) := ⟨_, rfl⟩
      rw [← hR] at hp HSN hbd
      rw [penSig_len] at hbd
      simp only at hbd
      have HRG := hideE hrg
      have HCALL := hideE (fun X' : Obj => psig_c b (l ++ R.1) (bad || R.2) lv y1 y2 (wr.alloc X') (hp.alloc X') (by have := unhideE HL; simp only [List.length_append]; omega) (hrs.same (same_gb (gb_tr hg (gb_alloc wr X' (some b))) (by omega))))
      have HG := hideE hg
      subst hlv
      clear hR hp hg hrg hrs hbd
      go_wp2_with (first | (refine wpList_load_mid rfl 53 (.tmp 31) rfl sb (so + k * 2) rfl [.slice lp y1.length lc, .int .i64 y2] _ (unhideE HRG) Tryd.underlying53 rfl (Tryd.infSigsZ.trans rfl) ?_) | (refine wpList_load_row rfl 53 (.tmp 6) rfl wr.heap.size rfl 53 #[.slice lp y1.length lc, .int .i64 y2] (0, 0) _ (heap_alloc_new _ _) Tryd.underlying53 rfl (Tryd.infSigsZ.trans rfl) ?_))
      refine (unhideE HCALL _).mono ?_
      rintro e w3 ⟨rfl, hp3, hg3⟩
      have HPZ := hideE hp3
      have HGZ := hideE (gb_tr (unhideE HG) (gb_tr (gb_alloc wr _ (some b)) hg3))
      clear hp3 hg3 HCALL HRG HG
      go_wp2
      go_roundw
      case rel =>
        refine ⟨k + 1, by go_num, by omega, ?_, unhideE HGZ⟩
        have h2 := unhideE HPZ
        rw [unhideE HSN]
        simp only [penSeq, ← List.append_assoc, ← Bool.or_assoc]
        exact h2
      case measure => simp [intOf]; omega
    · obtain rfl : k = ps.length := by omega
      have HP := hideE hp
      have HG := hideE hg
      clear hp hg
      go_wp2_with fail
      exact unhideE HEX _ _ _ _ _ _ _ _ _ wr (by have := unhideE HP; rw [List.take_length] at this; exact this) (unhideE HG)
set_option maxHeartbeats 16000000 in
set_option maxRecDepth 100000 in
theorem rencode_c (p : ProgE) (fv ev : Value) (pf : List (Array Value × FuncE)) (pe : List (Array Value × (List Int × Int))) (w : World) (hP : ProgV w w.heap.size p fv ev pf pe) (hnum : NumOk p) (hl : (penProg p).1.length < 9223372036854775807) :
    Calls Tryd.prog 6 #[.agg #[fv, ev]] w fun e w' => e = .returned (refRet (encOut p)) ∧ Below w.heap.size w w' := by
  obtain ⟨p0, c0', e0⟩ := hP.fls.shape
  obtain ⟨p2, c2', e2⟩ := hP.els.shape
  subst e0 e2
  have hlb : 2 + (penL 0 4 penSig p.externs).1.length + (penL 1 8 penFunc p.funcs).1.length < 9223372036854775807 := by
    have := hl
    simp only [penProg, penSeq, List.length_append, List.length_cons, List.length_nil] at this
    omega
  rw [penL_len, penL_len] at hlb
  have hlf : pf.length < 9223372036854775808 := hP.lens.1
  have hle : pe.length < 9223372036854775808 := hP.lens.2
  have HLB := hideE hlb
  have HPW := hideE hP
  have HNUM := hideE hnum
  clear hl hP hnum
  go_enter Tryd.func6, Tryd.ntmps6
  go_wp2_with fail
  obtain ⟨A0, hA0⟩ : ∃ A : Array Value, A = #[.slice p0 pf.length c0', .slice p2 pe.length c2'] := ⟨_, rfl⟩
  rw [← hA0]
  have hz1 : (((w.alloc (.cells A0 25)).alloc (.cells #[.int .i64 0, .int .i64 0, .int .i64 0, .int .i64 0] 30)).alloc (.cells #[.string ⟨#[70, 49]⟩, .bool false] 49)).heap.size = w.heap.size + 1 + 1 + 1 := by simp
  have hz2 : (((w.alloc (.cells A0 25)).alloc (.cells #[.int .i64 0, .int .i64 0, .int .i64 0, .int .i64 0] 30)).alloc (.cells #[.string ⟨#[70, 49]⟩, .bool false] 49)).heap[w.heap.size + 1 + 1]? = some (.cells #[.string ⟨#[70, 49]⟩, .bool false] 49 (0, 0)) := by
    have := heap_alloc_new ((w.alloc (.cells A0 25)).alloc (.cells #[.int .i64 0, .int .i64 0, .int .i64 0, .int .i64 0] 30)) (.cells #[.string ⟨#[70, 49]⟩, .bool false] 49)
    simpa using this
  have hz3 : (((w.alloc (.cells A0 25)).alloc (.cells #[.int .i64 0, .int .i64 0, .int .i64 0, .int .i64 0] 30)).alloc (.cells #[.string ⟨#[70, 49]⟩, .bool false] 49)).heap[w.heap.size + 1]? = some (.cells #[.int .i64 0, .int .i64 0, .int .i64 0, .int .i64 0] 30 (0, 0)) := by
    have := heap_alloc_new (w.alloc (.cells A0 25)) (.cells #[.int .i64 0, .int .i64 0, .int .i64 0, .int .i64 0] 30)
    have h2 : (w.alloc (.cells A0 25)).heap.size = w.heap.size + 1 := by simp
    rw [h2] at this
    exact ((gb_alloc _ _ none).block _ (by simp) (by simp)).trans this
  have hz4 : (((w.alloc (.cells A0 25)).alloc (.cells #[.int .i64 0, .int .i64 0, .int .i64 0, .int .i64 0] 30)).alloc (.cells #[.string ⟨#[70, 49]⟩, .bool false] 49)).heap[w.heap.size]? = some (.cells A0 25 (0, 0)) :=
    ((gb_alloc _ _ none).block _ (by simp; omega) (by simp)).trans (((gb_alloc _ _ none).block _ (by simp) (by simp)).trans (heap_alloc_new _ _))
  have hz5 : Below w.heap.size w (((w.alloc (.cells A0 25)).alloc (.cells #[.int .i64 0, .int .i64 0, .int .i64 0, .int .i64 0] 30)).alloc (.cells #[.string ⟨#[70, 49]⟩, .bool false] 49)) := by go_grown
  generalize ((w.alloc _).alloc _).alloc _ = W at hz1 hz2 hz3 hz4 hz5 ⊢
  obtain ⟨b, hb⟩ : ∃ b, b = w.heap.size + 1 + 1 := ⟨_, rfl⟩
  rw [← hb] at hz1 hz2 ⊢
  have hb1 : b ≤ w.heap.size + 2 := by omega
  have hb2 : w.heap.size + 2 ≤ b := by omega
  clear hb
  have hpn : Pn W b [70, 49] false := ⟨(cells_of_row hz2 0).trans rfl, (cells_of_row hz2 1).trans rfl, frozen_of_row _ _ _ _ _ hz2, frozen_of_row _ _ _ _ _ hz2⟩
  have HPV := hideE (((unhideE HPW).same (fun k hk => hz5.block k hk)).mono (show w.heap.size ≤ b by omega))
  have HROW0 := hideE hz4
  have HROWR := hideE hz3
  have HBEL := hideE hz5
  have HA0 := hideE hA0
  have HPA := hideE hpn
  have hbW : b < W.heap.size := by omega
  have HGA := hideE (show W.grownBy W (some b) from ⟨rfl, rfl, rfl, Nat.le_refl _, fun _ _ _ => rfl⟩)
  clear hz2 hz3 hz4 hz5 hpn hA0 HPW
  have hl0 : ([70, 49] : List UInt8).length = 2 := rfl
  obtain ⟨l0, hl0'⟩ : ∃ l, l = ([70, 49] : List UInt8) := ⟨_, rfl⟩
  rw [← hl0'] at hl0 HPA
  have HL0 := hideE hl0'
  clear hl0'
  have HPE := hideE (show pe.length = p.externs.length by rw [← (unhideE HPV).externs]; simp)
  have HPF := hideE (show pf.length = p.funcs.length by rw [← (unhideE HPV).funcs]; simp)
  clear hz1
  refine (pnum_c b l0 false pe.length 0 4 W (unhideE HPA) (by omega)).mono ?_
  rintro e w1 ⟨rfl, hpa, hga⟩
  have HG1 := hideE (gb_tr (unhideE HGA) hga)
  have HP1 := hideE (show Pn w1 b (l0 ++ (penNum 0 4 pe.length).1) (false || (penNum 0 4 pe.length).2) from hpa)
  clear hpa hga HPA HGA
  have k1 : w1.cell? ⟨w.heap.size, 1, none⟩ = some (.slice p2 pe.length c2') := (cells_of_row (row_stays (unhideE HROW0) (unhideE HG1) (by omega)) 1).trans (by rw [unhideE HA0]; rfl)
  go_wp2_with fail
  clear k1
  refine loopExterns b (l0 ++ (penNum 0 4 pe.length).1) (false || (penNum 0 4 pe.length).2) p2 c2' pe w1 _ _ _ _ _ _ _ _ _ _ _ _ _ _ _ _ _ _ _ _ _ _ _ _ _ _ _ _ _ _ _ _ _ _ _ _ _ _ _ _ _ _ _ _ _ _ _ _ _ _ _ _ _ _ _ _ _ _ _ _ _ _ _ _ _ _ _ _ _ _ _ _ _ _ _ _ _ _ _ _ _ _ _ _ _ _ _ _ _ _ _ _ _ _ _ _ _ _ _ _ _ _ _ _ _ _ _ _ _ _ _ _ _ _ _ _ _ _ _ _ _ _ _ _ _ _ _ _ _ _ _ _ _ _ _ _ _ _ _ _ _ _ _ _ _ _ _ _ _ (unhideE HP1) (by rw [(unhideE HPV).externs]; simp only [List.length_append, penNum_len]; have := unhideE HLB; omega) hle ((unhideE HPV).els.same (same_gb (unhideE HG1) (by omega))) (fun q hq => ((unhideE HPV).eeach q hq).same (same_gb (unhideE HG1) (by omega))) ?_
  intro u6 u29 u30 u31 u32 u33 u34 u35 u36 w2 hpb hgb
  have HP2 := hideE (Pn.seq hpb)
  have HG2 := hideE (gb_tr (unhideE HG1) hgb)
  clear hpb hgb HP1 HG1
  rw [(unhideE HPV).externs] at HP2
  obtain ⟨l2, hl2⟩ : ∃ x, x = l0 ++ (penSeq (penNum 0 4 pe.length) (penAll penSig p.externs)).1 := ⟨_, rfl⟩
  obtain ⟨b2, hb2⟩ : ∃ x, x = (false || (penSeq (penNum 0 4 pe.length) (penAll penSig p.externs)).2) := ⟨_, rfl⟩
  have hL2 : l2.length = l0.length + (1 + (penAll penSig p.externs).1.length) := by rw [hl2]; simp only [penSeq, List.length_append, penNum_len]
  rw [← hl2, ← hb2] at HP2
  have HL2 := hideE hl2
  have HB2 := hideE hb2
  clear hl2 hb2
  have k0 : w2.cell? ⟨w.heap.size, 0, none⟩ = some (.slice p0 pf.length c0') := (cells_of_row (row_stays (unhideE HROW0) (unhideE HG2) (by omega)) 0).trans (by rw [unhideE HA0]; rfl)
  go_wp2_with fail
  clear k0
  refine (pnum_c b l2 b2 pf.length 1 8 w2 (unhideE HP2) (by have := unhideE HLB; omega)).mono ?_
  rintro e w3 ⟨rfl, hpa, hga⟩
  have HG3 := hideE (gb_tr (unhideE HG2) hga)
  have HP3 := hideE (show Pn w3 b (l2 ++ (penNum 1 8 pf.length).1) (b2 || (penNum 1 8 pf.length).2) from hpa)
  clear hpa hga HP2 HG2
  have k0 : w3.cell? ⟨w.heap.size, 0, none⟩ = some (.slice p0 pf.length c0') := (cells_of_row (row_stays (unhideE HROW0) (unhideE HG3) (by omega)) 0).trans (by rw [unhideE HA0]; rfl)
  go_wp2_with fail
  clear k0
  refine loopFuncs b (l2 ++ (penNum 1 8 pf.length).1) (b2 || (penNum 1 8 pf.length).2) p0 c0' pf w3 _ _ _ _ _ _ _ _ _ _ _ _ _ _ _ _ _ _ _ _ _ _ _ _ _ _ _ _ _ _ _ _ _ _ _ _ _ _ _ _ _ _ _ _ _ _ _ _ _ _ _ _ _ _ _ _ _ _ _ _ _ _ _ _ _ _ _ _ _ _ _ _ _ _ _ _ _ _ _ _ _ _ _ _ _ _ _ _ _ _ _ _ _ _ _ _ _ _ _ _ _ _ _ _ _ _ _ _ _ _ _ _ _ _ _ _ _ _ _ _ _ _ _ _ _ _ _ _ _ _ _ _ _ _ _ _ _ _ _ _ _ _ _ _ _ _ _ _ _ (unhideE HP3) (by rw [(unhideE HPV).funcs]; simp only [List.length_append, penNum_len]; have := unhideE HLB; omega) hlf ((unhideE HPV).fls.same (same_gb (unhideE HG3) (by omega))) (fun q hq => ((unhideE HPV).feach q hq).same (same_gb (unhideE HG3) (by omega))) (fun q hq => unhideE HNUM q.2 (by rw [← (unhideE HPV).funcs]; exact List.mem_map_of_mem hq)) ?_
  intro u8 u10 u12 u14 u16 u18 u45 u46 u47 u48 u49 u50 u51 u52 u53 u54 u55 u56 u57 u58 u59 u60 u61 u62 u63 u64 u65 u66 u67 u68 u69 u70 u71 u72 u73 u74 u75 u76 u77 u78 u79 u80 u81 u82 u83 u84 u85 u86 u87 u88 u89 u90 u91 u92 u93 u94 u95 u96 u97 u98 u99 u100 u101 u102 u103 u104 u105 u106 u107 u108 u109 u110 u111 u112 u113 u114 u115 u116 u117 u118 u119 u120 u121 u122 u123 u124 u125 u126 u127 u128 u129 u130 u131 u132 u133 w4 hpb hgb
  have hp4 := Pn.seq hpb
  have HG4 := hideE (gb_tr (unhideE HG3) hgb)
  clear hpb hgb HP3 HG3
  rw [(unhideE HPV).funcs] at hp4
  have hp5 : Pn w4 b (penProg p).1 (penProg p).2 := by
    rw [unhideE HL2, unhideE HB2, unhideE HL0, unhideE HPE, unhideE HPF] at hp4
    simp only [penProg, penL, penSeq, ← List.append_assoc, ← Bool.or_assoc] at hp4 ⊢
    exact hp4
  have hsz : (penProg p).1.length < 9223372036854775807 := by
    have := unhideE HLB
    simp only [penProg, penSeq, List.length_append, List.length_cons, List.length_nil, penL_len]
    omega
  have HO := hideE (encOf_prog p)
  clear hp4
  generalize penProg p = Z at hp5 hsz HO
  obtain ⟨zs, zb⟩ := Z
  simp only at hp5 hsz
  have c0 := hp5.c0
  have c1 := hp5.c1
  clear hp5
  have hbel : Below w.heap.size w w4 := (unhideE HBEL).trans ⟨(unhideE HG4).os, (unhideE HG4).tape, (unhideE HG4).output, (unhideE HG4).size, fun k hk => (unhideE HG4).block k (by omega) (by intro e; injection e with e; omega)⟩
  have HB4 := hideE hbel
  have hrowR := row_stays (unhideE HROWR) (unhideE HG4) (by omega)
  have HR4 := hideE hrowR
  clear hbel hrowR
  cases zb with
  | true =>
    have HE := hideE (show encOut p = none by unfold encOut; rw [← unhideE HO]; rfl)
    go_wp2_with fail
    refine (only_e 4 w4).mono ?_
    rintro e w5 ⟨rfl, hb5⟩
    have hs5 := hb5.size
    have hrow5 := (hb5.block _ (row_lt (unhideE HR4))).trans (unhideE HR4)
    have HROW := hideE hrow5
    have HB5 := hideE ((unhideE HB4).trans (⟨hb5.os, hb5.tape, hb5.output, hb5.size, fun q hq => hb5.block q (by have := (unhideE HB4).size; omega)⟩ : Below w.heap.size w4 w5))
    clear hb5 hrow5
    go_wp2_with (refine wpList_store_row rfl 30 (.tmp 3) (.tmp 146) rfl (w.heap.size + 1) #[.int .i64 4, .int .i64 (-1), .int .i64 (-1), .int .i64 (-1)] rfl rfl 30 _ (unhideE HROW) (Tryd.infFltZ.trans rfl) rfl (by simp [Value.oneCell']) ?_)
    refine bodyPost_ret (results_tmp_row (fn := Tryd.f6) (u := 2) (q := 3) (uy := 30) rfl _ _ (w.heap.size + 1) 30 #[.int .i64 4, .int .i64 (-1), .int .i64 (-1), .int .i64 (-1)] (0, 0) _ rfl (setRow_heap _ _ _ _ _ _ (unhideE HROW)) Tryd.underlying30 rfl (Tryd.infFltZ.trans rfl)) rfl ?_
    exact ⟨by rw [unhideE HE]; rfl, below_setRow (unhideE HB5) (by omega) _⟩
  | false =>
    by_cases hlen : zs.length ≤ 4000
    · have HE := hideE (show encOut p = some zs by unfold encOut; rw [← unhideE HO]; exact if_pos hlen)
      go_wp2_with fail
      have hb4 : b < w4.heap.size := World.block_lt_of_cell? w4 _ c0
      have HF := hideE (show Calls Tryd.prog 18 #[] w4.drew (fun e w5 => e = .returned (flt 0 (-1) (-1) (-1)) ∧ w5.cell? ⟨b, 0, none⟩ = some (.string ⟨zs.toArray⟩) ∧ w5.cell? ⟨w.heap.size + 1, 0, none⟩ = some (.int .i64 0) ∧ w5.cell? ⟨w.heap.size + 1, 1, none⟩ = some (.int .i64 0) ∧ w5.cell? ⟨w.heap.size + 1, 2, none⟩ = some (.int .i64 0) ∧ w5.cell? ⟨w.heap.size + 1, 3, none⟩ = some (.int .i64 0) ∧ (∀ j, w5.frozen? ⟨w.heap.size + 1, j, none⟩ = false) ∧ w5.heap[w.heap.size + 1]? = some (.cells #[.int .i64 0, .int .i64 0, .int .i64 0, .int .i64 0] 30 (0, 0)) ∧ Below w.heap.size w w5) from (fine_e w4.drew).mono (by
        rintro e w5 ⟨rfl, hb5⟩
        have hrow5 : w5.heap[w.heap.size + 1]? = some (.cells #[.int .i64 0, .int .i64 0, .int .i64 0, .int .i64 0] 30 (0, 0)) := (hb5.block _ (row_lt (unhideE HR4))).trans (unhideE HR4)
        exact ⟨rfl, (hb5.cell (p := ⟨b, 0, none⟩) hb4).trans c0, (cells_of_row hrow5 0).trans rfl, (cells_of_row hrow5 1).trans rfl, (cells_of_row hrow5 2).trans rfl, (cells_of_row hrow5 3).trans rfl, fun j => frozen_of_row _ _ _ _ _ hrow5, hrow5, (unhideE HB4).trans ⟨hb5.os, hb5.tape, hb5.output, hb5.size, fun q hq => hb5.block q (show q < w4.heap.size by have := (unhideE HB4).size; omega)⟩⟩))
      go_region_with (go_at_call 18; refine (unhideE HF).mono ?_; rintro e w5 ⟨rfl, c5, r0, r1, r2, r3, r4, hrow5, hB5⟩; have HROW := hideE hrow5; have HB5 := hideE hB5; clear hrow5 hB5)
      all_goals
        clear HF HG4 HR4
        go_wp2
        refine bodyPost_ret (v := .tuple #[.string ⟨zs.toArray⟩, flt 0 (-1) (-1) (-1)]) (by simp [results, Tryd.results6, go_sem, flt, r0, r1, r2, r3]) rfl ⟨by rw [unhideE HE]; rfl, ?_⟩
        exact below_high (below_high (below_high (below_high (unhideE HB5) (by omega) _) (by omega) _) (by omega) _) (by omega) _
    · have HE := hideE (show encOut p = none by unfold encOut; rw [← unhideE HO]; exact if_neg hlen)
      go_wp2_with fail
      refine (only_e 4 w4).mono ?_
      rintro e w5 ⟨rfl, hb5⟩
      have hs5 := hb5.size
      have hrow5 := (hb5.block _ (row_lt (unhideE HR4))).trans (unhideE HR4)
      have HROW := hideE hrow5
      have HB5 := hideE ((unhideE HB4).trans (⟨hb5.os, hb5.tape, hb5.output, hb5.size, fun q hq => hb5.block q (by have := (unhideE HB4).size; omega)⟩ : Below w.heap.size w4 w5))
      clear hb5 hrow5
      go_wp2_with (refine wpList_store_row rfl 30 (.tmp 3) (.tmp 146) rfl (w.heap.size + 1) #[.int .i64 4, .int .i64 (-1), .int .i64 (-1), .int .i64 (-1)] rfl rfl 30 _ (unhideE HROW) (Tryd.infFltZ.trans rfl) rfl (by simp [Value.oneCell']) ?_)
      refine bodyPost_ret (results_tmp_row (fn := Tryd.f6) (u := 2) (q := 3) (uy := 30) rfl _ _ (w.heap.size + 1) 30 #[.int .i64 4, .int .i64 (-1), .int .i64 (-1), .int .i64 (-1)] (0, 0) _ rfl (setRow_heap _ _ _ _ _ _ (unhideE HROW)) Tryd.underlying30 rfl (Tryd.infFltZ.trans rfl)) rfl ?_
      exact ⟨by rw [unhideE HE]; rfl, below_setRow (unhideE HB5) (by omega) _⟩
end Go.Proofs.YthnmdbddfmgdlaaDoor
