/-
  Encodes: the loop over functions of prologueref.Encode. Own work of the verifier.
-/
import Derived.Test.YthnmdbddfmgdlaaDoorEncZb
namespace Go.Proofs.YthnmdbddfmgdlaaDoor
open Go.RowKit

set_option maxHeartbeats 8000000 in
set_option maxRecDepth 100000 in
theorem loopFuncs (b : Nat) (l : List UInt8) (bad : Bool) (pp : Option Addr) (cap : Nat) (ps : List (Array Value × (FuncE))) (w : World) (Q0 : Exit → Act → World → Prop) (s0 s1 s2 s3 s5 s6 s7 s8 s9 s10 s11 s12 s13 s14 s15 s16 s17 s18 s19 s20 s21 s22 s23 s24 s25 s26 s27 s28 s29 s30 s31 s32 s33 s34 s35 s36 s37 s38 s39 s40 s41 s42 s46 s47 s48 s49 s50 s51 s52 s53 s54 s55 s56 s57 s58 s59 s60 s61 s62 s63 s64 s65 s66 s67 s68 s69 s70 s71 s72 s73 s74 s75 s76 s77 s78 s79 s80 s81 s82 s83 s84 s85 s86 s87 s88 s89 s90 s91 s92 s93 s94 s95 s96 s97 s98 s99 s100 s101 s102 s103 s104 s105 s106 s107 s108 s109 s110 s111 s112 s113 s114 s115 s116 s117 s118 s119 s120 s121 s122 s123 s124 s125 s126 s127 s128 s129 s130 s131 s132 s133 s134 s135 s136 s137 s138 s139 s140 s141 s142 s143 s144 s145 s146 s147 s148 s149 s150 s151 : Value)
    (h : Pn w b l bad) (hl : l.length + (penAll penFunc (ps.map (·.2))).1.length < 9223372036854775807) (hlen : ps.length < 9223372036854775808) (hns : LsB 5 w b (.slice pp ps.length cap) ps) (hvals : ∀ q ∈ ps, FuncAt w b q) (hnn : ∀ q ∈ ps, ∀ l ∈ q.2.blocks, ∀ i ∈ l, 0 ≤ i.n ∧ i.n < 18446744073709551616)
    (hexit : ∀ (u8 u10 u12 u14 u16 u18 u45 u46 u47 u48 u49 u50 u51 u52 u53 u54 u55 u56 u57 u58 u59 u60 u61 u62 u63 u64 u65 u66 u67 u68 u69 u70 u71 u72 u73 u74 u75 u76 u77 u78 u79 u80 u81 u82 u83 u84 u85 u86 u87 u88 u89 u90 u91 u92 u93 u94 u95 u96 u97 u98 u99 u100 u101 u102 u103 u104 u105 u106 u107 u108 u109 u110 u111 u112 u113 u114 u115 u116 u117 u118 u119 u120 u121 u122 u123 u124 u125 u126 u127 u128 u129 u130 u131 u132 u133 : Value) (w' : World), Pn w' b (l ++ (penAll penFunc (ps.map (·.2))).1) (bad || (penAll penFunc (ps.map (·.2))).2) → w.grownBy w' (some b) → Q0 (.exit 2) ⟨List.toArray (s0 :: s1 :: s2 :: s3 :: .pointer (some ⟨b, 0, none⟩) :: s5 :: s6 :: s7 :: u8 :: s9 :: u10 :: s11 :: u12 :: s13 :: u14 :: s15 :: u16 :: s17 :: u18 :: s19 :: s20 :: s21 :: s22 :: s23 :: s24 :: s25 :: s26 :: s27 :: s28 :: s29 :: s30 :: s31 :: s32 :: s33 :: s34 :: s35 :: s36 :: s37 :: s38 :: s39 :: s40 :: s41 :: s42 :: .slice pp ps.length cap :: .int .i64 ps.length :: u45 :: u46 :: u47 :: u48 :: u49 :: u50 :: u51 :: u52 :: u53 :: u54 :: u55 :: u56 :: u57 :: u58 :: u59 :: u60 :: u61 :: u62 :: u63 :: u64 :: u65 :: u66 :: u67 :: u68 :: u69 :: u70 :: u71 :: u72 :: u73 :: u74 :: u75 :: u76 :: u77 :: u78 :: u79 :: u80 :: u81 :: u82 :: u83 :: u84 :: u85 :: u86 :: u87 :: u88 :: u89 :: u90 :: u91 :: u92 :: u93 :: u94 :: u95 :: u96 :: u97 :: u98 :: u99 :: u100 :: u101 :: u102 :: u103 :: u104 :: u105 :: u106 :: u107 :: u108 :: u109 :: u110 :: u111 :: u112 :: u113 :: u114 :: u115 :: u116 :: u117 :: u118 :: u119 :: u120 :: u121 :: u122 :: u123 :: u124 :: u125 :: u126 :: u127 :: u128 :: u129 :: u130 :: u131 :: u132 :: u133 :: s134 :: s135 :: s136 :: s137 :: s138 :: s139 :: s140 :: s141 :: s142 :: s143 :: s144 :: s145 :: s146 :: s147 :: s148 :: s149 :: s150 :: s151 :: []), []⟩ w') :
    Code.wp Tryd.prog (encLoop Tryd.f6 1) Q0 ⟨List.toArray (s0 :: s1 :: s2 :: s3 :: .pointer (some ⟨b, 0, none⟩) :: s5 :: s6 :: s7 :: s8 :: s9 :: s10 :: s11 :: s12 :: s13 :: s14 :: s15 :: s16 :: s17 :: s18 :: s19 :: s20 :: s21 :: s22 :: s23 :: s24 :: s25 :: s26 :: s27 :: s28 :: s29 :: s30 :: s31 :: s32 :: s33 :: s34 :: s35 :: s36 :: s37 :: s38 :: s39 :: s40 :: s41 :: s42 :: .slice pp ps.length cap :: .int .i64 ps.length :: .int .i64 0 :: s46 :: s47 :: s48 :: s49 :: s50 :: s51 :: s52 :: s53 :: s54 :: s55 :: s56 :: s57 :: s58 :: s59 :: s60 :: s61 :: s62 :: s63 :: s64 :: s65 :: s66 :: s67 :: s68 :: s69 :: s70 :: s71 :: s72 :: s73 :: s74 :: s75 :: s76 :: s77 :: s78 :: s79 :: s80 :: s81 :: s82 :: s83 :: s84 :: s85 :: s86 :: s87 :: s88 :: s89 :: s90 :: s91 :: s92 :: s93 :: s94 :: s95 :: s96 :: s97 :: s98 :: s99 :: s100 :: s101 :: s102 :: s103 :: s104 :: s105 :: s106 :: s107 :: s108 :: s109 :: s110 :: s111 :: s112 :: s113 :: s114 :: s115 :: s116 :: s117 :: s118 :: s119 :: s120 :: s121 :: s122 :: s123 :: s124 :: s125 :: s126 :: s127 :: s128 :: s129 :: s130 :: s131 :: s132 :: s133 :: s134 :: s135 :: s136 :: s137 :: s138 :: s139 :: s140 :: s141 :: s142 :: s143 :: s144 :: s145 :: s146 :: s147 :: s148 :: s149 :: s150 :: s151 :: []), []⟩ w := by
  have hbl := h.lt
  have HNS := hideE hns
  have HP0 := hideE h
  have HL := hideE hl
  have HEX := hideE hexit
  have HV := hideE hvals
  have HNN := hideE hnn
  clear hvals hnn
  clear hns h hl hexit
  conv => arg 2; whnf
  go_loopw [45] (fun j w' => ∃ k : Nat, j = .int .i64 k ∧ k ≤ ps.length ∧ Pn w' b (l ++ (penAll penFunc ((ps.take k).map (·.2))).1) (bad || (penAll penFunc ((ps.take k).map (·.2))).2) ∧ w.grownBy w' (some b)) (fun j _ => ps.length - (intOf j).toNat)
  case atStart => exact ⟨0, rfl, by omega, by simpa [penAll] using unhideE HP0, ⟨rfl, rfl, rfl, Nat.le_refl _, fun _ _ _ => rfl⟩⟩
  case round =>
    obtain ⟨k, rfl, hk, hp, hg⟩ := hrel
    by_cases hlt : k < ps.length
    · have hbd := map_bound penFunc ps k hlt
      have hrs := (unhideE HNS).same (same_gb hg (by omega))
      obtain ⟨sb, so, cap', hv, hsb, hc⟩ := hrs.resolve_left (fun c => by rw [c.1] at hlt; simp at hlt)
      injection hv with e1 e2 e3
      subst e1
      have hrg := hc k hlt
      have HSN := hideE (map_snoc penFunc ps k hlt)
      have hmem := List.getElem_mem hlt
      clear hc e2 e3 hrs
      obtain ⟨pv, hv', sv, bv, pq, pb, hval, hF⟩ := (unhideE HV) ps[k] hmem
      have hnn := (unhideE HNN) ps[k] hmem
      generalize ps[k] = y at hrg HSN hbd hval hF hnn
      obtain ⟨arr, f⟩ := y
      simp only at hrg HSN hbd hval hF hnn
      subst hval
      obtain ⟨pvp, pvc, e1⟩ := hF.pls.shape
      obtain ⟨hvp, hvc, e2⟩ := hF.hls.shape
      obtain ⟨svp, svc, e3⟩ := hF.sls.shape
      obtain ⟨bvp, bvc, e4⟩ := hF.bls.shape
      subst e1 e2 e3 e4
      obtain ⟨fp, fres, fh, fs, fb⟩ := f
      have hfp : pq.map (·.2) = fp := hF.params
      have hfb : pb.map (·.2) = fb := hF.blocks
      have hl1 : pq.length < 9223372036854775808 := hF.lens.1
      have hl2 : fh.length < 9223372036854775808 := hF.lens.2.1
      have hl3 : fs.length < 9223372036854775808 := hF.lens.2.2.1
      have hl4 : pb.length < 9223372036854775808 := hF.lens.2.2.2
      simp only at hrg HSN hbd hnn
      subst hfp hfb
      have hnn' : ∀ q ∈ pb, ∀ i ∈ q.2, 0 ≤ i.n ∧ i.n < 18446744073709551616 := fun q hq => hnn q.2 (List.mem_map_of_mem hq)
      have HF := hideE (hF.same (same_gb hg (by omega)))
      obtain ⟨R, hR⟩ : ∃ R, R = penAll penFunc ((ps.take k).map (·.2)) := ⟨_, rfl⟩
      rw [← hR] at hp HSN hbd
      obtain ⟨l0, hl0⟩ : ∃ x, x = l ++ R.1 := ⟨_, rfl⟩
      obtain ⟨b0, hb0⟩ : ∃ x, x = (bad || R.2) := ⟨_, rfl⟩
      have hL0 : l0.length = l.length + R.1.length := by rw [hl0]; simp
      rw [← hl0, ← hb0] at hp
      have hsum : l0.length + ((1 + (penAll penArg (pq.map (·.2))).1.length) + (1 + ((1 + (penAll (penNum (-1) 15) fh).1.length) + ((1 + (penAll (penNum 1 8) fs).1.length) + (1 + (penAll penBlock (pb.map (·.2))).1.length))))) < 9223372036854775807 := by
        have := unhideE HL
        simp only [penFunc, penSeq, List.length_append, penL_len, penNum_len] at hbd
        omega
      have HL0 := hideE hl0
      have HB0 := hideE hb0
      have HNI := hideE hnn'
      have HRG := hideE hrg
      have hbr := hp.lt
      have HC1 := hideE (fun X : Obj => pnum_c b l0 b0 pq.length 0 8 (wr.alloc X) (hp.alloc X) (by omega))
      have HG := hideE hg
      clear hR hp hg hrg hbd hF hnn hnn' hl0 hb0 HNS HP0 HV HNN
      go_wp2_with (refine wpList_load_mid rfl 58 (.tmp 47) rfl sb (so + k * 5) rfl [.slice pvp pq.length pvc, .int .i64 fres, .slice hvp fh.length hvc, .slice svp fs.length svc, .slice bvp pb.length bvc] _ (unhideE HRG) Tryd.underlying58 rfl (Tryd.infFuncsZ.trans rfl) ?_)
      refine (unhideE HC1 _).mono ?_
      rintro e w1 ⟨rfl, hp1, hg1⟩
      have HR1 := hideE (show w1.heap[wr.heap.size]? = some (.cells #[.slice pvp pq.length pvc, .int .i64 fres, .slice hvp fh.length hvc, .slice svp fs.length svc, .slice bvp pb.length bvc] 58 (0, 0)) from (hg1.block wr.heap.size (by simp) (by intro e; injection e with e; omega)).trans (heap_alloc_new wr _))
      have HG1 := hideE (gb_tr (gb_alloc wr _ (some b)) hg1)
      have HP1 := hideE (show Pn w1 b (l0 ++ (penNum 0 8 pq.length).1) (b0 || (penNum 0 8 pq.length).2) from hp1)
      clear hp1 hg1 HC1 HRG
      have c0 := (cells_of_row (unhideE HR1) 0).trans rfl
      go_wp2_with fail
      clear c0
      refine loopParams b (l0 ++ (penNum 0 8 pq.length).1) (b0 || (penNum 0 8 pq.length).2) pvp pvc pq w1 _ _ _ _ _ _ _ _ _ _ _ _ _ _ _ _ _ _ _ _ _ _ _ _ _ _ _ _ _ _ _ _ _ _ _ _ _ _ _ _ _ _ _ _ _ _ _ _ _ _ _ _ _ _ _ _ _ _ _ _ _ _ _ _ _ _ _ _ _ _ _ _ _ _ _ _ _ _ _ _ _ _ _ _ _ _ _ _ _ _ _ _ _ _ _ _ _ _ _ _ _ _ _ _ _ _ _ _ _ _ _ _ _ _ _ _ _ _ _ _ _ _ _ _ _ _ _ _ _ _ _ _ _ _ _ _ _ _ _ _ _ _ _ _ _ _ _ _ _ (unhideE HP1) (by simp only [List.length_append, penNum_len]; omega) hl1 ((unhideE HF).pls.same (same_gb (unhideE HG1) (by omega))) (unhideE HF).vals ?_
      intro u10 u57 u58 u59 u60 u61 u62 u63 u64 u65 u66 u67 u68 u69 w2 hp2 hg2
      have HP2 := hideE (Pn.seq hp2)
      have HR2 := hideE (row_stays (unhideE HR1) hg2 (by omega))
      have HG2 := hideE (gb_tr (unhideE HG1) hg2)
      clear hp2 hg2 HR1 HG1 HP1
      obtain ⟨l2, hl2'⟩ : ∃ x, x = l0 ++ (penSeq (penNum 0 8 pq.length) (penAll penArg (pq.map (·.2)))).1 := ⟨_, rfl⟩
      obtain ⟨b2, hb2'⟩ : ∃ x, x = (b0 || (penSeq (penNum 0 8 pq.length) (penAll penArg (pq.map (·.2)))).2) := ⟨_, rfl⟩
      have hL2 : l2.length = l0.length + (1 + (penAll penArg (pq.map (·.2))).1.length) := by rw [hl2']; simp only [penSeq, List.length_append, penNum_len]
      rw [← hl2', ← hb2'] at HP2
      have HL2 := hideE hl2'
      have HB2 := hideE hb2'
      clear hl2' hb2'
      have c1 := (cells_of_row (unhideE HR2) 1).trans rfl
      go_wp2_with fail
      clear c1
      refine (pnum_c b l2 b2 fres 0 4 w2 (unhideE HP2) (by omega)).mono ?_
      rintro e w3 ⟨rfl, hp3, hg3⟩
      have HR3 := hideE (row_stays (unhideE HR2) hg3 (by omega))
      have HG3 := hideE (gb_tr (unhideE HG2) hg3)
      obtain ⟨l3, hl3'⟩ : ∃ x, x = l2 ++ (penNum 0 4 fres).1 := ⟨_, rfl⟩
      obtain ⟨b3, hb3'⟩ : ∃ x, x = (b2 || (penNum 0 4 fres).2) := ⟨_, rfl⟩
      have HP3 := hideE (show Pn w3 b l3 b3 by rw [hl3', hb3']; exact hp3)
      have hL3 : l3.length = l2.length + 1 := by rw [hl3']; simp only [List.length_append, penNum_len]
      have HL3 := hideE hl3'
      have HB3 := hideE hb3'
      clear hl3' hb3' hp3 hg3 HP2 HR2 HG2
      have c2 := (cells_of_row (unhideE HR3) 2).trans rfl
      go_wp2_with fail
      clear c2
      refine (pnum_c b l3 b3 fh.length 0 12 w3 (unhideE HP3) (by omega)).mono ?_
      rintro e w4a ⟨rfl, hpa, hga⟩
      have HRa := hideE (row_stays (unhideE HR3) hga (by omega))
      have HGa := hideE (gb_tr (unhideE HG3) hga)
      have HPa := hideE (show Pn w4a b (l3 ++ (penNum 0 12 fh.length).1) (b3 || (penNum 0 12 fh.length).2) from hpa)
      clear hpa hga HP3 HR3 HG3
      have c2 := (cells_of_row (unhideE HRa) 2).trans rfl
      go_wp2_with fail
      clear c2
      refine loopHomes b (l3 ++ (penNum 0 12 fh.length).1) (b3 || (penNum 0 12 fh.length).2) hvp hvc fh w4a _ _ _ _ _ _ _ _ _ _ _ _ _ _ _ _ _ _ _ _ _ _ _ _ _ _ _ _ _ _ _ _ _ _ _ _ _ _ _ _ _ _ _ _ _ _ _ _ _ _ _ _ _ _ _ _ _ _ _ _ _ _ _ _ _ _ _ _ _ _ _ _ _ _ _ _ _ _ _ _ _ _ _ _ _ _ _ _ _ _ _ _ _ _ _ _ _ _ _ _ _ _ _ _ _ _ _ _ _ _ _ _ _ _ _ _ _ _ _ _ _ _ _ _ _ _ _ _ _ _ _ _ _ _ _ _ _ _ _ _ _ _ _ _ _ _ _ _ _ (unhideE HPa) (by simp only [List.length_append, penNum_len]; omega) ((unhideE HF).hls.same (same_gb (unhideE HGa) (by omega))) ?_
      intro u12 u82 u83 u84 u85 u86 u87 u88 u89 w4 hpb hgb
      have HP4 := hideE (Pn.seq hpb)
      have HR4 := hideE (row_stays (unhideE HRa) hgb (by omega))
      have HG4 := hideE (gb_tr (unhideE HGa) hgb)
      clear hpb hgb HRa HGa HPa
      obtain ⟨l4, hln⟩ : ∃ x, x = l3 ++ (penSeq (penNum 0 12 fh.length) (penAll (penNum (-1) 15) fh)).1 := ⟨_, rfl⟩
      obtain ⟨b4, hbn⟩ : ∃ x, x = (b3 || (penSeq (penNum 0 12 fh.length) (penAll (penNum (-1) 15) fh)).2) := ⟨_, rfl⟩
      have hL4 : l4.length = l3.length + (1 + (penAll (penNum (-1) 15) fh).1.length) := by rw [hln]; simp only [penSeq, List.length_append, penNum_len]
      rw [← hln, ← hbn] at HP4
      have HL4 := hideE hln
      have HB4 := hideE hbn
      clear hln hbn
      have c3 := (cells_of_row (unhideE HR4) 3).trans rfl
      go_wp2_with fail
      clear c3
      refine (pnum_c b l4 b4 fs.length 0 6 w4 (unhideE HP4) (by omega)).mono ?_
      rintro e w5a ⟨rfl, hpa, hga⟩
      have HRa := hideE (row_stays (unhideE HR4) hga (by omega))
      have HGa := hideE (gb_tr (unhideE HG4) hga)
      have HPa := hideE (show Pn w5a b (l4 ++ (penNum 0 6 fs.length).1) (b4 || (penNum 0 6 fs.length).2) from hpa)
      clear hpa hga HP4 HR4 HG4
      have c3 := (cells_of_row (unhideE HRa) 3).trans rfl
      go_wp2_with fail
      clear c3
      refine loopSlots b (l4 ++ (penNum 0 6 fs.length).1) (b4 || (penNum 0 6 fs.length).2) svp svc fs w5a _ _ _ _ _ _ _ _ _ _ _ _ _ _ _ _ _ _ _ _ _ _ _ _ _ _ _ _ _ _ _ _ _ _ _ _ _ _ _ _ _ _ _ _ _ _ _ _ _ _ _ _ _ _ _ _ _ _ _ _ _ _ _ _ _ _ _ _ _ _ _ _ _ _ _ _ _ _ _ _ _ _ _ _ _ _ _ _ _ _ _ _ _ _ _ _ _ _ _ _ _ _ _ _ _ _ _ _ _ _ _ _ _ _ _ _ _ _ _ _ _ _ _ _ _ _ _ _ _ _ _ _ _ _ _ _ _ _ _ _ _ _ _ _ _ _ _ _ _ (unhideE HPa) (by simp only [List.length_append, penNum_len]; omega) ((unhideE HF).sls.same (same_gb (unhideE HGa) (by omega))) ?_
      intro u14 u98 u99 u100 u101 u102 u103 u104 u105 w5 hpb hgb
      have HP5 := hideE (Pn.seq hpb)
      have HR5 := hideE (row_stays (unhideE HRa) hgb (by omega))
      have HG5 := hideE (gb_tr (unhideE HGa) hgb)
      clear hpb hgb HRa HGa HPa
      obtain ⟨l5, hln⟩ : ∃ x, x = l4 ++ (penSeq (penNum 0 6 fs.length) (penAll (penNum 1 8) fs)).1 := ⟨_, rfl⟩
      obtain ⟨b5, hbn⟩ : ∃ x, x = (b4 || (penSeq (penNum 0 6 fs.length) (penAll (penNum 1 8) fs)).2) := ⟨_, rfl⟩
      have hL5 : l5.length = l4.length + (1 + (penAll (penNum 1 8) fs).1.length) := by rw [hln]; simp only [penSeq, List.length_append, penNum_len]
      rw [← hln, ← hbn] at HP5
      have HL5 := hideE hln
      have HB5 := hideE hbn
      clear hln hbn
      have c4 := (cells_of_row (unhideE HR5) 4).trans rfl
      go_wp2_with fail
      clear c4
      refine (pnum_c b l5 b5 pb.length 1 12 w5 (unhideE HP5) (by omega)).mono ?_
      rintro e w6a ⟨rfl, hpa, hga⟩
      have HRa := hideE (row_stays (unhideE HR5) hga (by omega))
      have HGa := hideE (gb_tr (unhideE HG5) hga)
      have HPa := hideE (show Pn w6a b (l5 ++ (penNum 1 12 pb.length).1) (b5 || (penNum 1 12 pb.length).2) from hpa)
      clear hpa hga HP5 HR5 HG5
      have c4 := (cells_of_row (unhideE HRa) 4).trans rfl
      go_wp2_with fail
      clear c4
      refine loopBlocks b (l5 ++ (penNum 1 12 pb.length).1) (b5 || (penNum 1 12 pb.length).2) bvp bvc pb w6a _ _ _ _ _ _ _ _ _ _ _ _ _ _ _ _ _ _ _ _ _ _ _ _ _ _ _ _ _ _ _ _ _ _ _ _ _ _ _ _ _ _ _ _ _ _ _ _ _ _ _ _ _ _ _ _ _ _ _ _ _ _ _ _ _ _ _ _ _ _ _ _ _ _ _ _ _ _ _ _ _ _ _ _ _ _ _ _ _ _ _ _ _ _ _ _ _ _ _ _ _ _ _ _ _ _ _ _ _ _ _ _ _ _ _ _ _ _ _ _ _ _ _ _ _ _ _ _ _ _ _ _ _ _ _ _ _ _ _ _ _ _ _ _ _ _ _ _ _ (unhideE HPa) (by simp only [List.length_append, penNum_len]; omega) hl4 ((unhideE HF).bls.same (same_gb (unhideE HGa) (by omega))) (fun q hq => ((unhideE HF).each q hq).same (same_gb (unhideE HGa) (by omega))) (unhideE HNI) ?_
      intro u16 u18 u114 u115 u116 u117 u118 u119 u120 u121 u122 u123 u124 u125 u126 u127 u128 u129 u130 u131 u132 w6 hpb hgb
      have HP6 := hideE (Pn.seq hpb)
      have HR6 := hideE (row_stays (unhideE HRa) hgb (by omega))
      have HG6 := hideE (gb_tr (unhideE HGa) hgb)
      clear hpb hgb HRa HGa HPa
      obtain ⟨l6, hln⟩ : ∃ x, x = l5 ++ (penSeq (penNum 1 12 pb.length) (penAll penBlock (pb.map (·.2)))).1 := ⟨_, rfl⟩
      obtain ⟨b6, hbn⟩ : ∃ x, x = (b5 || (penSeq (penNum 1 12 pb.length) (penAll penBlock (pb.map (·.2)))).2) := ⟨_, rfl⟩
      have hL6 : l6.length = l5.length + (1 + (penAll penBlock (pb.map (·.2))).1.length) := by rw [hln]; simp only [penSeq, List.length_append, penNum_len]
      rw [← hln, ← hbn] at HP6
      have HL6 := hideE hln
      have HB6 := hideE hbn
      clear hln hbn
      have HPZ := hideE (show Pn w6 b (l ++ R.1 ++ (penFunc ⟨pq.map (·.2), fres, fh, fs, pb.map (·.2)⟩).1) (bad || R.2 || (penFunc ⟨pq.map (·.2), fres, fh, fs, pb.map (·.2)⟩).2) by
        have h6 := unhideE HP6
        rw [unhideE HL6, unhideE HB6, unhideE HL5, unhideE HB5, unhideE HL4, unhideE HB4, unhideE HL3, unhideE HB3, unhideE HL2, unhideE HB2, unhideE HL0, unhideE HB0] at h6
        simp only [penFunc, penL, penSeq, List.length_map, ← List.append_assoc, ← Bool.or_assoc] at h6 ⊢
        exact h6)
      have HGZ := hideE (gb_tr (unhideE HG) (unhideE HG6))
      go_wp2
      go_roundw
      case rel =>
        refine ⟨k + 1, by go_num, by omega, ?_, unhideE HGZ⟩
        have h2 := unhideE HPZ
        rw [unhideE HSN]
        simp only [penSeq, ← List.append_assoc, ← Bool.or_assoc]
        exact h2
      case measure => simp [intOf]; omega
    · obtain rfl : k = ps.length := by omega
      have HP := hideE hp
      have HG := hideE hg
      clear hp hg
      go_wp2_with fail
      exact unhideE HEX _ _ _ _ _ _ _ _ _ _ _ _ _ _ _ _ _ _ _ _ _ _ _ _ _ _ _ _ _ _ _ _ _ _ _ _ _ _ _ _ _ _ _ _ _ _ _ _ _ _ _ _ _ _ _ _ _ _ _ _ _ _ _ _ _ _ _ _ _ _ _ _ _ _ _ _ _ _ _ _ _ _ _ _ _ _ _ _ _ _ _ _ _ _ _ wr (by have := unhideE HP; rw [List.take_length] at this; exact this) (unhideE HG)
end Go.Proofs.YthnmdbddfmgdlaaDoor
