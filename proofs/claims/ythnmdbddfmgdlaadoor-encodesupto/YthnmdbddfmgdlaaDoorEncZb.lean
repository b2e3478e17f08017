/-
  Encodes: the loop over blocks of prologueref.Encode. Own work of the verifier.
-/
import Derived.Test.YthnmdbddfmgdlaaDoorEncZa
namespace Go.Proofs.YthnmdbddfmgdlaaDoor
open Go.RowKit

set_option maxHeartbeats 8000000 in
set_option maxRecDepth 100000 in
theorem loopBlocks (b : Nat) (l : List UInt8) (bad : Bool) (pp : Option Addr) (cap : Nat) (ps : List (Value × (List InsE))) (w : World) (Q0 : Exit → Act → World → Prop) (s0 s1 s2 s3 s5 s6 s7 s8 s9 s10 s11 s12 s13 s14 s15 s16 s17 s18 s19 s20 s21 s22 s23 s24 s25 s26 s27 s28 s29 s30 s31 s32 s33 s34 s35 s36 s37 s38 s39 s40 s41 s42 s43 s44 s45 s46 s47 s48 s49 s50 s51 s52 s53 s54 s55 s56 s57 s58 s59 s60 s61 s62 s63 s64 s65 s66 s67 s68 s69 s70 s71 s72 s73 s74 s75 s76 s77 s78 s79 s80 s81 s82 s83 s84 s85 s86 s87 s88 s89 s90 s91 s92 s93 s94 s95 s96 s97 s98 s99 s100 s101 s102 s103 s104 s105 s106 s107 s108 s109 s110 s111 s115 s116 s117 s118 s119 s120 s121 s122 s123 s124 s125 s126 s127 s128 s129 s130 s131 s132 s133 s134 s135 s136 s137 s138 s139 s140 s141 s142 s143 s144 s145 s146 s147 s148 s149 s150 s151 : Value)
    (h : Pn w b l bad) (hl : l.length + (penAll penBlock (ps.map (·.2))).1.length < 9223372036854775807) (hlen : ps.length < 9223372036854775808) (hns : VsB w b (.slice pp ps.length cap) ps) (hvals : ∀ q ∈ ps, BlkAt w b q) (hnn : ∀ q ∈ ps, ∀ i ∈ q.2, 0 ≤ i.n ∧ i.n < 18446744073709551616)
    (hexit : ∀ (u16 u18 u114 u115 u116 u117 u118 u119 u120 u121 u122 u123 u124 u125 u126 u127 u128 u129 u130 u131 u132 : Value) (w' : World), Pn w' b (l ++ (penAll penBlock (ps.map (·.2))).1) (bad || (penAll penBlock (ps.map (·.2))).2) → w.grownBy w' (some b) → Q0 (.exit 10) ⟨List.toArray (s0 :: s1 :: s2 :: s3 :: .pointer (some ⟨b, 0, none⟩) :: s5 :: s6 :: s7 :: s8 :: s9 :: s10 :: s11 :: s12 :: s13 :: s14 :: s15 :: u16 :: s17 :: u18 :: s19 :: s20 :: s21 :: s22 :: s23 :: s24 :: s25 :: s26 :: s27 :: s28 :: s29 :: s30 :: s31 :: s32 :: s33 :: s34 :: s35 :: s36 :: s37 :: s38 :: s39 :: s40 :: s41 :: s42 :: s43 :: s44 :: s45 :: s46 :: s47 :: s48 :: s49 :: s50 :: s51 :: s52 :: s53 :: s54 :: s55 :: s56 :: s57 :: s58 :: s59 :: s60 :: s61 :: s62 :: s63 :: s64 :: s65 :: s66 :: s67 :: s68 :: s69 :: s70 :: s71 :: s72 :: s73 :: s74 :: s75 :: s76 :: s77 :: s78 :: s79 :: s80 :: s81 :: s82 :: s83 :: s84 :: s85 :: s86 :: s87 :: s88 :: s89 :: s90 :: s91 :: s92 :: s93 :: s94 :: s95 :: s96 :: s97 :: s98 :: s99 :: s100 :: s101 :: s102 :: s103 :: s104 :: s105 :: s106 :: s107 :: s108 :: s109 :: s110 :: s111 :: .slice pp ps.length cap :: .int .i64 ps.length :: u114 :: u115 :: u116 :: u117 :: u118 :: u119 :: u120 :: u121 :: u122 :: u123 :: u124 :: u125 :: u126 :: u127 :: u128 :: u129 :: u130 :: u131 :: u132 :: s133 :: s134 :: s135 :: s136 :: s137 :: s138 :: s139 :: s140 :: s141 :: s142 :: s143 :: s144 :: s145 :: s146 :: s147 :: s148 :: s149 :: s150 :: s151 :: []), []⟩ w') :
    Code.wp Tryd.prog (encLoop Tryd.f6 5) Q0 ⟨List.toArray (s0 :: s1 :: s2 :: s3 :: .pointer (some ⟨b, 0, none⟩) :: s5 :: s6 :: s7 :: s8 :: s9 :: s10 :: s11 :: s12 :: s13 :: s14 :: s15 :: s16 :: s17 :: s18 :: s19 :: s20 :: s21 :: s22 :: s23 :: s24 :: s25 :: s26 :: s27 :: s28 :: s29 :: s30 :: s31 :: s32 :: s33 :: s34 :: s35 :: s36 :: s37 :: s38 :: s39 :: s40 :: s41 :: s42 :: s43 :: s44 :: s45 :: s46 :: s47 :: s48 :: s49 :: s50 :: s51 :: s52 :: s53 :: s54 :: s55 :: s56 :: s57 :: s58 :: s59 :: s60 :: s61 :: s62 :: s63 :: s64 :: s65 :: s66 :: s67 :: s68 :: s69 :: s70 :: s71 :: s72 :: s73 :: s74 :: s75 :: s76 :: s77 :: s78 :: s79 :: s80 :: s81 :: s82 :: s83 :: s84 :: s85 :: s86 :: s87 :: s88 :: s89 :: s90 :: s91 :: s92 :: s93 :: s94 :: s95 :: s96 :: s97 :: s98 :: s99 :: s100 :: s101 :: s102 :: s103 :: s104 :: s105 :: s106 :: s107 :: s108 :: s109 :: s110 :: s111 :: .slice pp ps.length cap :: .int .i64 ps.length :: .int .i64 0 :: s115 :: s116 :: s117 :: s118 :: s119 :: s120 :: s121 :: s122 :: s123 :: s124 :: s125 :: s126 :: s127 :: s128 :: s129 :: s130 :: s131 :: s132 :: s133 :: s134 :: s135 :: s136 :: s137 :: s138 :: s139 :: s140 :: s141 :: s142 :: s143 :: s144 :: s145 :: s146 :: s147 :: s148 :: s149 :: s150 :: s151 :: []), []⟩ w := by
  have hbl := h.lt
  have HNS := hideE hns
  have HP0 := hideE h
  have HL := hideE hl
  have HEX := hideE hexit
  have HV := hideE hvals
  have HNN := hideE hnn
  clear hvals hnn
  clear hns h hl hexit
  conv => arg 2; whnf
  go_loopw [114] (fun j w' => ∃ k : Nat, j = .int .i64 k ∧ k ≤ ps.length ∧ Pn w' b (l ++ (penAll penBlock ((ps.take k).map (·.2))).1) (bad || (penAll penBlock ((ps.take k).map (·.2))).2) ∧ w.grownBy w' (some b)) (fun j _ => ps.length - (intOf j).toNat)
  case atStart => exact ⟨0, rfl, by omega, by simpa [penAll] using unhideE HP0, ⟨rfl, rfl, rfl, Nat.le_refl _, fun _ _ _ => rfl⟩⟩
  case round =>
    obtain ⟨k, rfl, hk, hp, hg⟩ := hrel
    by_cases hlt : k < ps.length
    · have hbd := map_bound penBlock ps k hlt
      have hrs := (unhideE HNS).same (same_gb hg (by omega))
      obtain ⟨sb, so, cap', hv, hsb, hc⟩ := hrs.resolve_left (fun c => by rw [c.1] at hlt; simp at hlt)
      injection hv with e1 e2 e3
      subst e1
      have hrg := hc k hlt
      have HSN := hideE (map_snoc penBlock ps k hlt)
      have hmem := List.getElem_mem hlt
      clear hc e2 e3 hrs
      obtain ⟨pi, hpi, hli, hei, hsi⟩ := (unhideE HV) ps[k] hmem
      have hnn := (unhideE HNN) ps[k] hmem
      generalize ps[k] = y at hrg HSN hbd hpi hli hnn
      obtain ⟨bv, bl⟩ := y
      simp only at hrg HSN hbd hpi hli hnn
      subst hpi
      obtain ⟨ip, ic, hbv⟩ := hli.shape
      subst hbv
      have hnn' : ∀ q ∈ pi, 0 ≤ q.2.n ∧ q.2.n < 18446744073709551616 := fun q hq => hnn q.2 (List.mem_map_of_mem hq)
      obtain ⟨R, hR⟩ : ∃ R, R = penAll penBlock ((ps.take k).map (·.2)) := ⟨_, rfl⟩
      rw [← hR] at hp HSN hbd
      have hbb : l.length + R.1.length + (1 + (penAll penIns (pi.map (·.2))).1.length) < 9223372036854775807 := by
        have := unhideE HL
        have e : (penBlock (pi.map (·.2))).1.length = 1 + (penAll penIns (pi.map (·.2))).1.length := penL_len _ _ _ _
        rw [e] at hbd
        omega
      have HCALL := hideE (pnum_c b (l ++ R.1) (bad || R.2) pi.length 1 24 wr hp (by simp only [List.length_append]; omega))
      have HG := hideE hg
      have HLI := hideE hli
      have HEI := hideE hei
      have HNI := hideE hnn'
      clear hR hp hg hbd hli hei hnn hnn'
      go_wp2_with fail
      refine (unhideE HCALL).mono ?_
      rintro e w3 ⟨rfl, hp3, hg3⟩
      have HP3 := hideE (show Pn w3 b (l ++ R.1 ++ (penNum 1 24 pi.length).1) (bad || R.2 || (penNum 1 24 pi.length).2) from hp3)
      have HG3 := hideE (gb_tr (unhideE HG) hg3)
      clear hp3 hg3 HCALL HG
      go_wp2_with fail
      refine loopIns b (l ++ R.1 ++ (penNum 1 24 pi.length).1) (bad || R.2 || (penNum 1 24 pi.length).2) ip ic pi w3 _ _ _ _ _ _ _ _ _ _ _ _ _ _ _ _ _ _ _ _ _ _ _ _ _ _ _ _ _ _ _ _ _ _ _ _ _ _ _ _ _ _ _ _ _ _ _ _ _ _ _ _ _ _ _ _ _ _ _ _ _ _ _ _ _ _ _ _ _ _ _ _ _ _ _ _ _ _ _ _ _ _ _ _ _ _ _ _ _ _ _ _ _ _ _ _ _ _ _ _ _ _ _ _ _ _ _ _ _ _ _ _ _ _ _ _ _ _ _ _ _ _ _ _ _ _ _ _ _ _ _ _ _ _ _ _ _ _ _ _ _ _ _ _ _ _ _ _ _ (unhideE HP3) (by simp only [List.length_append, penNum_len]; omega) hsi ((unhideE HLI).same (same_gb (unhideE HG3) (by omega))) (fun q hq => ((unhideE HEI) q hq).same (same_gb (unhideE HG3) (by omega))) (unhideE HNI) ?_
      intro u18 u124 u125 u126 u127 u128 u129 u130 u131 w4 hp4 hg4
      have HPZ := hideE (show Pn w4 b (l ++ R.1 ++ (penBlock (pi.map (·.2))).1) (bad || R.2 || (penBlock (pi.map (·.2))).2) by
        unfold penBlock penL
        refine Pn.seq ?_
        rw [List.length_map]
        exact hp4)
      have HGZ := hideE (gb_tr (unhideE HG3) hg4)
      clear hp4 hg4 HP3 HG3 HLI HEI HNI
      go_wp2
      go_roundw
      case rel =>
        refine ⟨k + 1, by go_num, by omega, ?_, unhideE HGZ⟩
        have h2 := unhideE HPZ
        rw [unhideE HSN]
        simp only [penSeq, ← List.append_assoc, ← Bool.or_assoc]
        exact h2
      case measure => simp [intOf]; omega
    · obtain rfl : k = ps.length := by omega
      have HP := hideE hp
      have HG := hideE hg
      clear hp hg
      go_wp2_with fail
      exact unhideE HEX _ _ _ _ _ _ _ _ _ _ _ _ _ _ _ _ _ _ _ _ _ wr (by have := unhideE HP; rw [List.take_length] at this; exact this) (unhideE HG)
end Go.Proofs.YthnmdbddfmgdlaaDoor
