/-
  Decodes: the loop over instructions of prologueref.Decode. Own work of the verifier.
-/
import Derived.Test.YthnmdbddfmgdlaaDoorDecW
namespace Go.Proofs.YthnmdbddfmgdlaaDoor
open Go.RowKit

theorem Tryd.infoInsD : (Tryd.prog.info? 65).map (fun i => (i.zero, i.size, i.bytes)) = some (some (.agg #[.int .i64 0, .int .i64 0, .int .i64 0, .int .i64 0, .int .u64 0, .int .i64 0, .slice none 0 0, .slice none 0 0]), 8, 96) := by kernel_rfl
theorem one8 {x0 x1 x2 x3 n x5 : Int} {p1 : Option Addr} {n1 c1 : Nat} {p2 : Option Addr} {n2 c2 : Nat} : ∀ u ∈ [Value.int .i64 x0, .int .i64 x1, .int .i64 x2, .int .i64 x3, .int .u64 n, .int .i64 x5, .slice p1 n1 c1, .slice p2 n2 c2], u.oneCell' = true := by
  intro u hu
  simp at hu
  rcases hu with rfl | rfl | rfl | rfl | rfl | rfl | rfl | rfl <;> rfl
theorem news_at (w : World) (A : Array Value) (T : TypeId) : ∀ j u, A.toList[j]? = some u → (w.alloc (.cells A T)).cell? ((⟨w.heap.size, 0, none⟩ : Addr).add j) = some u := by
  intro j u hj
  rw [Addr.add_mid, Nat.zero_add, cells_of_row (heap_alloc_new w (.cells A T (0, 0))) j]
  simpa using hj
set_option maxHeartbeats 8000000 in
set_option maxRecDepth 100000 in
theorem decInss (b : Nat) (s : ByteArray) (N a1 : Nat) (u : World) (Q0 : Exit → Act → World → Prop) (s0 s1 s2 s3 s5 s6 s7 s8 s9 s10 s11 s12 s15 s16 s17 s18 s19 s20 s21 s22 s23 s24 s25 s26 s27 s28 s29 s30 s31 s32 s33 s34 s35 s36 s37 s38 s39 s40 s41 s42 s43 s44 s45 s46 s47 s48 s49 s50 s51 s52 s53 s54 s55 s56 s57 s58 s59 s60 s61 s62 s63 s64 s65 s66 s67 s68 s69 s70 s71 s72 s73 s74 s75 s76 s77 s78 s79 s80 s81 s82 s83 s84 s85 s86 s87 s88 s89 s90 s91 s92 s93 s94 s95 s96 s97 s98 s99 s100 s101 s102 s103 s104 s105 s106 s107 s108 s109 s110 s111 s112 s113 s114 s115 s116 s117 s118 s119 s120 s121 s122 s123 s124 s125 s126 s127 s128 s129 s130 s131 s132 s133 s134 s135 s136 s137 s138 s139 s140 s141 s142 s143 s144 s145 s146 s147 s148 s149 s150 s151 s152 s153 s154 s155 s156 s157 s158 s159 s160 s161 s162 s163 s164 s165 s166 s167 s168 s169 s170 s171 s172 s173 : Value) (hN : N ≤ 1000) (h : EyS u b s (.ok a1))
    (hexit : ∀ (u14 u112 u113 u114 u115 u116 u117 u118 u119 u120 u121 u122 u123 u124 u125 u126 u127 : Value) (u' : World) (av : Value), EyS u' b s (stOf (dRep (dIns s) N a1)) → u.grownBy u' (some b) → (∃ p n c, av = .slice p n c) → (∀ xs a, dRep (dIns s) N a1 = .ok (xs, a) → RepL u' u.heap.size 65 8 (RIns u' u.heap.size) av xs) → Q0 (.exit 8) ⟨List.toArray (s0 :: s1 :: s2 :: s3 :: .pointer (some ⟨b, 0, none⟩) :: s5 :: s6 :: s7 :: s8 :: s9 :: s10 :: s11 :: s12 :: av :: u14 :: s15 :: s16 :: s17 :: s18 :: s19 :: s20 :: s21 :: s22 :: s23 :: s24 :: s25 :: s26 :: s27 :: s28 :: s29 :: s30 :: s31 :: s32 :: s33 :: s34 :: s35 :: s36 :: s37 :: s38 :: s39 :: s40 :: s41 :: s42 :: s43 :: s44 :: s45 :: s46 :: s47 :: s48 :: s49 :: s50 :: s51 :: s52 :: s53 :: s54 :: s55 :: s56 :: s57 :: s58 :: s59 :: s60 :: s61 :: s62 :: s63 :: s64 :: s65 :: s66 :: s67 :: s68 :: s69 :: s70 :: s71 :: s72 :: s73 :: s74 :: s75 :: s76 :: s77 :: s78 :: s79 :: s80 :: s81 :: s82 :: s83 :: s84 :: s85 :: s86 :: s87 :: s88 :: s89 :: s90 :: s91 :: s92 :: s93 :: s94 :: s95 :: s96 :: s97 :: s98 :: s99 :: s100 :: s101 :: s102 :: s103 :: s104 :: s105 :: s106 :: s107 :: s108 :: s109 :: s110 :: s111 :: u112 :: u113 :: u114 :: u115 :: u116 :: u117 :: u118 :: u119 :: u120 :: u121 :: u122 :: u123 :: u124 :: u125 :: u126 :: u127 :: s128 :: s129 :: s130 :: s131 :: s132 :: s133 :: s134 :: s135 :: s136 :: s137 :: s138 :: s139 :: s140 :: s141 :: s142 :: s143 :: s144 :: s145 :: s146 :: s147 :: s148 :: s149 :: s150 :: s151 :: s152 :: s153 :: s154 :: s155 :: s156 :: s157 :: s158 :: s159 :: s160 :: s161 :: s162 :: s163 :: s164 :: s165 :: s166 :: s167 :: s168 :: s169 :: s170 :: s171 :: s172 :: s173 :: []), []⟩ u') :
    Code.wp Tryd.prog (decLoop Tryd.f9 4) Q0 ⟨List.toArray (s0 :: s1 :: s2 :: s3 :: .pointer (some ⟨b, 0, none⟩) :: s5 :: s6 :: s7 :: s8 :: s9 :: s10 :: s11 :: s12 :: .slice none 0 0 :: .int .i64 N :: s15 :: s16 :: s17 :: s18 :: s19 :: s20 :: s21 :: s22 :: s23 :: s24 :: s25 :: s26 :: s27 :: s28 :: s29 :: s30 :: s31 :: s32 :: s33 :: s34 :: s35 :: s36 :: s37 :: s38 :: s39 :: s40 :: s41 :: s42 :: s43 :: s44 :: s45 :: s46 :: s47 :: s48 :: s49 :: s50 :: s51 :: s52 :: s53 :: s54 :: s55 :: s56 :: s57 :: s58 :: s59 :: s60 :: s61 :: s62 :: s63 :: s64 :: s65 :: s66 :: s67 :: s68 :: s69 :: s70 :: s71 :: s72 :: s73 :: s74 :: s75 :: s76 :: s77 :: s78 :: s79 :: s80 :: s81 :: s82 :: s83 :: s84 :: s85 :: s86 :: s87 :: s88 :: s89 :: s90 :: s91 :: s92 :: s93 :: s94 :: s95 :: s96 :: s97 :: s98 :: s99 :: s100 :: s101 :: s102 :: s103 :: s104 :: s105 :: s106 :: s107 :: s108 :: s109 :: s110 :: s111 :: s112 :: s113 :: s114 :: s115 :: s116 :: s117 :: s118 :: s119 :: s120 :: s121 :: s122 :: s123 :: s124 :: s125 :: s126 :: s127 :: s128 :: s129 :: s130 :: s131 :: s132 :: s133 :: s134 :: s135 :: s136 :: s137 :: s138 :: s139 :: s140 :: s141 :: s142 :: s143 :: s144 :: s145 :: s146 :: s147 :: s148 :: s149 :: s150 :: s151 :: s152 :: s153 :: s154 :: s155 :: s156 :: s157 :: s158 :: s159 :: s160 :: s161 :: s162 :: s163 :: s164 :: s165 :: s166 :: s167 :: s168 :: s169 :: s170 :: s171 :: s172 :: s173 :: []), []⟩ u := by
  obtain ⟨ti, hti, hz0, hz1, hz2⟩ := info_partsE Tryd.infoInsD
  have hb0 := h.lt
  have HE := hideE h
  have HEX := hideE hexit
  clear h hexit
  refine onlyExit_wp (id := 8) ?_
  conv => arg 2; whnf
  go_loopw [13, 14] (fun av nn u' => ∃ m : Nat, nn = .int .i64 m ∧ m ≤ N ∧ u.grownBy u' (some b) ∧ ((∃ xs ak, dRep (dIns s) (N - m) a1 = .ok (xs, ak) ∧ EyS u' b s (.ok ak) ∧ RepL u' u.heap.size 65 8 (RIns u' u.heap.size) av xs) ∨ (∃ q', dRep (dIns s) N a1 = .error q' ∧ EyS u' b s (.error q') ∧ ∃ p nn c, av = .slice p nn c))) (fun _ nn _ => (intOf nn).toNat)
  case atStart => exact ⟨N, rfl, Nat.le_refl _, gb_refl _ _, Or.inl ⟨[], a1, by rw [Nat.sub_self]; rfl, unhideE HE, RepL.nil _ _ _ _ _⟩⟩
  case round =>
    obtain ⟨m, rfl, hmN, hgb, hst⟩ := hrel
    rcases hst with ⟨xs, ak, hrep, hE, hav⟩ | ⟨q', hrep, hE, p, nn, c, rfl⟩
    · have hcb : wr.cell? ⟨b, 2, none⟩ = some (.int .i64 (-1)) := Ey.c2 hE
      by_cases hm0 : m = 0
      · subst hm0
        rw [Nat.sub_zero] at hrep
        have HEX2 := hideE (fun u14 u112 u113 u114 u115 u116 u117 u118 u119 u120 u121 u122 u123 u124 u125 u126 u127 => unhideE HEX u14 u112 u113 u114 u115 u116 u117 u118 u119 u120 u121 u122 u123 u124 u125 u126 u127 wr u13 (by rw [hrep]; exact hE) hgb (by obtain ⟨p, c, e⟩ := hav.shape; exact ⟨p, _, c, e⟩) (fun ys a h => by rw [hrep] at h; injection h with h; injection h with h1 h2; subst h1; exact hav))
        clear hrep hE hav hgb
        go_wp2_with fail
        exact ⟨rfl, unhideE HEX2 _ _ _ _ _ _ _ _ _ _ _ _ _ _ _ _ _⟩
      · have hmp : (0 : Int) < m := by omega
        obtain ⟨cs, hown, hall⟩ := hav
        have hcl := hall.len
        have hlN : xs.length = N - m := dRep_len _ hrep
        have hcn : cs.length ≤ 1000 := by omega
        have hsz := hgb.size
        obtain ⟨lp, lc, hsh⟩ := own_shape hown.1
        subst hsh
        have HC := hideE (eins_c b s (.ok ak) wr hE)
        have HNX := hideE (dRep_next hrep)
        have HGB := hideE hgb
        have HOWN := hideE hown
        have HALL := hideE hall
        have HLV := hideE (show ∀ g, (Value.slice lp cs.length lc).ownBlock = some g → u.heap.size ≤ g from fun g hg => (hown.own g hg).1)
        clear hrep hE hown hall hlN hcl hgb
        go_wp2_with fail
        refine (unhideE HC).mono ?_
        rintro e w2 ⟨hg2, A, rfl, ⟨x0, x1, x2, x3, n, x5, p1, n1, c1, p2, n2, c2, rfl, hnb⟩, hE2, hri⟩
        have hE2' : EyS w2 b s (stOf (dIns s ak)) := hE2
        have hs2 := hg2.size
        have hk2 : KeptOn u.heap.size wr w2 := KeptOn.of_gb hg2 hb0
        have HOW2 := hideE ((unhideE HOWN).keep (Nat.le_refl _) hk2)
        have HALL2 := hideE ((unhideE HALL).imp fun c x hh => mono_RIns _ _ _ _ c x (Nat.le_refl _) hk2 hh)
        have HRI := hideE (fun i a (hh : dIns s ak = .ok (i, a)) => mono_RIns _ _ _ _ _ i hsz (fun _ _ _ => rfl) (hri i a hh))
        have HG2 := hideE (gb_tr (unhideE HGB) hg2)
        have HE2 := hideE hE2'
        have hbr : b < w2.heap.size := by have := (unhideE HGB).size; omega
        clear hE2 hE2' hg2 HC HOWN HGB HALL hri hk2
        go_wp2_with (at_builtin; (refine wpList_append_own _ rfl _ _ 61 rfl u.heap.size 65 ti _ 8 96 Tryd.underlying61 hti hz0 hz1 hz2 rfl (by decide) _ _ _ rfl ((unhideE HOW2).1.alloc _) ⟨w2.heap.size, 0, none⟩ 1 1 [.int .i64 x0, .int .i64 x1, .int .i64 x2, .int .i64 x3, .int .u64 n, .int .i64 x5, .slice p1 n1 c1, .slice p2 n2 c2] rfl rfl (news_at w2 #[.int .i64 x0, .int .i64 x1, .int .i64 x2, .int .i64 x3, .int .u64 n, .int .i64 x5, .slice p1 n1 c1, .slice p2 n2 c2] 65) one8 ?c3 ?c4 ?c5 ?_))
        case c3 => unfold maxLen; omega
        case c4 => omega
        case c5 => simp; omega
        intro v' w7 hown hgr _
        have hal := gb_alloc w2 (.cells #[.int .i64 x0, .int .i64 x1, .int .i64 x2, .int .i64 x3, .int .u64 n, .int .i64 x5, .slice p1 n1 c1, .slice p2 n2 c2] 65) (some b)
        have hsa : (w2.alloc (.cells #[.int .i64 x0, .int .i64 x1, .int .i64 x2, .int .i64 x3, .int .u64 n, .int .i64 x5, .slice p1 n1 c1, .slice p2 n2 c2] 65)).heap.size = w2.heap.size + 1 := by simp
        have hs7 := hgr.size
        have hE7 : EyS w7 b s (stOf (dIns s ak)) := ((unhideE HE2).alloc (.cells #[.int .i64 x0, .int .i64 x1, .int .i64 x2, .int .i64 x3, .int .u64 n, .int .i64 x5, .slice p1 n1 c1, .slice p2 n2 c2] 65)).blk (hgr.block b (by omega) (fun e => by have := unhideE HLV b e.symm; omega))
        have HG7 := hideE (gb_own (gb_tr (unhideE HG2) hal) hgr (unhideE HLV))
        have hkt : KeptT u.heap.size 65 w2 w7 := KeptT.tr (KeptT.of_on (keptAlloc u.heap.size w2 (.cells #[.int .i64 x0, .int .i64 x1, .int .i64 x2, .int .i64 x3, .int .u64 n, .int .i64 x5, .slice p1 n1 c1, .slice p2 n2 c2] 65))) (by omega) (KeptT.of_own ((unhideE HOW2).1.alloc _) hgr)
        have HALL3 := hideE ((unhideE HALL2).imp fun c x hh => monoT_RIns 65 (by decide) (by decide) _ _ _ c x hkt hh)
        have HRI3 := hideE (fun i a (hh : dIns s ak = .ok (i, a)) => monoT_RIns 65 (by decide) (by decide) _ _ _ _ i hkt (unhideE HRI i a hh))
        obtain ⟨g7, c7, rfl⟩ := own_slice hown
        have HE7 := hideE hE7
        have HL7 := hideE (OwnL.snoc (cs := cs) (c := #[.int .i64 x0, .int .i64 x1, .int .i64 x2, .int .i64 x3, .int .u64 n, .int .i64 x5, .slice p1 n1 c1, .slice p2 n2 c2]) hown (by simp) (by rw [flat_snoc]) (unhideE HOW2).2 rfl)
        clear hown hgr hal hE7 HOW2 HG2 HE2 HRI HALL2 hkt
        go_wp2
        go_roundw
        case rel =>
          refine ⟨m - 1, int_pred (by omega), by omega, unhideE HG7, ?_⟩
          have e1 : N - (m - 1) = N - m + 1 := by omega
          cases ho : dIns s ak with
          | ok p =>
            obtain ⟨y, a2⟩ := p
            have h7 := unhideE HE7
            have hn := unhideE HNX
            rw [ho] at h7 hn
            exact Or.inl ⟨xs ++ [y], a2, by rw [e1]; exact hn, h7, _, unhideE HL7, All2.snoc (unhideE HALL3) (unhideE HRI3 y a2 ho)⟩
          | error q =>
            have h7 := unhideE HE7
            have hn := unhideE HNX
            rw [ho] at h7 hn
            exact Or.inr ⟨q, dRep_err (k := N - m + 1) hn (by omega), h7, _, _, _, rfl⟩
        case measure => simp [intOf]; omega
    · have hcb : wr.cell? ⟨b, 2, none⟩ = some (.int .i64 q') := by obtain ⟨-, a, h⟩ := hE; exact h.c2
      have hq : ¬ ((q' : Int) < 0) := by omega
      have HEX2 := hideE (fun u14 u112 u113 u114 u115 u116 u117 u118 u119 u120 u121 u122 u123 u124 u125 u126 u127 => unhideE HEX u14 u112 u113 u114 u115 u116 u117 u118 u119 u120 u121 u122 u123 u124 u125 u126 u127 wr (.slice p nn c) (by rw [hrep]; exact hE) hgb ⟨_, _, _, rfl⟩ (fun ys a h => by rw [hrep] at h; cases h))
      clear hrep hE hgb
      by_cases hm0 : m = 0
      · subst hm0
        go_wp2_with fail
        exact ⟨rfl, unhideE HEX2 _ _ _ _ _ _ _ _ _ _ _ _ _ _ _ _ _⟩
      · have hmp : (0 : Int) < m := by omega
        go_wp2_with fail
        exact ⟨rfl, unhideE HEX2 _ _ _ _ _ _ _ _ _ _ _ _ _ _ _ _ _⟩
end Go.Proofs.YthnmdbddfmgdlaaDoor
