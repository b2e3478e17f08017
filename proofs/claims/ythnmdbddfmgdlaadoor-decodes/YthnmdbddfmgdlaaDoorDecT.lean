/-
  Decodes: the loop over arguments of the reference's instruction. Own work of the verifier.
-/
import Derived.Test.YthnmdbddfmgdlaaDoorDecS
namespace Go.Proofs.YthnmdbddfmgdlaaDoor
open Go.RowKit

theorem stepA_own {P : Program} {ops : Array Oper} {o : Oper} {a : Act} {w : World} {K : Act → World → Prop} {Q : Exit → Act → World → Prop} {E : Prop}
    (hg : o.guard = none) (s x : Operand) (t : TypeId) (ho : o.op = .call { callee := .builtin .append, args := #[s, x], argTypes := #[t, t] })
    (base : Nat) (e : TypeId) (i : TypeInfo) (z : Value) (size bytes : Nat) (ht : P.underlying t = some (.slice e)) (hi : P.info? e = some i) (hz : i.zero = some z)
    (hsize : i.size = size) (hby : i.bytes = bytes) (hzs : z.cells.size = size) (hsz : 0 < size)
    (v : Value) (n : Nat) (xs : List Value) (hs : a.eval s = v) (hown : w.ownsRow base e size v n xs)
    (ad : Addr) (m c : Nat) (news : List Value) (hx : a.eval x = .slice (some ad) m c) (hl : news.length = m * size) (hnews : ∀ j u, news[j]? = some u → w.cell? (ad.add j) = some u) (h1 : ∀ u ∈ news, u.oneCell' = true)
    (h63 : n + m ≤ maxLen) (hbytes : (n + m) * bytes ≤ 140737488355328) (hbase : base ≤ w.heap.size)
    (h : ∀ v' w', w'.ownsRow base e size v' (n + m) (xs ++ news) → w.grownBy w' v.ownBlock → K (a.put o.dst v') w') :
    if Region.wanted o (yielded ops a.tmps) = true then Oper.wp P o a w K Q else E := by
  have hw : Region.wanted o (yielded ops a.tmps) = true := by simp [Region.wanted, hg]
  rw [if_pos hw]
  exact wp_append_own w s x t ho base e i z size bytes ht hi hz hsize hby hzs hsz v n xs hs hown ad m c news hx hl hnews h1 h63 hbytes hbase (fun v' w' h2 h3 _ => h v' w' h2 h3)
theorem Tryd.infoArgD : (Tryd.prog.info? 82).map (fun i => (i.zero, i.size, i.bytes)) = some (some (.agg #[.int .i64 0, .int .i64 0]), 2, 16) := by kernel_rfl
theorem pair_st (s : ByteArray) (a : Nat) : stOf (sBind (stOf (dNum s 0 8 a)) (dNum s 0 255)) = stOf (dPair s a) := by
  unfold dPair
  cases h1 : dNum s 0 8 a with
  | error q => rfl
  | ok p =>
    obtain ⟨x, a1⟩ := p
    show stOf (dNum s 0 255 a1) = stOf (dBind (dNum s 0 255 a1) _)
    cases h2 : dNum s 0 255 a1 with
    | error q => rfl
    | ok p => rfl
theorem pair_val {s : ByteArray} {a a' : Nat} {x : Int × Int} (h : dPair s a = .ok (x, a')) : valOr (dNum s 0 8 a) = x.1 ∧ valOr (sBind (stOf (dNum s 0 8 a)) (dNum s 0 255)) = x.2 := by
  unfold dPair at h
  cases h1 : dNum s 0 8 a with
  | error q => rw [h1] at h; cases h
  | ok p =>
    obtain ⟨y, a1⟩ := p
    rw [h1, dBind_ok] at h
    show y = x.1 ∧ valOr (dNum s 0 255 a1) = x.2
    cases h2 : dNum s 0 255 a1 with
    | error q => rw [h2] at h; cases h
    | ok p =>
      obtain ⟨z, a2⟩ := p
      rw [h2, dBind_ok] at h
      injection h with h
      injection h with h3 h4
      subst h3
      exact ⟨rfl, rfl⟩
set_option maxHeartbeats 8000000 in
set_option maxRecDepth 100000 in
theorem insLoopR (w : World) (b T2 T3 : Nat) (s : ByteArray) (sh : ByteArray) (q : Nat) (x0 x1 x2 x3 n x5 : Int) (ov : Value) (N a1 : Nat) (av0 : Value) (u : World) (Q0 : Exit → Act → World → Prop) (s1 s2 s4 s5 s6 s8 s9 s10 s11 s12 s13 s14 s15 s16 s17 s18 s19 s20 s21 s22 s23 s24 s25 s26 s27 s28 s29 s30 s31 s32 s33 s34 s35 s36 s37 s38 s39 s40 s41 s42 s43 s44 s45 s46 s47 s48 s49 s50 s51 s52 s53 s54 s55 s56 s57 s58 s59 s60 s61 s62 s63 s64 s65 s66 s67 s68 s69 s70 s71 s72 s73 s74 s75 s76 s77 s78 s79 s80 s81 s82 s83 s84 s85 s86 s87 s88 s89 s90 s91 s92 s93 s94 s95 s96 s97 : Value) (hN : N ≤ 1000)
    (h : EI w u b T2 T3 s (.ok a1) #[.int .i64 x0, .int .i64 x1, .int .i64 x2, .int .i64 x3, .int .u64 n, .int .i64 x5, av0, ov] sh q) (hav : RepA u (T3 + 2) av0 [])
    (hexit : ∀ (u7 u8 u70 u71 u72 u73 u74 u75 u76 u77 u78 u79 u80 u81 u82 u83 u84 u85 u86 u87 u88 u89 u90 u91 : Value) (u' : World) (av : Value), EI w u' b T2 T3 s (stOf (dRep (dPair s) N a1)) #[.int .i64 x0, .int .i64 x1, .int .i64 x2, .int .i64 x3, .int .u64 n, .int .i64 x5, av, ov] sh q → KeptT (T3 + 2) 82 u u' → u.heap.size ≤ u'.heap.size → (∃ p n c, av = .slice p n c) → (∀ xs a, dRep (dPair s) N a1 = .ok (xs, a) → RepA u' (T3 + 2) av xs) → Q0 (.exit 5) ⟨List.toArray (.pointer (some ⟨b, 0, none⟩) :: s1 :: s2 :: .pointer (some ⟨T3, 0, none⟩) :: s4 :: s5 :: s6 :: u7 :: u8 :: s9 :: s10 :: s11 :: s12 :: s13 :: s14 :: s15 :: s16 :: s17 :: s18 :: s19 :: s20 :: s21 :: s22 :: s23 :: s24 :: s25 :: s26 :: s27 :: s28 :: s29 :: s30 :: s31 :: s32 :: s33 :: s34 :: s35 :: s36 :: s37 :: s38 :: s39 :: s40 :: s41 :: s42 :: s43 :: s44 :: s45 :: s46 :: s47 :: s48 :: s49 :: s50 :: s51 :: s52 :: s53 :: s54 :: s55 :: s56 :: s57 :: s58 :: s59 :: s60 :: s61 :: s62 :: s63 :: s64 :: s65 :: s66 :: s67 :: s68 :: s69 :: u70 :: u71 :: u72 :: u73 :: u74 :: u75 :: u76 :: u77 :: u78 :: u79 :: u80 :: u81 :: u82 :: u83 :: u84 :: u85 :: u86 :: u87 :: u88 :: u89 :: u90 :: u91 :: s92 :: s93 :: s94 :: s95 :: s96 :: s97 :: []), []⟩ u') :
    Code.wp Tryd.prog (insLoop Tryd.f23 2) Q0 ⟨List.toArray (.pointer (some ⟨b, 0, none⟩) :: s1 :: s2 :: .pointer (some ⟨T3, 0, none⟩) :: s4 :: s5 :: s6 :: .int .i64 N :: s8 :: s9 :: s10 :: s11 :: s12 :: s13 :: s14 :: s15 :: s16 :: s17 :: s18 :: s19 :: s20 :: s21 :: s22 :: s23 :: s24 :: s25 :: s26 :: s27 :: s28 :: s29 :: s30 :: s31 :: s32 :: s33 :: s34 :: s35 :: s36 :: s37 :: s38 :: s39 :: s40 :: s41 :: s42 :: s43 :: s44 :: s45 :: s46 :: s47 :: s48 :: s49 :: s50 :: s51 :: s52 :: s53 :: s54 :: s55 :: s56 :: s57 :: s58 :: s59 :: s60 :: s61 :: s62 :: s63 :: s64 :: s65 :: s66 :: s67 :: s68 :: s69 :: s70 :: s71 :: s72 :: s73 :: s74 :: s75 :: s76 :: s77 :: s78 :: s79 :: s80 :: s81 :: s82 :: s83 :: s84 :: s85 :: s86 :: s87 :: s88 :: s89 :: s90 :: s91 :: s92 :: s93 :: s94 :: s95 :: s96 :: s97 :: []), []⟩ u := by
  obtain ⟨ti, hti, hz0, hz1, hz2⟩ := info_partsE Tryd.infoArgD
  have HE := hideE h
  have HAV := hideE hav
  have HEX := hideE hexit
  have hlt3 := h.lt
  have hb0 := h.h0
  have hb2 := h.h2
  have hb3 := h.h3
  clear h hexit hav
  refine onlyExit_wp (id := 5) ?_
  conv => arg 2; whnf
  go_loopw [7] (fun nn u' => ∃ m : Nat, nn = .int .i64 m ∧ m ≤ N ∧ KeptT (T3 + 2) 82 u u' ∧ u.heap.size ≤ u'.heap.size ∧ ((∃ xs ak av, dRep (dPair s) (N - m) a1 = .ok (xs, ak) ∧ EI w u' b T2 T3 s (.ok ak) #[.int .i64 x0, .int .i64 x1, .int .i64 x2, .int .i64 x3, .int .u64 n, .int .i64 x5, av, ov] sh q ∧ RepA u' (T3 + 2) av xs) ∨ (∃ q' av, dRep (dPair s) N a1 = .error q' ∧ EI w u' b T2 T3 s (.error q') #[.int .i64 x0, .int .i64 x1, .int .i64 x2, .int .i64 x3, .int .u64 n, .int .i64 x5, av, ov] sh q ∧ ∃ p nn c, av = .slice p nn c))) (fun nn _ => (intOf nn).toNat)
  case atStart => exact ⟨N, rfl, Nat.le_refl _, fun _ _ _ _ => rfl, Nat.le_refl _, Or.inl ⟨[], a1, av0, by rw [Nat.sub_self]; rfl, unhideE HE, unhideE HAV⟩⟩
  case round =>
    obtain ⟨m, rfl, hmN, hK, hsz, hst⟩ := hrel
    rcases hst with ⟨xs, ak, av, hrep, hE, hav⟩ | ⟨q', av, hrep, hE, p, nn, c, rfl⟩
    · have c2 : wr.cell? ⟨b, 2, none⟩ = some (.int .i64 (-1)) := Ey.c2 hE.ey
      by_cases hm0 : m = 0
      · subst hm0
        rw [Nat.sub_zero] at hrep
        have HEX2 := hideE (fun u7 u8 u70 u71 u72 u73 u74 u75 u76 u77 u78 u79 u80 u81 u82 u83 u84 u85 u86 u87 u88 u89 u90 u91 => unhideE HEX u7 u8 u70 u71 u72 u73 u74 u75 u76 u77 u78 u79 u80 u81 u82 u83 u84 u85 u86 u87 u88 u89 u90 u91 wr av (by rw [hrep]; exact hE) hK hsz (by obtain ⟨p, c, e⟩ := hav.shape; exact ⟨p, _, c, e⟩) (fun ys a h => by rw [hrep] at h; injection h with h; injection h with h1 h2; subst h1; exact hav))
        clear hrep hE hav hK
        go_wp2_with fail
        exact ⟨rfl, unhideE HEX2 _ _ _ _ _ _ _ _ _ _ _ _ _ _ _ _ _ _ _ _ _ _ _ _⟩
      · have hmp : (0 : Int) < m := by omega
        obtain ⟨cs, hown, hall⟩ := hav
        have hcl := hall.len
        have hlN : xs.length = N - m := dRep_len _ hrep
        have hcn : cs.length ≤ 1000 := by omega
        obtain ⟨lp, lc, hsh⟩ := own_shape hown.1
        subst hsh
        have HC := hideE (enum_c b s (.ok ak) 0 8 wr hE.ey)
        have HNX := hideE (dRep_next hrep)
        have HE2 := hideE hE
        have HOWN := hideE hown
        have HALL := hideE hall
        have HK := hideE hK
        have HLV := hideE (show ∀ g, (Value.slice lp cs.length lc).ownBlock = some g → T3 + 2 ≤ g from fun g hg => (hown.own g hg).1)
        clear hrep hE hown hall hK hlN hcl
        go_wp2_with fail
        refine (unhideE HC).mono ?_
        rintro e w2 ⟨rfl, hg2, hE2⟩
        have hE2' : EyS w2 b s (stOf (dNum s 0 8 ak)) := hE2
        have hei := (unhideE HE2).call hE2' hg2
        have hk2 := (unhideE HE2).kept hg2
        have hs2 := hg2.size
        obtain ⟨y1, hy1⟩ : ∃ y, y = valOr (dNum s 0 8 ak) := ⟨_, rfl⟩
        rw [show valOr (sBind (.ok ak) (dNum s 0 8)) = y1 from hy1.symm]
        obtain ⟨st1, hst1⟩ : ∃ y, y = stOf (dNum s 0 8 ak) := ⟨_, rfl⟩
        rw [← hst1] at hei
        have HC2 := hideE (enum_c b s st1 0 255 w2.drew hei.drew.ey)
        obtain ⟨y2, hy2⟩ : ∃ y, y = valOr (sBind st1 (dNum s 0 255)) := ⟨_, rfl⟩
        obtain ⟨st2, hst2⟩ : ∃ y, y = stOf (sBind st1 (dNum s 0 255)) := ⟨_, rfl⟩
        have HF := hideE (show Calls Tryd.prog 21 #[.pointer (some ⟨b, 0, none⟩), .int .i64 0, .int .i64 255] w2.drew (fun e w3 => ∃ v, e = .returned v ∧ (v = .int .i64 y2 ∧ EI w w3 b T2 T3 s st2 #[.int .i64 x0, .int .i64 x1, .int .i64 x2, .int .i64 x3, .int .u64 n, .int .i64 x5, (.slice lp cs.length lc), ov] sh q ∧ w2.grownBy w3 (some b))) from (unhideE HC2).mono (by
          rintro e w3 ⟨rfl, hg3, hE3⟩
          rw [← hst2] at hE3
          exact ⟨_, rfl, by rw [hy2], hei.drew.call hE3 hg3, gb_tr (gb_drew w2 (some b)) hg3⟩))
        have k6 := hei.cell 6 _ rfl
        have HY1 := hideE hy1
        have HST1 := hideE hst1
        have HY2 := hideE hy2
        have HST2 := hideE hst2
        have HOW2 := hideE ((unhideE HOWN).keep (Nat.le_refl _) hk2)
        have HK2 := hideE (KeptT.tr (unhideE HK) hsz (KeptT.of_on (T := 82) hk2))
        have hlt2 := hei.lt
        clear hE2 hE2' hei hk2 hg2 hy1 hst1 hy2 hst2 HC HC2 HE2 HOWN HK
        go_wp2_with fail
        go_region_law (first | (refine stepA_own rfl (.tmp 84) (.tmp 89) 63 rfl (T3 + 2) 82 ti _ 2 16 Tryd.underlying63 hti hz0 hz1 hz2 rfl (by decide) (.slice lp cs.length lc) cs.length (flat cs) (by simp [Act.eval]) ((unhideE HOW3).1.alloc _) ⟨w3.heap.size, 0, none⟩ 1 1 [.int .i64 y1, .int .i64 y2] (by simp [Act.eval]) rfl (by intro j u hj; match j, hj with | 0, hj => (simp at hj; subst hj; simp [Addr.add]) | 1, hj => (simp at hj; subst hj; simp [Addr.add])) (by intro u hu; simp at hu; rcases hu with rfl | rfl <;> rfl) (by unfold maxLen; omega) (by omega) (by simp; omega) ?_; intro v7 w7 hown7 hgr7; have hei7 := ((unhideE HEI3).alloc (.cells #[.int .i64 y1, .int .i64 y2] 82)).own hgr7 (unhideE HLV); have j6 := hei7.cell 6 _ rfl; have g6 := hei7.fz 6; obtain ⟨gg7, cc7, rfl⟩ := own_slice hown7; have HOW7 := hideE hown7; have HGR7 := hideE hgr7; have HEI7 := hideE hei7; clear hown7 hgr7 hei7) | (refine step_callE rfl 21 #[.pointer (some ⟨b, 0, none⟩), .int .i64 0, .int .i64 255] (by simp [go_sem]) (unhideE HF) ?_; rintro v w3 ⟨rfl, hei3, hg3⟩; have h6 := hei3.cell 6 _ rfl; have h6a : ∀ X, (w3.alloc X).cell? ⟨T3, 6, none⟩ = some (.slice lp cs.length lc) := fun X => (hei3.alloc X).cell 6 _ rfl; have HEI3 := hideE hei3; have HG3 := hideE hg3; have hs3 := hg3.size; have HOW3 := hideE ((unhideE HOW2).keep (Nat.le_refl _) (KeptOn.of_gb hg3 (by omega))); clear hei3 hg3))
        all_goals
          have hs7 := (unhideE HGR7).size
          have hsa : (w3.alloc (.cells #[.int .i64 y1, .int .i64 y2] 82)).heap.size = w3.heap.size + 1 := by simp
          have HZ := hideE ((unhideE HEI7).set 6 (.slice (some ⟨gg7, 0, none⟩) (cs.length + 1) cc7))
          have HKZ := hideE (KeptT.tr (unhideE HK2) (by omega) (KeptT.tr (KeptT.of_on (T := 82) (B := T3 + 2) (KeptOn.of_gb (unhideE HG3) (by omega))) hs3 (KeptT.tr (KeptT.of_on (T := 82) (B := T3 + 2) (fun k _ h2 => (gb_alloc w3 (.cells #[.int .i64 y1, .int .i64 y2] 82) none).block k h2 (by simp))) (by omega) (KeptT.tr (KeptT.of_own ((unhideE HOW3).1.alloc _) (unhideE HGR7)) hs7 (KeptT.of_on (kept_set2 w7 T3 6 (.slice (some ⟨gg7, 0, none⟩) (cs.length + 1) cc7)))))))
          have HRZ := hideE ((OwnL.snoc (cs := cs) (c := #[.int .i64 y1, .int .i64 y2]) (unhideE HOW7) (by simp) (by rw [flat_snoc]) (unhideE HOW3).2 rfl).keep (Nat.le_refl _) (kept_set2 w7 T3 6 (.slice (some ⟨gg7, 0, none⟩) (cs.length + 1) cc7)))
          clear HGR7 HOW7 HEI7 HG3 HEI3 HOW3 j6 g6 h6 h6a HF k6 HOW2 HK2
          go_wp2
          go_roundw
          case rel =>
            refine ⟨m - 1, int_pred (by omega), by omega, unhideE HKZ, by simp; omega, ?_⟩
            have e1 : N - (m - 1) = N - m + 1 := by omega
            have est : st2 = stOf (dPair s ak) := by rw [unhideE HST2, unhideE HST1, pair_st]
            have hz := unhideE HZ
            rw [est] at hz
            cases ho : dPair s ak with
            | ok p =>
              obtain ⟨y, a2⟩ := p
              have hn := unhideE HNX
              rw [ho] at hz hn
              obtain ⟨e2, e3⟩ := pair_val ho
              refine Or.inl ⟨xs ++ [y], a2, (.slice (some ⟨gg7, 0, none⟩) (cs.length + 1) cc7), by rw [e1]; exact hn, hz, _, unhideE HRZ, All2.snoc (unhideE HALL) ?_⟩
              show #[Value.int .i64 y1, Value.int .i64 y2] = #[Value.int .i64 y.1, Value.int .i64 y.2]
              rw [unhideE HY1, unhideE HY2, unhideE HST1, e2, e3]
            | error qq =>
              have hn := unhideE HNX
              rw [ho] at hz hn
              exact Or.inr ⟨qq, (.slice (some ⟨gg7, 0, none⟩) (cs.length + 1) cc7), dRep_err (k := N - m + 1) hn (by omega), hz, _, _, _, rfl⟩
          case measure => simp [intOf]; omega
    · have c2 : wr.cell? ⟨b, 2, none⟩ = some (.int .i64 q') := by obtain ⟨-, a, h⟩ := hE.ey; exact h.c2
      have hq : ¬ ((q' : Int) < 0) := by omega
      have HEX2 := hideE (fun u7 u8 u70 u71 u72 u73 u74 u75 u76 u77 u78 u79 u80 u81 u82 u83 u84 u85 u86 u87 u88 u89 u90 u91 => unhideE HEX u7 u8 u70 u71 u72 u73 u74 u75 u76 u77 u78 u79 u80 u81 u82 u83 u84 u85 u86 u87 u88 u89 u90 u91 wr (.slice p nn c) (by rw [hrep]; exact hE) hK hsz ⟨_, _, _, rfl⟩ (fun ys a h => by rw [hrep] at h; cases h))
      clear hrep hE hK
      by_cases hm0 : m = 0
      · subst hm0
        go_wp2_with fail
        exact ⟨rfl, unhideE HEX2 _ _ _ _ _ _ _ _ _ _ _ _ _ _ _ _ _ _ _ _ _ _ _ _⟩
      · have hmp : (0 : Int) < m := by omega
        go_wp2_with fail
        exact ⟨rfl, unhideE HEX2 _ _ _ _ _ _ _ _ _ _ _ _ _ _ _ _ _ _ _ _ _ _ _ _⟩
end Go.Proofs.YthnmdbddfmgdlaaDoor
