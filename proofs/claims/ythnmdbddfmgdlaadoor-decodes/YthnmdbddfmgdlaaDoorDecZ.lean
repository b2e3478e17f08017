/-
  Decodes: the loop over functions of prologueref.Decode. Own work of the verifier.
-/
import Derived.Test.YthnmdbddfmgdlaaDoorDecY
namespace Go.Proofs.YthnmdbddfmgdlaaDoor
open Go.RowKit

def fnP (s : ByteArray) (a : Nat) : Except Nat (List (Int × Int) × Nat) := dList s 0 8 (dPair s) a
def fn2 (s : ByteArray) (a : Nat) : Except Nat (Int × Nat) := sBind (stOf (fnP s a)) (dNum s 0 4)
def fn3 (s : ByteArray) (a : Nat) : Except Nat (List Int × Nat) := sBind (stOf (fn2 s a)) (dList s 0 12 (dNum s (-1) 15))
def fn4 (s : ByteArray) (a : Nat) : Except Nat (List Int × Nat) := sBind (stOf (fn3 s a)) (dList s 0 6 (dNum s 1 8))
def fn5 (s : ByteArray) (a : Nat) : Except Nat (Int × Nat) := sBind (stOf (fn4 s a)) (dNum s 1 12)
def fn6 (s : ByteArray) (a : Nat) : Except Nat (List (List InsE) × Nat) := dMany (fn5 s a) (dBlock s)
theorem fn_all (s : ByteArray) (a : Nat) : stOf (fn6 s a) = stOf (dFunc s a) ∧ ∀ f a', dFunc s a = .ok (f, a') → (∃ x, fnP s a = .ok (f.params, x)) ∧ valOr (fn2 s a) = f.results ∧ (∃ x, fn3 s a = .ok (f.homes, x)) ∧ (∃ x, fn4 s a = .ok (f.slots, x)) ∧ ∃ x, fn6 s a = .ok (f.blocks, x) := by
  unfold dFunc
  cases h1 : dList s 0 8 (dPair s) a with
  | error q =>
    have e1 : fnP s a = .error q := h1
    have e2 : fn2 s a = .error q := by unfold fn2; rw [e1]; rfl
    have e3 : fn3 s a = .error q := by unfold fn3; rw [e2]; rfl
    have e4 : fn4 s a = .error q := by unfold fn4; rw [e3]; rfl
    have e5 : fn5 s a = .error q := by unfold fn5; rw [e4]; rfl
    have e6 : fn6 s a = .error q := by unfold fn6; rw [e5]; rfl
    rw [e6]
    exact ⟨rfl, fun f a' h => by cases h⟩
  | ok p =>
    obtain ⟨ps, a1⟩ := p
    have e1 : fnP s a = .ok (ps, a1) := h1
    have e2 : fn2 s a = dNum s 0 4 a1 := by unfold fn2; rw [e1]; rfl
    rw [dBind_ok]
    cases h2 : dNum s 0 4 a1 with
    | error q =>
      rw [h2] at e2
      have e3 : fn3 s a = .error q := by unfold fn3; rw [e2]; rfl
      have e4 : fn4 s a = .error q := by unfold fn4; rw [e3]; rfl
      have e5 : fn5 s a = .error q := by unfold fn5; rw [e4]; rfl
      have e6 : fn6 s a = .error q := by unfold fn6; rw [e5]; rfl
      rw [e6]
      exact ⟨rfl, fun f a' h => by cases h⟩
    | ok p =>
      obtain ⟨r, a2⟩ := p
      rw [h2] at e2
      have e3 : fn3 s a = dList s 0 12 (dNum s (-1) 15) a2 := by unfold fn3; rw [e2]; rfl
      rw [dBind_ok]
      cases h3 : dList s 0 12 (dNum s (-1) 15) a2 with
      | error q =>
        rw [h3] at e3
        have e4 : fn4 s a = .error q := by unfold fn4; rw [e3]; rfl
        have e5 : fn5 s a = .error q := by unfold fn5; rw [e4]; rfl
        have e6 : fn6 s a = .error q := by unfold fn6; rw [e5]; rfl
        rw [e6]
        exact ⟨rfl, fun f a' h => by cases h⟩
      | ok p =>
        obtain ⟨hs, a3⟩ := p
        rw [h3] at e3
        have e4 : fn4 s a = dList s 0 6 (dNum s 1 8) a3 := by unfold fn4; rw [e3]; rfl
        rw [dBind_ok]
        cases h4 : dList s 0 6 (dNum s 1 8) a3 with
        | error q =>
          rw [h4] at e4
          have e5 : fn5 s a = .error q := by unfold fn5; rw [e4]; rfl
          have e6 : fn6 s a = .error q := by unfold fn6; rw [e5]; rfl
          rw [e6]
          exact ⟨rfl, fun f a' h => by cases h⟩
        | ok p =>
          obtain ⟨ss, a4⟩ := p
          rw [h4] at e4
          have e6 : fn6 s a = dList s 1 12 (dBlock s) a4 := by unfold fn6 fn5; rw [e4]; rfl
          rw [dBind_ok]
          cases h5 : dList s 1 12 (dBlock s) a4 with
          | error q =>
            rw [h5] at e6
            rw [e6]
            exact ⟨rfl, fun f a' h => by cases h⟩
          | ok p =>
            obtain ⟨bs, a5⟩ := p
            rw [h5] at e6
            rw [e6]
            refine ⟨rfl, fun f a' h => ?_⟩
            injection h with h
            injection h with h6 h7
            subst h6
            exact ⟨⟨_, e1⟩, by rw [e2]; rfl, ⟨_, e3⟩, ⟨_, e4⟩, _, rfl⟩
section
variable {u0 u u1 u' V : World} {b X T9 : Nat} {s : ByteArray} {st st' : Stt} {TX : TypeId} {A A' : Array Value}
theorem EL.trans (h : EL u0 u b X s st TX A) (k : EL u u' b X s st' TX A') : EL u0 u' b X s st' TX A' := ⟨k.ey, k.rx, h.g.tr k.g, h.h0, h.hx, h.ne⟩
theorem EL.restart (h : EL u0 u b X s st TX A) : EL u u b X s st TX A := ⟨h.ey, h.rx, G2.refl _ _ _, by have := h.g.size; have := h.h0; omega, row_lt h.rx, h.ne⟩
theorem G2.kept {B : Nat} (h : G2 b X u u') (hb : b < B) (hx : X < B) : KeptOn B u u' := fun k h1 h2 => h.block k h2 (by omega) (by omega)
theorem EL.outer (h : EL u0 u b X s st TX A) (o : Obj) (hg : G2 b u.heap.size (u.alloc o) u') (he : EyS u' b s st') : EL u0 u' b X s st' TX A := by
  have e0 := h.h0
  have e1 := h.hx
  have e2 := h.g.size
  have e3 : (u.alloc o).heap.size = u.heap.size + 1 := by simp
  have al : ∀ k, k < u.heap.size → (u.alloc o).heap[k]? = u.heap[k]? := fun k hk => (gb_alloc u o none).block k hk (by simp)
  have al2 := gb_alloc u o none
  refine ⟨he, (hg.block X (by omega) h.ne.symm (by omega)).trans ((al X (by omega)).trans h.rx), ⟨hg.os.trans (al2.os.trans h.g.os), hg.tape.trans (al2.tape.trans h.g.tape), hg.output.trans (al2.output.trans h.g.output), by have := hg.size; omega, fun k h1 h2 h3 => (hg.block k (by omega) h2 (by omega)).trans ((al k (by omega)).trans (h.g.block k h1 h2 h3))⟩, e0, e1, h.ne⟩
theorem kept_outer {B : Nat} (o : Obj) (hg : G2 b u.heap.size (u.alloc o) u') (hb : b < B) : KeptOn B u u' := fun k h1 h2 => (hg.block k (by simp; omega) (by omega) (by omega)).trans ((gb_alloc u o none).block k h2 (by simp))
end
theorem one5 {r : Int} {p1 p2 p3 p4 : Option Addr} {n1 c1 n2 c2 n3 c3 n4 c4 : Nat} : ∀ u ∈ [Value.slice p1 n1 c1, .int .i64 r, .slice p2 n2 c2, .slice p3 n3 c3, .slice p4 n4 c4], u.oneCell' = true := by
  intro u hu
  simp at hu
  rcases hu with rfl | rfl | rfl | rfl | rfl <;> rfl
set_option maxHeartbeats 8000000 in
set_option maxRecDepth 100000 in
theorem decFuncs (b X : Nat) (s : ByteArray) (f1 : Value) (N a1 : Nat) (u : World) (Q0 : Exit → Act → World → Prop) (s0 s1 s2 s3 s6 s7 s9 s10 s11 s12 s13 s14 s15 s16 s17 s18 s19 s20 s21 s22 s23 s24 s25 s26 s27 s28 s29 s30 s31 s32 s33 s34 s35 s36 s37 s38 s39 s40 s41 s42 s43 s44 s45 s46 s47 s48 s49 s50 s51 s52 s53 s54 s55 s56 s57 s58 s59 s60 s61 s62 s63 s64 s65 s66 s67 s68 s69 s70 s71 s72 s73 s74 s75 s76 s77 s78 s79 s80 s81 s82 s83 s84 s85 s86 s87 s88 s89 s90 s91 s92 s93 s94 s95 s96 s97 s98 s99 s100 s101 s102 s103 s104 s105 s106 s107 s108 s109 s110 s111 s112 s113 s114 s115 s116 s117 s118 s119 s120 s121 s122 s123 s124 s125 s126 s127 s128 s129 s130 s131 s132 s133 s134 s135 s136 s137 s138 s139 s140 s141 s142 s143 s144 s145 s146 s147 s148 s149 s150 s151 s152 s153 s154 s155 s156 s157 s158 s159 s160 s161 s162 s163 s164 s165 s166 s167 s168 s169 s170 s171 s172 s173 : Value) (hN : N ≤ 1000)
    (h : EL u u b X s (.ok a1) 25 #[.slice none 0 0, f1])
    (hexit : ∀ (u8 u9 u10 u11 u12 u13 u14 u53 u54 u55 u56 u57 u58 u59 u60 u61 u62 u63 u64 u65 u66 u67 u68 u69 u70 u71 u72 u73 u74 u75 u76 u77 u78 u79 u80 u81 u82 u83 u84 u85 u86 u87 u88 u89 u90 u91 u92 u93 u94 u95 u96 u97 u98 u99 u100 u101 u102 u103 u104 u105 u106 u107 u108 u109 u110 u111 u112 u113 u114 u115 u116 u117 u118 u119 u120 u121 u122 u123 u124 u125 u126 u127 u128 u129 u130 u131 u132 u133 u134 u135 u136 u137 u138 u139 : Value) (u' : World) (av : Value), EL u u' b X s (stOf (dRep (dFunc s) N a1)) 25 #[av, f1] → (∃ p n c, av = .slice p n c) → (∀ xs a, dRep (dFunc s) N a1 = .ok (xs, a) → RepL u' u.heap.size 58 5 (RFunc u' u.heap.size) av xs) → Q0 (.exit 2) ⟨List.toArray (s0 :: s1 :: s2 :: s3 :: .pointer (some ⟨b, 0, none⟩) :: .pointer (some ⟨X, 0, none⟩) :: s6 :: s7 :: u8 :: u9 :: u10 :: u11 :: u12 :: u13 :: u14 :: s15 :: s16 :: s17 :: s18 :: s19 :: s20 :: s21 :: s22 :: s23 :: s24 :: s25 :: s26 :: s27 :: s28 :: s29 :: s30 :: s31 :: s32 :: s33 :: s34 :: s35 :: s36 :: s37 :: s38 :: s39 :: s40 :: s41 :: s42 :: s43 :: s44 :: s45 :: s46 :: s47 :: s48 :: s49 :: s50 :: s51 :: s52 :: u53 :: u54 :: u55 :: u56 :: u57 :: u58 :: u59 :: u60 :: u61 :: u62 :: u63 :: u64 :: u65 :: u66 :: u67 :: u68 :: u69 :: u70 :: u71 :: u72 :: u73 :: u74 :: u75 :: u76 :: u77 :: u78 :: u79 :: u80 :: u81 :: u82 :: u83 :: u84 :: u85 :: u86 :: u87 :: u88 :: u89 :: u90 :: u91 :: u92 :: u93 :: u94 :: u95 :: u96 :: u97 :: u98 :: u99 :: u100 :: u101 :: u102 :: u103 :: u104 :: u105 :: u106 :: u107 :: u108 :: u109 :: u110 :: u111 :: u112 :: u113 :: u114 :: u115 :: u116 :: u117 :: u118 :: u119 :: u120 :: u121 :: u122 :: u123 :: u124 :: u125 :: u126 :: u127 :: u128 :: u129 :: u130 :: u131 :: u132 :: u133 :: u134 :: u135 :: u136 :: u137 :: u138 :: u139 :: s140 :: s141 :: s142 :: s143 :: s144 :: s145 :: s146 :: s147 :: s148 :: s149 :: s150 :: s151 :: s152 :: s153 :: s154 :: s155 :: s156 :: s157 :: s158 :: s159 :: s160 :: s161 :: s162 :: s163 :: s164 :: s165 :: s166 :: s167 :: s168 :: s169 :: s170 :: s171 :: s172 :: s173 :: []), []⟩ u') :
    Code.wp Tryd.prog (decLoop Tryd.f9 1) Q0 ⟨List.toArray (s0 :: s1 :: s2 :: s3 :: .pointer (some ⟨b, 0, none⟩) :: .pointer (some ⟨X, 0, none⟩) :: s6 :: s7 :: .int .i64 N :: s9 :: s10 :: s11 :: s12 :: s13 :: s14 :: s15 :: s16 :: s17 :: s18 :: s19 :: s20 :: s21 :: s22 :: s23 :: s24 :: s25 :: s26 :: s27 :: s28 :: s29 :: s30 :: s31 :: s32 :: s33 :: s34 :: s35 :: s36 :: s37 :: s38 :: s39 :: s40 :: s41 :: s42 :: s43 :: s44 :: s45 :: s46 :: s47 :: s48 :: s49 :: s50 :: s51 :: s52 :: s53 :: s54 :: s55 :: s56 :: s57 :: s58 :: s59 :: s60 :: s61 :: s62 :: s63 :: s64 :: s65 :: s66 :: s67 :: s68 :: s69 :: s70 :: s71 :: s72 :: s73 :: s74 :: s75 :: s76 :: s77 :: s78 :: s79 :: s80 :: s81 :: s82 :: s83 :: s84 :: s85 :: s86 :: s87 :: s88 :: s89 :: s90 :: s91 :: s92 :: s93 :: s94 :: s95 :: s96 :: s97 :: s98 :: s99 :: s100 :: s101 :: s102 :: s103 :: s104 :: s105 :: s106 :: s107 :: s108 :: s109 :: s110 :: s111 :: s112 :: s113 :: s114 :: s115 :: s116 :: s117 :: s118 :: s119 :: s120 :: s121 :: s122 :: s123 :: s124 :: s125 :: s126 :: s127 :: s128 :: s129 :: s130 :: s131 :: s132 :: s133 :: s134 :: s135 :: s136 :: s137 :: s138 :: s139 :: s140 :: s141 :: s142 :: s143 :: s144 :: s145 :: s146 :: s147 :: s148 :: s149 :: s150 :: s151 :: s152 :: s153 :: s154 :: s155 :: s156 :: s157 :: s158 :: s159 :: s160 :: s161 :: s162 :: s163 :: s164 :: s165 :: s166 :: s167 :: s168 :: s169 :: s170 :: s171 :: s172 :: s173 :: []), []⟩ u := by
  obtain ⟨ti, hti, hz0, hz1, hz2⟩ := info_partsE Tryd.infoFuncD
  have HE := hideE h
  have HEX := hideE hexit
  have hb0 := h.h0
  have hbx := h.hx
  have hne := h.ne
  clear h hexit
  refine onlyExit_wp (id := 2) ?_
  conv => arg 2; whnf
  go_loopw [8] (fun nn u' => ∃ m : Nat, nn = .int .i64 m ∧ m ≤ N ∧ ((∃ xs ak av, dRep (dFunc s) (N - m) a1 = .ok (xs, ak) ∧ EL u u' b X s (.ok ak) 25 #[av, f1] ∧ RepL u' u.heap.size 58 5 (RFunc u' u.heap.size) av xs) ∨ (∃ q' av, dRep (dFunc s) N a1 = .error q' ∧ EL u u' b X s (.error q') 25 #[av, f1] ∧ ∃ p nn c, av = .slice p nn c))) (fun nn _ => (intOf nn).toNat)
  case atStart => exact ⟨N, rfl, Nat.le_refl _, Or.inl ⟨[], a1, _, by rw [Nat.sub_self]; rfl, unhideE HE, RepL.nil _ _ _ _ _⟩⟩
  case round =>
    obtain ⟨m, rfl, hmN, hst⟩ := hrel
    rcases hst with ⟨xs, ak, av, hrep, hE, hav⟩ | ⟨q', av, hrep, hE, p, nn, c, rfl⟩
    · have hcb : wr.cell? ⟨b, 2, none⟩ = some (.int .i64 (-1)) := Ey.c2 hE.ey
      by_cases hm0 : m = 0
      · subst hm0
        rw [Nat.sub_zero] at hrep
        have HEX2 := hideE (fun u8 u9 u10 u11 u12 u13 u14 u53 u54 u55 u56 u57 u58 u59 u60 u61 u62 u63 u64 u65 u66 u67 u68 u69 u70 u71 u72 u73 u74 u75 u76 u77 u78 u79 u80 u81 u82 u83 u84 u85 u86 u87 u88 u89 u90 u91 u92 u93 u94 u95 u96 u97 u98 u99 u100 u101 u102 u103 u104 u105 u106 u107 u108 u109 u110 u111 u112 u113 u114 u115 u116 u117 u118 u119 u120 u121 u122 u123 u124 u125 u126 u127 u128 u129 u130 u131 u132 u133 u134 u135 u136 u137 u138 u139 => unhideE HEX u8 u9 u10 u11 u12 u13 u14 u53 u54 u55 u56 u57 u58 u59 u60 u61 u62 u63 u64 u65 u66 u67 u68 u69 u70 u71 u72 u73 u74 u75 u76 u77 u78 u79 u80 u81 u82 u83 u84 u85 u86 u87 u88 u89 u90 u91 u92 u93 u94 u95 u96 u97 u98 u99 u100 u101 u102 u103 u104 u105 u106 u107 u108 u109 u110 u111 u112 u113 u114 u115 u116 u117 u118 u119 u120 u121 u122 u123 u124 u125 u126 u127 u128 u129 u130 u131 u132 u133 u134 u135 u136 u137 u138 u139 wr av (by rw [hrep]; exact hE) (by obtain ⟨p, c, e⟩ := hav.shape; exact ⟨p, _, c, e⟩) (fun ys a h => by rw [hrep] at h; injection h with h; injection h with h1 h2; subst h1; exact hav))
        clear hrep hE hav
        go_wp2_with fail
        exact ⟨rfl, unhideE HEX2 _ _ _ _ _ _ _ _ _ _ _ _ _ _ _ _ _ _ _ _ _ _ _ _ _ _ _ _ _ _ _ _ _ _ _ _ _ _ _ _ _ _ _ _ _ _ _ _ _ _ _ _ _ _ _ _ _ _ _ _ _ _ _ _ _ _ _ _ _ _ _ _ _ _ _ _ _ _ _ _ _ _ _ _ _ _ _ _ _ _ _ _ _ _⟩
      · have hmp : (0 : Int) < m := by omega
        obtain ⟨cs, hown, hall⟩ := hav
        have hcl := hall.len
        have hlN : xs.length = N - m := dRep_len _ hrep
        have hcn : cs.length ≤ 1000 := by omega
        have hsz := hE.g.size
        obtain ⟨lp, lc, hsh⟩ := own_shape hown.1
        subst hsh
        have HNX := hideE (dRep_next hrep)
        have HE2 := hideE hE
        have HOWN := hideE hown
        have HALL := hideE hall
        have HLV := hideE (show ∀ g, (Value.slice lp cs.length lc).ownBlock = some g → u.heap.size ≤ g from fun g hg => (hown.own g hg).1)
        clear hrep hE hown hall hlN hcl
        go_wp2_with fail
        have hVz : (wr.alloc (.cells #[.slice none 0 0, .int .i64 0, .slice none 0 0, .slice none 0 0, .slice none 0 0] 58 (0, 0))).heap.size = wr.heap.size + 1 := by simp
        have hel0 : EL (wr.alloc (.cells #[.slice none 0 0, .int .i64 0, .slice none 0 0, .slice none 0 0, .slice none 0 0] 58 (0, 0))) (wr.alloc (.cells #[.slice none 0 0, .int .i64 0, .slice none 0 0, .slice none 0 0, .slice none 0 0] 58 (0, 0))) b wr.heap.size s (.ok ak) 58 #[.slice none 0 0, .int .i64 0, .slice none 0 0, .slice none 0 0, .slice none 0 0] := ⟨(unhideE HE2).ey.alloc _, heap_alloc_new _ _, G2.refl _ _ _, by omega, by omega, by omega⟩
        have HVW := hideE (show ∀ u' st', G2 b wr.heap.size (wr.alloc (.cells #[.slice none 0 0, .int .i64 0, .slice none 0 0, .slice none 0 0, .slice none 0 0] 58 (0, 0))) u' → EyS u' b s st' → EL u u' b X s st' 25 #[.slice lp cs.length lc, f1] ∧ KeptOn u.heap.size wr u' from fun u' st' hg he => ⟨(unhideE HE2).outer _ hg he, kept_outer _ hg hb0⟩)
        obtain ⟨T9, hT9⟩ : ∃ T, T = wr.heap.size := ⟨_, rfl⟩
        rw [← hT9] at hel0 HVW hVz ⊢
        generalize wr.alloc (.cells #[.slice none 0 0, .int .i64 0, .slice none 0 0, .slice none 0 0, .slice none 0 0] 58 (0, 0)) = V at hel0 HVW hVz ⊢
        have HT9 := hideE hT9
        have hbT : b < T9 := by omega
        have huT : u.heap.size ≤ T9 := by omega
        clear hT9
        have HL0 := hideE hel0
        refine (enum_c b s (.ok ak) 0 8 V hel0.ey).mono ?_
        rintro e v1 ⟨rfl, hg, hE⟩
        have hl1 : EL V v1 b T9 s (stOf (dNum s 0 8 ak)) 58 #[.slice none 0 0, .int .i64 0, .slice none 0 0, .slice none 0 0, .slice none 0 0] := hel0.call hE hg
        rw [show valOr (sBind (.ok ak) (dNum s 0 8)) = valOr (dNum s 0 8 ak) from rfl]
        have HL1 := hideE hl1
        have hz1' := hl1.g.size
        clear hg hE hel0 HL0 hl1
        go_wp2_with fail
        refine decParamsG b T9 s 0 (.slice none 0 0) (.slice none 0 0) (.slice none 0 0) (dNum s 0 8 ak) v1 _ _ _ _ _ _ _ _ _ _ _ _ _ _ _ _ _ _ _ _ _ _ _ _ _ _ _ _ _ _ _ _ _ _ _ _ _ _ _ _ _ _ _ _ _ _ _ _ _ _ _ _ _ _ _ _ _ _ _ _ _ _ _ _ _ _ _ _ _ _ _ _ _ _ _ _ _ _ _ _ _ _ _ _ _ _ _ _ _ _ _ _ _ _ _ _ _ _ _ _ _ _ _ _ _ _ _ _ _ _ _ _ _ _ _ _ _ _ _ _ _ _ _ _ _ _ _ _ _ _ _ _ _ _ _ _ _ _ _ _ _ _ _ _ _ _ _ _ _ _ _ _ _ _ _ _ _ _ _ _ _ _ _ _ _ _ _ _ _ _ _ _ (fun n a hh => by have := dNum_bd hh; omega) (unhideE HL1).restart ?_
        intro u10 u11 u66 u67 u68 u69 u70 u71 u72 u73 u74 u75 u76 u77 u78 u79 u80 u81 u82 u83 u84 u85 u86 u87 v2 pv hl2 hpv hrepP
        obtain ⟨pvp, pvn, pvc, rfl⟩ := hpv
        have hl2' : EL V v2 b T9 s (stOf (fnP s ak)) 58 #[.slice pvp pvn pvc, .int .i64 0, .slice none 0 0, .slice none 0 0, .slice none 0 0] := (unhideE HL1).trans hl2
        have HRP := hideE (fun xs a (hh : fnP s ak = .ok (xs, a)) => show RepL v2 V.heap.size 60 2 (RP v2 V.heap.size) (.slice pvp pvn pvc) xs from (hrepP xs a hh).keep hz1' (fun _ _ _ => rfl) (fun _ _ h => h))
        have HL2 := hideE hl2'
        clear hl2 hl2' hrepP HL1
        go_wp2_with fail
        refine (enum_c b s (stOf (fnP s ak)) 0 4 v2 (unhideE HL2).ey).mono ?_
        rintro e v3 ⟨rfl, hg, hE⟩
        have hl3 : EL V v3 b T9 s (stOf (fn2 s ak)) 58 _ := (unhideE HL2).call hE hg
        have hk3 := (unhideE HL2).kept hg
        rw [show valOr (sBind (stOf (fnP s ak)) (dNum s 0 4)) = valOr (fn2 s ak) from rfl]
        have c1 := hl3.cell 1 _ rfl
        have d1 := hl3.fz 1
        have HL3 := hideE (show EL V (v3.setCell ⟨T9, 1, none⟩ (.int .i64 (valOr (fn2 s ak)))) b T9 s (stOf (fn2 s ak)) 58 #[.slice pvp pvn pvc, .int .i64 (valOr (fn2 s ak)), .slice none 0 0, .slice none 0 0, .slice none 0 0] from hl3.set 1 _)
        have HKA := hideE (kept_tr hk3 hg.size (hl3.keptSet 1 (.int .i64 (valOr (fn2 s ak)))))
        have hsA : v2.heap.size ≤ (v3.setCell ⟨T9, 1, none⟩ (.int .i64 (valOr (fn2 s ak)))).heap.size := by simpa using hg.size
        clear hl3 hk3 hg hE HL2
        generalize hfr : valOr (fn2 s ak) = fr at HL3 HKA hsA ⊢
        have HFR := hideE hfr
        clear hfr
        go_wp2_with fail
        clear c1 d1
        generalize v3.setCell ⟨T9, 1, none⟩ (.int .i64 fr) = v4 at HL3 HKA hsA ⊢
        refine (enums_c b s (stOf (fn2 s ak)) 12 (-1) 15 v4 (unhideE HL3).ey (by decide)).mono ?_
        rintro e v5 ⟨hg, hv, rfl, hE, ⟨hvp, hvn, hvc, rfl⟩, hrepH⟩
        have hl5 : EL V v5 b T9 s (stOf (fn3 s ak)) 58 _ := (unhideE HL3).call hE hg
        have hk5 := (unhideE HL3).kept hg
        have hz4 := (unhideE HL3).g.size
        have c1 := hl5.cell 2 _ rfl
        have d1 := hl5.fz 2
        have HL5 := hideE (show EL V (v5.setCell ⟨T9, 2, none⟩ (.slice hvp hvn hvc)) b T9 s (stOf (fn3 s ak)) 58 #[.slice pvp pvn pvc, .int .i64 fr, .slice hvp hvn hvc, .slice none 0 0, .slice none 0 0] from hl5.set 2 _)
        have HKB := hideE (kept_tr hk5 hg.size (hl5.keptSet 2 (.slice hvp hvn hvc)))
        have HRH := hideE (fun xs a (hh : fn3 s ak = .ok (xs, a)) => show RepI (v5.setCell ⟨T9, 2, none⟩ (.slice hvp hvn hvc)) V.heap.size (.slice hvp hvn hvc) xs from (hrepH xs a hh).keep hz4 (fun k h1 h2 => hl5.keptSet 2 (.slice hvp hvn hvc) k (by omega) h2) (fun _ _ h => h))
        have hsB : v4.heap.size ≤ (v5.setCell ⟨T9, 2, none⟩ (.slice hvp hvn hvc)).heap.size := by simpa using hg.size
        clear hl5 hk5 hg hE HL3 hrepH
        go_wp2_with fail
        clear c1 d1
        generalize v5.setCell ⟨T9, 2, none⟩ (.slice hvp hvn hvc) = v6 at HL5 HKB HRH hsB ⊢
        refine (enums_c b s (stOf (fn3 s ak)) 6 1 8 v6 (unhideE HL5).ey (by decide)).mono ?_
        rintro e v7 ⟨hg, sv, rfl, hE, ⟨svp, svn, svc, rfl⟩, hrepS⟩
        have hl7 : EL V v7 b T9 s (stOf (fn4 s ak)) 58 _ := (unhideE HL5).call hE hg
        have hk7 := (unhideE HL5).kept hg
        have hz6 := (unhideE HL5).g.size
        have c1 := hl7.cell 3 _ rfl
        have d1 := hl7.fz 3
        have HL7 := hideE (show EL V (v7.setCell ⟨T9, 3, none⟩ (.slice svp svn svc)) b T9 s (stOf (fn4 s ak)) 58 #[.slice pvp pvn pvc, .int .i64 fr, .slice hvp hvn hvc, .slice svp svn svc, .slice none 0 0] from hl7.set 3 _)
        have HKC := hideE (kept_tr hk7 hg.size (hl7.keptSet 3 (.slice svp svn svc)))
        have HRS := hideE (fun xs a (hh : fn4 s ak = .ok (xs, a)) => show RepI (v7.setCell ⟨T9, 3, none⟩ (.slice svp svn svc)) V.heap.size (.slice svp svn svc) xs from (hrepS xs a hh).keep hz6 (fun k h1 h2 => hl7.keptSet 3 (.slice svp svn svc) k (by omega) h2) (fun _ _ h => h))
        have hsC : v6.heap.size ≤ (v7.setCell ⟨T9, 3, none⟩ (.slice svp svn svc)).heap.size := by simpa using hg.size
        clear hl7 hk7 hg hE HL5 hrepS
        go_wp2_with fail
        clear c1 d1
        generalize v7.setCell ⟨T9, 3, none⟩ (.slice svp svn svc) = v8 at HL7 HKC HRS hsC ⊢
        refine (enum_c b s (stOf (fn4 s ak)) 1 12 v8 (unhideE HL7).ey).mono ?_
        rintro e v9 ⟨rfl, hg, hE⟩
        have hl9 : EL V v9 b T9 s (stOf (fn5 s ak)) 58 _ := (unhideE HL7).call hE hg
        have HKD := hideE ((unhideE HL7).kept hg)
        have hsz8 := hg.size
        rw [show valOr (sBind (stOf (fn4 s ak)) (dNum s 1 12)) = valOr (fn5 s ak) from rfl]
        have HL9 := hideE hl9
        have hz9 := hl9.g.size
        clear hl9 hg hE HL7
        go_wp2_with fail
        refine decBlocksG b T9 s (.slice pvp pvn pvc) fr (.slice hvp hvn hvc) (.slice svp svn svc) (fn5 s ak) v9 _ _ _ _ _ _ _ _ _ _ _ _ _ _ _ _ _ _ _ _ _ _ _ _ _ _ _ _ _ _ _ _ _ _ _ _ _ _ _ _ _ _ _ _ _ _ _ _ _ _ _ _ _ _ _ _ _ _ _ _ _ _ _ _ _ _ _ _ _ _ _ _ _ _ _ _ _ _ _ _ _ _ _ _ _ _ _ _ _ _ _ _ _ _ _ _ _ _ _ _ _ _ _ _ _ _ _ _ _ _ _ _ _ _ _ _ _ _ _ _ _ _ _ _ _ _ _ _ _ _ _ _ _ _ _ _ _ _ _ _ _ _ _ _ _ _ _ _ _ _ _ _ _ _ _ _ _ _ _ _ _ _ _ _ _ _ _ _ _ _ _ _ (fun n a hh => by
          unfold fn5 at hh
          cases hst : stOf (fn4 s ak) with
          | error q => rw [hst] at hh; cases hh
          | ok a' => rw [hst] at hh; have := dNum_bd (show dNum s 1 12 a' = .ok (n, a) from hh); omega) (unhideE HL9).restart ?_
        intro u12 u13 u14 u99 u100 u101 u102 u103 u104 u105 u106 u107 u108 u109 u110 u111 u112 u113 u114 u115 u116 u117 u118 u119 u120 u121 u122 u123 u124 u125 u126 u127 u128 u129 u130 u131 u132 u133 w3 bv hl10 hbv hrepB
        obtain ⟨bvp, bvn, bvc, rfl⟩ := hbv
        have hl11 : EL V w3 b T9 s (stOf (fn6 s ak)) 58 #[.slice pvp pvn pvc, .int .i64 fr, .slice hvp hvn hvc, .slice svp svn svc, .slice bvp bvn bvc] := (unhideE HL9).trans hl10
        have hk10 : KeptOn V.heap.size v9 w3 := hl10.g.kept (by omega) (by omega)
        have hk8 := kept_tr (unhideE HKD) hsz8 hk10
        have hk6 := kept_tr (unhideE HKC) hsC hk8
        have hk4 := kept_tr (unhideE HKB) hsB hk6
        have hk2 := kept_tr (unhideE HKA) hsA hk4
        have huV : u.heap.size ≤ V.heap.size := by omega
        obtain ⟨hst6, hval6⟩ := fn_all s ak
        obtain ⟨hO, hKO⟩ := unhideE HVW w3 _ hl11.g hl11.ey
        rw [hst6] at hO
        have k6 := hO.cell 0 _ rfl
        have k6a : ∀ X', (w3.alloc X').cell? ⟨X, 0, none⟩ = some (.slice lp cs.length lc) := fun X' => (hO.alloc X').cell 0 _ rfl
        have HEI3 := hideE hO
        have HOW3 := hideE ((unhideE HOWN).keep (Nat.le_refl _) hKO)
        have HALL3 := hideE ((unhideE HALL).imp fun c x hh => mono_RFunc _ _ _ _ c x (Nat.le_refl _) hKO hh)
        have HREP3 := hideE (fun f a (hh : dFunc s ak = .ok (f, a)) => show RFunc w3 u.heap.size #[.slice pvp pvn pvc, .int .i64 fr, .slice hvp hvn hvc, .slice svp svn svc, .slice bvp bvn bvc] f by
          obtain ⟨⟨y1, e1⟩, e2, ⟨y3, e3⟩, ⟨y4, e4⟩, y6, e6⟩ := hval6 f a hh
          refine ⟨_, _, _, _, by rw [← e2, unhideE HFR], (unhideE HRP _ _ e1).keep huV hk2 (fun _ _ h => h), (unhideE HRH _ _ e3).keep huV hk6 (fun _ _ h => h), (unhideE HRS _ _ e4).keep huV hk8 (fun _ _ h => h), (hrepB _ _ e6).keep (by omega) (fun _ _ _ => rfl) (fun _ _ h => mono_RBlk _ _ _ _ _ _ (by omega) (fun _ _ _ => rfl) h)⟩)
        have HR9 := hideE hl11.rx
        have hsu3 := hO.g.size
        clear hl10 hl11 hrepB hk10 hk8 hk6 hk4 hk2 hO hKO hst6 hval6 HL9 HKA HKB HKC HKD HRP HRH HRS HVW HOWN HALL
        go_wp2_with (first | (refine wpList_load_row rfl 58 (.tmp 9) rfl T9 rfl 58 #[.slice pvp pvn pvc, .int .i64 fr, .slice hvp hvn hvc, .slice svp svn svc, .slice bvp bvn bvc] (0, 0) _ (unhideE HR9) Tryd.underlying58 rfl (Tryd.infFuncs.trans rfl) ?_) | (at_builtin; refine wpList_append_own _ rfl _ _ 22 rfl u.heap.size 58 ti _ 5 104 Tryd.underlying22 hti hz0 hz1 hz2 rfl (by decide) _ _ _ rfl ((unhideE HOW3).1.alloc _) ⟨w3.heap.size, 0, none⟩ 1 1 [.slice pvp pvn pvc, .int .i64 fr, .slice hvp hvn hvc, .slice svp svn svc, .slice bvp bvn bvc] rfl rfl (news_at w3 #[.slice pvp pvn pvc, .int .i64 fr, .slice hvp hvn hvc, .slice svp svn svc, .slice bvp bvn bvc] 58) one5 ?c3 ?c4 ?c5 ?_))
        case c3 => unfold maxLen; omega
        case c4 => omega
        case c5 => simp; omega
        intro v7' w7 hown7 hgr7 _
        have hsa : (w3.alloc (.cells #[.slice pvp pvn pvc, .int .i64 fr, .slice hvp hvn hvc, .slice svp svn svc, .slice bvp bvn bvc] 58)).heap.size = w3.heap.size + 1 := by simp
        have hei7 := ((unhideE HEI3).alloc (.cells #[.slice pvp pvn pvc, .int .i64 fr, .slice hvp hvn hvc, .slice svp svn svc, .slice bvp bvn bvc] 58)).own hgr7 (unhideE HLV)
        have j6 := hei7.cell 0 _ rfl
        have g6 := hei7.fz 0
        have hs7 := hgr7.size
        obtain ⟨gg7, cc7, rfl⟩ := own_slice hown7
        have HZ := hideE (hei7.set 0 (.slice (some ⟨gg7, 0, none⟩) (cs.length + 1) cc7))
        have hkp := hei7.keptSet 0 (.slice (some ⟨gg7, 0, none⟩) (cs.length + 1) cc7)
        have HRZ := hideE ((OwnL.snoc (cs := cs) (c := #[.slice pvp pvn pvc, .int .i64 fr, .slice hvp hvn hvc, .slice svp svn svc, .slice bvp bvn bvc]) hown7 (by simp) (by rw [flat_snoc]) (unhideE HOW3).2 rfl).keep (Nat.le_refl _) hkp)
        have hkt : KeptT u.heap.size 58 w3 (w7.setCell ⟨X, 0, none⟩ (.slice (some ⟨gg7, 0, none⟩) (cs.length + 1) cc7)) := KeptT.tr (KeptT.of_on (keptAlloc u.heap.size w3 (.cells #[.slice pvp pvn pvc, .int .i64 fr, .slice hvp hvn hvc, .slice svp svn svc, .slice bvp bvn bvc] 58))) (by omega) (KeptT.tr (KeptT.of_own ((unhideE HOW3).1.alloc _) hgr7) hs7 (KeptT.of_on hkp))
        have HALL4 := hideE ((unhideE HALL3).imp fun c x hh => monoT_RFunc _ _ _ c x hkt hh)
        have HREP4 := hideE (fun x a (hh : (dFunc s) ak = .ok (x, a)) => monoT_RFunc _ _ _ _ x hkt (unhideE HREP3 x a hh))
        clear hown7 hgr7 hei7 HEI3 HOW3 hkp hkt HALL3 HREP3
        go_wp2
        go_roundw
        case rel =>
          refine ⟨m - 1, int_pred (by omega), by omega, ?_⟩
          have e1 : N - (m - 1) = N - m + 1 := by omega
          have hz := unhideE HZ
          cases ho : (dFunc s) ak with
          | ok p =>
            obtain ⟨y, a2⟩ := p
            have hn := unhideE HNX
            rw [ho] at hz hn
            exact Or.inl ⟨xs ++ [y], a2, (.slice (some ⟨gg7, 0, none⟩) (cs.length + 1) cc7), by rw [e1]; exact hn, hz, _, unhideE HRZ, All2.snoc (unhideE HALL4) (unhideE HREP4 y a2 ho)⟩
          | error qq =>
            have hn := unhideE HNX
            rw [ho] at hz hn
            exact Or.inr ⟨qq, (.slice (some ⟨gg7, 0, none⟩) (cs.length + 1) cc7), dRep_err (k := N - m + 1) hn (by omega), hz, _, _, _, rfl⟩
        case measure => simp [intOf]; omega
    · have hcb : wr.cell? ⟨b, 2, none⟩ = some (.int .i64 q') := by obtain ⟨-, a, h⟩ := hE.ey; exact h.c2
      have hq : ¬ ((q' : Int) < 0) := by omega
      have HEX2 := hideE (fun u8 u9 u10 u11 u12 u13 u14 u53 u54 u55 u56 u57 u58 u59 u60 u61 u62 u63 u64 u65 u66 u67 u68 u69 u70 u71 u72 u73 u74 u75 u76 u77 u78 u79 u80 u81 u82 u83 u84 u85 u86 u87 u88 u89 u90 u91 u92 u93 u94 u95 u96 u97 u98 u99 u100 u101 u102 u103 u104 u105 u106 u107 u108 u109 u110 u111 u112 u113 u114 u115 u116 u117 u118 u119 u120 u121 u122 u123 u124 u125 u126 u127 u128 u129 u130 u131 u132 u133 u134 u135 u136 u137 u138 u139 => unhideE HEX u8 u9 u10 u11 u12 u13 u14 u53 u54 u55 u56 u57 u58 u59 u60 u61 u62 u63 u64 u65 u66 u67 u68 u69 u70 u71 u72 u73 u74 u75 u76 u77 u78 u79 u80 u81 u82 u83 u84 u85 u86 u87 u88 u89 u90 u91 u92 u93 u94 u95 u96 u97 u98 u99 u100 u101 u102 u103 u104 u105 u106 u107 u108 u109 u110 u111 u112 u113 u114 u115 u116 u117 u118 u119 u120 u121 u122 u123 u124 u125 u126 u127 u128 u129 u130 u131 u132 u133 u134 u135 u136 u137 u138 u139 wr (.slice p nn c) (by rw [hrep]; exact hE) ⟨_, _, _, rfl⟩ (fun ys a h => by rw [hrep] at h; cases h))
      clear hrep hE
      by_cases hm0 : m = 0
      · subst hm0
        go_wp2_with fail
        exact ⟨rfl, unhideE HEX2 _ _ _ _ _ _ _ _ _ _ _ _ _ _ _ _ _ _ _ _ _ _ _ _ _ _ _ _ _ _ _ _ _ _ _ _ _ _ _ _ _ _ _ _ _ _ _ _ _ _ _ _ _ _ _ _ _ _ _ _ _ _ _ _ _ _ _ _ _ _ _ _ _ _ _ _ _ _ _ _ _ _ _ _ _ _ _ _ _ _ _ _ _ _⟩
      · have hmp : (0 : Int) < m := by omega
        go_wp2_with fail
        exact ⟨rfl, unhideE HEX2 _ _ _ _ _ _ _ _ _ _ _ _ _ _ _ _ _ _ _ _ _ _ _ _ _ _ _ _ _ _ _ _ _ _ _ _ _ _ _ _ _ _ _ _ _ _ _ _ _ _ _ _ _ _ _ _ _ _ _ _ _ _ _ _ _ _ _ _ _ _ _ _ _ _ _ _ _ _ _ _ _ _ _ _ _ _ _ _ _ _ _ _ _ _⟩
set_option maxHeartbeats 4000000 in
set_option maxRecDepth 100000 in
theorem decFuncsG (b X : Nat) (s : ByteArray) (f1 : Value) (r : Except Nat (Int × Nat)) (u : World) (Q0 : Exit → Act → World → Prop) (s0 s1 s2 s3 s6 s7 s9 s10 s11 s12 s13 s14 s15 s16 s17 s18 s19 s20 s21 s22 s23 s24 s25 s26 s27 s28 s29 s30 s31 s32 s33 s34 s35 s36 s37 s38 s39 s40 s41 s42 s43 s44 s45 s46 s47 s48 s49 s50 s51 s52 s53 s54 s55 s56 s57 s58 s59 s60 s61 s62 s63 s64 s65 s66 s67 s68 s69 s70 s71 s72 s73 s74 s75 s76 s77 s78 s79 s80 s81 s82 s83 s84 s85 s86 s87 s88 s89 s90 s91 s92 s93 s94 s95 s96 s97 s98 s99 s100 s101 s102 s103 s104 s105 s106 s107 s108 s109 s110 s111 s112 s113 s114 s115 s116 s117 s118 s119 s120 s121 s122 s123 s124 s125 s126 s127 s128 s129 s130 s131 s132 s133 s134 s135 s136 s137 s138 s139 s140 s141 s142 s143 s144 s145 s146 s147 s148 s149 s150 s151 s152 s153 s154 s155 s156 s157 s158 s159 s160 s161 s162 s163 s164 s165 s166 s167 s168 s169 s170 s171 s172 s173 : Value) (hr : ∀ n a, r = .ok (n, a) → 0 ≤ n ∧ n ≤ 1000)
    (h : EL u u b X s (stOf r) 25 #[.slice none 0 0, f1])
    (hexit : ∀ (u8 u9 u10 u11 u12 u13 u14 u53 u54 u55 u56 u57 u58 u59 u60 u61 u62 u63 u64 u65 u66 u67 u68 u69 u70 u71 u72 u73 u74 u75 u76 u77 u78 u79 u80 u81 u82 u83 u84 u85 u86 u87 u88 u89 u90 u91 u92 u93 u94 u95 u96 u97 u98 u99 u100 u101 u102 u103 u104 u105 u106 u107 u108 u109 u110 u111 u112 u113 u114 u115 u116 u117 u118 u119 u120 u121 u122 u123 u124 u125 u126 u127 u128 u129 u130 u131 u132 u133 u134 u135 u136 u137 u138 u139 : Value) (u' : World) (av : Value), EL u u' b X s (stOf (dMany r (dFunc s))) 25 #[av, f1] → (∃ p n c, av = .slice p n c) → (∀ xs a, dMany r (dFunc s) = .ok (xs, a) → RepL u' u.heap.size 58 5 (RFunc u' u.heap.size) av xs) → Q0 (.exit 2) ⟨List.toArray (s0 :: s1 :: s2 :: s3 :: .pointer (some ⟨b, 0, none⟩) :: .pointer (some ⟨X, 0, none⟩) :: s6 :: s7 :: u8 :: u9 :: u10 :: u11 :: u12 :: u13 :: u14 :: s15 :: s16 :: s17 :: s18 :: s19 :: s20 :: s21 :: s22 :: s23 :: s24 :: s25 :: s26 :: s27 :: s28 :: s29 :: s30 :: s31 :: s32 :: s33 :: s34 :: s35 :: s36 :: s37 :: s38 :: s39 :: s40 :: s41 :: s42 :: s43 :: s44 :: s45 :: s46 :: s47 :: s48 :: s49 :: s50 :: s51 :: s52 :: u53 :: u54 :: u55 :: u56 :: u57 :: u58 :: u59 :: u60 :: u61 :: u62 :: u63 :: u64 :: u65 :: u66 :: u67 :: u68 :: u69 :: u70 :: u71 :: u72 :: u73 :: u74 :: u75 :: u76 :: u77 :: u78 :: u79 :: u80 :: u81 :: u82 :: u83 :: u84 :: u85 :: u86 :: u87 :: u88 :: u89 :: u90 :: u91 :: u92 :: u93 :: u94 :: u95 :: u96 :: u97 :: u98 :: u99 :: u100 :: u101 :: u102 :: u103 :: u104 :: u105 :: u106 :: u107 :: u108 :: u109 :: u110 :: u111 :: u112 :: u113 :: u114 :: u115 :: u116 :: u117 :: u118 :: u119 :: u120 :: u121 :: u122 :: u123 :: u124 :: u125 :: u126 :: u127 :: u128 :: u129 :: u130 :: u131 :: u132 :: u133 :: u134 :: u135 :: u136 :: u137 :: u138 :: u139 :: s140 :: s141 :: s142 :: s143 :: s144 :: s145 :: s146 :: s147 :: s148 :: s149 :: s150 :: s151 :: s152 :: s153 :: s154 :: s155 :: s156 :: s157 :: s158 :: s159 :: s160 :: s161 :: s162 :: s163 :: s164 :: s165 :: s166 :: s167 :: s168 :: s169 :: s170 :: s171 :: s172 :: s173 :: []), []⟩ u') :
    Code.wp Tryd.prog (decLoop Tryd.f9 1) Q0 ⟨List.toArray (s0 :: s1 :: s2 :: s3 :: .pointer (some ⟨b, 0, none⟩) :: .pointer (some ⟨X, 0, none⟩) :: s6 :: s7 :: .int .i64 (valOr r) :: s9 :: s10 :: s11 :: s12 :: s13 :: s14 :: s15 :: s16 :: s17 :: s18 :: s19 :: s20 :: s21 :: s22 :: s23 :: s24 :: s25 :: s26 :: s27 :: s28 :: s29 :: s30 :: s31 :: s32 :: s33 :: s34 :: s35 :: s36 :: s37 :: s38 :: s39 :: s40 :: s41 :: s42 :: s43 :: s44 :: s45 :: s46 :: s47 :: s48 :: s49 :: s50 :: s51 :: s52 :: s53 :: s54 :: s55 :: s56 :: s57 :: s58 :: s59 :: s60 :: s61 :: s62 :: s63 :: s64 :: s65 :: s66 :: s67 :: s68 :: s69 :: s70 :: s71 :: s72 :: s73 :: s74 :: s75 :: s76 :: s77 :: s78 :: s79 :: s80 :: s81 :: s82 :: s83 :: s84 :: s85 :: s86 :: s87 :: s88 :: s89 :: s90 :: s91 :: s92 :: s93 :: s94 :: s95 :: s96 :: s97 :: s98 :: s99 :: s100 :: s101 :: s102 :: s103 :: s104 :: s105 :: s106 :: s107 :: s108 :: s109 :: s110 :: s111 :: s112 :: s113 :: s114 :: s115 :: s116 :: s117 :: s118 :: s119 :: s120 :: s121 :: s122 :: s123 :: s124 :: s125 :: s126 :: s127 :: s128 :: s129 :: s130 :: s131 :: s132 :: s133 :: s134 :: s135 :: s136 :: s137 :: s138 :: s139 :: s140 :: s141 :: s142 :: s143 :: s144 :: s145 :: s146 :: s147 :: s148 :: s149 :: s150 :: s151 :: s152 :: s153 :: s154 :: s155 :: s156 :: s157 :: s158 :: s159 :: s160 :: s161 :: s162 :: s163 :: s164 :: s165 :: s166 :: s167 :: s168 :: s169 :: s170 :: s171 :: s172 :: s173 :: []), []⟩ u := by
  cases hrr : r with
  | ok p =>
    obtain ⟨nv, a⟩ := p
    obtain ⟨h0, h1⟩ := hr nv a hrr
    obtain ⟨N, rfl⟩ := Int.eq_ofNat_of_zero_le h0
    subst hrr
    exact decFuncs b X s f1 N a u Q0 s0 s1 s2 s3 s6 s7 s9 s10 s11 s12 s13 s14 s15 s16 s17 s18 s19 s20 s21 s22 s23 s24 s25 s26 s27 s28 s29 s30 s31 s32 s33 s34 s35 s36 s37 s38 s39 s40 s41 s42 s43 s44 s45 s46 s47 s48 s49 s50 s51 s52 s53 s54 s55 s56 s57 s58 s59 s60 s61 s62 s63 s64 s65 s66 s67 s68 s69 s70 s71 s72 s73 s74 s75 s76 s77 s78 s79 s80 s81 s82 s83 s84 s85 s86 s87 s88 s89 s90 s91 s92 s93 s94 s95 s96 s97 s98 s99 s100 s101 s102 s103 s104 s105 s106 s107 s108 s109 s110 s111 s112 s113 s114 s115 s116 s117 s118 s119 s120 s121 s122 s123 s124 s125 s126 s127 s128 s129 s130 s131 s132 s133 s134 s135 s136 s137 s138 s139 s140 s141 s142 s143 s144 s145 s146 s147 s148 s149 s150 s151 s152 s153 s154 s155 s156 s157 s158 s159 s160 s161 s162 s163 s164 s165 s166 s167 s168 s169 s170 s171 s172 s173 (by omega) h hexit
  | error q =>
    subst hrr
    obtain ⟨-, a, hE⟩ : EyS u b s (.error q) := h.ey
    have hcb := hE.c2
    have hq : ¬ ((q : Int) < 0) := by omega
    have HEX := hideE (fun u8 u9 u10 u11 u12 u13 u14 u53 u54 u55 u56 u57 u58 u59 u60 u61 u62 u63 u64 u65 u66 u67 u68 u69 u70 u71 u72 u73 u74 u75 u76 u77 u78 u79 u80 u81 u82 u83 u84 u85 u86 u87 u88 u89 u90 u91 u92 u93 u94 u95 u96 u97 u98 u99 u100 u101 u102 u103 u104 u105 u106 u107 u108 u109 u110 u111 u112 u113 u114 u115 u116 u117 u118 u119 u120 u121 u122 u123 u124 u125 u126 u127 u128 u129 u130 u131 u132 u133 u134 u135 u136 u137 u138 u139 => hexit u8 u9 u10 u11 u12 u13 u14 u53 u54 u55 u56 u57 u58 u59 u60 u61 u62 u63 u64 u65 u66 u67 u68 u69 u70 u71 u72 u73 u74 u75 u76 u77 u78 u79 u80 u81 u82 u83 u84 u85 u86 u87 u88 u89 u90 u91 u92 u93 u94 u95 u96 u97 u98 u99 u100 u101 u102 u103 u104 u105 u106 u107 u108 u109 u110 u111 u112 u113 u114 u115 u116 u117 u118 u119 u120 u121 u122 u123 u124 u125 u126 u127 u128 u129 u130 u131 u132 u133 u134 u135 u136 u137 u138 u139 u (.slice none 0 0) h ⟨_, _, _, rfl⟩ (fun xs a hh => by cases hh))
    clear hexit h hE hr
    simp only [valOr]
    refine onlyExit_wp (id := 2) ?_
    conv => arg 2; whnf
    refine wp_loop_rounds 1 ?_
    rw [rounds_succ]
    go_wp2_with fail
    exact ⟨rfl, unhideE HEX _ _ _ _ _ _ _ _ _ _ _ _ _ _ _ _ _ _ _ _ _ _ _ _ _ _ _ _ _ _ _ _ _ _ _ _ _ _ _ _ _ _ _ _ _ _ _ _ _ _ _ _ _ _ _ _ _ _ _ _ _ _ _ _ _ _ _ _ _ _ _ _ _ _ _ _ _ _ _ _ _ _ _ _ _ _ _ _ _ _ _ _ _ _⟩
end Go.Proofs.YthnmdbddfmgdlaaDoor
