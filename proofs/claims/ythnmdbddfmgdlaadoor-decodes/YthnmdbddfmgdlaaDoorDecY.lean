/-
  Decodes: the loop over blocks of prologueref.Decode. Own work of the verifier.
-/
import Derived.Test.YthnmdbddfmgdlaaDoorDecX
namespace Go.Proofs.YthnmdbddfmgdlaaDoor
open Go.RowKit

theorem Tryd.infoBlkD : (Tryd.prog.info? 61).map (fun i => (i.zero, i.size, i.bytes)) = some (some (.slice none 0 0), 1, 24) := by kernel_rfl
theorem Tryd.infoFuncD : (Tryd.prog.info? 58).map (fun i => (i.zero, i.size, i.bytes)) = some (some (.agg #[.slice none 0 0, .int .i64 0, .slice none 0 0, .slice none 0 0, .slice none 0 0]), 5, 104) := by kernel_rfl
/-- As many as a number said, if it could be read. -/
def dMany {α : Type} (r : Except Nat (Int × Nat)) (one : Dec α) : Except Nat (List α × Nat) := dBind r fun n a => dRep one n.toNat a
set_option maxHeartbeats 4000000 in
set_option maxRecDepth 100000 in
theorem decInssG (b : Nat) (s : ByteArray) (r : Except Nat (Int × Nat)) (u : World) (Q0 : Exit → Act → World → Prop) (s0 s1 s2 s3 s5 s6 s7 s8 s9 s10 s11 s12 s15 s16 s17 s18 s19 s20 s21 s22 s23 s24 s25 s26 s27 s28 s29 s30 s31 s32 s33 s34 s35 s36 s37 s38 s39 s40 s41 s42 s43 s44 s45 s46 s47 s48 s49 s50 s51 s52 s53 s54 s55 s56 s57 s58 s59 s60 s61 s62 s63 s64 s65 s66 s67 s68 s69 s70 s71 s72 s73 s74 s75 s76 s77 s78 s79 s80 s81 s82 s83 s84 s85 s86 s87 s88 s89 s90 s91 s92 s93 s94 s95 s96 s97 s98 s99 s100 s101 s102 s103 s104 s105 s106 s107 s108 s109 s110 s111 s112 s113 s114 s115 s116 s117 s118 s119 s120 s121 s122 s123 s124 s125 s126 s127 s128 s129 s130 s131 s132 s133 s134 s135 s136 s137 s138 s139 s140 s141 s142 s143 s144 s145 s146 s147 s148 s149 s150 s151 s152 s153 s154 s155 s156 s157 s158 s159 s160 s161 s162 s163 s164 s165 s166 s167 s168 s169 s170 s171 s172 s173 : Value) (hr : ∀ n a, r = .ok (n, a) → 0 ≤ n ∧ n ≤ 1000) (h : EyS u b s (stOf r))
    (hexit : ∀ (u14 u112 u113 u114 u115 u116 u117 u118 u119 u120 u121 u122 u123 u124 u125 u126 u127 : Value) (u' : World) (av : Value), EyS u' b s (stOf (dMany r (dIns s))) → u.grownBy u' (some b) → (∃ p n c, av = .slice p n c) → (∀ xs a, dMany r (dIns s) = .ok (xs, a) → RepL u' u.heap.size 65 8 (RIns u' u.heap.size) av xs) → Q0 (.exit 8) ⟨List.toArray (s0 :: s1 :: s2 :: s3 :: .pointer (some ⟨b, 0, none⟩) :: s5 :: s6 :: s7 :: s8 :: s9 :: s10 :: s11 :: s12 :: av :: u14 :: s15 :: s16 :: s17 :: s18 :: s19 :: s20 :: s21 :: s22 :: s23 :: s24 :: s25 :: s26 :: s27 :: s28 :: s29 :: s30 :: s31 :: s32 :: s33 :: s34 :: s35 :: s36 :: s37 :: s38 :: s39 :: s40 :: s41 :: s42 :: s43 :: s44 :: s45 :: s46 :: s47 :: s48 :: s49 :: s50 :: s51 :: s52 :: s53 :: s54 :: s55 :: s56 :: s57 :: s58 :: s59 :: s60 :: s61 :: s62 :: s63 :: s64 :: s65 :: s66 :: s67 :: s68 :: s69 :: s70 :: s71 :: s72 :: s73 :: s74 :: s75 :: s76 :: s77 :: s78 :: s79 :: s80 :: s81 :: s82 :: s83 :: s84 :: s85 :: s86 :: s87 :: s88 :: s89 :: s90 :: s91 :: s92 :: s93 :: s94 :: s95 :: s96 :: s97 :: s98 :: s99 :: s100 :: s101 :: s102 :: s103 :: s104 :: s105 :: s106 :: s107 :: s108 :: s109 :: s110 :: s111 :: u112 :: u113 :: u114 :: u115 :: u116 :: u117 :: u118 :: u119 :: u120 :: u121 :: u122 :: u123 :: u124 :: u125 :: u126 :: u127 :: s128 :: s129 :: s130 :: s131 :: s132 :: s133 :: s134 :: s135 :: s136 :: s137 :: s138 :: s139 :: s140 :: s141 :: s142 :: s143 :: s144 :: s145 :: s146 :: s147 :: s148 :: s149 :: s150 :: s151 :: s152 :: s153 :: s154 :: s155 :: s156 :: s157 :: s158 :: s159 :: s160 :: s161 :: s162 :: s163 :: s164 :: s165 :: s166 :: s167 :: s168 :: s169 :: s170 :: s171 :: s172 :: s173 :: []), []⟩ u') :
    Code.wp Tryd.prog (decLoop Tryd.f9 4) Q0 ⟨List.toArray (s0 :: s1 :: s2 :: s3 :: .pointer (some ⟨b, 0, none⟩) :: s5 :: s6 :: s7 :: s8 :: s9 :: s10 :: s11 :: s12 :: .slice none 0 0 :: .int .i64 (valOr r) :: s15 :: s16 :: s17 :: s18 :: s19 :: s20 :: s21 :: s22 :: s23 :: s24 :: s25 :: s26 :: s27 :: s28 :: s29 :: s30 :: s31 :: s32 :: s33 :: s34 :: s35 :: s36 :: s37 :: s38 :: s39 :: s40 :: s41 :: s42 :: s43 :: s44 :: s45 :: s46 :: s47 :: s48 :: s49 :: s50 :: s51 :: s52 :: s53 :: s54 :: s55 :: s56 :: s57 :: s58 :: s59 :: s60 :: s61 :: s62 :: s63 :: s64 :: s65 :: s66 :: s67 :: s68 :: s69 :: s70 :: s71 :: s72 :: s73 :: s74 :: s75 :: s76 :: s77 :: s78 :: s79 :: s80 :: s81 :: s82 :: s83 :: s84 :: s85 :: s86 :: s87 :: s88 :: s89 :: s90 :: s91 :: s92 :: s93 :: s94 :: s95 :: s96 :: s97 :: s98 :: s99 :: s100 :: s101 :: s102 :: s103 :: s104 :: s105 :: s106 :: s107 :: s108 :: s109 :: s110 :: s111 :: s112 :: s113 :: s114 :: s115 :: s116 :: s117 :: s118 :: s119 :: s120 :: s121 :: s122 :: s123 :: s124 :: s125 :: s126 :: s127 :: s128 :: s129 :: s130 :: s131 :: s132 :: s133 :: s134 :: s135 :: s136 :: s137 :: s138 :: s139 :: s140 :: s141 :: s142 :: s143 :: s144 :: s145 :: s146 :: s147 :: s148 :: s149 :: s150 :: s151 :: s152 :: s153 :: s154 :: s155 :: s156 :: s157 :: s158 :: s159 :: s160 :: s161 :: s162 :: s163 :: s164 :: s165 :: s166 :: s167 :: s168 :: s169 :: s170 :: s171 :: s172 :: s173 :: []), []⟩ u := by
  cases hrr : r with
  | ok p =>
    obtain ⟨nv, a⟩ := p
    obtain ⟨h0, h1⟩ := hr nv a hrr
    obtain ⟨N, rfl⟩ := Int.eq_ofNat_of_zero_le h0
    subst hrr
    exact decInss b s N a u Q0 s0 s1 s2 s3 s5 s6 s7 s8 s9 s10 s11 s12 s15 s16 s17 s18 s19 s20 s21 s22 s23 s24 s25 s26 s27 s28 s29 s30 s31 s32 s33 s34 s35 s36 s37 s38 s39 s40 s41 s42 s43 s44 s45 s46 s47 s48 s49 s50 s51 s52 s53 s54 s55 s56 s57 s58 s59 s60 s61 s62 s63 s64 s65 s66 s67 s68 s69 s70 s71 s72 s73 s74 s75 s76 s77 s78 s79 s80 s81 s82 s83 s84 s85 s86 s87 s88 s89 s90 s91 s92 s93 s94 s95 s96 s97 s98 s99 s100 s101 s102 s103 s104 s105 s106 s107 s108 s109 s110 s111 s112 s113 s114 s115 s116 s117 s118 s119 s120 s121 s122 s123 s124 s125 s126 s127 s128 s129 s130 s131 s132 s133 s134 s135 s136 s137 s138 s139 s140 s141 s142 s143 s144 s145 s146 s147 s148 s149 s150 s151 s152 s153 s154 s155 s156 s157 s158 s159 s160 s161 s162 s163 s164 s165 s166 s167 s168 s169 s170 s171 s172 s173 (by omega) h hexit
  | error q =>
    subst hrr
    have h' := h
    obtain ⟨-, a, hE⟩ : EyS u b s (.error q) := h'
    have hcb := hE.c2
    have hq : ¬ ((q : Int) < 0) := by omega
    have HEX := hideE (fun u14 u112 u113 u114 u115 u116 u117 u118 u119 u120 u121 u122 u123 u124 u125 u126 u127 => hexit u14 u112 u113 u114 u115 u116 u117 u118 u119 u120 u121 u122 u123 u124 u125 u126 u127 u (.slice none 0 0) h (gb_refl _ _) ⟨_, _, _, rfl⟩ (fun xs a hh => by cases hh))
    clear hexit h hE hr
    simp only [valOr]
    refine onlyExit_wp (id := 8) ?_
    conv => arg 2; whnf
    refine wp_loop_rounds 1 ?_
    rw [rounds_succ]
    go_wp2_with fail
    exact ⟨rfl, unhideE HEX _ _ _ _ _ _ _ _ _ _ _ _ _ _ _ _ _⟩
set_option maxHeartbeats 4000000 in
set_option maxRecDepth 100000 in
theorem decParamsG (b X : Nat) (s : ByteArray) (f1 : Int) (f2 f3 f4 : Value) (r : Except Nat (Int × Nat)) (u : World) (Q0 : Exit → Act → World → Prop) (s0 s1 s2 s3 s5 s6 s7 s8 s11 s12 s13 s14 s15 s16 s17 s18 s19 s20 s21 s22 s23 s24 s25 s26 s27 s28 s29 s30 s31 s32 s33 s34 s35 s36 s37 s38 s39 s40 s41 s42 s43 s44 s45 s46 s47 s48 s49 s50 s51 s52 s53 s54 s55 s56 s57 s58 s59 s60 s61 s62 s63 s64 s65 s66 s67 s68 s69 s70 s71 s72 s73 s74 s75 s76 s77 s78 s79 s80 s81 s82 s83 s84 s85 s86 s87 s88 s89 s90 s91 s92 s93 s94 s95 s96 s97 s98 s99 s100 s101 s102 s103 s104 s105 s106 s107 s108 s109 s110 s111 s112 s113 s114 s115 s116 s117 s118 s119 s120 s121 s122 s123 s124 s125 s126 s127 s128 s129 s130 s131 s132 s133 s134 s135 s136 s137 s138 s139 s140 s141 s142 s143 s144 s145 s146 s147 s148 s149 s150 s151 s152 s153 s154 s155 s156 s157 s158 s159 s160 s161 s162 s163 s164 s165 s166 s167 s168 s169 s170 s171 s172 s173 : Value) (hr : ∀ n a, r = .ok (n, a) → 0 ≤ n ∧ n ≤ 1000)
    (h : EL u u b X s (stOf r) 58 #[.slice none 0 0, .int .i64 f1, f2, f3, f4])
    (hexit : ∀ (u10 u11 u66 u67 u68 u69 u70 u71 u72 u73 u74 u75 u76 u77 u78 u79 u80 u81 u82 u83 u84 u85 u86 u87 : Value) (u' : World) (av : Value), EL u u' b X s (stOf (dMany r (dPair s))) 58 #[av, .int .i64 f1, f2, f3, f4] → (∃ p n c, av = .slice p n c) → (∀ xs a, dMany r (dPair s) = .ok (xs, a) → RepL u' u.heap.size 60 2 (RP u' u.heap.size) av xs) → Q0 (.exit 4) ⟨List.toArray (s0 :: s1 :: s2 :: s3 :: .pointer (some ⟨b, 0, none⟩) :: s5 :: s6 :: s7 :: s8 :: .pointer (some ⟨X, 0, none⟩) :: u10 :: u11 :: s12 :: s13 :: s14 :: s15 :: s16 :: s17 :: s18 :: s19 :: s20 :: s21 :: s22 :: s23 :: s24 :: s25 :: s26 :: s27 :: s28 :: s29 :: s30 :: s31 :: s32 :: s33 :: s34 :: s35 :: s36 :: s37 :: s38 :: s39 :: s40 :: s41 :: s42 :: s43 :: s44 :: s45 :: s46 :: s47 :: s48 :: s49 :: s50 :: s51 :: s52 :: s53 :: s54 :: s55 :: s56 :: s57 :: s58 :: s59 :: s60 :: s61 :: s62 :: s63 :: s64 :: s65 :: u66 :: u67 :: u68 :: u69 :: u70 :: u71 :: u72 :: u73 :: u74 :: u75 :: u76 :: u77 :: u78 :: u79 :: u80 :: u81 :: u82 :: u83 :: u84 :: u85 :: u86 :: u87 :: s88 :: s89 :: s90 :: s91 :: s92 :: s93 :: s94 :: s95 :: s96 :: s97 :: s98 :: s99 :: s100 :: s101 :: s102 :: s103 :: s104 :: s105 :: s106 :: s107 :: s108 :: s109 :: s110 :: s111 :: s112 :: s113 :: s114 :: s115 :: s116 :: s117 :: s118 :: s119 :: s120 :: s121 :: s122 :: s123 :: s124 :: s125 :: s126 :: s127 :: s128 :: s129 :: s130 :: s131 :: s132 :: s133 :: s134 :: s135 :: s136 :: s137 :: s138 :: s139 :: s140 :: s141 :: s142 :: s143 :: s144 :: s145 :: s146 :: s147 :: s148 :: s149 :: s150 :: s151 :: s152 :: s153 :: s154 :: s155 :: s156 :: s157 :: s158 :: s159 :: s160 :: s161 :: s162 :: s163 :: s164 :: s165 :: s166 :: s167 :: s168 :: s169 :: s170 :: s171 :: s172 :: s173 :: []), []⟩ u') :
    Code.wp Tryd.prog (decLoop Tryd.f9 2) Q0 ⟨List.toArray (s0 :: s1 :: s2 :: s3 :: .pointer (some ⟨b, 0, none⟩) :: s5 :: s6 :: s7 :: s8 :: .pointer (some ⟨X, 0, none⟩) :: .int .i64 (valOr r) :: s11 :: s12 :: s13 :: s14 :: s15 :: s16 :: s17 :: s18 :: s19 :: s20 :: s21 :: s22 :: s23 :: s24 :: s25 :: s26 :: s27 :: s28 :: s29 :: s30 :: s31 :: s32 :: s33 :: s34 :: s35 :: s36 :: s37 :: s38 :: s39 :: s40 :: s41 :: s42 :: s43 :: s44 :: s45 :: s46 :: s47 :: s48 :: s49 :: s50 :: s51 :: s52 :: s53 :: s54 :: s55 :: s56 :: s57 :: s58 :: s59 :: s60 :: s61 :: s62 :: s63 :: s64 :: s65 :: s66 :: s67 :: s68 :: s69 :: s70 :: s71 :: s72 :: s73 :: s74 :: s75 :: s76 :: s77 :: s78 :: s79 :: s80 :: s81 :: s82 :: s83 :: s84 :: s85 :: s86 :: s87 :: s88 :: s89 :: s90 :: s91 :: s92 :: s93 :: s94 :: s95 :: s96 :: s97 :: s98 :: s99 :: s100 :: s101 :: s102 :: s103 :: s104 :: s105 :: s106 :: s107 :: s108 :: s109 :: s110 :: s111 :: s112 :: s113 :: s114 :: s115 :: s116 :: s117 :: s118 :: s119 :: s120 :: s121 :: s122 :: s123 :: s124 :: s125 :: s126 :: s127 :: s128 :: s129 :: s130 :: s131 :: s132 :: s133 :: s134 :: s135 :: s136 :: s137 :: s138 :: s139 :: s140 :: s141 :: s142 :: s143 :: s144 :: s145 :: s146 :: s147 :: s148 :: s149 :: s150 :: s151 :: s152 :: s153 :: s154 :: s155 :: s156 :: s157 :: s158 :: s159 :: s160 :: s161 :: s162 :: s163 :: s164 :: s165 :: s166 :: s167 :: s168 :: s169 :: s170 :: s171 :: s172 :: s173 :: []), []⟩ u := by
  cases hrr : r with
  | ok p =>
    obtain ⟨nv, a⟩ := p
    obtain ⟨h0, h1⟩ := hr nv a hrr
    obtain ⟨N, rfl⟩ := Int.eq_ofNat_of_zero_le h0
    subst hrr
    exact decParams b X s f1 f2 f3 f4 N a u Q0 s0 s1 s2 s3 s5 s6 s7 s8 s11 s12 s13 s14 s15 s16 s17 s18 s19 s20 s21 s22 s23 s24 s25 s26 s27 s28 s29 s30 s31 s32 s33 s34 s35 s36 s37 s38 s39 s40 s41 s42 s43 s44 s45 s46 s47 s48 s49 s50 s51 s52 s53 s54 s55 s56 s57 s58 s59 s60 s61 s62 s63 s64 s65 s66 s67 s68 s69 s70 s71 s72 s73 s74 s75 s76 s77 s78 s79 s80 s81 s82 s83 s84 s85 s86 s87 s88 s89 s90 s91 s92 s93 s94 s95 s96 s97 s98 s99 s100 s101 s102 s103 s104 s105 s106 s107 s108 s109 s110 s111 s112 s113 s114 s115 s116 s117 s118 s119 s120 s121 s122 s123 s124 s125 s126 s127 s128 s129 s130 s131 s132 s133 s134 s135 s136 s137 s138 s139 s140 s141 s142 s143 s144 s145 s146 s147 s148 s149 s150 s151 s152 s153 s154 s155 s156 s157 s158 s159 s160 s161 s162 s163 s164 s165 s166 s167 s168 s169 s170 s171 s172 s173 (by omega) h hexit
  | error q =>
    subst hrr
    obtain ⟨-, a, hE⟩ : EyS u b s (.error q) := h.ey
    have hcb := hE.c2
    have hq : ¬ ((q : Int) < 0) := by omega
    have HEX := hideE (fun u10 u11 u66 u67 u68 u69 u70 u71 u72 u73 u74 u75 u76 u77 u78 u79 u80 u81 u82 u83 u84 u85 u86 u87 => hexit u10 u11 u66 u67 u68 u69 u70 u71 u72 u73 u74 u75 u76 u77 u78 u79 u80 u81 u82 u83 u84 u85 u86 u87 u (.slice none 0 0) h ⟨_, _, _, rfl⟩ (fun xs a hh => by cases hh))
    clear hexit h hE hr
    simp only [valOr]
    refine onlyExit_wp (id := 4) ?_
    conv => arg 2; whnf
    refine wp_loop_rounds 1 ?_
    rw [rounds_succ]
    go_wp2_with fail
    exact ⟨rfl, unhideE HEX _ _ _ _ _ _ _ _ _ _ _ _ _ _ _ _ _ _ _ _ _ _ _ _⟩
set_option maxHeartbeats 4000000 in
set_option maxRecDepth 100000 in
theorem decExternsG (b X : Nat) (s : ByteArray) (f0 : Value) (r : Except Nat (Int × Nat)) (u : World) (Q0 : Exit → Act → World → Prop) (s0 s1 s2 s3 s7 s8 s9 s10 s11 s12 s13 s14 s15 s16 s17 s18 s19 s20 s21 s22 s23 s24 s25 s26 s27 s28 s29 s30 s31 s32 s33 s34 s35 s36 s37 s38 s39 s40 s41 s42 s43 s44 s45 s46 s47 s48 s49 s50 s51 s52 s53 s54 s55 s56 s57 s58 s59 s60 s61 s62 s63 s64 s65 s66 s67 s68 s69 s70 s71 s72 s73 s74 s75 s76 s77 s78 s79 s80 s81 s82 s83 s84 s85 s86 s87 s88 s89 s90 s91 s92 s93 s94 s95 s96 s97 s98 s99 s100 s101 s102 s103 s104 s105 s106 s107 s108 s109 s110 s111 s112 s113 s114 s115 s116 s117 s118 s119 s120 s121 s122 s123 s124 s125 s126 s127 s128 s129 s130 s131 s132 s133 s134 s135 s136 s137 s138 s139 s140 s141 s142 s143 s144 s145 s146 s147 s148 s149 s150 s151 s152 s153 s154 s155 s156 s157 s158 s159 s160 s161 s162 s163 s164 s165 s166 s167 s168 s169 s170 s171 s172 s173 : Value) (hr : ∀ n a, r = .ok (n, a) → 0 ≤ n ∧ n ≤ 1000)
    (h : EL u u b X s (stOf r) 25 #[f0, .slice none 0 0])
    (hexit : ∀ (u6 u7 u29 u30 u31 u32 u33 u34 u35 u36 u37 u38 u39 u40 u41 u42 u43 u44 u45 u46 u47 u48 u49 u50 : Value) (u' : World) (av : Value), EL u u' b X s (stOf (dMany r (dSig s))) 25 #[f0, av] → (∃ p n c, av = .slice p n c) → (∀ xs a, dMany r (dSig s) = .ok (xs, a) → RepL u' u.heap.size 53 2 (RSig u' u.heap.size) av xs) → Q0 (.exit 0) ⟨List.toArray (s0 :: s1 :: s2 :: s3 :: .pointer (some ⟨b, 0, none⟩) :: .pointer (some ⟨X, 0, none⟩) :: u6 :: u7 :: s8 :: s9 :: s10 :: s11 :: s12 :: s13 :: s14 :: s15 :: s16 :: s17 :: s18 :: s19 :: s20 :: s21 :: s22 :: s23 :: s24 :: s25 :: s26 :: s27 :: s28 :: u29 :: u30 :: u31 :: u32 :: u33 :: u34 :: u35 :: u36 :: u37 :: u38 :: u39 :: u40 :: u41 :: u42 :: u43 :: u44 :: u45 :: u46 :: u47 :: u48 :: u49 :: u50 :: s51 :: s52 :: s53 :: s54 :: s55 :: s56 :: s57 :: s58 :: s59 :: s60 :: s61 :: s62 :: s63 :: s64 :: s65 :: s66 :: s67 :: s68 :: s69 :: s70 :: s71 :: s72 :: s73 :: s74 :: s75 :: s76 :: s77 :: s78 :: s79 :: s80 :: s81 :: s82 :: s83 :: s84 :: s85 :: s86 :: s87 :: s88 :: s89 :: s90 :: s91 :: s92 :: s93 :: s94 :: s95 :: s96 :: s97 :: s98 :: s99 :: s100 :: s101 :: s102 :: s103 :: s104 :: s105 :: s106 :: s107 :: s108 :: s109 :: s110 :: s111 :: s112 :: s113 :: s114 :: s115 :: s116 :: s117 :: s118 :: s119 :: s120 :: s121 :: s122 :: s123 :: s124 :: s125 :: s126 :: s127 :: s128 :: s129 :: s130 :: s131 :: s132 :: s133 :: s134 :: s135 :: s136 :: s137 :: s138 :: s139 :: s140 :: s141 :: s142 :: s143 :: s144 :: s145 :: s146 :: s147 :: s148 :: s149 :: s150 :: s151 :: s152 :: s153 :: s154 :: s155 :: s156 :: s157 :: s158 :: s159 :: s160 :: s161 :: s162 :: s163 :: s164 :: s165 :: s166 :: s167 :: s168 :: s169 :: s170 :: s171 :: s172 :: s173 :: []), []⟩ u') :
    Code.wp Tryd.prog (decLoop Tryd.f9 0) Q0 ⟨List.toArray (s0 :: s1 :: s2 :: s3 :: .pointer (some ⟨b, 0, none⟩) :: .pointer (some ⟨X, 0, none⟩) :: .int .i64 (valOr r) :: s7 :: s8 :: s9 :: s10 :: s11 :: s12 :: s13 :: s14 :: s15 :: s16 :: s17 :: s18 :: s19 :: s20 :: s21 :: s22 :: s23 :: s24 :: s25 :: s26 :: s27 :: s28 :: s29 :: s30 :: s31 :: s32 :: s33 :: s34 :: s35 :: s36 :: s37 :: s38 :: s39 :: s40 :: s41 :: s42 :: s43 :: s44 :: s45 :: s46 :: s47 :: s48 :: s49 :: s50 :: s51 :: s52 :: s53 :: s54 :: s55 :: s56 :: s57 :: s58 :: s59 :: s60 :: s61 :: s62 :: s63 :: s64 :: s65 :: s66 :: s67 :: s68 :: s69 :: s70 :: s71 :: s72 :: s73 :: s74 :: s75 :: s76 :: s77 :: s78 :: s79 :: s80 :: s81 :: s82 :: s83 :: s84 :: s85 :: s86 :: s87 :: s88 :: s89 :: s90 :: s91 :: s92 :: s93 :: s94 :: s95 :: s96 :: s97 :: s98 :: s99 :: s100 :: s101 :: s102 :: s103 :: s104 :: s105 :: s106 :: s107 :: s108 :: s109 :: s110 :: s111 :: s112 :: s113 :: s114 :: s115 :: s116 :: s117 :: s118 :: s119 :: s120 :: s121 :: s122 :: s123 :: s124 :: s125 :: s126 :: s127 :: s128 :: s129 :: s130 :: s131 :: s132 :: s133 :: s134 :: s135 :: s136 :: s137 :: s138 :: s139 :: s140 :: s141 :: s142 :: s143 :: s144 :: s145 :: s146 :: s147 :: s148 :: s149 :: s150 :: s151 :: s152 :: s153 :: s154 :: s155 :: s156 :: s157 :: s158 :: s159 :: s160 :: s161 :: s162 :: s163 :: s164 :: s165 :: s166 :: s167 :: s168 :: s169 :: s170 :: s171 :: s172 :: s173 :: []), []⟩ u := by
  cases hrr : r with
  | ok p =>
    obtain ⟨nv, a⟩ := p
    obtain ⟨h0, h1⟩ := hr nv a hrr
    obtain ⟨N, rfl⟩ := Int.eq_ofNat_of_zero_le h0
    subst hrr
    exact decExterns b X s f0 N a u Q0 s0 s1 s2 s3 s7 s8 s9 s10 s11 s12 s13 s14 s15 s16 s17 s18 s19 s20 s21 s22 s23 s24 s25 s26 s27 s28 s29 s30 s31 s32 s33 s34 s35 s36 s37 s38 s39 s40 s41 s42 s43 s44 s45 s46 s47 s48 s49 s50 s51 s52 s53 s54 s55 s56 s57 s58 s59 s60 s61 s62 s63 s64 s65 s66 s67 s68 s69 s70 s71 s72 s73 s74 s75 s76 s77 s78 s79 s80 s81 s82 s83 s84 s85 s86 s87 s88 s89 s90 s91 s92 s93 s94 s95 s96 s97 s98 s99 s100 s101 s102 s103 s104 s105 s106 s107 s108 s109 s110 s111 s112 s113 s114 s115 s116 s117 s118 s119 s120 s121 s122 s123 s124 s125 s126 s127 s128 s129 s130 s131 s132 s133 s134 s135 s136 s137 s138 s139 s140 s141 s142 s143 s144 s145 s146 s147 s148 s149 s150 s151 s152 s153 s154 s155 s156 s157 s158 s159 s160 s161 s162 s163 s164 s165 s166 s167 s168 s169 s170 s171 s172 s173 (by omega) h hexit
  | error q =>
    subst hrr
    obtain ⟨-, a, hE⟩ : EyS u b s (.error q) := h.ey
    have hcb := hE.c2
    have hq : ¬ ((q : Int) < 0) := by omega
    have HEX := hideE (fun u6 u7 u29 u30 u31 u32 u33 u34 u35 u36 u37 u38 u39 u40 u41 u42 u43 u44 u45 u46 u47 u48 u49 u50 => hexit u6 u7 u29 u30 u31 u32 u33 u34 u35 u36 u37 u38 u39 u40 u41 u42 u43 u44 u45 u46 u47 u48 u49 u50 u (.slice none 0 0) h ⟨_, _, _, rfl⟩ (fun xs a hh => by cases hh))
    clear hexit h hE hr
    simp only [valOr]
    refine onlyExit_wp (id := 0) ?_
    conv => arg 2; whnf
    refine wp_loop_rounds 1 ?_
    rw [rounds_succ]
    go_wp2_with fail
    exact ⟨rfl, unhideE HEX _ _ _ _ _ _ _ _ _ _ _ _ _ _ _ _ _ _ _ _ _ _ _ _⟩
set_option maxHeartbeats 8000000 in
set_option maxRecDepth 100000 in
theorem decBlocks (b X : Nat) (s : ByteArray) (f0 : Value) (f1 : Int) (f2 f3 : Value) (N a1 : Nat) (u : World) (Q0 : Exit → Act → World → Prop) (s0 s1 s2 s3 s5 s6 s7 s8 s10 s11 s13 s14 s15 s16 s17 s18 s19 s20 s21 s22 s23 s24 s25 s26 s27 s28 s29 s30 s31 s32 s33 s34 s35 s36 s37 s38 s39 s40 s41 s42 s43 s44 s45 s46 s47 s48 s49 s50 s51 s52 s53 s54 s55 s56 s57 s58 s59 s60 s61 s62 s63 s64 s65 s66 s67 s68 s69 s70 s71 s72 s73 s74 s75 s76 s77 s78 s79 s80 s81 s82 s83 s84 s85 s86 s87 s88 s89 s90 s91 s92 s93 s94 s95 s96 s97 s98 s99 s100 s101 s102 s103 s104 s105 s106 s107 s108 s109 s110 s111 s112 s113 s114 s115 s116 s117 s118 s119 s120 s121 s122 s123 s124 s125 s126 s127 s128 s129 s130 s131 s132 s133 s134 s135 s136 s137 s138 s139 s140 s141 s142 s143 s144 s145 s146 s147 s148 s149 s150 s151 s152 s153 s154 s155 s156 s157 s158 s159 s160 s161 s162 s163 s164 s165 s166 s167 s168 s169 s170 s171 s172 s173 : Value) (hN : N ≤ 1000)
    (h : EL u u b X s (.ok a1) 58 #[f0, .int .i64 f1, f2, f3, .slice none 0 0])
    (hexit : ∀ (u12 u13 u14 u99 u100 u101 u102 u103 u104 u105 u106 u107 u108 u109 u110 u111 u112 u113 u114 u115 u116 u117 u118 u119 u120 u121 u122 u123 u124 u125 u126 u127 u128 u129 u130 u131 u132 u133 : Value) (u' : World) (av : Value), EL u u' b X s (stOf (dRep (dBlock s) N a1)) 58 #[f0, .int .i64 f1, f2, f3, av] → (∃ p n c, av = .slice p n c) → (∀ xs a, dRep (dBlock s) N a1 = .ok (xs, a) → RepL u' u.heap.size 61 1 (RBlk u' u.heap.size) av xs) → Q0 (.exit 6) ⟨List.toArray (s0 :: s1 :: s2 :: s3 :: .pointer (some ⟨b, 0, none⟩) :: s5 :: s6 :: s7 :: s8 :: .pointer (some ⟨X, 0, none⟩) :: s10 :: s11 :: u12 :: u13 :: u14 :: s15 :: s16 :: s17 :: s18 :: s19 :: s20 :: s21 :: s22 :: s23 :: s24 :: s25 :: s26 :: s27 :: s28 :: s29 :: s30 :: s31 :: s32 :: s33 :: s34 :: s35 :: s36 :: s37 :: s38 :: s39 :: s40 :: s41 :: s42 :: s43 :: s44 :: s45 :: s46 :: s47 :: s48 :: s49 :: s50 :: s51 :: s52 :: s53 :: s54 :: s55 :: s56 :: s57 :: s58 :: s59 :: s60 :: s61 :: s62 :: s63 :: s64 :: s65 :: s66 :: s67 :: s68 :: s69 :: s70 :: s71 :: s72 :: s73 :: s74 :: s75 :: s76 :: s77 :: s78 :: s79 :: s80 :: s81 :: s82 :: s83 :: s84 :: s85 :: s86 :: s87 :: s88 :: s89 :: s90 :: s91 :: s92 :: s93 :: s94 :: s95 :: s96 :: s97 :: s98 :: u99 :: u100 :: u101 :: u102 :: u103 :: u104 :: u105 :: u106 :: u107 :: u108 :: u109 :: u110 :: u111 :: u112 :: u113 :: u114 :: u115 :: u116 :: u117 :: u118 :: u119 :: u120 :: u121 :: u122 :: u123 :: u124 :: u125 :: u126 :: u127 :: u128 :: u129 :: u130 :: u131 :: u132 :: u133 :: s134 :: s135 :: s136 :: s137 :: s138 :: s139 :: s140 :: s141 :: s142 :: s143 :: s144 :: s145 :: s146 :: s147 :: s148 :: s149 :: s150 :: s151 :: s152 :: s153 :: s154 :: s155 :: s156 :: s157 :: s158 :: s159 :: s160 :: s161 :: s162 :: s163 :: s164 :: s165 :: s166 :: s167 :: s168 :: s169 :: s170 :: s171 :: s172 :: s173 :: []), []⟩ u') :
    Code.wp Tryd.prog (decLoop Tryd.f9 3) Q0 ⟨List.toArray (s0 :: s1 :: s2 :: s3 :: .pointer (some ⟨b, 0, none⟩) :: s5 :: s6 :: s7 :: s8 :: .pointer (some ⟨X, 0, none⟩) :: s10 :: s11 :: .int .i64 N :: s13 :: s14 :: s15 :: s16 :: s17 :: s18 :: s19 :: s20 :: s21 :: s22 :: s23 :: s24 :: s25 :: s26 :: s27 :: s28 :: s29 :: s30 :: s31 :: s32 :: s33 :: s34 :: s35 :: s36 :: s37 :: s38 :: s39 :: s40 :: s41 :: s42 :: s43 :: s44 :: s45 :: s46 :: s47 :: s48 :: s49 :: s50 :: s51 :: s52 :: s53 :: s54 :: s55 :: s56 :: s57 :: s58 :: s59 :: s60 :: s61 :: s62 :: s63 :: s64 :: s65 :: s66 :: s67 :: s68 :: s69 :: s70 :: s71 :: s72 :: s73 :: s74 :: s75 :: s76 :: s77 :: s78 :: s79 :: s80 :: s81 :: s82 :: s83 :: s84 :: s85 :: s86 :: s87 :: s88 :: s89 :: s90 :: s91 :: s92 :: s93 :: s94 :: s95 :: s96 :: s97 :: s98 :: s99 :: s100 :: s101 :: s102 :: s103 :: s104 :: s105 :: s106 :: s107 :: s108 :: s109 :: s110 :: s111 :: s112 :: s113 :: s114 :: s115 :: s116 :: s117 :: s118 :: s119 :: s120 :: s121 :: s122 :: s123 :: s124 :: s125 :: s126 :: s127 :: s128 :: s129 :: s130 :: s131 :: s132 :: s133 :: s134 :: s135 :: s136 :: s137 :: s138 :: s139 :: s140 :: s141 :: s142 :: s143 :: s144 :: s145 :: s146 :: s147 :: s148 :: s149 :: s150 :: s151 :: s152 :: s153 :: s154 :: s155 :: s156 :: s157 :: s158 :: s159 :: s160 :: s161 :: s162 :: s163 :: s164 :: s165 :: s166 :: s167 :: s168 :: s169 :: s170 :: s171 :: s172 :: s173 :: []), []⟩ u := by
  obtain ⟨ti, hti, hz0, hz1, hz2⟩ := info_partsE Tryd.infoBlkD
  have HE := hideE h
  have HEX := hideE hexit
  have hb0 := h.h0
  have hbx := h.hx
  have hne := h.ne
  clear h hexit
  refine onlyExit_wp (id := 6) ?_
  conv => arg 2; whnf
  go_loopw [12] (fun nn u' => ∃ m : Nat, nn = .int .i64 m ∧ m ≤ N ∧ ((∃ xs ak av, dRep (dBlock s) (N - m) a1 = .ok (xs, ak) ∧ EL u u' b X s (.ok ak) 58 #[f0, .int .i64 f1, f2, f3, av] ∧ RepL u' u.heap.size 61 1 (RBlk u' u.heap.size) av xs) ∨ (∃ q' av, dRep (dBlock s) N a1 = .error q' ∧ EL u u' b X s (.error q') 58 #[f0, .int .i64 f1, f2, f3, av] ∧ ∃ p nn c, av = .slice p nn c))) (fun nn _ => (intOf nn).toNat)
  case atStart => exact ⟨N, rfl, Nat.le_refl _, Or.inl ⟨[], a1, _, by rw [Nat.sub_self]; rfl, unhideE HE, RepL.nil _ _ _ _ _⟩⟩
  case round =>
    obtain ⟨m, rfl, hmN, hst⟩ := hrel
    rcases hst with ⟨xs, ak, av, hrep, hE, hav⟩ | ⟨q', av, hrep, hE, p, nn, c, rfl⟩
    · have hcb : wr.cell? ⟨b, 2, none⟩ = some (.int .i64 (-1)) := Ey.c2 hE.ey
      by_cases hm0 : m = 0
      · subst hm0
        rw [Nat.sub_zero] at hrep
        have HEX2 := hideE (fun u12 u13 u14 u99 u100 u101 u102 u103 u104 u105 u106 u107 u108 u109 u110 u111 u112 u113 u114 u115 u116 u117 u118 u119 u120 u121 u122 u123 u124 u125 u126 u127 u128 u129 u130 u131 u132 u133 => unhideE HEX u12 u13 u14 u99 u100 u101 u102 u103 u104 u105 u106 u107 u108 u109 u110 u111 u112 u113 u114 u115 u116 u117 u118 u119 u120 u121 u122 u123 u124 u125 u126 u127 u128 u129 u130 u131 u132 u133 wr av (by rw [hrep]; exact hE) (by obtain ⟨p, c, e⟩ := hav.shape; exact ⟨p, _, c, e⟩) (fun ys a h => by rw [hrep] at h; injection h with h; injection h with h1 h2; subst h1; exact hav))
        clear hrep hE hav
        go_wp2_with fail
        exact ⟨rfl, unhideE HEX2 _ _ _ _ _ _ _ _ _ _ _ _ _ _ _ _ _ _ _ _ _ _ _ _ _ _ _ _ _ _ _ _ _ _ _ _ _ _⟩
      · have hmp : (0 : Int) < m := by omega
        obtain ⟨cs, hown, hall⟩ := hav
        have hcl := hall.len
        have hlN : xs.length = N - m := dRep_len _ hrep
        have hcn : cs.length ≤ 1000 := by omega
        have hsz := hE.g.size
        obtain ⟨lp, lc, hsh⟩ := own_shape hown.1
        subst hsh
        have HNX := hideE (dRep_next hrep)
        have HE2 := hideE hE
        have HOWN := hideE hown
        have HALL := hideE hall
        have HLV := hideE (show ∀ g, (Value.slice lp cs.length lc).ownBlock = some g → u.heap.size ≤ g from fun g hg => (hown.own g hg).1)
        clear hrep hE hown hall hlN hcl
        go_wp2_with fail
        refine (enum_c b s (.ok ak) 1 24 wr (unhideE HE2).ey).mono ?_
        rintro e w2 ⟨rfl, hg2, hE2⟩
        have hE2' : EyS w2 b s (stOf (dNum s 1 24 ak)) := hE2
        rw [show valOr (sBind (.ok ak) (dNum s 1 24)) = valOr (dNum s 1 24 ak) from rfl]
        have hei2 := (unhideE HE2).call hE2' hg2
        have hk2 := (unhideE HE2).kept hg2
        have hs2 := hg2.size
        have HEI2 := hideE hei2
        have HE2' := hideE hE2'
        have HK2 := hideE hk2
        have hsu2 := hei2.g.size
        clear hE2 hE2' hei2 hk2 hg2
        go_wp2_with fail
        refine decInssG b s (dNum s 1 24 ak) w2 _ _ _ _ _ _ _ _ _ _ _ _ _ _ _ _ _ _ _ _ _ _ _ _ _ _ _ _ _ _ _ _ _ _ _ _ _ _ _ _ _ _ _ _ _ _ _ _ _ _ _ _ _ _ _ _ _ _ _ _ _ _ _ _ _ _ _ _ _ _ _ _ _ _ _ _ _ _ _ _ _ _ _ _ _ _ _ _ _ _ _ _ _ _ _ _ _ _ _ _ _ _ _ _ _ _ _ _ _ _ _ _ _ _ _ _ _ _ _ _ _ _ _ _ _ _ _ _ _ _ _ _ _ _ _ _ _ _ _ _ _ _ _ _ _ _ _ _ _ _ _ _ _ _ _ _ _ _ _ _ _ _ _ _ _ _ _ _ _ _ _ _ (fun n a hh => by have := dNum_bd hh; omega) (unhideE HE2') ?_
        intro u14 u112 u113 u114 u115 u116 u117 u118 u119 u120 u121 u122 u123 u124 u125 u126 u127 w3 lv hE3 hg3 hlv hrep3
        obtain ⟨lvp, lvn, lvc, rfl⟩ := hlv
        have hE3' : EyS w3 b s (stOf (dBlock s ak)) := hE3
        have hei3 := (unhideE HEI2).call hE3' hg3
        have hk3 := (unhideE HEI2).kept hg3
        have hs3 := hg3.size
        have k6 := hei3.cell 4 _ rfl
        have k6a : ∀ X', (w3.alloc X').cell? ⟨X, 4, none⟩ = some (.slice lp cs.length lc) := fun X' => (hei3.alloc X').cell 4 _ rfl
        have HEI3 := hideE hei3
        have HOW3 := hideE ((unhideE HOWN).keep (Nat.le_refl _) (kept_tr (unhideE HK2) hs2 hk3))
        have HALL3 := hideE ((unhideE HALL).imp fun c x hh => mono_RBlk _ _ _ _ c x (Nat.le_refl _) (kept_tr (unhideE HK2) hs2 hk3) hh)
        have HREP3 := hideE (fun x a (hh : dBlock s ak = .ok (x, a)) => show RBlk w3 u.heap.size #[.slice lvp lvn lvc] x from ⟨_, rfl, (hrep3 x a hh).keep (by omega) (fun _ _ _ => rfl) (fun _ _ h => mono_RIns _ _ _ _ _ _ (by omega) (fun _ _ _ => rfl) h)⟩)
        clear hE3 hE3' hg3 hei3 hk3 hrep3 HEI2 HE2' HK2 HOWN HALL
        go_wp2_with (at_builtin; refine wpList_append_own _ rfl _ _ 56 rfl u.heap.size 61 ti _ 1 24 Tryd.underlying56 hti hz0 hz1 hz2 rfl (by decide) _ _ _ rfl ((unhideE HOW3).1.alloc _) ⟨w3.heap.size, 0, none⟩ 1 1 [.slice lvp lvn lvc] rfl rfl (news_at w3 #[.slice lvp lvn lvc] 61) (by intro u hu; simp at hu; subst hu; rfl) ?c3 ?c4 ?c5 ?_)
        case c3 => unfold maxLen; omega
        case c4 => omega
        case c5 => simp; omega
        intro v7 w7 hown7 hgr7 _
        have hsa : (w3.alloc (.cells #[.slice lvp lvn lvc] 61)).heap.size = w3.heap.size + 1 := by simp
        have hei7 := ((unhideE HEI3).alloc (.cells #[.slice lvp lvn lvc] 61)).own hgr7 (unhideE HLV)
        have j6 := hei7.cell 4 _ rfl
        have g6 := hei7.fz 4
        have hs7 := hgr7.size
        obtain ⟨gg7, cc7, rfl⟩ := own_slice hown7
        have HZ := hideE (hei7.set 4 (.slice (some ⟨gg7, 0, none⟩) (cs.length + 1) cc7))
        have hkp := hei7.keptSet 4 (.slice (some ⟨gg7, 0, none⟩) (cs.length + 1) cc7)
        have HRZ := hideE ((OwnL.snoc (cs := cs) (c := #[.slice lvp lvn lvc]) hown7 (by simp) (by rw [flat_snoc]) (unhideE HOW3).2 rfl).keep (Nat.le_refl _) hkp)
        have hkt : KeptT u.heap.size 61 w3 (w7.setCell ⟨X, 4, none⟩ (.slice (some ⟨gg7, 0, none⟩) (cs.length + 1) cc7)) := KeptT.tr (KeptT.of_on (keptAlloc u.heap.size w3 (.cells #[.slice lvp lvn lvc] 61))) (by omega) (KeptT.tr (KeptT.of_own ((unhideE HOW3).1.alloc _) hgr7) hs7 (KeptT.of_on hkp))
        have HALL4 := hideE ((unhideE HALL3).imp fun c x hh => monoT_RBlk 61 (by decide) (by decide) (by decide) _ _ _ c x hkt hh)
        have HREP4 := hideE (fun x a (hh : (dBlock s) ak = .ok (x, a)) => monoT_RBlk 61 (by decide) (by decide) (by decide) _ _ _ _ x hkt (unhideE HREP3 x a hh))
        clear hown7 hgr7 hei7 HEI3 HOW3 hkp hkt HALL3 HREP3
        go_wp2
        go_roundw
        case rel =>
          refine ⟨m - 1, int_pred (by omega), by omega, ?_⟩
          have e1 : N - (m - 1) = N - m + 1 := by omega
          have hz := unhideE HZ
          cases ho : (dBlock s) ak with
          | ok p =>
            obtain ⟨y, a2⟩ := p
            have hn := unhideE HNX
            rw [ho] at hz hn
            exact Or.inl ⟨xs ++ [y], a2, (.slice (some ⟨gg7, 0, none⟩) (cs.length + 1) cc7), by rw [e1]; exact hn, hz, _, unhideE HRZ, All2.snoc (unhideE HALL4) (unhideE HREP4 y a2 ho)⟩
          | error qq =>
            have hn := unhideE HNX
            rw [ho] at hz hn
            exact Or.inr ⟨qq, (.slice (some ⟨gg7, 0, none⟩) (cs.length + 1) cc7), dRep_err (k := N - m + 1) hn (by omega), hz, _, _, _, rfl⟩
        case measure => simp [intOf]; omega
    · have hcb : wr.cell? ⟨b, 2, none⟩ = some (.int .i64 q') := by obtain ⟨-, a, h⟩ := hE.ey; exact h.c2
      have hq : ¬ ((q' : Int) < 0) := by omega
      have HEX2 := hideE (fun u12 u13 u14 u99 u100 u101 u102 u103 u104 u105 u106 u107 u108 u109 u110 u111 u112 u113 u114 u115 u116 u117 u118 u119 u120 u121 u122 u123 u124 u125 u126 u127 u128 u129 u130 u131 u132 u133 => unhideE HEX u12 u13 u14 u99 u100 u101 u102 u103 u104 u105 u106 u107 u108 u109 u110 u111 u112 u113 u114 u115 u116 u117 u118 u119 u120 u121 u122 u123 u124 u125 u126 u127 u128 u129 u130 u131 u132 u133 wr (.slice p nn c) (by rw [hrep]; exact hE) ⟨_, _, _, rfl⟩ (fun ys a h => by rw [hrep] at h; cases h))
      clear hrep hE
      by_cases hm0 : m = 0
      · subst hm0
        go_wp2_with fail
        exact ⟨rfl, unhideE HEX2 _ _ _ _ _ _ _ _ _ _ _ _ _ _ _ _ _ _ _ _ _ _ _ _ _ _ _ _ _ _ _ _ _ _ _ _ _ _⟩
      · have hmp : (0 : Int) < m := by omega
        go_wp2_with fail
        exact ⟨rfl, unhideE HEX2 _ _ _ _ _ _ _ _ _ _ _ _ _ _ _ _ _ _ _ _ _ _ _ _ _ _ _ _ _ _ _ _ _ _ _ _ _ _⟩
set_option maxHeartbeats 4000000 in
set_option maxRecDepth 100000 in
theorem decBlocksG (b X : Nat) (s : ByteArray) (f0 : Value) (f1 : Int) (f2 f3 : Value) (r : Except Nat (Int × Nat)) (u : World) (Q0 : Exit → Act → World → Prop) (s0 s1 s2 s3 s5 s6 s7 s8 s10 s11 s13 s14 s15 s16 s17 s18 s19 s20 s21 s22 s23 s24 s25 s26 s27 s28 s29 s30 s31 s32 s33 s34 s35 s36 s37 s38 s39 s40 s41 s42 s43 s44 s45 s46 s47 s48 s49 s50 s51 s52 s53 s54 s55 s56 s57 s58 s59 s60 s61 s62 s63 s64 s65 s66 s67 s68 s69 s70 s71 s72 s73 s74 s75 s76 s77 s78 s79 s80 s81 s82 s83 s84 s85 s86 s87 s88 s89 s90 s91 s92 s93 s94 s95 s96 s97 s98 s99 s100 s101 s102 s103 s104 s105 s106 s107 s108 s109 s110 s111 s112 s113 s114 s115 s116 s117 s118 s119 s120 s121 s122 s123 s124 s125 s126 s127 s128 s129 s130 s131 s132 s133 s134 s135 s136 s137 s138 s139 s140 s141 s142 s143 s144 s145 s146 s147 s148 s149 s150 s151 s152 s153 s154 s155 s156 s157 s158 s159 s160 s161 s162 s163 s164 s165 s166 s167 s168 s169 s170 s171 s172 s173 : Value) (hr : ∀ n a, r = .ok (n, a) → 0 ≤ n ∧ n ≤ 1000)
    (h : EL u u b X s (stOf r) 58 #[f0, .int .i64 f1, f2, f3, .slice none 0 0])
    (hexit : ∀ (u12 u13 u14 u99 u100 u101 u102 u103 u104 u105 u106 u107 u108 u109 u110 u111 u112 u113 u114 u115 u116 u117 u118 u119 u120 u121 u122 u123 u124 u125 u126 u127 u128 u129 u130 u131 u132 u133 : Value) (u' : World) (av : Value), EL u u' b X s (stOf (dMany r (dBlock s))) 58 #[f0, .int .i64 f1, f2, f3, av] → (∃ p n c, av = .slice p n c) → (∀ xs a, dMany r (dBlock s) = .ok (xs, a) → RepL u' u.heap.size 61 1 (RBlk u' u.heap.size) av xs) → Q0 (.exit 6) ⟨List.toArray (s0 :: s1 :: s2 :: s3 :: .pointer (some ⟨b, 0, none⟩) :: s5 :: s6 :: s7 :: s8 :: .pointer (some ⟨X, 0, none⟩) :: s10 :: s11 :: u12 :: u13 :: u14 :: s15 :: s16 :: s17 :: s18 :: s19 :: s20 :: s21 :: s22 :: s23 :: s24 :: s25 :: s26 :: s27 :: s28 :: s29 :: s30 :: s31 :: s32 :: s33 :: s34 :: s35 :: s36 :: s37 :: s38 :: s39 :: s40 :: s41 :: s42 :: s43 :: s44 :: s45 :: s46 :: s47 :: s48 :: s49 :: s50 :: s51 :: s52 :: s53 :: s54 :: s55 :: s56 :: s57 :: s58 :: s59 :: s60 :: s61 :: s62 :: s63 :: s64 :: s65 :: s66 :: s67 :: s68 :: s69 :: s70 :: s71 :: s72 :: s73 :: s74 :: s75 :: s76 :: s77 :: s78 :: s79 :: s80 :: s81 :: s82 :: s83 :: s84 :: s85 :: s86 :: s87 :: s88 :: s89 :: s90 :: s91 :: s92 :: s93 :: s94 :: s95 :: s96 :: s97 :: s98 :: u99 :: u100 :: u101 :: u102 :: u103 :: u104 :: u105 :: u106 :: u107 :: u108 :: u109 :: u110 :: u111 :: u112 :: u113 :: u114 :: u115 :: u116 :: u117 :: u118 :: u119 :: u120 :: u121 :: u122 :: u123 :: u124 :: u125 :: u126 :: u127 :: u128 :: u129 :: u130 :: u131 :: u132 :: u133 :: s134 :: s135 :: s136 :: s137 :: s138 :: s139 :: s140 :: s141 :: s142 :: s143 :: s144 :: s145 :: s146 :: s147 :: s148 :: s149 :: s150 :: s151 :: s152 :: s153 :: s154 :: s155 :: s156 :: s157 :: s158 :: s159 :: s160 :: s161 :: s162 :: s163 :: s164 :: s165 :: s166 :: s167 :: s168 :: s169 :: s170 :: s171 :: s172 :: s173 :: []), []⟩ u') :
    Code.wp Tryd.prog (decLoop Tryd.f9 3) Q0 ⟨List.toArray (s0 :: s1 :: s2 :: s3 :: .pointer (some ⟨b, 0, none⟩) :: s5 :: s6 :: s7 :: s8 :: .pointer (some ⟨X, 0, none⟩) :: s10 :: s11 :: .int .i64 (valOr r) :: s13 :: s14 :: s15 :: s16 :: s17 :: s18 :: s19 :: s20 :: s21 :: s22 :: s23 :: s24 :: s25 :: s26 :: s27 :: s28 :: s29 :: s30 :: s31 :: s32 :: s33 :: s34 :: s35 :: s36 :: s37 :: s38 :: s39 :: s40 :: s41 :: s42 :: s43 :: s44 :: s45 :: s46 :: s47 :: s48 :: s49 :: s50 :: s51 :: s52 :: s53 :: s54 :: s55 :: s56 :: s57 :: s58 :: s59 :: s60 :: s61 :: s62 :: s63 :: s64 :: s65 :: s66 :: s67 :: s68 :: s69 :: s70 :: s71 :: s72 :: s73 :: s74 :: s75 :: s76 :: s77 :: s78 :: s79 :: s80 :: s81 :: s82 :: s83 :: s84 :: s85 :: s86 :: s87 :: s88 :: s89 :: s90 :: s91 :: s92 :: s93 :: s94 :: s95 :: s96 :: s97 :: s98 :: s99 :: s100 :: s101 :: s102 :: s103 :: s104 :: s105 :: s106 :: s107 :: s108 :: s109 :: s110 :: s111 :: s112 :: s113 :: s114 :: s115 :: s116 :: s117 :: s118 :: s119 :: s120 :: s121 :: s122 :: s123 :: s124 :: s125 :: s126 :: s127 :: s128 :: s129 :: s130 :: s131 :: s132 :: s133 :: s134 :: s135 :: s136 :: s137 :: s138 :: s139 :: s140 :: s141 :: s142 :: s143 :: s144 :: s145 :: s146 :: s147 :: s148 :: s149 :: s150 :: s151 :: s152 :: s153 :: s154 :: s155 :: s156 :: s157 :: s158 :: s159 :: s160 :: s161 :: s162 :: s163 :: s164 :: s165 :: s166 :: s167 :: s168 :: s169 :: s170 :: s171 :: s172 :: s173 :: []), []⟩ u := by
  cases hrr : r with
  | ok p =>
    obtain ⟨nv, a⟩ := p
    obtain ⟨h0, h1⟩ := hr nv a hrr
    obtain ⟨N, rfl⟩ := Int.eq_ofNat_of_zero_le h0
    subst hrr
    exact decBlocks b X s f0 f1 f2 f3 N a u Q0 s0 s1 s2 s3 s5 s6 s7 s8 s10 s11 s13 s14 s15 s16 s17 s18 s19 s20 s21 s22 s23 s24 s25 s26 s27 s28 s29 s30 s31 s32 s33 s34 s35 s36 s37 s38 s39 s40 s41 s42 s43 s44 s45 s46 s47 s48 s49 s50 s51 s52 s53 s54 s55 s56 s57 s58 s59 s60 s61 s62 s63 s64 s65 s66 s67 s68 s69 s70 s71 s72 s73 s74 s75 s76 s77 s78 s79 s80 s81 s82 s83 s84 s85 s86 s87 s88 s89 s90 s91 s92 s93 s94 s95 s96 s97 s98 s99 s100 s101 s102 s103 s104 s105 s106 s107 s108 s109 s110 s111 s112 s113 s114 s115 s116 s117 s118 s119 s120 s121 s122 s123 s124 s125 s126 s127 s128 s129 s130 s131 s132 s133 s134 s135 s136 s137 s138 s139 s140 s141 s142 s143 s144 s145 s146 s147 s148 s149 s150 s151 s152 s153 s154 s155 s156 s157 s158 s159 s160 s161 s162 s163 s164 s165 s166 s167 s168 s169 s170 s171 s172 s173 (by omega) h hexit
  | error q =>
    subst hrr
    obtain ⟨-, a, hE⟩ : EyS u b s (.error q) := h.ey
    have hcb := hE.c2
    have hq : ¬ ((q : Int) < 0) := by omega
    have HEX := hideE (fun u12 u13 u14 u99 u100 u101 u102 u103 u104 u105 u106 u107 u108 u109 u110 u111 u112 u113 u114 u115 u116 u117 u118 u119 u120 u121 u122 u123 u124 u125 u126 u127 u128 u129 u130 u131 u132 u133 => hexit u12 u13 u14 u99 u100 u101 u102 u103 u104 u105 u106 u107 u108 u109 u110 u111 u112 u113 u114 u115 u116 u117 u118 u119 u120 u121 u122 u123 u124 u125 u126 u127 u128 u129 u130 u131 u132 u133 u (.slice none 0 0) h ⟨_, _, _, rfl⟩ (fun xs a hh => by cases hh))
    clear hexit h hE hr
    simp only [valOr]
    refine onlyExit_wp (id := 6) ?_
    conv => arg 2; whnf
    refine wp_loop_rounds 1 ?_
    rw [rounds_succ]
    go_wp2_with fail
    exact ⟨rfl, unhideE HEX _ _ _ _ _ _ _ _ _ _ _ _ _ _ _ _ _ _ _ _ _ _ _ _ _ _ _ _ _ _ _ _ _ _ _ _ _ _⟩
end Go.Proofs.YthnmdbddfmgdlaaDoor
