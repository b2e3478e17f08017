/-
  Encodes: the loops of prologueref.Encode. Own work of the verifier.
-/
import Derived.Test.YthnmdbddfmgdlaaDoorEncY
namespace Go.Proofs.YthnmdbddfmgdlaaDoor
open Go.RowKit

theorem Tryd.infFuncsZ : (Tryd.prog.info? 58).map (·.size) = some 5 := by kernel_rfl
theorem Tryd.infSigsZ : (Tryd.prog.info? 53).map (·.size) = some 2 := by kernel_rfl
theorem Tryd.infParamsZ : (Tryd.prog.info? 60).map (·.size) = some 2 := by kernel_rfl
theorem Tryd.infInsZ : (Tryd.prog.info? 65).map (·.size) = some 8 := by kernel_rfl
theorem Tryd.infFltZ : (Tryd.prog.info? 30).map (·.size) = some 4 := by kernel_rfl
/-- A row that was made ahead stays where only the pen writes. -/
theorem row_stays {w u : World} {b T : Nat} {o : Obj} (h : w.heap[T]? = some o) (hg : w.grownBy u (some b)) (hb : T ≠ b) : u.heap[T]? = some o :=
  (hg.block T (row_lt h) (by intro e; injection e with e; exact hb e)).trans h
theorem map_snoc {α β : Type} (one : β → Pr) (ps : List (α × β)) (k : Nat) (hk : k < ps.length) : penAll one ((ps.take (k + 1)).map (·.2)) = penSeq (penAll one ((ps.take k).map (·.2))) (one ps[k].2) := by
  rw [take_mid hk, List.map_append]
  exact penAll_snoc _ _ _
theorem map_bound {α β : Type} (one : β → Pr) (ps : List (α × β)) (k : Nat) (hk : k < ps.length) : (penAll one ((ps.take k).map (·.2))).1.length + (one ps[k].2).1.length ≤ (penAll one (ps.map (·.2))).1.length := by
  have h := penAll_take_len one (ps.map (·.2)) (k + 1)
  rw [← List.map_take, map_snoc one ps k hk] at h
  simpa [penSeq] using h
theorem ints_snoc (lo hi : Int) (ns : List Int) (k : Nat) (hk : k < ns.length) : penAll (penNum lo hi) (ns.take (k + 1)) = penSeq (penAll (penNum lo hi) (ns.take k)) (penNum lo hi (ns.getD k 0)) := by rw [getD_mid hk, penAll_snoc]
theorem ints_bound (lo hi : Int) (ns : List Int) (k : Nat) (hk : k < ns.length) : (penAll (penNum lo hi) (ns.take k)).1.length + 1 ≤ (penAll (penNum lo hi) ns).1.length := by
  have h := penAll_take_len (penNum lo hi) ns (k + 1)
  rw [ints_snoc lo hi ns k hk] at h
  simpa [penSeq, penNum] using h
def refRet : Option (List UInt8) → Value
  | some bs => .tuple #[.string ⟨bs.toArray⟩, flt 0 (-1) (-1) (-1)]
  | none => .tuple #[.string ⟨#[]⟩, flt 4 (-1) (-1) (-1)]
/-- The loops of a code, the outer ahead of the inner. -/
def loopsIn : Code → List Code
  | .loop c => .loop c :: loopsIn c
  | .seq a b => loopsIn a ++ loopsIn b
  | .block _ c => loopsIn c
  | .scope c => loopsIn c
  | .cond _ a b => loopsIn a ++ loopsIn b
  | _ => []
def encLoop (f : Func) (n : Nat) : Code := (((f.body.map loopsIn).getD [])[n]?).getD .skip
set_option maxHeartbeats 4000000 in
set_option maxRecDepth 100000 in
theorem loopHomes (b : Nat) (l : List UInt8) (bad : Bool) (pp : Option Addr) (cap : Nat) (ns : List Int) (w : World) (Q0 : Exit → Act → World → Prop) (s0 s1 s2 s3 s5 s6 s7 s8 s9 s10 s11 s12 s13 s14 s15 s16 s17 s18 s19 s20 s21 s22 s23 s24 s25 s26 s27 s28 s29 s30 s31 s32 s33 s34 s35 s36 s37 s38 s39 s40 s41 s42 s43 s44 s45 s46 s47 s48 s49 s50 s51 s52 s53 s54 s55 s56 s57 s58 s59 s60 s61 s62 s63 s64 s65 s66 s67 s68 s69 s70 s71 s72 s73 s74 s75 s76 s77 s78 s79 s83 s84 s85 s86 s87 s88 s89 s90 s91 s92 s93 s94 s95 s96 s97 s98 s99 s100 s101 s102 s103 s104 s105 s106 s107 s108 s109 s110 s111 s112 s113 s114 s115 s116 s117 s118 s119 s120 s121 s122 s123 s124 s125 s126 s127 s128 s129 s130 s131 s132 s133 s134 s135 s136 s137 s138 s139 s140 s141 s142 s143 s144 s145 s146 s147 s148 s149 s150 s151 : Value)
    (h : Pn w b l bad) (hl : l.length + (penAll (penNum (-1) 15) ns).1.length < 9223372036854775807) (hns : RsB w b (.slice pp ns.length cap) ns)
    (hexit : ∀ (u12 u82 u83 u84 u85 u86 u87 u88 u89 : Value) (w' : World), Pn w' b (l ++ (penAll (penNum (-1) 15) ns).1) (bad || (penAll (penNum (-1) 15) ns).2) → w.grownBy w' (some b) → Q0 (.exit 6) ⟨List.toArray (s0 :: s1 :: s2 :: s3 :: .pointer (some ⟨b, 0, none⟩) :: s5 :: s6 :: s7 :: s8 :: s9 :: s10 :: s11 :: u12 :: s13 :: s14 :: s15 :: s16 :: s17 :: s18 :: s19 :: s20 :: s21 :: s22 :: s23 :: s24 :: s25 :: s26 :: s27 :: s28 :: s29 :: s30 :: s31 :: s32 :: s33 :: s34 :: s35 :: s36 :: s37 :: s38 :: s39 :: s40 :: s41 :: s42 :: s43 :: s44 :: s45 :: s46 :: s47 :: s48 :: s49 :: s50 :: s51 :: s52 :: s53 :: s54 :: s55 :: s56 :: s57 :: s58 :: s59 :: s60 :: s61 :: s62 :: s63 :: s64 :: s65 :: s66 :: s67 :: s68 :: s69 :: s70 :: s71 :: s72 :: s73 :: s74 :: s75 :: s76 :: s77 :: s78 :: s79 :: .slice pp ns.length cap :: .int .i64 ns.length :: u82 :: u83 :: u84 :: u85 :: u86 :: u87 :: u88 :: u89 :: s90 :: s91 :: s92 :: s93 :: s94 :: s95 :: s96 :: s97 :: s98 :: s99 :: s100 :: s101 :: s102 :: s103 :: s104 :: s105 :: s106 :: s107 :: s108 :: s109 :: s110 :: s111 :: s112 :: s113 :: s114 :: s115 :: s116 :: s117 :: s118 :: s119 :: s120 :: s121 :: s122 :: s123 :: s124 :: s125 :: s126 :: s127 :: s128 :: s129 :: s130 :: s131 :: s132 :: s133 :: s134 :: s135 :: s136 :: s137 :: s138 :: s139 :: s140 :: s141 :: s142 :: s143 :: s144 :: s145 :: s146 :: s147 :: s148 :: s149 :: s150 :: s151 :: []), []⟩ w') :
    Code.wp Tryd.prog (encLoop Tryd.f6 3) Q0 ⟨List.toArray (s0 :: s1 :: s2 :: s3 :: .pointer (some ⟨b, 0, none⟩) :: s5 :: s6 :: s7 :: s8 :: s9 :: s10 :: s11 :: s12 :: s13 :: s14 :: s15 :: s16 :: s17 :: s18 :: s19 :: s20 :: s21 :: s22 :: s23 :: s24 :: s25 :: s26 :: s27 :: s28 :: s29 :: s30 :: s31 :: s32 :: s33 :: s34 :: s35 :: s36 :: s37 :: s38 :: s39 :: s40 :: s41 :: s42 :: s43 :: s44 :: s45 :: s46 :: s47 :: s48 :: s49 :: s50 :: s51 :: s52 :: s53 :: s54 :: s55 :: s56 :: s57 :: s58 :: s59 :: s60 :: s61 :: s62 :: s63 :: s64 :: s65 :: s66 :: s67 :: s68 :: s69 :: s70 :: s71 :: s72 :: s73 :: s74 :: s75 :: s76 :: s77 :: s78 :: s79 :: .slice pp ns.length cap :: .int .i64 ns.length :: .int .i64 0 :: s83 :: s84 :: s85 :: s86 :: s87 :: s88 :: s89 :: s90 :: s91 :: s92 :: s93 :: s94 :: s95 :: s96 :: s97 :: s98 :: s99 :: s100 :: s101 :: s102 :: s103 :: s104 :: s105 :: s106 :: s107 :: s108 :: s109 :: s110 :: s111 :: s112 :: s113 :: s114 :: s115 :: s116 :: s117 :: s118 :: s119 :: s120 :: s121 :: s122 :: s123 :: s124 :: s125 :: s126 :: s127 :: s128 :: s129 :: s130 :: s131 :: s132 :: s133 :: s134 :: s135 :: s136 :: s137 :: s138 :: s139 :: s140 :: s141 :: s142 :: s143 :: s144 :: s145 :: s146 :: s147 :: s148 :: s149 :: s150 :: s151 :: []), []⟩ w := by
  have hpl : ∀ xs : List Int, (penAll (penNum (-1) 15) xs).1.length = xs.length := by
    intro xs
    induction xs with
    | nil => rfl
    | cons y ys ih => simp [penAll, penSeq, penNum, ih]
  have hlen : ns.length < 9223372036854775807 := by have := hpl ns; omega
  have hbl := h.lt
  have HNS := hideE hns
  have HP0 := hideE h
  have HL := hideE hl
  have HEX := hideE hexit
  clear hns h hl hexit hpl
  conv => arg 2; whnf
  go_loopw [82] (fun j w' => ∃ k : Nat, j = .int .i64 k ∧ k ≤ ns.length ∧ Pn w' b (l ++ (penAll (penNum (-1) 15) (ns.take k)).1) (bad || (penAll (penNum (-1) 15) (ns.take k)).2) ∧ w.grownBy w' (some b)) (fun j _ => ns.length - (intOf j).toNat)
  case atStart => exact ⟨0, rfl, by omega, by simpa [penAll] using unhideE HP0, ⟨rfl, rfl, rfl, Nat.le_refl _, fun _ _ _ => rfl⟩⟩
  case round =>
    obtain ⟨k, rfl, hk, hp, hg⟩ := hrel
    by_cases hlt : k < ns.length
    · have hbd := ints_bound (-1) 15 ns k hlt
      have hrs := (unhideE HNS).gb hg hbl
      obtain ⟨sb, so, cap', hv, hsb, hc⟩ := hrs.resolve_left (fun c => by rw [c.1] at hlt; simp at hlt)
      injection hv with e1 e2 e3
      subst e1
      have cc := hc k hlt
      have HCALL := hideE (pnum_c b _ _ (ns.getD k 0) (-1) 15 wr hp (by have := unhideE HL; rw [List.length_append]; omega))
      have HSN := hideE (ints_snoc (-1) 15 ns k hlt)
      have HG := hideE hg
      clear hc e2 e3 hp hg hbd hrs
      generalize ns.getD k 0 = y at cc HCALL HSN
      go_wp2_with fail
      refine (unhideE HCALL).mono ?_
      rintro e w2 ⟨rfl, hp2, hg2⟩
      have HP2 := hideE hp2
      have HG2 := hideE (gb_tr (unhideE HG) hg2)
      clear hp2 hg2
      go_wp2
      go_roundw
      case rel =>
        refine ⟨k + 1, by go_num, by omega, ?_, unhideE HG2⟩
        have h2 := unhideE HP2
        rw [unhideE HSN]
        simp only [penSeq, penNum, ← List.append_assoc, ← Bool.or_assoc]
        exact h2
      case measure => simp [intOf]; omega
    · obtain rfl : k = ns.length := by omega
      have HP := hideE hp
      have HG := hideE hg
      clear hp hg
      go_wp2_with fail
      exact unhideE HEX _ _ _ _ _ _ _ _ _ wr (by have := unhideE HP; rw [List.take_length] at this; exact this) (unhideE HG)
set_option maxHeartbeats 4000000 in
set_option maxRecDepth 100000 in
theorem loopSlots (b : Nat) (l : List UInt8) (bad : Bool) (pp : Option Addr) (cap : Nat) (ns : List Int) (w : World) (Q0 : Exit → Act → World → Prop) (s0 s1 s2 s3 s5 s6 s7 s8 s9 s10 s11 s12 s13 s14 s15 s16 s17 s18 s19 s20 s21 s22 s23 s24 s25 s26 s27 s28 s29 s30 s31 s32 s33 s34 s35 s36 s37 s38 s39 s40 s41 s42 s43 s44 s45 s46 s47 s48 s49 s50 s51 s52 s53 s54 s55 s56 s57 s58 s59 s60 s61 s62 s63 s64 s65 s66 s67 s68 s69 s70 s71 s72 s73 s74 s75 s76 s77 s78 s79 s80 s81 s82 s83 s84 s85 s86 s87 s88 s89 s90 s91 s92 s93 s94 s95 s99 s100 s101 s102 s103 s104 s105 s106 s107 s108 s109 s110 s111 s112 s113 s114 s115 s116 s117 s118 s119 s120 s121 s122 s123 s124 s125 s126 s127 s128 s129 s130 s131 s132 s133 s134 s135 s136 s137 s138 s139 s140 s141 s142 s143 s144 s145 s146 s147 s148 s149 s150 s151 : Value)
    (h : Pn w b l bad) (hl : l.length + (penAll (penNum 1 8) ns).1.length < 9223372036854775807) (hns : RsB w b (.slice pp ns.length cap) ns)
    (hexit : ∀ (u14 u98 u99 u100 u101 u102 u103 u104 u105 : Value) (w' : World), Pn w' b (l ++ (penAll (penNum 1 8) ns).1) (bad || (penAll (penNum 1 8) ns).2) → w.grownBy w' (some b) → Q0 (.exit 8) ⟨List.toArray (s0 :: s1 :: s2 :: s3 :: .pointer (some ⟨b, 0, none⟩) :: s5 :: s6 :: s7 :: s8 :: s9 :: s10 :: s11 :: s12 :: s13 :: u14 :: s15 :: s16 :: s17 :: s18 :: s19 :: s20 :: s21 :: s22 :: s23 :: s24 :: s25 :: s26 :: s27 :: s28 :: s29 :: s30 :: s31 :: s32 :: s33 :: s34 :: s35 :: s36 :: s37 :: s38 :: s39 :: s40 :: s41 :: s42 :: s43 :: s44 :: s45 :: s46 :: s47 :: s48 :: s49 :: s50 :: s51 :: s52 :: s53 :: s54 :: s55 :: s56 :: s57 :: s58 :: s59 :: s60 :: s61 :: s62 :: s63 :: s64 :: s65 :: s66 :: s67 :: s68 :: s69 :: s70 :: s71 :: s72 :: s73 :: s74 :: s75 :: s76 :: s77 :: s78 :: s79 :: s80 :: s81 :: s82 :: s83 :: s84 :: s85 :: s86 :: s87 :: s88 :: s89 :: s90 :: s91 :: s92 :: s93 :: s94 :: s95 :: .slice pp ns.length cap :: .int .i64 ns.length :: u98 :: u99 :: u100 :: u101 :: u102 :: u103 :: u104 :: u105 :: s106 :: s107 :: s108 :: s109 :: s110 :: s111 :: s112 :: s113 :: s114 :: s115 :: s116 :: s117 :: s118 :: s119 :: s120 :: s121 :: s122 :: s123 :: s124 :: s125 :: s126 :: s127 :: s128 :: s129 :: s130 :: s131 :: s132 :: s133 :: s134 :: s135 :: s136 :: s137 :: s138 :: s139 :: s140 :: s141 :: s142 :: s143 :: s144 :: s145 :: s146 :: s147 :: s148 :: s149 :: s150 :: s151 :: []), []⟩ w') :
    Code.wp Tryd.prog (encLoop Tryd.f6 4) Q0 ⟨List.toArray (s0 :: s1 :: s2 :: s3 :: .pointer (some ⟨b, 0, none⟩) :: s5 :: s6 :: s7 :: s8 :: s9 :: s10 :: s11 :: s12 :: s13 :: s14 :: s15 :: s16 :: s17 :: s18 :: s19 :: s20 :: s21 :: s22 :: s23 :: s24 :: s25 :: s26 :: s27 :: s28 :: s29 :: s30 :: s31 :: s32 :: s33 :: s34 :: s35 :: s36 :: s37 :: s38 :: s39 :: s40 :: s41 :: s42 :: s43 :: s44 :: s45 :: s46 :: s47 :: s48 :: s49 :: s50 :: s51 :: s52 :: s53 :: s54 :: s55 :: s56 :: s57 :: s58 :: s59 :: s60 :: s61 :: s62 :: s63 :: s64 :: s65 :: s66 :: s67 :: s68 :: s69 :: s70 :: s71 :: s72 :: s73 :: s74 :: s75 :: s76 :: s77 :: s78 :: s79 :: s80 :: s81 :: s82 :: s83 :: s84 :: s85 :: s86 :: s87 :: s88 :: s89 :: s90 :: s91 :: s92 :: s93 :: s94 :: s95 :: .slice pp ns.length cap :: .int .i64 ns.length :: .int .i64 0 :: s99 :: s100 :: s101 :: s102 :: s103 :: s104 :: s105 :: s106 :: s107 :: s108 :: s109 :: s110 :: s111 :: s112 :: s113 :: s114 :: s115 :: s116 :: s117 :: s118 :: s119 :: s120 :: s121 :: s122 :: s123 :: s124 :: s125 :: s126 :: s127 :: s128 :: s129 :: s130 :: s131 :: s132 :: s133 :: s134 :: s135 :: s136 :: s137 :: s138 :: s139 :: s140 :: s141 :: s142 :: s143 :: s144 :: s145 :: s146 :: s147 :: s148 :: s149 :: s150 :: s151 :: []), []⟩ w := by
  have hpl : ∀ xs : List Int, (penAll (penNum 1 8) xs).1.length = xs.length := by
    intro xs
    induction xs with
    | nil => rfl
    | cons y ys ih => simp [penAll, penSeq, penNum, ih]
  have hlen : ns.length < 9223372036854775807 := by have := hpl ns; omega
  have hbl := h.lt
  have HNS := hideE hns
  have HP0 := hideE h
  have HL := hideE hl
  have HEX := hideE hexit
  clear hns h hl hexit hpl
  conv => arg 2; whnf
  go_loopw [98] (fun j w' => ∃ k : Nat, j = .int .i64 k ∧ k ≤ ns.length ∧ Pn w' b (l ++ (penAll (penNum 1 8) (ns.take k)).1) (bad || (penAll (penNum 1 8) (ns.take k)).2) ∧ w.grownBy w' (some b)) (fun j _ => ns.length - (intOf j).toNat)
  case atStart => exact ⟨0, rfl, by omega, by simpa [penAll] using unhideE HP0, ⟨rfl, rfl, rfl, Nat.le_refl _, fun _ _ _ => rfl⟩⟩
  case round =>
    obtain ⟨k, rfl, hk, hp, hg⟩ := hrel
    by_cases hlt : k < ns.length
    · have hbd := ints_bound 1 8 ns k hlt
      have hrs := (unhideE HNS).gb hg hbl
      obtain ⟨sb, so, cap', hv, hsb, hc⟩ := hrs.resolve_left (fun c => by rw [c.1] at hlt; simp at hlt)
      injection hv with e1 e2 e3
      subst e1
      have cc := hc k hlt
      have HCALL := hideE (pnum_c b _ _ (ns.getD k 0) 1 8 wr hp (by have := unhideE HL; rw [List.length_append]; omega))
      have HSN := hideE (ints_snoc 1 8 ns k hlt)
      have HG := hideE hg
      clear hc e2 e3 hp hg hbd hrs
      generalize ns.getD k 0 = y at cc HCALL HSN
      go_wp2_with fail
      refine (unhideE HCALL).mono ?_
      rintro e w2 ⟨rfl, hp2, hg2⟩
      have HP2 := hideE hp2
      have HG2 := hideE (gb_tr (unhideE HG) hg2)
      clear hp2 hg2
      go_wp2
      go_roundw
      case rel =>
        refine ⟨k + 1, by go_num, by omega, ?_, unhideE HG2⟩
        have h2 := unhideE HP2
        rw [unhideE HSN]
        simp only [penSeq, penNum, ← List.append_assoc, ← Bool.or_assoc]
        exact h2
      case measure => simp [intOf]; omega
    · obtain rfl : k = ns.length := by omega
      have HP := hideE hp
      have HG := hideE hg
      clear hp hg
      go_wp2_with fail
      exact unhideE HEX _ _ _ _ _ _ _ _ _ wr (by have := unhideE HP; rw [List.take_length] at this; exact this) (unhideE HG)
set_option maxHeartbeats 8000000 in
set_option maxRecDepth 100000 in
theorem loopParams (b : Nat) (l : List UInt8) (bad : Bool) (pp : Option Addr) (cap : Nat) (ps : List (Array Value × (Int × Int))) (w : World) (Q0 : Exit → Act → World → Prop) (s0 s1 s2 s3 s5 s6 s7 s8 s9 s10 s11 s12 s13 s14 s15 s16 s17 s18 s19 s20 s21 s22 s23 s24 s25 s26 s27 s28 s29 s30 s31 s32 s33 s34 s35 s36 s37 s38 s39 s40 s41 s42 s43 s44 s45 s46 s47 s48 s49 s50 s51 s52 s53 s54 s58 s59 s60 s61 s62 s63 s64 s65 s66 s67 s68 s69 s70 s71 s72 s73 s74 s75 s76 s77 s78 s79 s80 s81 s82 s83 s84 s85 s86 s87 s88 s89 s90 s91 s92 s93 s94 s95 s96 s97 s98 s99 s100 s101 s102 s103 s104 s105 s106 s107 s108 s109 s110 s111 s112 s113 s114 s115 s116 s117 s118 s119 s120 s121 s122 s123 s124 s125 s126 s127 s128 s129 s130 s131 s132 s133 s134 s135 s136 s137 s138 s139 s140 s141 s142 s143 s144 s145 s146 s147 s148 s149 s150 s151 : Value)
    (h : Pn w b l bad) (hl : l.length + (penAll penArg (ps.map (·.2))).1.length < 9223372036854775807) (hlen : ps.length < 9223372036854775808) (hns : LsB 2 w b (.slice pp ps.length cap) ps) (hvals : ∀ q ∈ ps, q.1 = #[.int .i64 q.2.1, .int .i64 q.2.2])
    (hexit : ∀ (u10 u57 u58 u59 u60 u61 u62 u63 u64 u65 u66 u67 u68 u69 : Value) (w' : World), Pn w' b (l ++ (penAll penArg (ps.map (·.2))).1) (bad || (penAll penArg (ps.map (·.2))).2) → w.grownBy w' (some b) → Q0 (.exit 4) ⟨List.toArray (s0 :: s1 :: s2 :: s3 :: .pointer (some ⟨b, 0, none⟩) :: s5 :: s6 :: s7 :: s8 :: s9 :: u10 :: s11 :: s12 :: s13 :: s14 :: s15 :: s16 :: s17 :: s18 :: s19 :: s20 :: s21 :: s22 :: s23 :: s24 :: s25 :: s26 :: s27 :: s28 :: s29 :: s30 :: s31 :: s32 :: s33 :: s34 :: s35 :: s36 :: s37 :: s38 :: s39 :: s40 :: s41 :: s42 :: s43 :: s44 :: s45 :: s46 :: s47 :: s48 :: s49 :: s50 :: s51 :: s52 :: s53 :: s54 :: .slice pp ps.length cap :: .int .i64 ps.length :: u57 :: u58 :: u59 :: u60 :: u61 :: u62 :: u63 :: u64 :: u65 :: u66 :: u67 :: u68 :: u69 :: s70 :: s71 :: s72 :: s73 :: s74 :: s75 :: s76 :: s77 :: s78 :: s79 :: s80 :: s81 :: s82 :: s83 :: s84 :: s85 :: s86 :: s87 :: s88 :: s89 :: s90 :: s91 :: s92 :: s93 :: s94 :: s95 :: s96 :: s97 :: s98 :: s99 :: s100 :: s101 :: s102 :: s103 :: s104 :: s105 :: s106 :: s107 :: s108 :: s109 :: s110 :: s111 :: s112 :: s113 :: s114 :: s115 :: s116 :: s117 :: s118 :: s119 :: s120 :: s121 :: s122 :: s123 :: s124 :: s125 :: s126 :: s127 :: s128 :: s129 :: s130 :: s131 :: s132 :: s133 :: s134 :: s135 :: s136 :: s137 :: s138 :: s139 :: s140 :: s141 :: s142 :: s143 :: s144 :: s145 :: s146 :: s147 :: s148 :: s149 :: s150 :: s151 :: []), []⟩ w') :
    Code.wp Tryd.prog (encLoop Tryd.f6 2) Q0 ⟨List.toArray (s0 :: s1 :: s2 :: s3 :: .pointer (some ⟨b, 0, none⟩) :: s5 :: s6 :: s7 :: s8 :: s9 :: s10 :: s11 :: s12 :: s13 :: s14 :: s15 :: s16 :: s17 :: s18 :: s19 :: s20 :: s21 :: s22 :: s23 :: s24 :: s25 :: s26 :: s27 :: s28 :: s29 :: s30 :: s31 :: s32 :: s33 :: s34 :: s35 :: s36 :: s37 :: s38 :: s39 :: s40 :: s41 :: s42 :: s43 :: s44 :: s45 :: s46 :: s47 :: s48 :: s49 :: s50 :: s51 :: s52 :: s53 :: s54 :: .slice pp ps.length cap :: .int .i64 ps.length :: .int .i64 0 :: s58 :: s59 :: s60 :: s61 :: s62 :: s63 :: s64 :: s65 :: s66 :: s67 :: s68 :: s69 :: s70 :: s71 :: s72 :: s73 :: s74 :: s75 :: s76 :: s77 :: s78 :: s79 :: s80 :: s81 :: s82 :: s83 :: s84 :: s85 :: s86 :: s87 :: s88 :: s89 :: s90 :: s91 :: s92 :: s93 :: s94 :: s95 :: s96 :: s97 :: s98 :: s99 :: s100 :: s101 :: s102 :: s103 :: s104 :: s105 :: s106 :: s107 :: s108 :: s109 :: s110 :: s111 :: s112 :: s113 :: s114 :: s115 :: s116 :: s117 :: s118 :: s119 :: s120 :: s121 :: s122 :: s123 :: s124 :: s125 :: s126 :: s127 :: s128 :: s129 :: s130 :: s131 :: s132 :: s133 :: s134 :: s135 :: s136 :: s137 :: s138 :: s139 :: s140 :: s141 :: s142 :: s143 :: s144 :: s145 :: s146 :: s147 :: s148 :: s149 :: s150 :: s151 :: []), []⟩ w := by
  have hbl := h.lt
  have HNS := hideE hns
  have HP0 := hideE h
  have HL := hideE hl
  have HEX := hideE hexit
  have HV := hideE hvals
  clear hns h hl hexit
  conv => arg 2; whnf
  go_loopw [57] (fun j w' => ∃ k : Nat, j = .int .i64 k ∧ k ≤ ps.length ∧ Pn w' b (l ++ (penAll penArg ((ps.take k).map (·.2))).1) (bad || (penAll penArg ((ps.take k).map (·.2))).2) ∧ w.grownBy w' (some b)) (fun j _ => ps.length - (intOf j).toNat)
  case atStart => exact ⟨0, rfl, by omega, by simpa [penAll] using unhideE HP0, ⟨rfl, rfl, rfl, Nat.le_refl _, fun _ _ _ => rfl⟩⟩
  case round =>
    obtain ⟨k, rfl, hk, hp, hg⟩ := hrel
    by_cases hlt : k < ps.length
    · have hbd := map_bound penArg ps k hlt
      have hrs := (unhideE HNS).gb hg hbl
      obtain ⟨sb, so, cap', hv, hsb, hc⟩ := hrs.resolve_left (fun c => by rw [c.1] at hlt; simp at hlt)
      injection hv with e1 e2 e3
      subst e1
      have hrg := hc k hlt
      have HSN := hideE (map_snoc penArg ps k hlt)
      have hmem := List.getElem_mem hlt
      clear hc e2 e3 hrs
      have hval := (unhideE HV) ps[k] hmem
      generalize ps[k] = y at hrg hval HSN hbd
      obtain ⟨arr, y1, y2⟩ := y
      simp only at hrg hval HSN hbd
      subst hval
      obtain ⟨R, hR⟩ : ∃ R, R = penAll penArg ((ps.take k).map (·.2)) := ⟨_, rfl⟩
      rw [← hR] at hp HSN hbd
      have hb2 : l.length + R.1.length + 2 < 9223372036854775807 := by
        have := unhideE HL
        have e : (penArg (y1, y2)).1.length = 2 := rfl
        rw [e] at hbd
        omega
      have HRG := hideE hrg
      have HC1 := hideE (fun X : Obj => pnum_c b (l ++ R.1) (bad || R.2) y1 0 8 (wr.alloc X) (hp.alloc X) (by simp only [List.length_append]; omega))
      have HG := hideE hg
      have hbr := hp.lt
      clear hR hp hg hrg hbd
      go_wp2_with (refine wpList_load_mid rfl 60 (.tmp 59) rfl sb (so + k * 2) rfl [.int .i64 y1, .int .i64 y2] _ (unhideE HRG) Tryd.underlying60 rfl (Tryd.infParamsZ.trans rfl) ?_)
      refine (unhideE HC1 _).mono ?_
      rintro e w3 ⟨rfl, hp3, hg3⟩
      have hrow3 := (hg3.block wr.heap.size (by simp) (by intro e; injection e with e; omega)).trans (heap_alloc_new wr _)
      have c1 := (cells_of_row hrow3 1).trans rfl
      have HC2 := hideE (pnum_c b _ _ y2 0 255 w3 hp3 (by simp only [List.length_append, List.length_singleton]; omega))
      have HG3 := hideE (gb_tr (unhideE HG) (gb_tr (gb_alloc wr _ (some b)) hg3))
      clear hrow3 hp3 hg3 HC1 HRG HG
      go_wp2_with fail
      refine (unhideE HC2).mono ?_
      rintro e w4 ⟨rfl, hp4, hg4⟩
      have HPZ := hideE (show Pn w4 b (l ++ R.1 ++ (penArg (y1, y2)).1) (bad || R.2 || (penArg (y1, y2)).2) by simpa [penArg, penSeq, penNum, Bool.or_assoc] using hp4)
      have HGZ := hideE (gb_tr (unhideE HG3) hg4)
      clear hp4 hg4 HC2 HG3
      go_wp2
      go_roundw
      case rel =>
        refine ⟨k + 1, by go_num, by omega, ?_, unhideE HGZ⟩
        have h2 := unhideE HPZ
        rw [unhideE HSN]
        simp only [penSeq, ← List.append_assoc, ← Bool.or_assoc]
        exact h2
      case measure => simp [intOf]; omega
    · obtain rfl : k = ps.length := by omega
      have HP := hideE hp
      have HG := hideE hg
      clear hp hg
      go_wp2_with fail
      exact unhideE HEX _ _ _ _ _ _ _ _ _ _ _ _ _ _ wr (by have := unhideE HP; rw [List.take_length] at this; exact this) (unhideE HG)
set_option maxHeartbeats 8000000 in
set_option maxRecDepth 100000 in
theorem loopIns (b : Nat) (l : List UInt8) (bad : Bool) (pp : Option Addr) (cap : Nat) (ps : List (Array Value × (InsE))) (w : World) (Q0 : Exit → Act → World → Prop) (s0 s1 s2 s3 s5 s6 s7 s8 s9 s10 s11 s12 s13 s14 s15 s16 s17 s18 s19 s20 s21 s22 s23 s24 s25 s26 s27 s28 s29 s30 s31 s32 s33 s34 s35 s36 s37 s38 s39 s40 s41 s42 s43 s44 s45 s46 s47 s48 s49 s50 s51 s52 s53 s54 s55 s56 s57 s58 s59 s60 s61 s62 s63 s64 s65 s66 s67 s68 s69 s70 s71 s72 s73 s74 s75 s76 s77 s78 s79 s80 s81 s82 s83 s84 s85 s86 s87 s88 s89 s90 s91 s92 s93 s94 s95 s96 s97 s98 s99 s100 s101 s102 s103 s104 s105 s106 s107 s108 s109 s110 s111 s112 s113 s114 s115 s116 s117 s118 s119 s120 s121 s125 s126 s127 s128 s129 s130 s131 s132 s133 s134 s135 s136 s137 s138 s139 s140 s141 s142 s143 s144 s145 s146 s147 s148 s149 s150 s151 : Value)
    (h : Pn w b l bad) (hl : l.length + (penAll penIns (ps.map (·.2))).1.length < 9223372036854775807) (hlen : ps.length < 9223372036854775808) (hns : LsB 8 w b (.slice pp ps.length cap) ps) (hvals : ∀ q ∈ ps, InsAt w b q) (hnn : ∀ q ∈ ps, 0 ≤ q.2.n ∧ q.2.n < 18446744073709551616)
    (hexit : ∀ (u18 u124 u125 u126 u127 u128 u129 u130 u131 : Value) (w' : World), Pn w' b (l ++ (penAll penIns (ps.map (·.2))).1) (bad || (penAll penIns (ps.map (·.2))).2) → w.grownBy w' (some b) → Q0 (.exit 12) ⟨List.toArray (s0 :: s1 :: s2 :: s3 :: .pointer (some ⟨b, 0, none⟩) :: s5 :: s6 :: s7 :: s8 :: s9 :: s10 :: s11 :: s12 :: s13 :: s14 :: s15 :: s16 :: s17 :: u18 :: s19 :: s20 :: s21 :: s22 :: s23 :: s24 :: s25 :: s26 :: s27 :: s28 :: s29 :: s30 :: s31 :: s32 :: s33 :: s34 :: s35 :: s36 :: s37 :: s38 :: s39 :: s40 :: s41 :: s42 :: s43 :: s44 :: s45 :: s46 :: s47 :: s48 :: s49 :: s50 :: s51 :: s52 :: s53 :: s54 :: s55 :: s56 :: s57 :: s58 :: s59 :: s60 :: s61 :: s62 :: s63 :: s64 :: s65 :: s66 :: s67 :: s68 :: s69 :: s70 :: s71 :: s72 :: s73 :: s74 :: s75 :: s76 :: s77 :: s78 :: s79 :: s80 :: s81 :: s82 :: s83 :: s84 :: s85 :: s86 :: s87 :: s88 :: s89 :: s90 :: s91 :: s92 :: s93 :: s94 :: s95 :: s96 :: s97 :: s98 :: s99 :: s100 :: s101 :: s102 :: s103 :: s104 :: s105 :: s106 :: s107 :: s108 :: s109 :: s110 :: s111 :: s112 :: s113 :: s114 :: s115 :: s116 :: s117 :: s118 :: s119 :: s120 :: s121 :: .slice pp ps.length cap :: .int .i64 ps.length :: u124 :: u125 :: u126 :: u127 :: u128 :: u129 :: u130 :: u131 :: s132 :: s133 :: s134 :: s135 :: s136 :: s137 :: s138 :: s139 :: s140 :: s141 :: s142 :: s143 :: s144 :: s145 :: s146 :: s147 :: s148 :: s149 :: s150 :: s151 :: []), []⟩ w') :
    Code.wp Tryd.prog (encLoop Tryd.f6 6) Q0 ⟨List.toArray (s0 :: s1 :: s2 :: s3 :: .pointer (some ⟨b, 0, none⟩) :: s5 :: s6 :: s7 :: s8 :: s9 :: s10 :: s11 :: s12 :: s13 :: s14 :: s15 :: s16 :: s17 :: s18 :: s19 :: s20 :: s21 :: s22 :: s23 :: s24 :: s25 :: s26 :: s27 :: s28 :: s29 :: s30 :: s31 :: s32 :: s33 :: s34 :: s35 :: s36 :: s37 :: s38 :: s39 :: s40 :: s41 :: s42 :: s43 :: s44 :: s45 :: s46 :: s47 :: s48 :: s49 :: s50 :: s51 :: s52 :: s53 :: s54 :: s55 :: s56 :: s57 :: s58 :: s59 :: s60 :: s61 :: s62 :: s63 :: s64 :: s65 :: s66 :: s67 :: s68 :: s69 :: s70 :: s71 :: s72 :: s73 :: s74 :: s75 :: s76 :: s77 :: s78 :: s79 :: s80 :: s81 :: s82 :: s83 :: s84 :: s85 :: s86 :: s87 :: s88 :: s89 :: s90 :: s91 :: s92 :: s93 :: s94 :: s95 :: s96 :: s97 :: s98 :: s99 :: s100 :: s101 :: s102 :: s103 :: s104 :: s105 :: s106 :: s107 :: s108 :: s109 :: s110 :: s111 :: s112 :: s113 :: s114 :: s115 :: s116 :: s117 :: s118 :: s119 :: s120 :: s121 :: .slice pp ps.length cap :: .int .i64 ps.length :: .int .i64 0 :: s125 :: s126 :: s127 :: s128 :: s129 :: s130 :: s131 :: s132 :: s133 :: s134 :: s135 :: s136 :: s137 :: s138 :: s139 :: s140 :: s141 :: s142 :: s143 :: s144 :: s145 :: s146 :: s147 :: s148 :: s149 :: s150 :: s151 :: []), []⟩ w := by
  have hbl := h.lt
  have HNS := hideE hns
  have HP0 := hideE h
  have HL := hideE hl
  have HEX := hideE hexit
  have HV := hideE hvals
  have HNN := hideE hnn
  clear hvals hnn
  clear hns h hl hexit
  conv => arg 2; whnf
  go_loopw [124] (fun j w' => ∃ k : Nat, j = .int .i64 k ∧ k ≤ ps.length ∧ Pn w' b (l ++ (penAll penIns ((ps.take k).map (·.2))).1) (bad || (penAll penIns ((ps.take k).map (·.2))).2) ∧ w.grownBy w' (some b)) (fun j _ => ps.length - (intOf j).toNat)
  case atStart => exact ⟨0, rfl, by omega, by simpa [penAll] using unhideE HP0, ⟨rfl, rfl, rfl, Nat.le_refl _, fun _ _ _ => rfl⟩⟩
  case round =>
    obtain ⟨k, rfl, hk, hp, hg⟩ := hrel
    by_cases hlt : k < ps.length
    · have hbd := map_bound penIns ps k hlt
      have hrs := (unhideE HNS).gb hg hbl
      obtain ⟨sb, so, cap', hv, hsb, hc⟩ := hrs.resolve_left (fun c => by rw [c.1] at hlt; simp at hlt)
      injection hv with e1 e2 e3
      subst e1
      have hrg := hc k hlt
      have HSN := hideE (map_snoc penIns ps k hlt)
      have hmem := List.getElem_mem hlt
      clear hc e2 e3 hrs
      obtain ⟨av, ov, pa, hval, hpa, hpv, hla, hro, hs1, hs2⟩ := (unhideE HV) ps[k] hmem
      have hnn := (unhideE HNN) ps[k] hmem
      generalize ps[k] = y at hrg hval HSN hbd hpa hro hs1 hs2 hnn
      obtain ⟨arr, i⟩ := y
      simp only at hrg hval HSN hbd hpa hro hs1 hs2 hnn
      subst hval
      obtain ⟨ap, ac, hav⟩ := hla.shape
      obtain ⟨op', oc, hov⟩ := hro.shape
      have hpl : pa.length = i.args.length := by rw [← hpa]; simp
      obtain ⟨R, hR⟩ : ∃ R, R = penAll penIns ((ps.take k).map (·.2)) := ⟨_, rfl⟩
      rw [← hR] at hp HSN hbd
      have HRG := hideE hrg
      have HCALL := hideE (fun X : Obj => pins_c b (l ++ R.1) (bad || R.2) i av ov (wr.alloc X) (hp.alloc X) (by have := unhideE HL; simp only [List.length_append]; omega) hnn pa hpa hpv (hla.same (same_gb (gb_tr hg (gb_alloc wr X (some b))) (by omega))) (hro.same (same_gb (gb_tr hg (gb_alloc wr X (some b))) (by omega))))
      have HG := hideE hg
      clear hR hp hg hrg hbd hla hro hpa hpv hnn
      rw [hpl] at hav
      subst hav hov
      clear hpl
      obtain ⟨fop, fd, fa, fb, fn, ff, fargs, fouts⟩ := i
      simp only at HRG HCALL HSN hs1 hs2
      go_wp2_with (first | (refine wpList_load_mid rfl 65 (.tmp 126) rfl sb (so + k * 8) rfl [.int .i64 fop, .int .i64 fd, .int .i64 fa, .int .i64 fb, .int .u64 fn, .int .i64 ff, .slice ap fargs.length ac, .slice op' fouts.length oc] _ (unhideE HRG) Tryd.underlying65 rfl (Tryd.infInsZ.trans rfl) ?_) | (refine wpList_load_row rfl 65 (.tmp 18) rfl wr.heap.size rfl 65 #[.int .i64 fop, .int .i64 fd, .int .i64 fa, .int .i64 fb, .int .u64 fn, .int .i64 ff, .slice ap fargs.length ac, .slice op' fouts.length oc] (0, 0) _ (heap_alloc_new _ _) Tryd.underlying65 rfl (Tryd.infInsZ.trans rfl) ?_))
      refine (unhideE HCALL _).mono ?_
      rintro e w3 ⟨rfl, hp3, hg3⟩
      have HPZ := hideE hp3
      have HGZ := hideE (gb_tr (unhideE HG) (gb_tr (gb_alloc wr _ (some b)) hg3))
      clear hp3 hg3 HCALL HRG HG
      go_wp2
      go_roundw
      case rel =>
        refine ⟨k + 1, by go_num, by omega, ?_, unhideE HGZ⟩
        have h2 := unhideE HPZ
        rw [unhideE HSN]
        simp only [penSeq, ← List.append_assoc, ← Bool.or_assoc]
        exact h2
      case measure => simp [intOf]; omega
    · obtain rfl : k = ps.length := by omega
      have HP := hideE hp
      have HG := hideE hg
      clear hp hg
      go_wp2_with fail
      exact unhideE HEX _ _ _ _ _ _ _ _ _ wr (by have := unhideE HP; rw [List.take_length] at this; exact this) (unhideE HG)
theorem Pn.seq {w : World} {b : Nat} {l : List UInt8} {bad : Bool} {X A : Pr} (h : Pn w b (l ++ X.1 ++ A.1) (bad || X.2 || A.2)) : Pn w b (l ++ (penSeq X A).1) (bad || (penSeq X A).2) := by
  simpa only [penSeq, ← List.append_assoc, ← Bool.or_assoc] using h
theorem penNum_len (lo hi x : Int) : (penNum lo hi x).1.length = 1 := rfl
end Go.Proofs.YthnmdbddfmgdlaaDoor
