/-
  Decodes: prologueref.Decode by its contract. Own work of the verifier.
-/
import Derived.Test.YthnmdbddfmgdlaaDoorDecZ
namespace Go.Proofs.YthnmdbddfmgdlaaDoor
open Go.RowKit

theorem Tryd.infFltK : (Tryd.prog.info? 30).map (·.size) = some 4 := by kernel_rfl
theorem placed_e (n q : Int) (w : World) : Calls Tryd.prog 20 #[.int .i64 n, .int .i64 q] w fun e w' => e = .returned (.agg #[.int .i64 n, .int .i64 (-1), .int .i64 (-1), .int .i64 q]) ∧ Below w.heap.size w w' := by
  go_enter Tryd.func20, Tryd.ntmps20
  go_wp2
  go_returns
  exact ⟨rfl, by go_grown⟩
def pg0 (s : ByteArray) : Except Nat (Int × Nat) := dNum s 70 70 0
def pg1 (s : ByteArray) : Except Nat (Int × Nat) := sBind (stOf (pg0 s)) (dNum s 49 49)
def pg2 (s : ByteArray) : Except Nat (Int × Nat) := sBind (stOf (pg1 s)) (dNum s 0 4)
def pgE (s : ByteArray) : Except Nat (List (List Int × Int) × Nat) := dMany (pg2 s) (dSig s)
def pg3 (s : ByteArray) : Except Nat (Int × Nat) := sBind (stOf (pgE s)) (dNum s 1 8)
def pgF (s : ByteArray) : Except Nat (List FuncE × Nat) := dMany (pg3 s) (dFunc s)
theorem pg_all (s : ByteArray) : stOf (pgF s) = stOf (dProg s 0) ∧ ∀ p a, dProg s 0 = .ok (p, a) → (∃ x, pgE s = .ok (p.externs, x)) ∧ ∃ x, pgF s = .ok (p.funcs, x) := by
  unfold dProg
  cases h0 : dNum s 70 70 0 with
  | error q =>
    have e0 : pg0 s = .error q := h0
    have e1 : pg1 s = .error q := by unfold pg1; rw [e0]; rfl
    have e2 : pg2 s = .error q := by unfold pg2; rw [e1]; rfl
    have e3 : pgE s = .error q := by unfold pgE; rw [e2]; rfl
    have e4 : pg3 s = .error q := by unfold pg3; rw [e3]; rfl
    have e5 : pgF s = .error q := by unfold pgF; rw [e4]; rfl
    rw [e5]
    exact ⟨rfl, fun f a' h => by cases h⟩
  | ok p =>
    obtain ⟨x0, a0⟩ := p
    have e0 : pg0 s = .ok (x0, a0) := h0
    have e1 : pg1 s = dNum s 49 49 a0 := by unfold pg1; rw [e0]; rfl
    rw [dBind_ok]
    cases h1 : dNum s 49 49 a0 with
    | error q =>
      rw [h1] at e1
      have e2 : pg2 s = .error q := by unfold pg2; rw [e1]; rfl
      have e3 : pgE s = .error q := by unfold pgE; rw [e2]; rfl
      have e4 : pg3 s = .error q := by unfold pg3; rw [e3]; rfl
      have e5 : pgF s = .error q := by unfold pgF; rw [e4]; rfl
      rw [e5]
      exact ⟨rfl, fun f a' h => by cases h⟩
    | ok p =>
      obtain ⟨x1, a1⟩ := p
      rw [h1] at e1
      have e3 : pgE s = dList s 0 4 (dSig s) a1 := by unfold pgE pg2; rw [e1]; rfl
      rw [dBind_ok]
      cases h2 : dList s 0 4 (dSig s) a1 with
      | error q =>
        rw [h2] at e3
        have e4 : pg3 s = .error q := by unfold pg3; rw [e3]; rfl
        have e5 : pgF s = .error q := by unfold pgF; rw [e4]; rfl
        rw [e5]
        exact ⟨rfl, fun f a' h => by cases h⟩
      | ok p =>
        obtain ⟨es, a2⟩ := p
        rw [h2] at e3
        have e5 : pgF s = dList s 1 8 (dFunc s) a2 := by unfold pgF pg3; rw [e3]; rfl
        rw [dBind_ok]
        cases h3 : dList s 1 8 (dFunc s) a2 with
        | error q =>
          rw [h3] at e5
          rw [e5]
          exact ⟨rfl, fun f a' h => by cases h⟩
        | ok p =>
          obtain ⟨fs, a3⟩ := p
          rw [h3] at e5
          rw [e5]
          refine ⟨rfl, fun f a' h => ?_⟩
          injection h with h
          injection h with h6 h7
          subst h6
          exact ⟨⟨_, e3⟩, _, rfl⟩
set_option maxHeartbeats 4000000 in
set_option maxRecDepth 100000 in
theorem rdecode_big (s : ByteArray) (w : World) (hs : ¬ s.size ≤ 4000) : Calls Tryd.prog 9 #[.string s] w (DecV s w) := by
  have hO : decOut s = .error (4, 0) := if_neg hs
  have HE := hideE (show dErr s = 4 ∧ dAt s = 0 ∧ dPrg s = ⟨[], []⟩ by unfold dErr dAt dPrg; rw [hO]; exact ⟨rfl, rfl, rfl⟩)
  have hs' : (4000 : Int) < s.size := by omega
  clear hO
  go_enter Tryd.func9, Tryd.ntmps9
  go_wp2_with fail
  have hbl : Below w.heap.size w ((w.alloc (.cells #[.slice none 0 0, .slice none 0 0] 25)).alloc (.cells #[.int .i64 0, .int .i64 0, .int .i64 0, .int .i64 0] 30)) := by go_grown
  have hr0 : (((w.alloc (.cells #[.slice none 0 0, .slice none 0 0] 25)).alloc (.cells #[.int .i64 0, .int .i64 0, .int .i64 0, .int .i64 0] 30))).heap[w.heap.size]? = some (.cells #[.slice none 0 0, .slice none 0 0] 25 (0, 0)) := heap_alloc2_old _ _ _
  have hr1 : (((w.alloc (.cells #[.slice none 0 0, .slice none 0 0] 25)).alloc (.cells #[.int .i64 0, .int .i64 0, .int .i64 0, .int .i64 0] 30))).heap[w.heap.size + 1]? = some (.cells #[.int .i64 0, .int .i64 0, .int .i64 0, .int .i64 0] 30 (0, 0)) := heap_alloc2_new _ _ _
  have hsz : (((w.alloc (.cells #[.slice none 0 0, .slice none 0 0] 25)).alloc (.cells #[.int .i64 0, .int .i64 0, .int .i64 0, .int .i64 0] 30))).heap.size = w.heap.size + 1 + 1 := by simp
  generalize (w.alloc _).alloc _ = W at hbl hr0 hr1 hsz ⊢
  refine (placed_e 4 0 W).mono ?_
  rintro e w1 ⟨rfl, hb1⟩
  have q0 := (hb1.block w.heap.size (by omega)).trans hr0
  have q1 := (hb1.block (w.heap.size + 1) (by omega)).trans hr1
  have HQ0 := hideE q0
  have HQ1 := hideE ((setRow_other w1 w.heap.size (w.heap.size + 1) #[.slice none 0 0, .slice none 0 0] (by omega)).trans q1)
  have HB := hideE (hbl.trans (⟨hb1.os, hb1.tape, hb1.output, hb1.size, fun q hq => hb1.block q (by omega)⟩ : Below w.heap.size W w1))
  clear hr0 hr1 hbl hb1 q0 q1
  go_wp2_with (first | (refine wpList_store_row rfl 25 (.tmp 2) (.tmp 18) rfl w.heap.size #[.slice none 0 0, .slice none 0 0] rfl rfl 25 _ (unhideE HQ0) (Tryd.infProgD.trans rfl) rfl (by simp [Value.oneCell']) ?_) | (refine wpList_store_row rfl 30 (.tmp 3) (.tmp 19) rfl (w.heap.size + 1) #[.int .i64 4, .int .i64 (-1), .int .i64 (-1), .int .i64 0] rfl rfl 30 _ (unhideE HQ1) (Tryd.infFltK.trans rfl) rfl (by simp [Value.oneCell']) ?_))
  refine bodyPost_ret (results_cells (fn := Tryd.f9) (p := 2) (q := 3) (px := 25) (uy := 30) rfl _ _ w.heap.size 25 #[.slice none 0 0, .slice none 0 0] (0, 0) _ (w.heap.size + 1) 30 #[.int .i64 4, .int .i64 (-1), .int .i64 (-1), .int .i64 0] (0, 0) _ rfl ((setRow_other _ _ _ _ (by omega)).trans (setRow_heap _ _ _ _ _ _ (unhideE HQ0))) Tryd.underlying25 rfl (Tryd.infProgD.trans rfl) rfl (setRow_heap _ _ _ _ _ _ (unhideE HQ1)) Tryd.underlying30 rfl (Tryd.infFltK.trans rfl)) rfl ?_
  obtain ⟨e1, e2, e3⟩ := unhideE HE
  refine ⟨below_setRow (below_setRow (unhideE HB) (Nat.le_refl _) _) (by omega) _, _, _, by rw [e1, e2], ?_⟩
  rw [e3]
  exact ⟨_, _, rfl, RepL.nil _ _ _ _ _, RepL.nil _ _ _ _ _⟩
set_option maxHeartbeats 16000000 in
set_option maxRecDepth 100000 in
theorem rdecode_small (s : ByteArray) (w : World) (hs : s.size ≤ 4000) : Calls Tryd.prog 9 #[.string s] w (DecV s w) := by
  have hO : decOut s = (match dProg s 0 with | .error q => .error (3, q) | .ok (p, a) => if a < s.size then .error (3, a) else .ok p) := if_pos hs
  have HO := hideE hO
  have hs' : ¬ ((4000 : Int) < s.size) := by omega
  clear hO
  go_enter Tryd.func9, Tryd.ntmps9
  go_wp2_with fail
  have hbl : Below w.heap.size w (((w.alloc (.cells #[.slice none 0 0, .slice none 0 0] 25)).alloc (.cells #[.int .i64 0, .int .i64 0, .int .i64 0, .int .i64 0] 30)).alloc (.cells #[.string s, .int .i64 0, .int .i64 (-1)] 74)) := by go_grown
  have hr0 : ((((w.alloc (.cells #[.slice none 0 0, .slice none 0 0] 25)).alloc (.cells #[.int .i64 0, .int .i64 0, .int .i64 0, .int .i64 0] 30)).alloc (.cells #[.string s, .int .i64 0, .int .i64 (-1)] 74))).heap[w.heap.size]? = some (.cells #[.slice none 0 0, .slice none 0 0] 25 (0, 0)) := ((gb_alloc _ _ none).block _ (by simp; omega) (by simp)).trans (heap_alloc2_old _ _ _)
  have hr1 : ((((w.alloc (.cells #[.slice none 0 0, .slice none 0 0] 25)).alloc (.cells #[.int .i64 0, .int .i64 0, .int .i64 0, .int .i64 0] 30)).alloc (.cells #[.string s, .int .i64 0, .int .i64 (-1)] 74))).heap[w.heap.size + 1]? = some (.cells #[.int .i64 0, .int .i64 0, .int .i64 0, .int .i64 0] 30 (0, 0)) := ((gb_alloc _ _ none).block _ (by simp) (by simp)).trans (heap_alloc2_new _ _ _)
  have hr2 : ((((w.alloc (.cells #[.slice none 0 0, .slice none 0 0] 25)).alloc (.cells #[.int .i64 0, .int .i64 0, .int .i64 0, .int .i64 0] 30)).alloc (.cells #[.string s, .int .i64 0, .int .i64 (-1)] 74))).heap[w.heap.size + 1 + 1]? = some (.cells #[.string s, .int .i64 0, .int .i64 (-1)] 74 (0, 0)) := by
    have := heap_alloc_new ((w.alloc (.cells #[.slice none 0 0, .slice none 0 0] 25)).alloc (.cells #[.int .i64 0, .int .i64 0, .int .i64 0, .int .i64 0] 30)) (.cells #[.string s, .int .i64 0, .int .i64 (-1)] 74)
    simpa using this
  have hsz : ((((w.alloc (.cells #[.slice none 0 0, .slice none 0 0] 25)).alloc (.cells #[.int .i64 0, .int .i64 0, .int .i64 0, .int .i64 0] 30)).alloc (.cells #[.string s, .int .i64 0, .int .i64 (-1)] 74))).heap.size = w.heap.size + 1 + 1 + 1 := by simp
  generalize ((w.alloc _).alloc _).alloc _ = W at hbl hr0 hr1 hr2 hsz ⊢
  obtain ⟨b, hb⟩ : ∃ b, b = w.heap.size + 1 + 1 := ⟨_, rfl⟩
  rw [← hb] at hr2 ⊢
  have hb1 : b ≤ w.heap.size + 2 := by omega
  have hb2 : w.heap.size + 2 ≤ b := by omega
  have hey : EyS W b s (.ok 0) := (⟨(cells_of_row hr2 0).trans rfl, (cells_of_row hr2 1).trans rfl, (cells_of_row hr2 2).trans rfl, frozen_of_row _ _ _ _ _ hr2, frozen_of_row _ _ _ _ _ hr2, Nat.zero_le _, hs⟩ : Ey W b s 0 (-1))
  clear hb hr2
  refine (enum_c b s (.ok 0) 70 70 W hey).mono ?_
  rintro e w1 ⟨rfl, hg1, hE1⟩
  have hE1' : EyS w1 b s (stOf (pg0 s)) := hE1
  have HE1 := hideE hE1'
  have HG1 := hideE hg1
  clear hE1 hE1' hg1 hey
  go_wp2_with fail
  refine (enum_c b s (stOf (pg0 s)) 49 49 w1 (unhideE HE1)).mono ?_
  rintro e w2 ⟨rfl, hg2, hE2⟩
  have hE2' : EyS w2 b s (stOf (pg1 s)) := hE2
  have hgW := gb_tr (unhideE HG1) hg2
  have hsW := hgW.size
  have HR0 := hideE (row_staysD hr0 hgW (by omega))
  have HR1 := hideE (row_staysD hr1 hgW (by omega))
  have HBEL := hideE (hbl.trans (⟨hgW.os, hgW.tape, hgW.output, hgW.size, fun q hq => hgW.block q (by omega) (by intro e; injection e with e; omega)⟩ : Below w.heap.size W w2))
  have HE2 := hideE hE2'
  clear hE2 hE2' hg2 hgW hr0 hr1 hbl HE1 HG1
  go_wp2_with fail
  have hal := (Below.refl w2.heap.size w2).alloc (Nat.le_refl _) (.cells #[.slice none 0 0, .slice none 0 0] 25 (0, 0))
  have hVz : (w2.alloc (.cells #[.slice none 0 0, .slice none 0 0] 25 (0, 0))).heap.size = w2.heap.size + 1 := by simp
  have hel : EL (w2.alloc (.cells #[.slice none 0 0, .slice none 0 0] 25 (0, 0))) (w2.alloc (.cells #[.slice none 0 0, .slice none 0 0] 25 (0, 0))) b w2.heap.size s (stOf (pg1 s)) 25 #[.slice none 0 0, .slice none 0 0] := ⟨(unhideE HE2).alloc _, heap_alloc_new _ _, G2.refl _ _ _, by omega, by omega, by omega⟩
  obtain ⟨T5, hT5⟩ : ∃ T, T = w2.heap.size := ⟨_, rfl⟩
  rw [← hT5] at hel hVz ⊢
  generalize w2.alloc (.cells #[.slice none 0 0, .slice none 0 0] 25 (0, 0)) = V at hel hal hVz ⊢
  have HV0 := hideE ((hal.block w.heap.size (by omega)).trans (unhideE HR0))
  have HV1 := hideE ((hal.block (w.heap.size + 1) (by omega)).trans (unhideE HR1))
  have HBV := hideE ((unhideE HBEL).trans (⟨hal.os, hal.tape, hal.output, hal.size, fun q hq => hal.block q (by omega)⟩ : Below w.heap.size w2 V))
  have hT1 : b < T5 := by omega
  clear hal HR0 HR1 HBEL HE2 hT5
  refine (enum_c b s (stOf (pg1 s)) 0 4 V hel.ey).mono ?_
  rintro e v1 ⟨rfl, hg, hE⟩
  have hl1 : EL V v1 b T5 s (stOf (pg2 s)) 25 #[.slice none 0 0, .slice none 0 0] := hel.call hE hg
  rw [show valOr (sBind (stOf (pg1 s)) (dNum s 0 4)) = valOr (pg2 s) from rfl]
  have HL1 := hideE hl1
  have hz1 := hl1.g.size
  clear hg hE hel hl1
  go_wp2_with fail
  refine decExternsG b T5 s (.slice none 0 0) (pg2 s) v1 _ _ _ _ _ _ _ _ _ _ _ _ _ _ _ _ _ _ _ _ _ _ _ _ _ _ _ _ _ _ _ _ _ _ _ _ _ _ _ _ _ _ _ _ _ _ _ _ _ _ _ _ _ _ _ _ _ _ _ _ _ _ _ _ _ _ _ _ _ _ _ _ _ _ _ _ _ _ _ _ _ _ _ _ _ _ _ _ _ _ _ _ _ _ _ _ _ _ _ _ _ _ _ _ _ _ _ _ _ _ _ _ _ _ _ _ _ _ _ _ _ _ _ _ _ _ _ _ _ _ _ _ _ _ _ _ _ _ _ _ _ _ _ _ _ _ _ _ _ _ _ _ _ _ _ _ _ _ _ _ _ _ _ _ _ _ _ _ _ _ _ _ (fun n a hh => by
    unfold pg2 at hh
    cases hst : stOf (pg1 s) with
    | error q => rw [hst] at hh; cases hh
    | ok a' => rw [hst] at hh; have := dNum_bd (show dNum s 0 4 a' = .ok (n, a) from hh); omega) (unhideE HL1).restart ?_
  intro u6 u7 u29 u30 u31 u32 u33 u34 u35 u36 u37 u38 u39 u40 u41 u42 u43 u44 u45 u46 u47 u48 u49 u50 v2 ev hl2 hev hrepE
  obtain ⟨ep, en, ec, rfl⟩ := hev
  have HL2 := hideE (show EL V v2 b T5 s (stOf (pgE s)) 25 #[.slice none 0 0, .slice ep en ec] from (unhideE HL1).trans hl2)
  have HRE := hideE (fun xs a (hh : pgE s = .ok (xs, a)) => show RepL v2 V.heap.size 53 2 (RSig v2 V.heap.size) (.slice ep en ec) xs from (hrepE xs a hh).keep hz1 (fun _ _ _ => rfl) (fun _ _ h => mono_RSig _ _ _ _ _ _ hz1 (fun _ _ _ => rfl) h))
  clear hl2 hrepE HL1
  go_wp2_with fail
  refine (enum_c b s (stOf (pgE s)) 1 8 v2 (unhideE HL2).ey).mono ?_
  rintro e v3 ⟨rfl, hg, hE⟩
  have hl3 : EL V v3 b T5 s (stOf (pg3 s)) 25 #[.slice none 0 0, .slice ep en ec] := (unhideE HL2).call hE hg
  have HK3 := hideE ((unhideE HL2).kept hg)
  have hs3 := hg.size
  rw [show valOr (sBind (stOf (pgE s)) (dNum s 1 8)) = valOr (pg3 s) from rfl]
  have HL3 := hideE hl3
  have hz3 := hl3.g.size
  clear hg hE hl3 HL2
  go_wp2_with fail
  refine decFuncsG b T5 s (.slice ep en ec) (pg3 s) v3 _ _ _ _ _ _ _ _ _ _ _ _ _ _ _ _ _ _ _ _ _ _ _ _ _ _ _ _ _ _ _ _ _ _ _ _ _ _ _ _ _ _ _ _ _ _ _ _ _ _ _ _ _ _ _ _ _ _ _ _ _ _ _ _ _ _ _ _ _ _ _ _ _ _ _ _ _ _ _ _ _ _ _ _ _ _ _ _ _ _ _ _ _ _ _ _ _ _ _ _ _ _ _ _ _ _ _ _ _ _ _ _ _ _ _ _ _ _ _ _ _ _ _ _ _ _ _ _ _ _ _ _ _ _ _ _ _ _ _ _ _ _ _ _ _ _ _ _ _ _ _ _ _ _ _ _ _ _ _ _ _ _ _ _ _ _ _ _ _ _ _ _ (fun n a hh => by
    unfold pg3 at hh
    cases hst : stOf (pgE s) with
    | error q => rw [hst] at hh; cases hh
    | ok a' => rw [hst] at hh; have := dNum_bd (show dNum s 1 8 a' = .ok (n, a) from hh); omega) (unhideE HL3).restart ?_
  intro u8 u9 u10 u11 u12 u13 u14 u53 u54 u55 u56 u57 u58 u59 u60 u61 u62 u63 u64 u65 u66 u67 u68 u69 u70 u71 u72 u73 u74 u75 u76 u77 u78 u79 u80 u81 u82 u83 u84 u85 u86 u87 u88 u89 u90 u91 u92 u93 u94 u95 u96 u97 u98 u99 u100 u101 u102 u103 u104 u105 u106 u107 u108 u109 u110 u111 u112 u113 u114 u115 u116 u117 u118 u119 u120 u121 u122 u123 u124 u125 u126 u127 u128 u129 u130 u131 u132 u133 u134 u135 u136 u137 u138 u139 v4 fv hl4 hfv hrepF
  obtain ⟨fp, fn, fc, rfl⟩ := hfv
  obtain ⟨hst, hval⟩ := pg_all s
  have hl5 : EL V v4 b T5 s (stOf (pgF s)) 25 #[.slice fp fn fc, .slice ep en ec] := (unhideE HL3).trans hl4
  rw [hst] at hl5
  have hk4 : KeptOn V.heap.size v3 v4 := hl4.g.kept (by omega) (by omega)
  have HRP := hideE (fun p a (hh : dProg s 0 = .ok (p, a)) => show RProg v4 V.heap.size (.agg #[.slice fp fn fc, .slice ep en ec]) p by
    obtain ⟨⟨y1, e1⟩, y2, e2⟩ := hval p a hh
    exact ⟨_, _, rfl, (hrepF _ _ e2).keep (by omega) (fun _ _ _ => rfl) (fun _ _ h => mono_RFunc _ _ _ _ _ _ (by omega) (fun _ _ _ => rfl) h), (unhideE HRE _ _ e1).keep (by omega) (kept_tr (unhideE HK3) hs3 hk4) (fun _ _ h => mono_RSig _ _ _ _ _ _ (by omega) (kept_tr (unhideE HK3) hs3 hk4) h)⟩)
  have HZ0 := hideE ((hl5.g.block w.heap.size (by omega) (by omega) (by omega)).trans (unhideE HV0))
  have HZ1 := hideE ((hl5.g.block (w.heap.size + 1) (by omega) (by omega) (by omega)).trans (unhideE HV1))
  have HZB := hideE ((unhideE HBV).trans (⟨hl5.g.os, hl5.g.tape, hl5.g.output, hl5.g.size, fun q hq => hl5.g.block q (by omega) (by omega) (by omega)⟩ : Below w.heap.size V v4))
  have HL5 := hideE hl5
  have HZ5 := hideE hl5.rx
  have hz5 := hl5.g.size
  clear hl4 hrepF hst hval hk4 hl5 HL3 HRE HK3 HV0 HV1 HBV
  cases hd : dProg s 0 with
  | error q =>
    have HOE := hideE (show dErr s = 3 ∧ dAt s = q ∧ dPrg s = ⟨[], []⟩ by
      have h := unhideE HO
      rw [hd] at h
      unfold dErr dAt dPrg
      rw [show decOut s = .error (3, q) from h]
      exact ⟨rfl, rfl, rfl⟩)
    have hey := (unhideE HL5).ey
    rw [hd] at hey
    obtain ⟨-, a', hE⟩ : EyS v4 b s (.error q) := hey
    have cb := hE.c2
    have hq1 : ¬ ((q : Int) < 0) := by omega
    have hq2 : (0 : Int) ≤ q := by omega
    clear hd hE HL5 HZ5 HRP HO
    go_wp2_with fail
    refine (placed_e 3 q v4).mono ?_
    rintro e w9 ⟨rfl, hb9⟩
    have q0 := (hb9.block w.heap.size (row_lt (unhideE HZ0))).trans (unhideE HZ0)
    have q1 := (hb9.block (w.heap.size + 1) (row_lt (unhideE HZ1))).trans (unhideE HZ1)
    have HQ0 := hideE q0
    have HQ1 := hideE ((setRow_other w9 w.heap.size (w.heap.size + 1) #[.slice none 0 0, .slice none 0 0] (by omega)).trans q1)
    have HB := hideE ((unhideE HZB).trans (⟨hb9.os, hb9.tape, hb9.output, hb9.size, fun q hq => hb9.block q (by have := (unhideE HZB).size; omega)⟩ : Below w.heap.size v4 w9))
    clear hb9 q0 q1
    go_wp2_with (first | (refine wpList_store_row rfl 25 (.tmp 2) (.tmp 166) rfl w.heap.size #[.slice none 0 0, .slice none 0 0] rfl rfl 25 _ (unhideE HQ0) (Tryd.infProgD.trans rfl) rfl (by simp [Value.oneCell']) ?_) | (refine wpList_store_row rfl 30 (.tmp 3) (.tmp 171) rfl (w.heap.size + 1) #[.int .i64 3, .int .i64 (-1), .int .i64 (-1), .int .i64 q] rfl rfl 30 _ (unhideE HQ1) (Tryd.infFltK.trans rfl) rfl (by simp [Value.oneCell']) ?_))
    refine bodyPost_ret (results_cells (fn := Tryd.f9) (p := 2) (q := 3) (px := 25) (uy := 30) rfl _ _ w.heap.size 25 #[.slice none 0 0, .slice none 0 0] (0, 0) _ (w.heap.size + 1) 30 #[.int .i64 3, .int .i64 (-1), .int .i64 (-1), .int .i64 q] (0, 0) _ rfl ((setRow_other _ _ _ _ (by omega)).trans (setRow_heap _ _ _ _ _ _ (unhideE HQ0))) Tryd.underlying25 rfl (Tryd.infProgD.trans rfl) rfl (setRow_heap _ _ _ _ _ _ (unhideE HQ1)) Tryd.underlying30 rfl (Tryd.infFltK.trans rfl)) rfl ?_
    obtain ⟨e1, e2, e3⟩ := unhideE HOE
    refine ⟨below_setRow (below_setRow (unhideE HB) (Nat.le_refl _) _) (by omega) _, _, _, by rw [e1, e2], ?_⟩
    rw [e3]
    exact ⟨_, _, rfl, RepL.nil _ _ _ _ _, RepL.nil _ _ _ _ _⟩
  | ok p =>
    obtain ⟨P, a⟩ := p
    have hey := (unhideE HL5).ey
    rw [hd] at hey
    have hE : Ey v4 b s a (-1) := hey
    have cb := hE.c2
    have ca := hE.c1
    have fb := hE.f2
    have hbd := hE.bd
    by_cases hlt : a < s.size
    · have hlt' : (a : Int) < s.size := by omega
      have ha0 : (0 : Int) ≤ a := by omega
      have HOE := hideE (show dErr s = 3 ∧ dAt s = a ∧ dPrg s = ⟨[], []⟩ by
        have h := unhideE HO
        rw [hd] at h
        unfold dErr dAt dPrg
        rw [show decOut s = .error (3, a) from h.trans (if_pos hlt)]
        exact ⟨rfl, rfl, rfl⟩)
      have HZ0' := hideE ((heap_setCell_other v4 ⟨b, 2, none⟩ w.heap.size (.int .i64 a) (by show w.heap.size ≠ b; omega)).trans (unhideE HZ0))
      have HZ1' := hideE ((heap_setCell_other v4 ⟨b, 2, none⟩ (w.heap.size + 1) (.int .i64 a) (by show w.heap.size + 1 ≠ b; omega)).trans (unhideE HZ1))
      have HZB' := hideE (below_high (j := 2) (unhideE HZB) (show w.heap.size ≤ b by omega) (.int .i64 a))
      clear hd hE hey HL5 HZ5 HRP HO HZ0 HZ1 HZB
      go_wp2_with fail
      clear cb ca fb
      generalize v4.setCell ⟨b, 2, none⟩ (.int .i64 a) = v5 at HZ0' HZ1' HZB' ⊢
      refine (placed_e 3 a v5).mono ?_
      rintro e w9 ⟨rfl, hb9⟩
      have q0 := (hb9.block w.heap.size (row_lt (unhideE HZ0'))).trans (unhideE HZ0')
      have q1 := (hb9.block (w.heap.size + 1) (row_lt (unhideE HZ1'))).trans (unhideE HZ1')
      have HQ0 := hideE q0
      have HQ1 := hideE ((setRow_other w9 w.heap.size (w.heap.size + 1) #[.slice none 0 0, .slice none 0 0] (by omega)).trans q1)
      have HB := hideE ((unhideE HZB').trans (⟨hb9.os, hb9.tape, hb9.output, hb9.size, fun q hq => hb9.block q (by have := (unhideE HZB').size; omega)⟩ : Below w.heap.size v5 w9))
      clear hb9 q0 q1
      go_wp2_with (first | (refine wpList_store_row rfl 25 (.tmp 2) (.tmp 166) rfl w.heap.size #[.slice none 0 0, .slice none 0 0] rfl rfl 25 _ (unhideE HQ0) (Tryd.infProgD.trans rfl) rfl (by simp [Value.oneCell']) ?_) | (refine wpList_store_row rfl 30 (.tmp 3) (.tmp 171) rfl (w.heap.size + 1) #[.int .i64 3, .int .i64 (-1), .int .i64 (-1), .int .i64 a] rfl rfl 30 _ (unhideE HQ1) (Tryd.infFltK.trans rfl) rfl (by simp [Value.oneCell']) ?_))
      refine bodyPost_ret (results_cells (fn := Tryd.f9) (p := 2) (q := 3) (px := 25) (uy := 30) rfl _ _ w.heap.size 25 #[.slice none 0 0, .slice none 0 0] (0, 0) _ (w.heap.size + 1) 30 #[.int .i64 3, .int .i64 (-1), .int .i64 (-1), .int .i64 a] (0, 0) _ rfl ((setRow_other _ _ _ _ (by omega)).trans (setRow_heap _ _ _ _ _ _ (unhideE HQ0))) Tryd.underlying25 rfl (Tryd.infProgD.trans rfl) rfl (setRow_heap _ _ _ _ _ _ (unhideE HQ1)) Tryd.underlying30 rfl (Tryd.infFltK.trans rfl)) rfl ?_
      obtain ⟨e1, e2, e3⟩ := unhideE HOE
      refine ⟨below_setRow (below_setRow (unhideE HB) (Nat.le_refl _) _) (by omega) _, _, _, by rw [e1, e2], ?_⟩
      rw [e3]
      exact ⟨_, _, rfl, RepL.nil _ _ _ _ _, RepL.nil _ _ _ _ _⟩
    · have hlt' : ¬ (a : Int) < s.size := by omega
      have HOE := hideE (show dErr s = 0 ∧ dAt s = -1 ∧ dPrg s = P by
        have h := unhideE HO
        rw [hd] at h
        unfold dErr dAt dPrg
        rw [show decOut s = .ok P from h.trans (if_neg hlt)]
        exact ⟨rfl, rfl, rfl⟩)
      have HP := hideE (unhideE HRP P a hd)
      clear hd hE hey HRP HO HL5
      go_wp2_with fail
      have HF := hideE (show Calls Tryd.prog 18 #[] v4.drew (fun e w5 => e = .returned (.agg #[.int .i64 0, .int .i64 (-1), .int .i64 (-1), .int .i64 (-1)]) ∧ w5.heap[T5]? = some (.cells #[.slice fp fn fc, .slice ep en ec] 25 (0, 0)) ∧ w5.heap[w.heap.size]? = some (.cells #[.slice none 0 0, .slice none 0 0] 25 (0, 0)) ∧ w5.heap[w.heap.size + 1]? = some (.cells #[.int .i64 0, .int .i64 0, .int .i64 0, .int .i64 0] 30 (0, 0)) ∧ Below w.heap.size w w5 ∧ KeptOn w.heap.size v4 w5) from (fine_e v4.drew).mono (by
        rintro e w5 ⟨rfl, hb5⟩
        have hk : ∀ k, k < v4.heap.size → w5.heap[k]? = v4.heap[k]? := fun k hk => hb5.block k hk
        exact ⟨rfl, (hk T5 (row_lt (unhideE HZ5))).trans (unhideE HZ5), (hk w.heap.size (row_lt (unhideE HZ0))).trans (unhideE HZ0), (hk (w.heap.size + 1) (row_lt (unhideE HZ1))).trans (unhideE HZ1), (unhideE HZB).trans ⟨hb5.os, hb5.tape, hb5.output, hb5.size, fun q hq => hk q (by have := (unhideE HZB).size; omega)⟩, fun k _ h2 => hk k h2⟩))
      have d0 := (cells_of_row (unhideE HZ5) 0).trans rfl
      have d1 := (cells_of_row (unhideE HZ5) 1).trans rfl
      clear cb ca fb HZ0 HZ1 HZB
      go_region_with (go_at_call 18; refine (unhideE HF).mono ?_; rintro e w5 ⟨rfl, q4, q2, q3, hB5, hK5⟩; have b0 := (cells_of_row q4 0).trans rfl; have b1 := (cells_of_row q4 1).trans rfl; have b2 := (cells_of_row q2 0).trans rfl; have b3 := (cells_of_row q2 1).trans rfl; have b4 : ∀ j, w5.frozen? ⟨w.heap.size, j, none⟩ = false := fun j => frozen_of_row _ _ _ _ _ q2; have r0 := (cells_of_row q3 0).trans rfl; have r1 := (cells_of_row q3 1).trans rfl; have r2 := (cells_of_row q3 2).trans rfl; have r3 := (cells_of_row q3 3).trans rfl; have r4 : ∀ j, w5.frozen? ⟨w.heap.size + 1, j, none⟩ = false := fun j => frozen_of_row _ _ _ _ _ q3; have HQ2 := hideE q2; have HQ3 := hideE q3; have HB5 := hideE hB5; have HK5 := hideE hK5; clear q4 q2 q3 hB5 hK5)
      all_goals
        have hx0 : ((((((w5.setCell ⟨w.heap.size, 0, none⟩ (.slice fp fn fc)).setCell ⟨w.heap.size, 1, none⟩ (.slice ep en ec)).setCell ⟨w.heap.size + 1, 0, none⟩ (.int .i64 0)).setCell ⟨w.heap.size + 1, 1, none⟩ (.int .i64 (-1))).setCell ⟨w.heap.size + 1, 2, none⟩ (.int .i64 (-1))).setCell ⟨w.heap.size + 1, 3, none⟩ (.int .i64 (-1))).heap[w.heap.size]? = some (.cells #[.slice fp fn fc, .slice ep en ec] 25 (0, 0)) := (heap_setCell_other _ _ _ _ (by show w.heap.size ≠ w.heap.size + 1; omega)).trans ((heap_setCell_other _ _ _ _ (by show w.heap.size ≠ w.heap.size + 1; omega)).trans ((heap_setCell_other _ _ _ _ (by show w.heap.size ≠ w.heap.size + 1; omega)).trans ((heap_setCell_other _ _ _ _ (by show w.heap.size ≠ w.heap.size + 1; omega)).trans (heap_setCell_same _ _ 1 _ _ (.slice ep en ec) (heap_setCell_same _ _ 0 _ _ (.slice fp fn fc) (unhideE HQ2))))))
        have hx1 : ((((((w5.setCell ⟨w.heap.size, 0, none⟩ (.slice fp fn fc)).setCell ⟨w.heap.size, 1, none⟩ (.slice ep en ec)).setCell ⟨w.heap.size + 1, 0, none⟩ (.int .i64 0)).setCell ⟨w.heap.size + 1, 1, none⟩ (.int .i64 (-1))).setCell ⟨w.heap.size + 1, 2, none⟩ (.int .i64 (-1))).setCell ⟨w.heap.size + 1, 3, none⟩ (.int .i64 (-1))).heap[w.heap.size + 1]? = some (.cells #[.int .i64 0, .int .i64 (-1), .int .i64 (-1), .int .i64 (-1)] 30 (0, 0)) := heap_setCell_same _ _ 3 _ _ (.int .i64 (-1)) (heap_setCell_same _ _ 2 _ _ (.int .i64 (-1)) (heap_setCell_same _ _ 1 _ _ (.int .i64 (-1)) (heap_setCell_same _ _ 0 _ _ (.int .i64 0) ((heap_setCell_other _ _ _ _ (by show w.heap.size + 1 ≠ w.heap.size; omega)).trans ((heap_setCell_other _ _ _ _ (by show w.heap.size + 1 ≠ w.heap.size; omega)).trans (unhideE HQ3))))))
        have hbX : Below w.heap.size w ((((((w5.setCell ⟨w.heap.size, 0, none⟩ (.slice fp fn fc)).setCell ⟨w.heap.size, 1, none⟩ (.slice ep en ec)).setCell ⟨w.heap.size + 1, 0, none⟩ (.int .i64 0)).setCell ⟨w.heap.size + 1, 1, none⟩ (.int .i64 (-1))).setCell ⟨w.heap.size + 1, 2, none⟩ (.int .i64 (-1))).setCell ⟨w.heap.size + 1, 3, none⟩ (.int .i64 (-1))) := below_high (below_high (below_high (below_high (below_high (below_high (unhideE HB5) (Nat.le_refl _) _) (Nat.le_refl _) _) (by omega) _) (by omega) _) (by omega) _) (by omega) _
        have hPX : RProg ((((((w5.setCell ⟨w.heap.size, 0, none⟩ (.slice fp fn fc)).setCell ⟨w.heap.size, 1, none⟩ (.slice ep en ec)).setCell ⟨w.heap.size + 1, 0, none⟩ (.int .i64 0)).setCell ⟨w.heap.size + 1, 1, none⟩ (.int .i64 (-1))).setCell ⟨w.heap.size + 1, 2, none⟩ (.int .i64 (-1))).setCell ⟨w.heap.size + 1, 3, none⟩ (.int .i64 (-1))) w.heap.size (.agg #[.slice fp fn fc, .slice ep en ec]) P := (unhideE HP).keep (by omega) (kept_low (kept_low (kept_low (kept_low (kept_low (kept_low (fun k h1 h2 => unhideE HK5 k (by omega) h2) (by omega) _) (by omega) _) (by omega) _) (by omega) _) (by omega) _) (by omega) _)
        clear b0 b1 b2 b3 b4 r0 r1 r2 r3 r4 HQ2 HQ3 HF HB5 HK5 d0 d1
        generalize (((((w5.setCell ⟨w.heap.size, 0, none⟩ (.slice fp fn fc)).setCell ⟨w.heap.size, 1, none⟩ (.slice ep en ec)).setCell ⟨w.heap.size + 1, 0, none⟩ (.int .i64 0)).setCell ⟨w.heap.size + 1, 1, none⟩ (.int .i64 (-1))).setCell ⟨w.heap.size + 1, 2, none⟩ (.int .i64 (-1))).setCell ⟨w.heap.size + 1, 3, none⟩ (.int .i64 (-1)) = X at hx0 hx1 hbX hPX ⊢
        have HX0 := hideE hx0
        have HX1 := hideE hx1
        clear hx0 hx1
        go_wp2
        refine bodyPost_ret (results_cells (fn := Tryd.f9) (p := 2) (q := 3) (px := 25) (uy := 30) rfl _ _ w.heap.size 25 #[.slice fp fn fc, .slice ep en ec] (0, 0) _ (w.heap.size + 1) 30 #[.int .i64 0, .int .i64 (-1), .int .i64 (-1), .int .i64 (-1)] (0, 0) _ rfl (unhideE HX0) Tryd.underlying25 rfl (Tryd.infProgD.trans rfl) rfl (unhideE HX1) Tryd.underlying30 rfl (Tryd.infFltK.trans rfl)) rfl ?_
        obtain ⟨e1, e2, e3⟩ := unhideE HOE
        exact ⟨hbX, _, _, by rw [e1, e2], by rw [e3]; exact hPX⟩
theorem rdecode_c (s : ByteArray) (w : World) : Calls Tryd.prog 9 #[.string s] w (DecV s w) := by
  by_cases hs : s.size ≤ 4000
  · exact rdecode_small s w hs
  · exact rdecode_big s w hs
end Go.Proofs.YthnmdbddfmgdlaaDoor
