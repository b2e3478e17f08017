/-
  Layouts of calls: prologueref.Classify. Own work of the verifier.
-/
import Derived.Test.YtffemeicclhioaaDoorClFc
import Derived.Test.YtffemeicclhioaaDoorClH
namespace Go.Proofs.YtffemeicclhioaaDoor
open Go.RowKit

theorem Tryd.infRfI : (Tryd.prog.info? 38).map (·.size) = some 4 := by kernel_rfl
theorem fine_l (w : World) : Calls Tryd.prog 20 #[] w fun e w' => e = .returned (flt 0 (-1) (-1) (-1)) ∧ Below w.heap.size w w' := by
  go_enter Tryd.func20, Tryd.ntmps20
  go_wp2
  go_returns
  exact ⟨rfl, by go_grown⟩
theorem only_l (n : Int) (w : World) : Calls Tryd.prog 17 #[.int .i64 n] w fun e w' => e = .returned (flt n (-1) (-1) (-1)) ∧ Below w.heap.size w w' := by
  go_enter Tryd.func17, Tryd.ntmps17
  go_wp2
  go_returns
  exact ⟨rfl, by go_grown⟩
set_option maxHeartbeats 4000000 in
set_option maxRecDepth 100000 in
theorem rcls_c (T : TbE) (ps : List Int) (pq : Option Addr) (cq : Nat) (n : Int) (w : World) (hT : TbO w T) (hps : Li w (.slice pq ps.length cq) ps) :
    Calls Tryd.prog 7 #[.agg T.box, .agg #[.slice pq ps.length cq, .int .i64 n]] w fun e w' => ∃ av rv pvs, e = .returned (.tuple #[.agg #[av, rv, .int .i64 (clsL T ps n).size, .int .i64 (clsL T ps n).copies], flt (clsN T ps n) (-1) (-1) (-1)]) ∧ LayO w' w.heap.size av rv (clsL T ps n) pvs ∧ Below w.heap.size w w' := by
  obtain ⟨r0, r1, r2, r3, hZ⟩ := rows4h w (.cells T.box 25 (0, 0)) (.cells #[.slice pq ps.length cq, .int .i64 n] 27 (0, 0)) (.cells #[.slice none 0 0, .slice none 0 0, .int .i64 0, .int .i64 0] 33 (0, 0)) (.cells #[.int .i64 0, .int .i64 0, .int .i64 0, .int .i64 0] 38 (0, 0))
  have hB : Below w.heap.size w ((((w.alloc (.cells T.box 25 (0, 0))).alloc (.cells #[.slice pq ps.length cq, .int .i64 n] 27 (0, 0))).alloc (.cells #[.slice none 0 0, .slice none 0 0, .int .i64 0, .int .i64 0] 33 (0, 0))).alloc (.cells #[.int .i64 0, .int .i64 0, .int .i64 0, .int .i64 0] 38 (0, 0))) := ((((Below.refl w.heap.size w).alloc (Nat.le_refl _) (.cells T.box 25 (0, 0))).alloc (by simp) (.cells #[.slice pq ps.length cq, .int .i64 n] 27 (0, 0))).alloc (by simp; omega) (.cells #[.slice none 0 0, .slice none 0 0, .int .i64 0, .int .i64 0] 33 (0, 0))).alloc (by simp; omega) (.cells #[.int .i64 0, .int .i64 0, .int .i64 0, .int .i64 0] 38 (0, 0))
  have HR0 := hideI r0
  have HR1 := hideI r1
  have HR2 := hideI r2
  have HR3 := hideI r3
  have HB := hideI hB
  have HT := hideI hT
  have HPS := hideI hps
  clear r0 r1 r2 r3 hB hT hps
  unfold TbE.box at HR0 HR1 HR2 HR3 HB hZ ⊢
  go_enter Tryd.func7, Tryd.ntmps7
  go_wp2_with fail
  generalize World.alloc (World.alloc (World.alloc (World.alloc w _) _) _) _ = W at HR0 HR1 HR2 HR3 HB hZ ⊢
  refine (rtable_c T.r T.sp T.lk T.t0 T.t1 (.slice T.pa T.ag.length T.ca) (.slice T.pr T.rs.length T.cr) (.slice T.ps T.ss.length T.cs) T.al T.sh T.br T.pairs T.ag T.rs T.ss W ((unhideI HT).below (unhideI HB)).a.rs ((unhideI HT).below (unhideI HB)).r.rs ((unhideI HT).below (unhideI HB)).s.rs (unhideI HT).a.cap (unhideI HT).r.cap (unhideI HT).s.cap).mono ?_
  rintro e w2 ⟨rfl, hb2⟩
  have hs2 := hb2.size
  have HB2 := hideI (below_cut (unhideI HB) hb2 (by omega))
  have HA0 := hideI ((hb2.block w.heap.size (by omega)).trans (unhideI HR0))
  have HA1 := hideI ((hb2.block (w.heap.size + 1) (by omega)).trans (unhideI HR1))
  have HA2 := hideI ((hb2.block (w.heap.size + 1 + 1) (by omega)).trans (unhideI HR2))
  have HA3 := hideI ((hb2.block (w.heap.size + 1 + 1 + 1) (by omega)).trans (unhideI HR3))
  clear hb2 HR0 HR1 HR2 HR3
  cases ht : tabB T.r T.sp T.lk T.t0 T.t1 T.ag T.rs T.ss T.al T.sh T.br with
  | false =>
    have HN := hideI (show clsN T ps n = 2 by unfold clsN tabT; rw [ht]; rfl)
    have HL := hideI (show clsL T ps n = noLay by unfold clsL; rw [unhideI HN]; rfl)
    clear ht
    go_wp2_with fail
    refine (only_l 2 w2).mono ?_
    rintro e w3 ⟨rfl, hb3⟩
    have hs3 := hb3.size
    have HB3 := hideI (below_cut (unhideI HB2) hb3 (by omega))
    have HC2 := hideI ((hb3.block (w.heap.size + 1 + 1) (by omega)).trans (unhideI HA2))
    have HC3 := hideI ((hb3.block (w.heap.size + 1 + 1 + 1) (by omega)).trans (unhideI HA3))
    clear hb3
    unfold flt
    go_wp2_with (first | (refine wpList_store_row rfl 33 _ _ rfl (w.heap.size + 1 + 1) #[.slice none 0 0, .slice none 0 0, .int .i64 0, .int .i64 0] rfl rfl 33 _ (unhideI HC2) (Tryd.infLyK.trans rfl) rfl (by simp [Value.oneCell']) ?_) | (refine wpList_store_row rfl 38 _ _ rfl (w.heap.size + 1 + 1 + 1) #[.int .i64 2, .int .i64 (-1), .int .i64 (-1), .int .i64 (-1)] rfl rfl 38 _ ((setRow_other _ _ _ _ (by omega)).trans (unhideI HC3)) (Tryd.infRfI.trans rfl) rfl (by simp [Value.oneCell']) ?_))
    refine bodyPost_ret (results_cc (fn := Tryd.f7) (p := 4) (q := 5) (px := 33) (uy := 38) rfl _ _ (w.heap.size + 1 + 1) 33 #[.slice none 0 0, .slice none 0 0, .int .i64 0, .int .i64 0] (0, 0) _ (w.heap.size + 1 + 1 + 1) 38 #[.int .i64 2, .int .i64 (-1), .int .i64 (-1), .int .i64 (-1)] (0, 0) _ rfl ((setRow_other _ _ _ _ (by omega)).trans (setRow_heap _ _ _ _ _ _ (unhideI HC2))) Tryd.underlying33 rfl (Tryd.infLyK.trans rfl) rfl (setRow_heap _ _ _ _ _ _ ((setRow_other _ _ _ _ (by omega)).trans (unhideI HC3))) Tryd.underlying38 rfl (Tryd.infRfI.trans rfl)) rfl ?_
    refine ⟨_, _, [], by rw [unhideI HL, unhideI HN]; rfl, ?_, below_setRow (below_setRow (unhideI HB3) (by omega)) (by omega)⟩
    rw [unhideI HL]
    exact LayO.no _ _
  | true =>
    have HTT := hideI (show tabT T = true from ht)
    clear ht
    have x0 := (cells_of_row (unhideI HA1) 0).trans rfl
    have x1 := (cells_of_row (unhideI HA1) 1).trans rfl
    go_wp2_with fail
    clear x0 x1
    refine (rsig_c _ ps n w2 ((unhideI HPS).below (unhideI HB2))).mono ?_
    rintro e w3 ⟨rfl, hb3⟩
    have hs3 := hb3.size
    have HB3 := hideI (below_cut (unhideI HB2) hb3 (by omega))
    have HC0 := hideI ((hb3.block w.heap.size (by omega)).trans (unhideI HA0))
    have HC1 := hideI ((hb3.block (w.heap.size + 1) (by omega)).trans (unhideI HA1))
    have HC2 := hideI ((hb3.block (w.heap.size + 1 + 1) (by omega)).trans (unhideI HA2))
    have HC3 := hideI ((hb3.block (w.heap.size + 1 + 1 + 1) (by omega)).trans (unhideI HA3))
    clear hb3 HA0 HA1 HA2 HA3
    cases hg : sigB (ps, n) with
    | false =>
      have HN := hideI (show clsN T ps n = 6 by unfold clsN; rw [unhideI HTT, hg]; rfl)
      have HL := hideI (show clsL T ps n = noLay by unfold clsL; rw [unhideI HN]; rfl)
      clear hg
      go_wp2_with fail
      refine (only_l 6 w3).mono ?_
      rintro e w4 ⟨rfl, hb4⟩
      have hs4 := hb4.size
      have HB4 := hideI (below_cut (unhideI HB3) hb4 (by omega))
      have HD2 := hideI ((hb4.block (w.heap.size + 1 + 1) (by omega)).trans (unhideI HC2))
      have HD3 := hideI ((hb4.block (w.heap.size + 1 + 1 + 1) (by omega)).trans (unhideI HC3))
      clear hb4
      unfold flt
      go_wp2_with (first | (refine wpList_store_row rfl 33 _ _ rfl (w.heap.size + 1 + 1) #[.slice none 0 0, .slice none 0 0, .int .i64 0, .int .i64 0] rfl rfl 33 _ (unhideI HD2) (Tryd.infLyK.trans rfl) rfl (by simp [Value.oneCell']) ?_) | (refine wpList_store_row rfl 38 _ _ rfl (w.heap.size + 1 + 1 + 1) #[.int .i64 6, .int .i64 (-1), .int .i64 (-1), .int .i64 (-1)] rfl rfl 38 _ ((setRow_other _ _ _ _ (by omega)).trans (unhideI HD3)) (Tryd.infRfI.trans rfl) rfl (by simp [Value.oneCell']) ?_))
      refine bodyPost_ret (results_cc (fn := Tryd.f7) (p := 4) (q := 5) (px := 33) (uy := 38) rfl _ _ (w.heap.size + 1 + 1) 33 #[.slice none 0 0, .slice none 0 0, .int .i64 0, .int .i64 0] (0, 0) _ (w.heap.size + 1 + 1 + 1) 38 #[.int .i64 6, .int .i64 (-1), .int .i64 (-1), .int .i64 (-1)] (0, 0) _ rfl ((setRow_other _ _ _ _ (by omega)).trans (setRow_heap _ _ _ _ _ _ (unhideI HD2))) Tryd.underlying33 rfl (Tryd.infLyK.trans rfl) rfl (setRow_heap _ _ _ _ _ _ ((setRow_other _ _ _ _ (by omega)).trans (unhideI HD3))) Tryd.underlying38 rfl (Tryd.infRfI.trans rfl)) rfl ?_
      refine ⟨_, _, [], by rw [unhideI HL, unhideI HN]; rfl, ?_, below_setRow (below_setRow (unhideI HB4) (by omega)) (by omega)⟩
      rw [unhideI HL]
      exact LayO.no _ _
    | true =>
      have HN := hideI (show clsN T ps n = 0 by unfold clsN; rw [unhideI HTT, hg]; rfl)
      have HL := hideI (show clsL T ps n = layE T.ag T.rs T.br T.pairs T.sh ps n by unfold clsL; rw [unhideI HN]; rfl)
      obtain ⟨q1, q2, q3, q4⟩ := sig_parts hg
      obtain ⟨t1, t2, t3, t4⟩ := tabT_lens (unhideI HTT)
      have HC := hideI (rlay_c T ps pq cq n w3 ((unhideI HT).below (unhideI HB3)).low ((unhideI HPS).below (unhideI HB3)) q4 q1 q2 q3 t1 t2 t3 t4)
      unfold TbE.box at HC
      clear hg q1 q2 q3 q4 t1 t2 t3 t4
      have x0 := (cells_of_row (unhideI HC1) 0).trans rfl
      have x1 := (cells_of_row (unhideI HC1) 1).trans rfl
      have b0 := (cells_of_row (unhideI HC0) 0).trans rfl
      have b1 := (cells_of_row (unhideI HC0) 1).trans rfl
      have b2 := (cells_of_row (unhideI HC0) 2).trans rfl
      have b3 := (cells_of_row (unhideI HC0) 3).trans rfl
      have b4 := (cells_of_row (unhideI HC0) 4).trans rfl
      have b5 := (cells_of_row (unhideI HC0) 5).trans rfl
      have b6 := (cells_of_row (unhideI HC0) 6).trans rfl
      have b7 := (cells_of_row (unhideI HC0) 7).trans rfl
      have b8 := (cells_of_row (unhideI HC0) 8).trans rfl
      have b9 := (cells_of_row (unhideI HC0) 9).trans rfl
      have b10 := (cells_of_row (unhideI HC0) 10).trans rfl
      have b11 := (cells_of_row (unhideI HC0) 11).trans rfl
      go_wp2_with fail
      clear x0 x1 b0 b1 b2 b3 b4 b5 b6 b7 b8 b9 b10 b11
      refine (unhideI HC).mono ?_
      rintro e w4 ⟨av, rv, pvs, rfl, hlay, hb4⟩
      obtain ⟨⟨ap, an, ac, rfl⟩, rp, rn, rc, rfl⟩ := hlay.shapes
      have hs4 := hb4.size
      have HLY := hideI hlay
      have HB4 := hideI (below_cut (unhideI HB3) hb4 (by omega))
      have HD2 := hideI ((hb4.block (w.heap.size + 1 + 1) (by omega)).trans (unhideI HC2))
      have HD3 := hideI ((hb4.block (w.heap.size + 1 + 1 + 1) (by omega)).trans (unhideI HC3))
      clear hlay hb4
      generalize layE T.ag T.rs T.br T.pairs T.sh ps n = le at HL HLY ⊢
      go_wp2_with fail
      refine (fine_l w4).mono ?_
      rintro e w5 ⟨rfl, hb5⟩
      have hs5 := hb5.size
      have HB5 := hideI (below_cut (unhideI HB4) hb5 (by omega))
      have HE2 := hideI ((hb5.block (w.heap.size + 1 + 1) (by omega)).trans (unhideI HD2))
      have HE3 := hideI ((hb5.block (w.heap.size + 1 + 1 + 1) (by omega)).trans (unhideI HD3))
      have HLY5 := hideI ((unhideI HLY).keep hb5)
      clear hb5 HD2 HD3 HLY
      unfold flt
      go_wp2_with (first | (refine wpList_store_row rfl 33 _ _ rfl (w.heap.size + 1 + 1) #[.slice ap an ac, .slice rp rn rc, .int .i64 le.size, .int .i64 le.copies] rfl rfl 33 _ (unhideI HE2) (Tryd.infLyK.trans rfl) rfl (by simp [Value.oneCell']) ?_) | (refine wpList_store_row rfl 38 _ _ rfl (w.heap.size + 1 + 1 + 1) #[.int .i64 0, .int .i64 (-1), .int .i64 (-1), .int .i64 (-1)] rfl rfl 38 _ ((setRow_other _ _ _ _ (by omega)).trans (unhideI HE3)) (Tryd.infRfI.trans rfl) rfl (by simp [Value.oneCell']) ?_))
      refine bodyPost_ret (results_cc (fn := Tryd.f7) (p := 4) (q := 5) (px := 33) (uy := 38) rfl _ _ (w.heap.size + 1 + 1) 33 #[.slice ap an ac, .slice rp rn rc, .int .i64 le.size, .int .i64 le.copies] (0, 0) _ (w.heap.size + 1 + 1 + 1) 38 #[.int .i64 0, .int .i64 (-1), .int .i64 (-1), .int .i64 (-1)] (0, 0) _ rfl ((setRow_other _ _ _ _ (by omega)).trans (setRow_heap _ _ _ _ _ _ (unhideI HE2))) Tryd.underlying33 rfl (Tryd.infLyK.trans rfl) rfl (setRow_heap _ _ _ _ _ _ ((setRow_other _ _ _ _ (by omega)).trans (unhideI HE3))) Tryd.underlying38 rfl (Tryd.infRfI.trans rfl)) rfl ?_
      refine ⟨_, _, pvs, by rw [unhideI HL, unhideI HN], ?_, below_setRow (below_setRow (unhideI HB5) (by omega)) (by omega)⟩
      rw [unhideI HL]
      exact ((unhideI HLY5).row (b := w.heap.size + 1 + 1) (by omega) (Nat.le_refl _)).row (by omega) (by omega)
end Go.Proofs.YtffemeicclhioaaDoor
