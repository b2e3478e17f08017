/-
  Layouts of calls: where an argument goes, by package layout. Own work of the verifier.
-/
import Derived.Test.YtffemeicclhioaaDoorClB
namespace Go.Proofs.YtffemeicclhioaaDoor
open Go.RowKit

theorem Tryd.infSpK : (Tryd.prog.info? 60).map (·.size) = some 3 := by kernel_rfl
theorem PlO_one {V : World} {B b : Nat} {x : Int × Int} (h : V.heap[b]? = some (.cells #[.int .i64 x.1, .int .i64 x.2] 62 (0, 0))) (hb : B ≤ b) : PlO V B (.slice (some ⟨b, 0, none⟩) 1 1) [x] :=
  ⟨rfl, Or.inr ⟨b, 1, _, rfl, hb, h, Nat.le_refl _, by simp [maxLen], rfl, rfl⟩⟩
/-- A row that is none of its own may be written. -/
theorem PlO_row {V : World} {B B' T : Nat} {cs : Array Value} {v : Value} {xs : List (Int × Int)} (h : PlO V B v xs) (hb : T < B) (hB : B' ≤ B) : PlO (V.setRow T cs) B' v xs := by
  obtain ⟨h1, h2 | ⟨g, cap, cur, e1, e2, e3, e4⟩⟩ := h
  · exact ⟨h1, Or.inl h2⟩
  · exact ⟨h1, Or.inr ⟨g, cap, cur, e1, Nat.le_trans hB e2, (setRow_other _ _ _ _ (by omega)).trans e3, e4⟩⟩
theorem spot_word {ag : List Int} {br : Int} {pr : Bool} {n : Int} {s : GivS} (h : n = 0 ∨ br < n) : spotS ag br pr n s = ⟨[plW ag s], decide (br < n), if br < n then s.p else 0⟩ ∧ stepS ag.length br pr n s = ⟨(nxW ag s).u, (nxW ag s).c, if br < n then s.p + 8 * n else s.p⟩ := by
  have hw : wdS br n = 1 := by unfold wdS; rw [if_pos h]
  unfold spotS stepS
  rw [hw, u1S_one]
  have hr : rgS ag.length 1 s.u = decide (s.u < ag.length) := by unfold rgS; exact decide_eq_decide.2 (by omega)
  rw [hr]
  by_cases hu : s.u < ag.length
  · simp only [decide_eq_true hu, if_true]
    refine ⟨?_, ?_⟩
    · simp only [List.range_succ, List.range_zero, List.nil_append, List.map_cons, List.map_nil, plS, plW, if_pos hu, if_true, Nat.add_zero]
    · simp only [nxW, if_pos hu]
  · simp only [decide_eq_false hu, Bool.false_eq_true, if_false]
    refine ⟨?_, ?_⟩
    · simp only [List.range_succ, List.range_zero, List.nil_append, List.map_cons, List.map_nil, plS, plW, if_neg hu, Bool.false_eq_true, if_false]
      simp
    · simp only [nxW, if_neg hu]
      simp
theorem spot_block {ag : List Int} {br : Int} {pr : Bool} {n : Nat} {s : GivS} (h0 : 0 < n) (h1 : (n : Int) ≤ br) (hu : s.u ≤ ag.length) : spotS ag br pr n s = ⟨(List.range n).map (plS ag (rgS ag.length n (u1S pr n s.u)) (u1S pr n s.u) s.c), false, 0⟩ ∧ stepS ag.length br pr n s = blkS ag.length n (u1S pr n s.u) s n := by
  have hw : wdS br n = n := by unfold wdS; rw [if_neg (by omega)]; omega
  unfold spotS stepS blkS
  rw [hw]
  refine ⟨?_, ?_⟩
  · rw [decide_eq_false (by omega), if_neg (by omega)]
  · cases hr : rgS ag.length n (u1S pr n s.u) with
    | true => simp only [if_true]; rw [if_neg (show ¬ br < (n : Int) by omega)]
    | false =>
      simp only [Bool.false_eq_true, if_false]
      rw [if_neg (show ¬ br < (n : Int) by omega)]
      by_cases h2 : 1 < n
      · rw [if_pos h2]
      · obtain rfl : n = 1 := by omega
        rw [if_neg (by omega)]
        rw [u1S_one] at hr ⊢
        unfold rgS at hr
        have := of_decide_eq_false hr
        rw [show s.u = ag.length by omega]
set_option maxHeartbeats 4000000 in
set_option maxRecDepth 100000 in
theorem garg_c (T : TbE) (s : GivS) (G : Nat) (n : Int) (w : World) (hG : GivR w G T s) (hT : TbR w G T) (hn0 : 0 ≤ n) (hn8 : n ≤ 8) (hu : s.u ≤ T.ag.length) (hL : T.ag.length ≤ 1000) (hc0 : 0 ≤ s.c) (hc1 : s.c ≤ 1000) (hp0 : 0 ≤ s.p) (hp1 : s.p ≤ 1000) :
    Calls Tryd.prog 37 #[.pointer (some ⟨G, 0, none⟩), .int .i64 n] w fun e w' => ∃ pv, e = .returned (.agg #[pv, .bool (spotS T.ag T.br T.pairs n s).ref, .int .i64 (spotS T.ag T.br T.pairs n s).at_]) ∧ PlO w' w.heap.size pv (spotS T.ag T.br T.pairs n s).pl ∧ GivR w' G T (stepS T.ag.length T.br T.pairs n s) ∧ w.grownBy w' (some G) := by
  have HG := hideI hG
  have HT := hideI hT
  have hlt := hG.lt
  have y10 := fun X : Obj => (hG.new X).k10
  have HW := hideI (fun V (hg : GivR V G T s) (hgb : w.grownBy V (some G)) => gword_c T s G V hg (hT.gb hgb hlt) (by omega) (by omega) (by omega) (by omega))
  clear hG hT
  obtain ⟨hR, hB, hs⟩ := al0 w (.cells #[.slice none 0 0, .bool false, .int .i64 0] 60 (0, 0))
  have HR := hideI hR
  have HB := hideI (gb_ofB (o := some G) hB)
  have HG0 := hideI ((unhideI HG).new (.cells #[.slice none 0 0, .bool false, .int .i64 0] 60 (0, 0)))
  clear hR hB HG
  by_cases h1 : T.br < n
  · have hs9 := spot_word (ag := T.ag) (pr := T.pairs) (s := s) (Or.inr h1)
    rw [hs9.1, hs9.2]
    clear hs9
    simp only [decide_eq_true h1, if_pos h1]
    have hp2 : (nxW T.ag s).p = s.p := by unfold nxW; split <;> rfl
    generalize plW T.ag s = xy at HW ⊢
    generalize nxW T.ag s = s2 at HW hp2 ⊢
    obtain ⟨x, y⟩ := xy
    simp only at HW
    go_enter Tryd.func37, Tryd.ntmps37
    go_wp2_with fail
    clear y10
    generalize World.alloc w _ = W at HR HB HG0 hs ⊢
    refine (unhideI HW W (unhideI HG0) (unhideI HB)).mono ?_
    rintro e w2 ⟨rfl, hG2, hgb2⟩
    have hz2 := hgb2.size
    obtain ⟨hR3, hB3, hs3⟩ := al0 w2 (.cells #[.int .i64 x, .int .i64 y] 62 (0, 0))
    have HC := hideI (gcopy_c T s2 G n _ (hG2.new (.cells #[.int .i64 x, .int .i64 y] 62 (0, 0))) (by omega) (by omega) hn0 (by omega))
    have HRA := hideI ((hB3.block w.heap.size (by omega)).trans ((hgb2.block w.heap.size (by omega) (by intro e; injection e with e; omega)).trans (unhideI HR)))
    have HRB := hideI hR3
    have HGB := hideI (gbc_trans (unhideI HB) (gbc_trans hgb2 (gb_ofB (o := some G) hB3)))
    clear hG2 hgb2 hR3 hB3 HW
    go_wp2_with fail
    generalize hTb : w2.heap.size = Tb at HRB hs3 hz2 ⊢
    generalize World.alloc w2 _ = W3 at HC HRA HRB HGB hs3 ⊢
    refine (unhideI HC).mono ?_
    rintro e w4 ⟨rfl, hG4, hgb4⟩
    rw [hp2] at hG4 ⊢
    have HR4 := hideI ((hgb4.block w.heap.size (by omega) (by intro e; injection e with e; omega)).trans (unhideI HRA))
    have HP4 := hideI ((hgb4.block Tb (by omega) (by intro e; injection e with e; omega)).trans (unhideI HRB))
    have HG4 := hideI hG4
    have HGB4 := hideI (gbc_trans (unhideI HGB) hgb4)
    clear hG4 hgb4 HC HRA HRB HGB
    go_wp2_with (refine wpList_store_row rfl 60 _ _ rfl w.heap.size #[.slice (some ⟨Tb, 0, none⟩) 1 1, .bool true, .int .i64 s.p] rfl rfl 60 _ (unhideI HR4) (Tryd.infSpK.trans rfl) rfl (by simp [Value.oneCell']) ?_)
    refine bodyPost_ret (resultsK (fn := Tryd.f37) (q := 4) (uy := 60) rfl _ _ w.heap.size 60 #[.slice (some ⟨Tb, 0, none⟩) 1 1, .bool true, .int .i64 s.p] (0, 0) _ rfl (setRow_heap _ _ _ _ _ _ (unhideI HR4)) Tryd.underlying60 rfl (Tryd.infSpK.trans rfl)) rfl ?_
    exact ⟨_, rfl, PlO_one ((setRow_other _ _ _ _ (by omega)).trans (unhideI HP4)) (by omega), (setRow_other _ _ _ _ (by omega)).trans (unhideI HG4), gbc_row (unhideI HGB4) (Nat.le_refl _)⟩
  · by_cases h2 : 0 < n
    · obtain ⟨m, rfl⟩ : ∃ m : Nat, n = m := ⟨n.toNat, by omega⟩
      have hs9 := spot_block (ag := T.ag) (pr := T.pairs) (s := s) (show 0 < m by omega) (show (m : Int) ≤ T.br by omega) hu
      rw [hs9.1, hs9.2]
      clear hs9 HW
      simp only
      go_enter Tryd.func37, Tryd.ntmps37
      go_wp2_with fail
      clear y10
      generalize World.alloc w _ = W at HR HB HG0 hs ⊢
      refine (gblock_c T s G m W (unhideI HG0) ((unhideI HT).gb (unhideI HB) hlt) (by omega) (by omega) hu hL hc0 hc1).mono ?_
      rintro e w2 ⟨v, rfl, hP2, hG2, hgb2⟩
      obtain ⟨pb, pn, pc, hv⟩ : ∃ pb pn pc, v = .slice pb pn pc := by
        rcases hP2.2 with ⟨e, _⟩ | ⟨g, cap, cur, e, _⟩
        · exact ⟨_, _, _, e⟩
        · exact ⟨_, _, _, e⟩
      subst hv
      have HR4 := hideI ((hgb2.block w.heap.size (by omega) (by intro e; injection e with e; omega)).trans (unhideI HR))
      have HP4 := hideI hP2
      have HG4 := hideI hG2
      have HGB4 := hideI (gbc_trans (unhideI HB) hgb2)
      clear hP2 hG2 hgb2
      go_wp2_with (refine wpList_store_row rfl 60 _ _ rfl w.heap.size #[.slice pb pn pc, .bool false, .int .i64 0] rfl rfl 60 _ (unhideI HR4) (Tryd.infSpK.trans rfl) rfl (by simp [Value.oneCell']) ?_)
      refine bodyPost_ret (resultsK (fn := Tryd.f37) (q := 4) (uy := 60) rfl _ _ w.heap.size 60 #[.slice pb pn pc, .bool false, .int .i64 0] (0, 0) _ rfl (setRow_heap _ _ _ _ _ _ (unhideI HR4)) Tryd.underlying60 rfl (Tryd.infSpK.trans rfl)) rfl ?_
      exact ⟨_, rfl, PlO_row (unhideI HP4) (by omega) (by omega), (setRow_other _ _ _ _ (by omega)).trans (unhideI HG4), gbc_row (unhideI HGB4) (Nat.le_refl _)⟩
    · obtain rfl : n = 0 := by omega
      have hs9 := spot_word (ag := T.ag) (br := T.br) (pr := T.pairs) (n := 0) (s := s) (Or.inl rfl)
      rw [hs9.1, hs9.2]
      clear hs9
      simp only [decide_eq_false h1, if_neg h1]
      have hp2 : (nxW T.ag s).p = s.p := by unfold nxW; split <;> rfl
      generalize plW T.ag s = xy at HW ⊢
      generalize nxW T.ag s = s2 at HW hp2 ⊢
      obtain ⟨x, y⟩ := xy
      simp only at HW
      go_enter Tryd.func37, Tryd.ntmps37
      go_wp2_with fail
      clear y10
      generalize World.alloc w _ = W at HR HB HG0 hs ⊢
      refine (unhideI HW W (unhideI HG0) (unhideI HB)).mono ?_
      rintro e w2 ⟨rfl, hG2, hgb2⟩
      have hz2 := hgb2.size
      obtain ⟨hR3, hB3, hs3⟩ := al0 w2 (.cells #[.int .i64 x, .int .i64 y] 62 (0, 0))
      have HR4 := hideI ((hB3.block w.heap.size (by omega)).trans ((hgb2.block w.heap.size (by omega) (by intro e; injection e with e; omega)).trans (unhideI HR)))
      have HP4 := hideI hR3
      have HG4 := hideI (hG2.new (.cells #[.int .i64 x, .int .i64 y] 62 (0, 0)))
      have HGB4 := hideI (gbc_trans (unhideI HB) (gbc_trans hgb2 (gb_ofB (o := some G) hB3)))
      clear hG2 hgb2 hR3 hB3 HW
      go_wp2_with (refine wpList_store_row rfl 60 _ _ rfl w.heap.size #[.slice (some ⟨w2.heap.size, 0, none⟩) 1 1, .bool false, .int .i64 0] rfl rfl 60 _ (unhideI HR4) (Tryd.infSpK.trans rfl) rfl (by simp [Value.oneCell']) ?_)
      refine bodyPost_ret (resultsK (fn := Tryd.f37) (q := 4) (uy := 60) rfl _ _ w.heap.size 60 #[.slice (some ⟨w2.heap.size, 0, none⟩) 1 1, .bool false, .int .i64 0] (0, 0) _ rfl (setRow_heap _ _ _ _ _ _ (unhideI HR4)) Tryd.underlying60 rfl (Tryd.infSpK.trans rfl)) rfl ?_
      refine ⟨_, rfl, PlO_one ((setRow_other _ _ _ _ (by omega)).trans (unhideI HP4)) (by omega), ?_, gbc_row (unhideI HGB4) (Nat.le_refl _)⟩
      rw [← hp2]
      exact (setRow_other _ _ _ _ (by omega)).trans (unhideI HG4)
end Go.Proofs.YtffemeicclhioaaDoor
