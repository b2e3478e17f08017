/-
  Layouts of calls: what gives a place, by package layout. Own work of the verifier.
-/
import Derived.Test.YtffemeicclhioaaDoorClRep
namespace Go.Proofs.YtffemeicclhioaaDoor
open Go.RowKit

def plW (ag : List Int) (s : GivS) : Int × Int := if s.u < ag.length then (ag.getD s.u 0, 0) else (-1, s.c)
def nxW (ag : List Int) (s : GivS) : GivS := if s.u < ag.length then ⟨s.u + 1, s.c, s.p⟩ else ⟨s.u, s.c + 8, s.p⟩
set_option maxHeartbeats 1000000 in
theorem gcell_c (T : TbE) (s : GivS) (G : Nat) (w : World) (hG : GivR w G T s) (hc0 : -1000000 ≤ s.c) (hc1 : s.c ≤ 1000000) :
    Calls Tryd.prog 48 #[.pointer (some ⟨G, 0, none⟩)] w fun e w' => e = .returned (.agg #[.int .i64 (-1), .int .i64 s.c]) ∧ GivR w' G T ⟨s.u, s.c + 8, s.p⟩ ∧ w.grownBy w' (some G) := by
  have HG := hideI hG
  have y := fun X : Obj => (hG.new X).k13
  have fz := fun X : Obj => (hG.new X).fz 13
  clear hG
  go_enter Tryd.func48, Tryd.ntmps48
  go_wp2
  go_returns
  have hlt := (unhideI HG).lt
  exact ⟨rfl, ((((unhideI HG).new _).c _).oth (by omega)).oth (by omega), gbc_oth (gbc_oth (gbc_set (gbc_new _ (gbc_self w _))) (Nat.le_refl _)) (Nat.le_refl _)⟩
set_option maxHeartbeats 1000000 in
theorem gcopy_c (T : TbE) (s : GivS) (G : Nat) (n : Int) (w : World) (hG : GivR w G T s) (hc0 : 0 ≤ s.p) (hc1 : s.p ≤ 1000000) (hn0 : 0 ≤ n) (hn1 : n ≤ 1000) :
    Calls Tryd.prog 46 #[.pointer (some ⟨G, 0, none⟩), .int .i64 n] w fun e w' => e = .returned (.int .i64 s.p) ∧ GivR w' G T ⟨s.u, s.c, s.p + 8 * n⟩ ∧ w.grownBy w' (some G) := by
  have HG := hideI hG
  have y := hG.k14
  have fz := hG.fz 14
  clear hG
  go_enter Tryd.func46, Tryd.ntmps46
  go_wp2
  go_ret
  exact ⟨rfl, (unhideI HG).p _, gbc_set (gbc_self w _)⟩
theorem Tryd.infPlK : (Tryd.prog.info? 62).map (·.size) = some 2 := by kernel_rfl
set_option maxHeartbeats 2000000 in
theorem gword_c (T : TbE) (s : GivS) (G : Nat) (w : World) (hG : GivR w G T s) (hT : TbR w G T) (hL : T.ag.length ≤ 1000000) (hu : s.u ≤ 1000000) (hc0 : -1000000 ≤ s.c) (hc1 : s.c ≤ 1000000) :
    Calls Tryd.prog 45 #[.pointer (some ⟨G, 0, none⟩)] w fun e w' => e = .returned (.agg #[.int .i64 (plW T.ag s).1, .int .i64 (plW T.ag s).2]) ∧ GivR w' G T (nxW T.ag s) ∧ w.grownBy w' (some G) := by
  have HG := hideI hG
  have HT := hideI hT
  have hlt := hG.lt
  have y := fun X : Obj => (hG.new X).k12
  have y5 := fun X : Obj => (hG.new X).k5
  have hl : T.ag.length < 9223372036854775808 := by omega
  clear hG hT
  go_enter Tryd.func45, Tryd.ntmps45
  go_wp2_with fail
  go_quiet (fail)
  clear y y5
  obtain ⟨hR, hB, hs⟩ := al0 w (.cells #[.int .i64 0, .int .i64 0] 62 (0, 0))
  have HGV := hideI (fun k : Nat => show GivR ((w.alloc (.cells #[.int .i64 0, .int .i64 0] 62 (0, 0))).drewN k) G T s from (unhideI HG).new _)
  have HTV := hideI (fun k : Nat => (unhideI HT).gb (gb_ofB (o := some G) (below_drewN hB k)) hlt)
  have HRV := hideI (fun k : Nat => show ((w.alloc (.cells #[.int .i64 0, .int .i64 0] 62 (0, 0))).drewN k).heap[w.heap.size]? = _ from hR)
  have HBV := hideI (fun k : Nat => gb_ofB (o := some G) (below_drewN hB k))
  have HSV := hideI (fun k : Nat => show ((w.alloc (.cells #[.int .i64 0, .int .i64 0] 62 (0, 0))).drewN k).heap.size = w.heap.size + 1 from hs)
  clear hR hB hs HG HT
  generalize World.alloc w _ = V0 at HGV HTV HRV HBV HSV ⊢
  generalize hk : V0.drewN _ = V
  obtain ⟨hGV, hTV, hRV, hBV, hSV⟩ : GivR V G T s ∧ TbR V G T ∧ V.heap[w.heap.size]? = some (.cells #[.int .i64 0, .int .i64 0] 62 (0, 0)) ∧ w.grownBy V (some G) ∧ V.heap.size = w.heap.size + 1 := by
    subst hk
    exact ⟨unhideI HGV _, unhideI HTV _, unhideI HRV _, unhideI HBV _, unhideI HSV _⟩
  clear hk HGV HTV HRV HBV HSV
  have HG := hideI hGV
  have HR := hideI hRV
  have HB := hideI hBV
  by_cases h : s.u < T.ag.length
  · have HP := hideI (show plW T.ag s = (T.ag.getD s.u 0, 0) by unfold plW; rw [if_pos h])
    have HX := hideI (show nxW T.ag s = ⟨s.u + 1, s.c, s.p⟩ by unfold nxW; rw [if_pos h])
    obtain ⟨sb, so, hpa, -, hc⟩ := hTV.a.at h
    have c := hc s.u h
    have y := hGV.k12
    have y5 := hGV.k5
    rw [hpa] at y5
    have fz := hGV.fz 12
    have r0 := (cells_of_row hRV 0).trans rfl
    have r1 := (cells_of_row hRV 1).trans rfl
    have z0 := frozen_of_row _ _ 0 _ _ hRV
    have z1 := frozen_of_row _ _ 1 _ _ hRV
    clear hGV hTV hRV hBV hc
    generalize T.ag.getD s.u 0 = x at HP c
    go_wp2_with fail
    go_quiet (fail)
    go_wp2
    refine bodyPost_ret (resultsK (fn := Tryd.f45) (q := 2) (uy := 62) rfl _ _ w.heap.size 62 #[.int .i64 x, .int .i64 0] (0, 0) _ rfl (heap_setCell_same _ _ 1 _ _ _ (heap_setCell_same _ _ 0 _ _ _ ((heap_setCell_other _ _ _ _ (by show w.heap.size ≠ G; omega)).trans (unhideI HR)))) Tryd.underlying62 rfl (Tryd.infPlK.trans rfl)) rfl ?_
    refine ⟨by rw [unhideI HP], ?_, ?_⟩
    · rw [unhideI HX]
      exact ((GivR.u (w := V.drewN _) (s := s) (unhideI HG) (s.u + 1)).oth (by omega)).oth (by omega)
    · exact gbc_oth (gbc_oth (gbc_set (gbc_drew (unhideI HB) _)) (Nat.le_refl _)) (Nat.le_refl _)
  · have HP := hideI (show plW T.ag s = (-1, s.c) by unfold plW; rw [if_neg h])
    have HX := hideI (show nxW T.ag s = ⟨s.u, s.c + 8, s.p⟩ by unfold nxW; rw [if_neg h])
    clear hGV hTV hRV hBV
    go_wp2_with fail
    refine (gcell_c T s G _ (unhideI HG) hc0 hc1).mono ?_
    rintro e w2 ⟨rfl, hg2, hgb⟩
    have hs2 := hgb.size
    have HR2 := hideI ((hgb.block w.heap.size (by omega) (by intro e; injection e with e; omega)).trans (unhideI HR))
    have HG2 := hideI hg2
    have HGB := hideI (gbc_trans (unhideI HB) hgb)
    clear hgb hg2 hs2
    go_wp2_with (refine wpList_store_row rfl 62 _ _ rfl w.heap.size #[.int .i64 (-1), .int .i64 s.c] rfl rfl 62 _ (unhideI HR2) (Tryd.infPlK.trans rfl) rfl (by simp [Value.oneCell']) ?_)
    refine bodyPost_ret (resultsK (fn := Tryd.f45) (q := 2) (uy := 62) rfl _ _ w.heap.size 62 #[.int .i64 (-1), .int .i64 s.c] (0, 0) _ rfl (setRow_heap _ _ _ _ _ _ (unhideI HR2)) Tryd.underlying62 rfl (Tryd.infPlK.trans rfl)) rfl ?_
    refine ⟨by rw [unhideI HP], ?_, ?_⟩
    · rw [unhideI HX]
      exact (setRow_other _ _ _ _ (by omega)).trans (unhideI HG2)
    · exact gbc_row (unhideI HGB) (Nat.le_refl _)
end Go.Proofs.YtffemeicclhioaaDoor
