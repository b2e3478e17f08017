/-
  Checks: the heads of functions, by package program. Own work of the verifier.
-/
import Derived.Test.YteaemhhbpaicnaaDoorCkA
import Derived.Test.YteaemhhbpaicnaaDoorM4
namespace Go.Proofs.YteaemhhbpaicnaaDoor
open Go.RowKit

theorem LS.ones {w : World} {v : Value} {n : Nat} {B : Nat → Value} (h : LS 1 w v n (fun k => #[B k])) : ∃ p cap, v = .slice p n cap ∧ n ≤ cap ∧ n < 9223372036854775808 ∧ (0 < n → ∃ sb so, p = some ⟨sb, so, none⟩ ∧ ∀ k, k < n → w.cell? ⟨sb, so + k, none⟩ = some (B k)) := by
  obtain ⟨p, cap, h1, h2, h3, h4⟩ := h
  refine ⟨p, cap, h1, h2, h3, fun h0 => ?_⟩
  obtain ⟨sb, so, e, -, hc⟩ := h4 h0
  refine ⟨sb, so, e, fun k hk => ?_⟩
  have := hc k hk 0 _ rfl
  rwa [Nat.mul_one, Nat.add_zero] at this
theorem row_al {w : World} {T : Nat} {cs : Array Value} {t : TypeId} {fr : Nat × Nat} (h : w.heap[T]? = some (.cells cs t fr)) (j : Nat) (X : Obj) : (w.alloc X).cell? ⟨T, j, none⟩ = cs[j]? := by
  have hlt : T < w.heap.size := by
    rcases Nat.lt_or_ge T w.heap.size with y | y
    · exact y
    · simp [Array.getElem?_eq_none y] at h
  exact (World.cell?_of_block (a := ⟨T, j, none⟩) ((al0 w X).2.1.block T hlt)).trans (cells_of_row h j)
theorem cell_al {w : World} {p : Addr} {v : Value} (h : w.cell? p = some v) (X : Obj) : (w.alloc X).cell? p = some v := ((al0 w X).2.1.cell (World.block_lt_of_cell? w _ h)).trans h
theorem Li.rs {w : World} {v : Value} {ns : List Int} (h : Li w v ns) : Rs w v ns := by
  obtain ⟨p, cap, h1, h2, h3, h4⟩ := h
  rcases Nat.eq_zero_or_pos ns.length with h0 | h0
  · exact Or.inl ⟨List.eq_nil_of_length_eq_zero h0, p, cap, by rw [h1, h0]⟩
  · obtain ⟨sb, so, e, hc⟩ := h4 h0
    exact Or.inr ⟨sb, so, cap, by rw [h1, e], hc⟩
set_option maxHeartbeats 1000000 in
set_option maxRecDepth 100000 in
theorem blocksFit_c (v : Value) (bs : List (List InsE)) (B : Nat → Value) (w : World) (h : LS 1 w v bs.length (fun k => #[B k])) (hB : ∀ k, k < bs.length → ∃ q c, B k = .slice q (bs.getD k []).length c ∧ (bs.getD k []).length < 9223372036854775808) : Calls Tryd.prog 47 #[v] w fun e w' => e = .returned (.bool (blocksB bs)) ∧ w' = w := by
  obtain ⟨p, cap, rfl, hcap, hlt, hc⟩ := h.ones
  have HC := hideI hc
  have HB := hideI hB
  clear hc h hB
  go_enter Tryd.func47, Tryd.ntmps47
  go_wp2_with fail
  go_loopw [7] (fun j w' => ∃ k : Nat, j = .int .i64 k ∧ k ≤ bs.length ∧ w' = w ∧ ∀ q, q < k → inB ((bs.getD q []).length) 1 24 = true) (fun j _ => bs.length - (intOf j).toNat)
  case atStart => exact ⟨0, rfl, by omega, rfl, fun q hq => by omega⟩
  case round =>
    obtain ⟨k, rfl, hk, rfl, hno⟩ := hrel
    have HN := hideI hno
    clear hno
    by_cases hk2 : k < bs.length
    · obtain ⟨sb, so, rfl, hcc⟩ := unhideI HC (by omega)
      have c := hcc k hk2
      obtain ⟨q, cp, hq, hql⟩ := unhideI HB k hk2
      rw [hq] at c
      have HW := hideI (isWithin_c ((bs.getD k []).length) 1 24 wr)
      have HBAD := hideI (fun hb : inB ((bs.getD k []).length) 1 24 = false => show blocksB bs = false from upB_false hk2 hb)
      have HNX := hideI (fun hb : inB ((bs.getD k []).length) 1 24 = true => upTo_next (q := fun q => inB ((bs.getD q []).length) 1 24) (unhideI HN) hb)
      clear hcc HC hq HB
      generalize inB ((bs.getD k []).length) 1 24 = yes at HW HBAD HNX
      generalize (bs.getD k []).length = y at c HW hql
      go_wp2_with fail
      refine (unhideI HW).mono ?_
      rintro e w2 ⟨rfl, h2⟩
      subst w2
      cases yes with
      | false =>
        have hx := hideI (unhideI HBAD rfl)
        go_wp2
        go_ret
        exact ⟨by rw [unhideI hx]; rfl, rfl⟩
      | true =>
        have hx := hideI (unhideI HNX rfl)
        go_wp2
        go_roundw
        case rel => exact ⟨k + 1, by go_num, by omega, trivial, unhideI hx⟩
        case measure => simp [intOf]; omega
    · have HT := hideI (show blocksB bs = true from upB_true (fun q hq => unhideI HN q (by omega)))
      obtain rfl : k = bs.length := by omega
      go_wp2
      go_ret
      exact ⟨by rw [unhideI HT]; rfl, rfl⟩
set_option maxHeartbeats 4000000 in
set_option maxRecDepth 100000 in
theorem paramsFit_c (f : FuncE) (pv hv sv bv : Value) (w : World) (hp : LS 2 w pv f.params.length (fun k => pairA (f.params.getD k (0, 0)))) (hh : Li w hv f.homes) (hs : Li w sv f.slots) : Calls Tryd.prog 48 #[.agg #[pv, .int .i64 f.results, hv, sv, bv]] w fun e w' => e = .returned (.bool (paramsB f)) ∧ Below w.heap.size w w' := by
  have hx := al0 w (.cells #[pv, .int .i64 f.results, hv, sv, bv] 48 (0, 0))
  have HH := hideI (hh.below hx.2.1)
  have HS := hideI (hs.below hx.2.1)
  obtain ⟨p, cap, rfl, hcap, hlt, hc⟩ := (hp.below hx.2.1).pairs
  obtain ⟨ph, ch, rfl⟩ := hh.shape
  obtain ⟨ps, cs, rfl⟩ := hs.shape
  have HC := hideI hc
  have HX := hideI hx
  clear hc hx hp hh hs
  go_enter Tryd.func48, Tryd.ntmps48
  go_wp2_with fail
  generalize World.alloc w _ = W at HH HS HC HX ⊢
  go_loopw [10] (fun j w' => ∃ k : Nat, j = .int .i64 k ∧ k ≤ f.params.length ∧ Below W.heap.size W w' ∧ ∀ q, q < k → paramB f q = true) (fun j _ => f.params.length - (intOf j).toNat)
  case atStart => exact ⟨0, rfl, by omega, Below.refl _ _, fun q hq => by omega⟩
  case round =>
    obtain ⟨k, rfl, hk, hbw, hno⟩ := hrel
    have HN := hideI hno
    clear hno
    by_cases hk2 : k < f.params.length
    · obtain ⟨sb, so, rfl, hcc⟩ := unhideI HC (by omega)
      have hWs := (unhideI HX).2.2
      have hws := hbw.size
      have hsb : sb < W.heap.size := World.block_lt_of_cell? W _ (hcc k hk2).1
      have c1 := (hbw.cell (p := ⟨sb, so + k * 2, none⟩) hsb).trans (hcc k hk2).1
      have c2 := (hbw.cell (p := ⟨sb, so + k * 2 + 1, none⟩) hsb).trans (hcc k hk2).2
      have hrow := (hbw.block w.heap.size (by omega)).trans (unhideI HX).1
      have HROW := hideI hrow
      have r0 := fun X : Obj => (row_al hrow 0 X).trans rfl
      have r1 := fun X : Obj => (row_al hrow 1 X).trans rfl
      have r2 := fun X : Obj => (row_al hrow 2 X).trans rfl
      have r3 := fun X : Obj => (row_al hrow 3 X).trans rfl
      have r4 := fun X : Obj => (row_al hrow 4 X).trans rfl
      have HCC := hideI hcc
      have HBW := hideI hbw
      clear hcc hrow
      generalize hxy : f.params.getD k (0, 0) = xy at c1 c2
      have HXY := hideI hxy
      clear hxy
      obtain ⟨x, y⟩ := xy
      simp only at c1 c2
      go_wp2_with fail
      have hy := al0 wr (.cells #[.int .i64 x, .int .i64 y] 71 (0, 0))
      have hbY : Below W.heap.size W (wr.alloc (.cells #[.int .i64 x, .int .i64 y] 71 (0, 0))) := below_cut hbw hy.2.1 hws
      refine (comesInto_c f _ _ _ _ _ (x, y) _ ((unhideI HH).below hbY) ((unhideI HS).below hbY)).mono ?_
      rintro e w2 ⟨rfl, hb2⟩
      have hb2s := hb2.size
      have hrx := (hb2.block wr.heap.size (by omega)).trans hy.1
      have hrf := (hb2.block w.heap.size (by omega)).trans ((hy.2.1.block w.heap.size (by omega)).trans (unhideI HROW))
      have hys := hy.2.2
      have hbZ : Below W.heap.size W w2 := below_cut hbY hb2 (by omega)
      have HBZ := hideI hbZ
      have HRX := hideI hrx
      have HB2 := hideI hb2
      clear hb2 hy hbY r0 r1 r2 r3 r4 c1 c2 hbw hbZ
      have f0 := (cells_of_row hrf 0).trans rfl
      clear hrf hrx
      cases hsp : spotB f (x, y) with
      | false =>
        have HT := hideI (show paramsB f = false from upB_false hk2 (by unfold paramB; rw [unhideI HXY, hsp]; rfl))
        clear hsp
        go_wp2
        go_ret
        exact ⟨by rw [unhideI HT]; rfl, below_cut (unhideI HX).2.1 (unhideI HBZ) (by omega)⟩
      | true =>
        have HSP := hideI hsp
        clear hsp
        go_wp2_with fail
        clear f0
        generalize hg : wr.heap.size = Tx at HRX hys hws ⊢
        have hTx : Tx < w2.heap.size := by omega
        clear hg hb2s hys
        go_loopw [24] (fun j w' => ∃ m : Nat, j = .int .i64 m ∧ m ≤ k ∧ Below w2.heap.size w2 w' ∧ ∀ q, q < m → (!meetsB (x, y) (f.params.getD q (0, 0))) = true) (fun j _ => k - (intOf j).toNat)
        case atStart => exact ⟨0, rfl, by omega, Below.refl _ _, fun q hq => by omega⟩
        case round =>
          obtain ⟨m, rfl, hm, hbm, hmo⟩ := hrel
          have HM := hideI hmo
          clear hmo
          have hms := hbm.size
          by_cases hm2 : m < k
          · have hq := (unhideI HCC) m (by omega)
            have hwm : Below W.heap.size W wr := below_cut (unhideI HBZ) hbm (by have := (unhideI HBZ).size; omega)
            have c1 := (hwm.cell (p := ⟨sb, so + m * 2, none⟩) hsb).trans hq.1
            have c2 := (hwm.cell (p := ⟨sb, so + m * 2 + 1, none⟩) hsb).trans hq.2
            have hrow := (hbm.block Tx hTx).trans (unhideI HRX)
            have r0 := fun X : Obj => (row_al hrow 0 X).trans rfl
            have r1 := fun X : Obj => (row_al hrow 1 X).trans rfl
            have HBM := hideI hbm
            clear hrow hq hwm hbm
            generalize hxy : f.params.getD m (0, 0) = xy at c1 c2
            have HXZ := hideI hxy
            clear hxy
            obtain ⟨x2, y2⟩ := xy
            simp only at c1 c2
            have hme : meetsB (x, y) (x2, y2) = (decide (y = y2) && (decide (x = 0) == decide (x2 = 0))) := rfl
            have HBAD := hideI (fun hb : (decide (y = y2) && (decide (x = 0) == decide (x2 = 0))) = true => show paramsB f = false from upB_false hk2 (by unfold paramB; rw [unhideI HXY]; simp only [Bool.and_eq_false_iff]; exact Or.inr (upB_false hm2 (by rw [unhideI HXZ, hme, hb]; rfl))))
            have HNX := hideI (fun hb : (decide (y = y2) && (decide (x = 0) == decide (x2 = 0))) = false => upTo_next (q := fun q => !meetsB (x, y) (f.params.getD q (0, 0))) (unhideI HM) (by show (!meetsB (x, y) (f.params.getD m (0, 0))) = true; rw [unhideI HXZ, hme, hb]; rfl))
            have HBA := hideI (below_cut (unhideI HBM) (al0 wr (.cells #[.int .i64 x2, .int .i64 y2] 71 (0, 0))).2.1 hms)
            clear hme
            by_cases e1 : y = y2
            · subst e1
              by_cases e2 : x = 0
              · by_cases e3 : x2 = 0
                · subst e2 e3
                  have hx := hideI (unhideI HBAD (by simp))
                  go_wp2
                  go_ret
                  exact ⟨by rw [unhideI hx]; rfl, below_cut (unhideI HX).2.1 (below_cut (unhideI HBZ) (unhideI HBA) (by have := (unhideI HBZ).size; omega)) (by omega)⟩
                · subst e2
                  have z3 : (x2 == 0) = false := by simpa using e3
                  have hx := hideI (unhideI HNX (by simp [e3]))
                  go_wp2
                  go_roundw
                  case rel => exact ⟨m + 1, by go_num, by omega, unhideI HBA, unhideI hx⟩
                  case measure => simp [intOf]; omega
              · have z2 : (x == 0) = false := by simpa using e2
                by_cases e3 : x2 = 0
                · subst e3
                  have hx := hideI (unhideI HNX (by simp [e2]))
                  go_wp2
                  go_roundw
                  case rel => exact ⟨m + 1, by go_num, by omega, unhideI HBA, unhideI hx⟩
                  case measure => simp [intOf]; omega
                · have z3 : (x2 == 0) = false := by simpa using e3
                  have hx := hideI (unhideI HBAD (by simp [e2, e3]))
                  go_wp2
                  go_ret
                  exact ⟨by rw [unhideI hx]; rfl, below_cut (unhideI HX).2.1 (below_cut (unhideI HBZ) (unhideI HBA) (by have := (unhideI HBZ).size; omega)) (by omega)⟩
            · have z1 : (y == y2) = false := by simpa using e1
              have hx := hideI (unhideI HNX (by simp [e1]))
              go_wp2
              go_roundw
              case rel => exact ⟨m + 1, by go_num, by omega, unhideI HBA, unhideI hx⟩
              case measure => simp [intOf]; omega
          · obtain rfl : m = k := by omega
            have hx := hideI (upTo_next (q := paramB f) (unhideI HN) (by unfold paramB; rw [unhideI HXY, unhideI HSP, upB_true (unhideI HM)]; rfl))
            have HBM := hideI (below_cut (unhideI HBZ) hbm (by have := (unhideI HBZ).size; omega))
            clear hbm
            go_wp2
            go_roundw
            case rel => exact ⟨m + 1, by go_num, by omega, unhideI HBM, unhideI hx⟩
            case measure => simp [intOf]; omega
    · have HT := hideI (show paramsB f = true from upB_true (fun q hq => unhideI HN q (by omega)))
      obtain rfl : k = f.params.length := by omega
      have HBW := hideI hbw
      have hWs := (unhideI HX).2.2
      clear hbw
      go_wp2
      go_ret
      exact ⟨by rw [unhideI HT]; rfl, below_cut (unhideI HX).2.1 (unhideI HBW) (by omega)⟩
end Go.Proofs.YteaemhhbpaicnaaDoor
