/-
  Layouts of calls: where results go, by package layout. Own work of the verifier.
-/
import Derived.Test.YtffemeicclhioaaDoorClC
namespace Go.Proofs.YtffemeicclhioaaDoor
open Go.RowKit

theorem row_set2 {cs : Array Value} {n k : Nat} {f : Nat → Int × Int} {x y : Int} (hsz : cs.size = n * 2) (hk : k < n) (hxy : f k = (x, y)) (hcs : ∀ q, q < k → cs[q * 2]? = some (.int .i64 (f q).1) ∧ cs[q * 2 + 1]? = some (.int .i64 (f q).2)) :
    ∀ q, q < k + 1 → ((cs.setIfInBounds (k * 2) (.int .i64 x)).setIfInBounds (k * 2 + 1) (.int .i64 y))[q * 2]? = some (.int .i64 (f q).1) ∧ ((cs.setIfInBounds (k * 2) (.int .i64 x)).setIfInBounds (k * 2 + 1) (.int .i64 y))[q * 2 + 1]? = some (.int .i64 (f q).2) := fun q hq => by
  by_cases hqk : q = k
  · subst hqk
    rw [hxy]
    refine ⟨?_, ?_⟩
    · rw [Array.getElem?_setIfInBounds_ne (by omega), Array.getElem?_setIfInBounds_self_of_lt (by omega)]
    · rw [Array.getElem?_setIfInBounds_self_of_lt (by simp; omega)]
  · have h := hcs q (by omega)
    refine ⟨?_, ?_⟩
    · rw [Array.getElem?_setIfInBounds_ne (by omega), Array.getElem?_setIfInBounds_ne (by omega)]; exact h.1
    · rw [Array.getElem?_setIfInBounds_ne (by omega), Array.getElem?_setIfInBounds_ne (by omega)]; exact h.2
set_option maxHeartbeats 4000000 in
set_option maxRecDepth 100000 in
theorem gres_c (T : TbE) (s : GivS) (G n : Nat) (w : World) (hG : GivR w G T s) (hT : TbR w G T) (hn4 : n ≤ 8) (hL : T.rs.length ≤ 1000) (hc0 : 0 ≤ s.c) (hc1 : s.c ≤ 1000) :
    Calls Tryd.prog 38 #[.pointer (some ⟨G, 0, none⟩), .int .i64 n] w fun e w' => ∃ v, e = .returned v ∧ PlO w' w.heap.size v ((List.range n).map (resS T.rs s.c)) ∧ GivR w' G T ⟨s.u, resC T.rs s.c n, s.p⟩ ∧ w.grownBy w' (some G) := by
  have HG := hideI hG
  have HT := hideI hT
  have hlt := hG.lt
  have hmk := fun V => mkPl n (by omega) V
  clear hG hT
  go_enter Tryd.func38, Tryd.ntmps38
  go_wp2_with fail
  clear hmk
  obtain ⟨hR, hB, hs⟩ := al0 w (.cells (madeCells #[.int .i64 0, .int .i64 0] (n * 2)) 62 (0, 0))
  have HGB3 := hideI (gb_ofB (o := some G) hB)
  have HG3 := hideI ((unhideI HG).new (.cells (madeCells #[.int .i64 0, .int .i64 0] (n * 2)) 62 (0, 0)))
  have HR3 := hideI hR
  clear hR hB
  generalize World.alloc w _ = V at HG3 HGB3 HR3 hs ⊢
  go_loopw [11] (fun j w' => ∃ (k : Nat) (cs : Array Value), j = .int .i64 k ∧ k ≤ n ∧ w'.heap[w.heap.size]? = some (.cells cs 62 (0, 0)) ∧ cs.size = n * 2 ∧ (∀ q, q < k → cs[q * 2]? = some (.int .i64 (resS T.rs s.c q).1) ∧ cs[q * 2 + 1]? = some (.int .i64 (resS T.rs s.c q).2)) ∧ GivR w' G T ⟨s.u, resC T.rs s.c k, s.p⟩ ∧ w.grownBy w' (some G)) (fun j _ => n - (intOf j).toNat)
  case atStart => exact ⟨0, _, rfl, by omega, unhideI HR3, size_madeCells _ _, fun q hq => by omega, by rw [show resC T.rs s.c 0 = s.c by unfold resC; simp]; exact unhideI HG3, unhideI HGB3⟩
  case round =>
    clear HG3 HGB3 HR3
    obtain ⟨k, cs, rfl, hk, hrow, hsz, hcs, hGk, hgb⟩ := hrel
    have HRW := hideI hrow
    have HCS := hideI hcs
    have HGK := hideI hGk
    have HGB := hideI hgb
    have hgsz := hgb.size
    have hTw := row_lt hrow
    by_cases hk2 : k < n
    · have y6 := hGk.k6
      obtain ⟨x0, hx0⟩ : ∃ x0, cs[k * 2]? = some x0 := ⟨_, Array.getElem?_eq_getElem (by omega)⟩
      obtain ⟨x1, hx1⟩ : ∃ x1, cs[k * 2 + 1]? = some x1 := ⟨_, Array.getElem?_eq_getElem (by omega)⟩
      by_cases hr : k < T.rs.length
      · have hrs := (unhideI HT).gb hgb hlt
        obtain ⟨sb, so, hpa, -, hc⟩ := hrs.r.at hr
        have c := hc k hr
        rw [hpa] at y6
        have hres : resS T.rs s.c k = (T.rs.getD k 0, 0) := by unfold resS; rw [if_pos hr]
        have hrc : resC T.rs s.c (k + 1) = resC T.rs s.c k := by unfold resC; rw [show k + 1 - T.rs.length = 0 by omega, show k - T.rs.length = 0 by omega]
        generalize T.rs.getD k 0 = x at hres c
        have c0 := (cells_of_row hrow (k * 2)).trans hx0
        have c1 := (cells_of_row hrow (k * 2 + 1)).trans hx1
        have z0 := frozen_of_row _ _ (k * 2) _ _ hrow
        have z1 := frozen_of_row _ _ (k * 2 + 1) _ _ hrow
        have HR6 := hideI (heap_setCell_same _ _ (k * 2 + 1) _ _ (.int .i64 0) (heap_setCell_same _ _ (k * 2) _ _ (.int .i64 x) hrow))
        have HG6 := hideI (show GivR _ G T ⟨s.u, resC T.rs s.c (k + 1), s.p⟩ by rw [hrc]; exact (hGk.oth (b := w.heap.size) (j := k * 2) (v := .int .i64 x) (by omega)).oth (b := w.heap.size) (j := k * 2 + 1) (v := .int .i64 0) (by omega))
        have HGB6 := hideI (gbc_oth (b := w.heap.size) (j := k * 2 + 1) (v := .int .i64 0) (gbc_oth (b := w.heap.size) (j := k * 2) (v := .int .i64 x) hgb (Nat.le_refl _)) (Nat.le_refl _))
        have HNX := hideI (row_set2 hsz hk2 hres hcs)
        clear hrow hx0 hx1 hcs hGk hgb hres hrc hc hrs
        go_wp2
        go_roundw
        case rel => exact ⟨k + 1, _, by go_num, by omega, unhideI HR6, by simp; omega, unhideI HNX, unhideI HG6, unhideI HGB6⟩
        case measure => simp [intOf]; omega
      · have hres : resS T.rs s.c k = (-1, resC T.rs s.c k) := by unfold resS resC; rw [if_neg hr]
        have hrc : resC T.rs s.c (k + 1) = resC T.rs s.c k + 8 := by unfold resC; rw [show k + 1 - T.rs.length = (k - T.rs.length) + 1 by omega]; omega
        have hrb : 0 ≤ resC T.rs s.c k ∧ resC T.rs s.c k ≤ 2000 := by unfold resC; omega
        have HNX := hideI (row_set2 hsz hk2 hres hcs)
        have HRC := hideI hrc
        clear hres hrc hrow hcs hGk hgb
        generalize resC T.rs s.c k = y at HNX HRC HGK hrb
        go_wp2_with fail
        refine (gcell_c T ⟨s.u, y, s.p⟩ G wr (unhideI HGK) (by show -1000000 ≤ y; omega) (by show y ≤ 1000000; omega)).mono ?_
        rintro e w2 ⟨rfl, hG5, hgb5⟩
        have hr5 := (hgb5.block w.heap.size hTw (by intro e; injection e with e; omega)).trans (unhideI HRW)
        have c0 := (cells_of_row hr5 (k * 2)).trans hx0
        have c1 := (cells_of_row hr5 (k * 2 + 1)).trans hx1
        have z0 := frozen_of_row _ _ (k * 2) _ _ hr5
        have z1 := frozen_of_row _ _ (k * 2 + 1) _ _ hr5
        have HR6 := hideI (heap_setCell_same _ _ (k * 2 + 1) _ _ (.int .i64 y) (heap_setCell_same _ _ (k * 2) _ _ (.int .i64 (-1)) hr5))
        have HG6 := hideI (show GivR _ G T ⟨s.u, resC T.rs s.c (k + 1), s.p⟩ by rw [unhideI HRC]; exact (hG5.oth (b := w.heap.size) (j := k * 2) (v := .int .i64 (-1)) (by omega)).oth (b := w.heap.size) (j := k * 2 + 1) (v := .int .i64 y) (by omega))
        have HGB6 := hideI (gbc_oth (b := w.heap.size) (j := k * 2 + 1) (v := .int .i64 y) (gbc_oth (b := w.heap.size) (j := k * 2) (v := .int .i64 (-1)) (gbc_trans (unhideI HGB) hgb5) (Nat.le_refl _)) (Nat.le_refl _))
        clear hr5 hG5 hgb5 hx0 hx1 y6
        go_wp2
        go_roundw
        case rel => exact ⟨k + 1, _, by go_num, by omega, unhideI HR6, by simp; omega, unhideI HNX, unhideI HG6, unhideI HGB6⟩
        case measure => simp [intOf]; omega
    · obtain rfl : k = n := by omega
      clear hrow hcs hGk hgb
      go_wp2
      go_ret
      have he := plC_of (xs := cs.toList) (n := k) (resS T.rs s.c) (by simp; omega) (fun j hj => by have h := unhideI HCS j hj; simpa using h)
      refine ⟨_, rfl, ⟨by rw [plC_len], Or.inr ⟨w.heap.size, k, cs, by simp, Nat.le_refl _, unhideI HRW, by simp, by simp [maxLen]; omega, hsz, ?_⟩⟩, unhideI HGK, unhideI HGB⟩
      rw [← he]
      simp only [List.length_map, List.length_range]
      rw [List.take_of_length_le (by simp; omega)]
end Go.Proofs.YtffemeicclhioaaDoor
