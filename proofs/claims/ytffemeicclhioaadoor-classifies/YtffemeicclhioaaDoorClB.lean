/-
  Layouts of calls: places for a block of words, by package layout. Own work of the verifier.
-/
import Derived.Test.YtffemeicclhioaaDoorClA
import Derived.Deep.CutRange
namespace Go.Proofs.YtffemeicclhioaaDoor
open Go.RowKit

theorem plC_of {xs : List Value} {n : Nat} (f : Nat → Int × Int) (hl : xs.length = n * 2) (h : ∀ j, j < n → xs[j * 2]? = some (.int .i64 (f j).1) ∧ xs[j * 2 + 1]? = some (.int .i64 (f j).2)) : xs = plC ((List.range n).map f) := by
  apply List.ext_getElem?
  intro i
  have hlen : (plC ((List.range n).map f)).length = n * 2 := by rw [plC_len]; simp
  by_cases hi : i < n * 2
  · have hg := plC_get ((List.range n).map f) (i / 2) (by simp; omega)
    have hd : ((List.range n).map f).getD (i / 2) (0, 0) = f (i / 2) := by simp [List.getD, show i / 2 < n by omega]
    rw [hd] at hg
    have hx := h (i / 2) (by omega)
    rcases Nat.mod_two_eq_zero_or_one i with hm | hm
    · have e : i = i / 2 * 2 := by omega
      rw [e, hx.1, hg.1]
    · have e : i = i / 2 * 2 + 1 := by omega
      rw [e, hx.2, hg.2]
  · rw [List.getElem?_eq_none (by omega), List.getElem?_eq_none (by omega)]
/-- How far a block's places are. -/
def blkS (L n : Nat) (u1 : Nat) (s : GivS) (k : Nat) : GivS := ⟨if rgS L n u1 = true then u1 + k else L, if rgS L n u1 = true then s.c else s.c + 8 * k, s.p⟩
theorem blk_word {ag : List Int} {n u1 : Nat} {s : GivS} {k : Nat} (hk : k < n) : plW ag (blkS ag.length n u1 s k) = plS ag (rgS ag.length n u1) u1 s.c k ∧ nxW ag (blkS ag.length n u1 s k) = blkS ag.length n u1 s (k + 1) := by
  unfold plW nxW blkS plS
  cases hr : rgS ag.length n u1 with
  | true =>
    have : u1 + n ≤ ag.length := by unfold rgS at hr; exact of_decide_eq_true hr
    simp only [if_true]
    rw [if_pos (by omega), if_pos (by omega)]
    exact ⟨rfl, rfl⟩
  | false =>
    simp only [Bool.false_eq_true, if_false]
    rw [if_neg (by omega), if_neg (by omega)]
    refine ⟨rfl, ?_⟩
    simp only [GivS.mk.injEq, true_and, and_true]
    omega
theorem Tryd.infoPl : (Tryd.prog.info? 62).map (fun i => (i.zero, i.size, i.bytes)) = some (some (.agg #[.int .i64 0, .int .i64 0]), 2, 16) := by kernel_rfl
theorem mkPl (n : Nat) (hn : n ≤ 1000) (w : World) : (Instr.makeSlice 31 (.int .i64 (n : Int)) (.int .i64 (n : Int))).run Tryd.prog w = .ok (.slice (some ⟨w.heap.size, 0, none⟩) n n) (w.alloc (.cells (madeCells #[.int .i64 0, .int .i64 0] (n * 2)) 62)) := by
  obtain ⟨ti, hti, hz0, hz1, hz2⟩ := info_K Tryd.infoPl
  have h := run_make (P := Tryd.prog) w 31 62 ti _ Tryd.underlying31 hti hz0 .i64 .i64 (n : Int) (n : Int) (by omega) (Int.le_refl _) (by rw [hz2]; omega) (by omega)
  rw [hz1, Int.toNat_natCast] at h
  exact h
set_option maxHeartbeats 4000000 in
set_option maxRecDepth 100000 in
theorem gblock_c (T : TbE) (s : GivS) (G n : Nat) (w : World) (hG : GivR w G T s) (hT : TbR w G T) (hn1 : 1 ≤ n) (hn8 : n ≤ 8) (hu : s.u ≤ T.ag.length) (hL : T.ag.length ≤ 1000) (hc0 : 0 ≤ s.c) (hc1 : s.c ≤ 1000) :
    Calls Tryd.prog 47 #[.pointer (some ⟨G, 0, none⟩), .int .i64 n] w fun e w' => ∃ v, e = .returned v ∧ PlO w' w.heap.size v ((List.range n).map (plS T.ag (rgS T.ag.length n (u1S T.pairs n s.u)) (u1S T.pairs n s.u) s.c)) ∧ GivR w' G T (blkS T.ag.length n (u1S T.pairs n s.u) s n) ∧ w.grownBy w' (some G) := by
  obtain ⟨ti, hti, hz0, hz1, hz2⟩ := info_K Tryd.infoPl
  have HG := hideI hG
  have HT := hideI hT
  have hlt := hG.lt
  have hu1 : u1S T.pairs n s.u ≤ s.u + 1 := by unfold u1S; split <;> omega
  clear hG hT
  go_enter Tryd.func47, Tryd.ntmps47
  go_upto_region 1 with fail
  go_cut [23] from 7 (fun b wc => wc = w ∧ b = .bool (decide (1 < n) && (T.pairs && decide (s.u % 2 = 1))))
  case first =>
    have y12 := (unhideI HG).k12
    have y11 := (unhideI HG).k11
    have HN := hideI (True.intro)
    cases hp : T.pairs with
    | false =>
      rw [hp] at y11
      have HPP := hideI hp
      clear hp
      go_wp2
      go_meet
      case rel => exact ⟨rfl, by rw [unhideI HPP]; simp⟩
    | true =>
      rw [hp] at y11
      have HPP := hideI hp
      clear hp
      by_cases h2 : 2 ≤ n
      · by_cases h3 : s.u % 2 = 1
        · have zz : ((s.u : Int) % 2 == 1) = true := by simp; omega
          have hx := hideI h3
          clear h3
          go_wp2
          go_meet
          case rel => exact ⟨rfl, by rw [unhideI HPP, decide_eq_true (unhideI hx), decide_eq_true (show 1 < n by omega)]; rfl⟩
        · have zz : ((s.u : Int) % 2 == 1) = false := by simp; omega
          have hx := hideI h3
          clear h3
          go_wp2
          go_meet
          case rel => exact ⟨rfl, by rw [decide_eq_false (unhideI hx)]; simp⟩
      · go_wp2
        go_meet
        case rel => exact ⟨rfl, by rw [decide_eq_false (show ¬ 1 < n by omega)]; rfl⟩
  case rest =>
   obtain ⟨hwc, rfl⟩ := hcut
   subst wc
   go_upto_if 23 with fail
   go_cut [] from 7 (fun wd => GivR wd G T ⟨u1S T.pairs n s.u, s.c, s.p⟩ ∧ w.grownBy wd (some G))
   case first =>
    have y12 := (unhideI HG).k12
    have fz := (unhideI HG).fz 12
    cases hb : (decide (1 < n) && (T.pairs && decide (s.u % 2 = 1))) with
    | false =>
      have hx := hideI (show GivR w G T ⟨u1S T.pairs n s.u, s.c, s.p⟩ ∧ w.grownBy w (some G) by rw [show u1S T.pairs n s.u = s.u by unfold u1S; rw [hb]; rfl]; exact ⟨unhideI HG, gbc_self w _⟩)
      clear hb
      go_wp2
      go_meet
      case rel => exact unhideI hx
    | true =>
      have hx := hideI (show GivR (w.setCell ⟨G, 12, none⟩ (.int .i64 ((s.u + 1 : Nat) : Int))) G T ⟨u1S T.pairs n s.u, s.c, s.p⟩ ∧ w.grownBy (w.setCell ⟨G, 12, none⟩ (.int .i64 ((s.u + 1 : Nat) : Int))) (some G) by rw [show u1S T.pairs n s.u = s.u + 1 by unfold u1S; rw [hb]; rfl]; exact ⟨(unhideI HG).u _, gbc_set (gbc_self w _)⟩)
      clear hb
      go_wp2
      go_meet
      case rel => exact unhideI hx
   case rest =>
     obtain ⟨hG1, hgb1⟩ := hcut
     have HG1 := hideI hG1
     have HGB1 := hideI hgb1
     obtain ⟨u1, hue⟩ : ∃ u1, u1 = u1S T.pairs n s.u := ⟨_, rfl⟩
     rw [← hue] at hG1 HG1 hu1
     have HUE := hideI hue
     clear hue
     have y12 := (unhideI HG1).k12
     have y5 := (unhideI HG1).k5
     go_wp2_with fail
     go_quiet (fail)
     clear y12 y5
     generalize hk : World.drewN _ _ = wq
     obtain ⟨hGq, hgbq⟩ : GivR wq G T ⟨u1, s.c, s.p⟩ ∧ w.grownBy wq (some G) := by subst hk; exact ⟨unhideI HG1, gbc_drew (unhideI HGB1) _⟩
     have HGq := hideI hGq
     have HGBq := hideI hgbq
     clear hk hGq hgbq HG1 HGB1 hG1 hgb1
     go_upto_if 43 with fail
     go_cut [] from 31 (fun wd => GivR wd G T (blkS T.ag.length n u1 s 0) ∧ w.grownBy wd (some G))
     case first =>
       have fz := (unhideI HGq).fz 12
       have y12 := (unhideI HGq).k12
       have y5 := (unhideI HGq).k5
       by_cases h : u1 + n ≤ T.ag.length
       · have hx := hideI (show GivR wq G T (blkS T.ag.length n u1 s 0) ∧ w.grownBy wq (some G) by rw [show blkS T.ag.length n u1 s 0 = ⟨u1, s.c, s.p⟩ by unfold blkS rgS; simp [h]]; exact ⟨unhideI HGq, unhideI HGBq⟩)
         go_wp2
         go_meet
         case rel => exact unhideI hx
       · have hx := hideI (show GivR (wq.setCell ⟨G, 12, none⟩ (.int .i64 (T.ag.length : Int))) G T (blkS T.ag.length n u1 s 0) ∧ w.grownBy (wq.setCell ⟨G, 12, none⟩ (.int .i64 (T.ag.length : Int))) (some G) by rw [show blkS T.ag.length n u1 s 0 = ⟨T.ag.length, s.c, s.p⟩ by unfold blkS rgS; simp [h]]; exact ⟨(unhideI HGq).u _, gbc_set (unhideI HGBq)⟩)
         go_wp2
         go_meet
         case rel => exact unhideI hx
     case rest =>
       obtain ⟨hG2, hgb2⟩ := hcut
       have HG2 := hideI hG2
       have HGB2 := hideI hgb2
       clear hG2 hgb2
       have hmk := fun V => mkPl n (by omega) V
       go_wp2_with fail
       clear hmk
       obtain ⟨hR, hB, hs⟩ := al0 wc (.cells (madeCells #[.int .i64 0, .int .i64 0] (n * 2)) 62 (0, 0))
       have hgs := (unhideI HGB2).size
       have hwT : w.heap.size ≤ wc.heap.size := hgs
       have HGB3 := hideI (gbc_trans (unhideI HGB2) (gb_ofB (o := some G) hB))
       have HG3 := hideI ((unhideI HG2).new (.cells (madeCells #[.int .i64 0, .int .i64 0] (n * 2)) 62 (0, 0)))
       have HR3 := hideI hR
       clear HG2 HGB2 hR hB hgs HGq HGBq
       generalize hTp : wc.heap.size = Tp at HR3 hs hwT ⊢
       generalize World.alloc wc _ = V at HG3 HGB3 HR3 hs ⊢
       clear hTp
       go_loopw [57] (fun j w' => ∃ (k : Nat) (cs : Array Value), j = .int .i64 k ∧ k ≤ n ∧ w'.heap[Tp]? = some (.cells cs 62 (0, 0)) ∧ cs.size = n * 2 ∧ (∀ q, q < k → cs[q * 2]? = some (.int .i64 (plS T.ag (rgS T.ag.length n u1) u1 s.c q).1) ∧ cs[q * 2 + 1]? = some (.int .i64 (plS T.ag (rgS T.ag.length n u1) u1 s.c q).2)) ∧ GivR w' G T (blkS T.ag.length n u1 s k) ∧ w.grownBy w' (some G)) (fun j _ => n - (intOf j).toNat)
       case atStart => exact ⟨0, _, rfl, by omega, unhideI HR3, size_madeCells _ _, fun q hq => by omega, unhideI HG3, unhideI HGB3⟩
       case round =>
         clear HG3 HGB3 HR3
         obtain ⟨k, cs, rfl, hk, hrow, hsz, hcs, hGk, hgb⟩ := hrel
         have HRW := hideI hrow
         have HCS := hideI hcs
         have HGK := hideI hGk
         have HGB := hideI hgb
         have hgsz := hgb.size
         have hTw := row_lt hrow
         clear hrow hcs hGk hgb
         by_cases hk2 : k < n
         · have hw1 := (blk_word (ag := T.ag) (u1 := u1) (s := s) hk2).1
           have hw2 := (blk_word (ag := T.ag) (u1 := u1) (s := s) hk2).2
           have HC := hideI (gword_c T (blkS T.ag.length n u1 s k) G wr (unhideI HGK) ((unhideI HT).gb (unhideI HGB) hlt) (by omega) (by unfold blkS; simp only; split <;> omega) (by unfold blkS; simp only; split <;> omega) (by unfold blkS; simp only; split <;> omega))
           rw [hw1, hw2] at HC
           have HW2 := hideI hw2
           clear hw1 hw2
           generalize hpl : plS T.ag (rgS T.ag.length n u1) u1 s.c k = xy at HC
           have HPL := hideI hpl
           clear hpl
           obtain ⟨x, y⟩ := xy
           simp only at HC
           go_wp2_with fail
           refine (unhideI HC).mono ?_
           rintro e w2 ⟨rfl, hG5, hgb5⟩
           have hTG : Tp ≠ G := by omega
           have hr5 := (hgb5.block Tp hTw (by intro e; injection e with e; omega)).trans (unhideI HRW)
           obtain ⟨x0, hx0⟩ : ∃ x0, cs[k * 2]? = some x0 := ⟨_, Array.getElem?_eq_getElem (by omega)⟩
           obtain ⟨x1, hx1⟩ : ∃ x1, cs[k * 2 + 1]? = some x1 := ⟨_, Array.getElem?_eq_getElem (by omega)⟩
           have c0 := (cells_of_row hr5 (k * 2)).trans hx0
           have c1 := (cells_of_row hr5 (k * 2 + 1)).trans hx1
           have z0 := frozen_of_row _ _ (k * 2) _ _ hr5
           have z1 := frozen_of_row _ _ (k * 2 + 1) _ _ hr5
           have HR6 := hideI (heap_setCell_same _ _ (k * 2 + 1) _ _ (.int .i64 y) (heap_setCell_same _ _ (k * 2) _ _ (.int .i64 x) hr5))
           have HG6 := hideI ((hG5.oth (b := Tp) (j := k * 2) (v := .int .i64 x) (by omega)).oth (b := Tp) (j := k * 2 + 1) (v := .int .i64 y) (by omega))
           have HGB6 := hideI (gbc_oth (b := Tp) (j := k * 2 + 1) (v := .int .i64 y) (gbc_oth (b := Tp) (j := k * 2) (v := .int .i64 x) (gbc_trans (unhideI HGB) hgb5) (by omega)) (by omega))
           have HNX := hideI (show ∀ q, q < k + 1 → ((cs.setIfInBounds (k * 2) (.int .i64 x)).setIfInBounds (k * 2 + 1) (.int .i64 y))[q * 2]? = some (.int .i64 (plS T.ag (rgS T.ag.length n u1) u1 s.c q).1) ∧ ((cs.setIfInBounds (k * 2) (.int .i64 x)).setIfInBounds (k * 2 + 1) (.int .i64 y))[q * 2 + 1]? = some (.int .i64 (plS T.ag (rgS T.ag.length n u1) u1 s.c q).2) from fun q hq => by
             by_cases hqk : q = k
             · subst hqk
               rw [unhideI HPL]
               refine ⟨?_, ?_⟩
               · rw [Array.getElem?_setIfInBounds_ne (by omega), Array.getElem?_setIfInBounds_self_of_lt (by omega)]
               · rw [Array.getElem?_setIfInBounds_self_of_lt (by simp; omega)]
             · have h := unhideI HCS q (by omega)
               refine ⟨?_, ?_⟩
               · rw [Array.getElem?_setIfInBounds_ne (by omega), Array.getElem?_setIfInBounds_ne (by omega)]; exact h.1
               · rw [Array.getElem?_setIfInBounds_ne (by omega), Array.getElem?_setIfInBounds_ne (by omega)]; exact h.2)
           clear hr5 hx0 hx1 hG5 hgb5
           go_wp2
           go_roundw
           case rel => exact ⟨k + 1, _, by go_num, by omega, unhideI HR6, by simp; omega, unhideI HNX, unhideI HG6, unhideI HGB6⟩
           case measure => simp [intOf]; omega
         · obtain rfl : k = n := by omega
           go_wp2
           go_ret
           rw [← unhideI HUE]
           have he := plC_of (xs := cs.toList) (n := k) (plS T.ag (rgS T.ag.length k u1) u1 s.c) (by simp; omega) (fun j hj => by have h := unhideI HCS j hj; simpa using h)
           refine ⟨_, rfl, ⟨by rw [plC_len], Or.inr ⟨Tp, k, cs, by simp, hwT, unhideI HRW, by simp, by simp [maxLen]; omega, hsz, ?_⟩⟩, unhideI HGK, unhideI HGB⟩
           rw [← he]
           simp only [List.length_map, List.length_range]
           rw [List.take_of_length_le (by simp; omega)]
end Go.Proofs.YtffemeicclhioaaDoor
