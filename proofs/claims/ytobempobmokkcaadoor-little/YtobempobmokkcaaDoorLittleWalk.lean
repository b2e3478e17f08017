/-
  prologuekeep.Little's walk, by the width. Own work of the verifier.
-/
import Derived.Test.YtobempobmokkcaaDoorLittlePick
namespace Go.Proofs.YtobempobmokkcaaDoor
open Go.RowKit

theorem ldv_one (m : Nat → Int) (a : Nat) : ldv m a 1 = m a := by simp [ldv]
theorem ldv_upd (m : Nat → Int) (a : Nat) (v : Int) (k : Nat) : ldv (upd m a v k) a k = v % 256 ^ k := by
  have h := ldv_byt v k 0 a (upd m a v k) (fun i hi => by unfold upd; rw [if_pos (by omega)]; congr 1; omega)
  simpa using h
theorem keep_new {w w' : World} {d : Nat} {x y z u : Value} {t : TypeId} (hK : Kept (w.alloc (.cells #[x, y, z, u] t)) w' d) (hd : d < w.heap.size) : w'.cell? ⟨w.heap.size, 0, none⟩ = some x := by
  rw [hK.cell _ _ (by omega) (by simp), World.cell?_alloc_at _ _ _ _ rfl]; rfl
theorem keep_old {w w' : World} {d x o : Nat} {b : Obj} (hK : Kept (w.alloc b) w' d) (hx : x ≠ d) (hlt : x < w.heap.size) : w'.cell? ⟨x, o, none⟩ = w.cell? ⟨x, o, none⟩ := by
  rw [hK.cell _ _ hx (by simp; omega), World.cell?_alloc_lt _ _ ⟨x, o, none⟩ hlt]

set_option maxHeartbeats 2000000 in
theorem little_1 (a0 a1 a2 a3 v : Int) (w0 : (Lit.int .i64 a0).wf = true) (w1 : (Lit.int .i64 a1).wf = true) (w2 : (Lit.int .i64 a2).wf = true) (w3 : (Lit.int .i64 a3).wf = true) (hv0 : 0 ≤ v) (hv1 : v < 18446744073709551616) (hr : pk a2 4 = 0) (w : World) (hg : ErrTy w) :
    Calls Tryd.prog 3 #[.int .i64 a0, .int .i64 a1, .int .i64 a2, .int .i64 a3, .int .u64 v] w fun e w' => e = .returned (.bool true) ∧ Below w.heap.size w w' := by
  have H0 := hide w0
  have H1 := hide w1
  have H2 := hide w2
  have H3 := hide w3
  have HR := hide hr
  have HG := hide hg
  clear w0 w1 w2 w3 hr hg
  go_enter Tryd.func3, Tryd.ntmps3
  go_wp2_with fail
  refine (pick_any a0 1000 _ (unhide H0) (by omega) (by omega)).mono ?_
  rintro e w' ⟨rfl, ew⟩
  subst w'
  have hp0 := pk_bd a0 1000 (by omega)
  generalize pk a0 1000 = s0 at hp0 ⊢
  obtain ⟨s, rfl⟩ := Int.eq_ofNat_of_zero_le hp0.1
  have hs : s < 1000 := by omega
  clear hp0
  go_wp2_with fail
  obtain ⟨n, hn⟩ : ∃ n : Nat, n = 16 + s := ⟨_, rfl⟩
  rw [show (16 + (s : Int)) = (n : Int) by omega]
  have hn0 : 16 ≤ n := by omega
  have hn1 : n ≤ 1015 := by omega
  clear hn hs
  refine (pick_any a2 4 _ (unhide H2) (by omega) (by omega)).mono ?_
  rintro e w' ⟨rfl, ew⟩
  subst w'
  rw [unhide HR]
  go_wp2_with fail
  refine (pick_any a1 _ _ (unhide H1) (by omega) (by omega)).mono ?_
  rintro e w' ⟨rfl, ew⟩
  subst w'
  have hp0 := pk_bd a1 (n - 7) (by omega)
  generalize pk a1 (n - 7) = s0 at hp0 ⊢
  obtain ⟨a, rfl⟩ := Int.eq_ofNat_of_zero_le hp0.1
  have ha : a + 8 ≤ n := by omega
  clear hp0
  go_wp2_with fail
  refine (pick_any a3 _ _ (unhide H3) (by omega) (by omega)).mono ?_
  rintro e w' ⟨rfl, ew⟩
  subst w'
  have hp0 := pk_bd a3 n (by omega)
  generalize pk a3 n = s0 at hp0 ⊢
  obtain ⟨o, rfl⟩ := Int.eq_ofNat_of_zero_le hp0.1
  have ho : o < n := by omega
  clear hp0
  go_wp2_with fail
  refine (new_inv n _ (by omega)).mono ?_
  rintro e w2 ⟨b, c, d, rfl, hS, hK⟩
  have hz2 := hK.size
  have hb1 := hS.b1; have hc1 := hS.c1; have hd1 := hS.d1; have hb0 := hS.b0; have hc0 := hS.c0; have hd0 := hS.d0
  have HS := hide hS
  clear hS hK
  go_wp2_with fail
  refine (load_inv (w0 := w) (c := c) (d := d) (n := n) (m := fun _ => 0) _ _ _ ?S1 ?he).mono ?_
  case S1 => repeat' (first | exact unhide HS | apply Inv.alloc | apply Inv.setCell | (simp; done) | (simp; omega) | omega)
  case he => exact lookE_ok (by omega) (by omega) (by omega)
  rintro e w3 ⟨rfl, hS, hK⟩
  have hz3 := hK.size
  simp only [World.size_alloc] at hz3
  have HS3 := hide hS
  clear hS hK
  rw [show ldv (fun _ => 0) (o : Int).toNat (1 : Int).toNat = 0 from ldv_one _ _]
  go_wp2_with fail
  refine (store_inv (w0 := w) (c := c) (d := d) (n := n) (m := fun _ => 0) _ _ _ _ ?S1 ?he).mono ?_
  case S1 => repeat' (first | exact unhide HS3 | apply Inv.alloc | apply Inv.setCell | (simp; done) | (simp; omega) | omega)
  case he => exact lookE_ok (by omega) (by omega) (by omega)
  rintro e w4 ⟨rfl, hS, hK⟩
  have hz4 := hK.size
  have HK4 := hide hK
  simp only [World.size_alloc] at hz4
  have HS4 := hide hS
  clear hS hK
  go_wp2_with fail
  refine (load_inv (w0 := w) (c := c) (d := d) (n := n) (m := upd (fun _ => 0) a v 1) _ _ _ ?S1 ?he).mono ?_
  case S1 => repeat' (first | exact unhide HS4 | apply Inv.alloc | apply Inv.setCell | (simp; done) | (simp; omega) | omega)
  case he => exact lookE_ok (by omega) (by omega) (by omega)
  rintro e w5 ⟨rfl, hS, hK⟩
  have hz5 := hK.size
  have HK5 := hide hK
  simp only [World.size_alloc] at hz5
  have HS5 := hide hS
  clear hS hK
  rw [show ldv (upd (fun _ => 0) a v 1) (o : Int).toNat (1 : Int).toNat = upd (fun _ => 0) a v 1 o from ldv_one _ _]
  have e4 := (World.cell?_alloc_lt w5 (.cells #[.int .i64 0, .int .i64 (-1), .int .i64 (-1), .int .i64 (-1)] 26) ⟨w4.heap.size, 0, none⟩ (by show w4.heap.size < _; omega)).trans (keep_new (unhide HK5) (by omega))
  have e3 := (World.cell?_alloc_lt w5 (.cells #[.int .i64 0, .int .i64 (-1), .int .i64 (-1), .int .i64 (-1)] 26) ⟨w3.heap.size, 0, none⟩ (by show w3.heap.size < _; omega)).trans <| (keep_old (unhide HK5) (x := w3.heap.size) (o := 0) (by omega) (by omega)).trans (keep_new (unhide HK4) (by omega))
  have hub := upd_bd (m := fun _ => 0) (fun _ => by simp) a v 1 o
  by_cases hin : a ≤ o ∧ o < a + 1
  · obtain ⟨hi1, hi2⟩ := hin
    have HU := hide (show upd (fun _ => 0) a v 1 o = byt v (o - a) by unfold upd; rw [if_pos ⟨hi1, hi2⟩])
    generalize upd (fun _ => 0) a v 1 o = u at hub HU ⊢
    go_wp2_with fail
    rw [show bits BinOp.and .u64 (v / 2 ^ (8 * (o - a))) 255 = u from by
      rw [mask8 _ (Int.ediv_nonneg hv0 (Int.pow_nonneg (by omega))) (Int.lt_of_le_of_lt (Int.ediv_le_self _ hv0) hv1), byt_shr]; exact (unhide HU).symm]
    refine (load_inv (w0 := w) (c := c) (d := d) (n := n) (m := upd (fun _ => 0) a v 1) _ _ _ ?S1 ?he).mono ?_
    case S1 => repeat' (first | exact unhide HS5 | apply Inv.alloc | apply Inv.setCell | (simp; done) | (simp; omega) | omega)
    case he => exact lookE_ok (by omega) (by omega) (by omega)
    rintro e w6 ⟨rfl, hS, hK⟩
    have hz6 := hK.size
    simp only [World.size_alloc] at hz6
    have HS6 := hide hS
    clear hS hK
    rw [show ldv (upd (fun _ => 0) a v 1) (a : Int).toNat (1 : Int).toNat = v % 256 from ldv_upd _ _ _ 1]
    go_wp2_with fail
    rw [mask8 v hv0 hv1]
    have he9 : lookE n (n : Int) 1 = 9 := lookE_space (by omega) (by omega)
    have HE9 := hide he9
    refine (load_invE (w0 := w) (c := c) (d := d) (n := n) (m := upd (fun _ => 0) a v 1) _ _ _ ?S1 ?he (unhide HG)).mono ?_
    case S1 => repeat' (first | exact unhide HS6 | apply Inv.alloc | apply Inv.setCell | (simp; done) | (simp; omega) | omega)
    case he => rw [unhide HE9]; omega
    rw [unhide HE9]
    clear he9
    rintro e w7 ⟨rfl, hS, hK⟩
    have hz7 := hK.size
    simp only [World.size_alloc] at hz7
    have HS7 := hide hS
    have e6 := (World.cell?_alloc_lt w7 (.cells #[.int .i64 9, .int .i64 (-1), .int .i64 (-1), .int .i64 (-1)] 26) ⟨w6.heap.size, 0, none⟩ (by show w6.heap.size < _; omega)).trans (keep_new hK (by omega))
    clear hS hK
    go_wp2
    go_ret
    exact ⟨rfl, ((unhide HS7).alloc _).low⟩
  · have HU := hide (show upd (fun _ => 0) a v 1 o = 0 by unfold upd; rw [if_neg hin])
    rw [unhide HU]
    by_cases hi1 : o < a
    · go_wp2_with fail
      refine (load_inv (w0 := w) (c := c) (d := d) (n := n) (m := upd (fun _ => 0) a v 1) _ _ _ ?S1 ?he).mono ?_
      case S1 => repeat' (first | exact unhide HS5 | apply Inv.alloc | apply Inv.setCell | (simp; done) | (simp; omega) | omega)
      case he => exact lookE_ok (by omega) (by omega) (by omega)
      rintro e w6 ⟨rfl, hS, hK⟩
      have hz6 := hK.size
      simp only [World.size_alloc] at hz6
      have HS6 := hide hS
      clear hS hK
      rw [show ldv (upd (fun _ => 0) a v 1) (a : Int).toNat (1 : Int).toNat = v % 256 from ldv_upd _ _ _ 1]
      go_wp2_with fail
      rw [mask8 v hv0 hv1]
      have he9 : lookE n (n : Int) 1 = 9 := lookE_space (by omega) (by omega)
      have HE9 := hide he9
      refine (load_invE (w0 := w) (c := c) (d := d) (n := n) (m := upd (fun _ => 0) a v 1) _ _ _ ?S1 ?he (unhide HG)).mono ?_
      case S1 => repeat' (first | exact unhide HS6 | apply Inv.alloc | apply Inv.setCell | (simp; done) | (simp; omega) | omega)
      case he => rw [unhide HE9]; omega
      rw [unhide HE9]
      clear he9
      rintro e w7 ⟨rfl, hS, hK⟩
      have hz7 := hK.size
      simp only [World.size_alloc] at hz7
      have HS7 := hide hS
      have e6 := (World.cell?_alloc_lt w7 (.cells #[.int .i64 9, .int .i64 (-1), .int .i64 (-1), .int .i64 (-1)] 26) ⟨w6.heap.size, 0, none⟩ (by show w6.heap.size < _; omega)).trans (keep_new hK (by omega))
      clear hS hK
      go_wp2
      go_ret
      exact ⟨rfl, ((unhide HS7).alloc _).low⟩
    · have hi2 : a + 1 ≤ o := by omega
      clear hin
      go_wp2_with fail
      refine (load_inv (w0 := w) (c := c) (d := d) (n := n) (m := upd (fun _ => 0) a v 1) _ _ _ ?S1 ?he).mono ?_
      case S1 => repeat' (first | exact unhide HS5 | apply Inv.alloc | apply Inv.setCell | (simp; done) | (simp; omega) | omega)
      case he => exact lookE_ok (by omega) (by omega) (by omega)
      rintro e w6 ⟨rfl, hS, hK⟩
      have hz6 := hK.size
      simp only [World.size_alloc] at hz6
      have HS6 := hide hS
      clear hS hK
      rw [show ldv (upd (fun _ => 0) a v 1) (a : Int).toNat (1 : Int).toNat = v % 256 from ldv_upd _ _ _ 1]
      go_wp2_with fail
      rw [mask8 v hv0 hv1]
      have he9 : lookE n (n : Int) 1 = 9 := lookE_space (by omega) (by omega)
      have HE9 := hide he9
      refine (load_invE (w0 := w) (c := c) (d := d) (n := n) (m := upd (fun _ => 0) a v 1) _ _ _ ?S1 ?he (unhide HG)).mono ?_
      case S1 => repeat' (first | exact unhide HS6 | apply Inv.alloc | apply Inv.setCell | (simp; done) | (simp; omega) | omega)
      case he => rw [unhide HE9]; omega
      rw [unhide HE9]
      clear he9
      rintro e w7 ⟨rfl, hS, hK⟩
      have hz7 := hK.size
      simp only [World.size_alloc] at hz7
      have HS7 := hide hS
      have e6 := (World.cell?_alloc_lt w7 (.cells #[.int .i64 9, .int .i64 (-1), .int .i64 (-1), .int .i64 (-1)] 26) ⟨w6.heap.size, 0, none⟩ (by show w6.heap.size < _; omega)).trans (keep_new hK (by omega))
      clear hS hK
      go_wp2
      go_ret
      exact ⟨rfl, ((unhide HS7).alloc _).low⟩

set_option maxHeartbeats 2000000 in
theorem little_2 (a0 a1 a2 a3 v : Int) (w0 : (Lit.int .i64 a0).wf = true) (w1 : (Lit.int .i64 a1).wf = true) (w2 : (Lit.int .i64 a2).wf = true) (w3 : (Lit.int .i64 a3).wf = true) (hv0 : 0 ≤ v) (hv1 : v < 18446744073709551616) (hr : pk a2 4 = 1) (w : World) (hg : ErrTy w) :
    Calls Tryd.prog 3 #[.int .i64 a0, .int .i64 a1, .int .i64 a2, .int .i64 a3, .int .u64 v] w fun e w' => e = .returned (.bool true) ∧ Below w.heap.size w w' := by
  have H0 := hide w0
  have H1 := hide w1
  have H2 := hide w2
  have H3 := hide w3
  have HR := hide hr
  have HG := hide hg
  clear w0 w1 w2 w3 hr hg
  go_enter Tryd.func3, Tryd.ntmps3
  go_wp2_with fail
  refine (pick_any a0 1000 _ (unhide H0) (by omega) (by omega)).mono ?_
  rintro e w' ⟨rfl, ew⟩
  subst w'
  have hp0 := pk_bd a0 1000 (by omega)
  generalize pk a0 1000 = s0 at hp0 ⊢
  obtain ⟨s, rfl⟩ := Int.eq_ofNat_of_zero_le hp0.1
  have hs : s < 1000 := by omega
  clear hp0
  go_wp2_with fail
  obtain ⟨n, hn⟩ : ∃ n : Nat, n = 16 + s := ⟨_, rfl⟩
  rw [show (16 + (s : Int)) = (n : Int) by omega]
  have hn0 : 16 ≤ n := by omega
  have hn1 : n ≤ 1015 := by omega
  clear hn hs
  refine (pick_any a2 4 _ (unhide H2) (by omega) (by omega)).mono ?_
  rintro e w' ⟨rfl, ew⟩
  subst w'
  rw [unhide HR]
  go_wp2_with fail
  refine (pick_any a1 _ _ (unhide H1) (by omega) (by omega)).mono ?_
  rintro e w' ⟨rfl, ew⟩
  subst w'
  have hp0 := pk_bd a1 (n - 7) (by omega)
  generalize pk a1 (n - 7) = s0 at hp0 ⊢
  obtain ⟨a, rfl⟩ := Int.eq_ofNat_of_zero_le hp0.1
  have ha : a + 8 ≤ n := by omega
  clear hp0
  go_wp2_with fail
  refine (pick_any a3 _ _ (unhide H3) (by omega) (by omega)).mono ?_
  rintro e w' ⟨rfl, ew⟩
  subst w'
  have hp0 := pk_bd a3 n (by omega)
  generalize pk a3 n = s0 at hp0 ⊢
  obtain ⟨o, rfl⟩ := Int.eq_ofNat_of_zero_le hp0.1
  have ho : o < n := by omega
  clear hp0
  go_wp2_with fail
  refine (new_inv n _ (by omega)).mono ?_
  rintro e w2 ⟨b, c, d, rfl, hS, hK⟩
  have hz2 := hK.size
  have hb1 := hS.b1; have hc1 := hS.c1; have hd1 := hS.d1; have hb0 := hS.b0; have hc0 := hS.c0; have hd0 := hS.d0
  have HS := hide hS
  clear hS hK
  go_wp2_with fail
  refine (load_inv (w0 := w) (c := c) (d := d) (n := n) (m := fun _ => 0) _ _ _ ?S1 ?he).mono ?_
  case S1 => repeat' (first | exact unhide HS | apply Inv.alloc | apply Inv.setCell | (simp; done) | (simp; omega) | omega)
  case he => exact lookE_ok (by omega) (by omega) (by omega)
  rintro e w3 ⟨rfl, hS, hK⟩
  have hz3 := hK.size
  simp only [World.size_alloc] at hz3
  have HS3 := hide hS
  clear hS hK
  rw [show ldv (fun _ => 0) (o : Int).toNat (1 : Int).toNat = 0 from ldv_one _ _]
  go_wp2_with fail
  refine (store_inv (w0 := w) (c := c) (d := d) (n := n) (m := fun _ => 0) _ _ _ _ ?S1 ?he).mono ?_
  case S1 => repeat' (first | exact unhide HS3 | apply Inv.alloc | apply Inv.setCell | (simp; done) | (simp; omega) | omega)
  case he => exact lookE_ok (by omega) (by omega) (by omega)
  rintro e w4 ⟨rfl, hS, hK⟩
  have hz4 := hK.size
  have HK4 := hide hK
  simp only [World.size_alloc] at hz4
  have HS4 := hide hS
  clear hS hK
  go_wp2_with fail
  refine (load_inv (w0 := w) (c := c) (d := d) (n := n) (m := upd (fun _ => 0) a v 2) _ _ _ ?S1 ?he).mono ?_
  case S1 => repeat' (first | exact unhide HS4 | apply Inv.alloc | apply Inv.setCell | (simp; done) | (simp; omega) | omega)
  case he => exact lookE_ok (by omega) (by omega) (by omega)
  rintro e w5 ⟨rfl, hS, hK⟩
  have hz5 := hK.size
  have HK5 := hide hK
  simp only [World.size_alloc] at hz5
  have HS5 := hide hS
  clear hS hK
  rw [show ldv (upd (fun _ => 0) a v 2) (o : Int).toNat (1 : Int).toNat = upd (fun _ => 0) a v 2 o from ldv_one _ _]
  have e4 := (World.cell?_alloc_lt w5 (.cells #[.int .i64 0, .int .i64 (-1), .int .i64 (-1), .int .i64 (-1)] 26) ⟨w4.heap.size, 0, none⟩ (by show w4.heap.size < _; omega)).trans (keep_new (unhide HK5) (by omega))
  have e3 := (World.cell?_alloc_lt w5 (.cells #[.int .i64 0, .int .i64 (-1), .int .i64 (-1), .int .i64 (-1)] 26) ⟨w3.heap.size, 0, none⟩ (by show w3.heap.size < _; omega)).trans <| (keep_old (unhide HK5) (x := w3.heap.size) (o := 0) (by omega) (by omega)).trans (keep_new (unhide HK4) (by omega))
  have hub := upd_bd (m := fun _ => 0) (fun _ => by simp) a v 2 o
  by_cases hin : a ≤ o ∧ o < a + 2
  · obtain ⟨hi1, hi2⟩ := hin
    have HU := hide (show upd (fun _ => 0) a v 2 o = byt v (o - a) by unfold upd; rw [if_pos ⟨hi1, hi2⟩])
    generalize upd (fun _ => 0) a v 2 o = u at hub HU ⊢
    go_wp2_with fail
    rw [show bits BinOp.and .u64 (v / 2 ^ (8 * (o - a))) 255 = u from by
      rw [mask8 _ (Int.ediv_nonneg hv0 (Int.pow_nonneg (by omega))) (Int.lt_of_le_of_lt (Int.ediv_le_self _ hv0) hv1), byt_shr]; exact (unhide HU).symm]
    refine (load_inv (w0 := w) (c := c) (d := d) (n := n) (m := upd (fun _ => 0) a v 2) _ _ _ ?S1 ?he).mono ?_
    case S1 => repeat' (first | exact unhide HS5 | apply Inv.alloc | apply Inv.setCell | (simp; done) | (simp; omega) | omega)
    case he => exact lookE_ok (by omega) (by omega) (by omega)
    rintro e w6 ⟨rfl, hS, hK⟩
    have hz6 := hK.size
    simp only [World.size_alloc] at hz6
    have HS6 := hide hS
    clear hS hK
    rw [show ldv (upd (fun _ => 0) a v 2) (a : Int).toNat (2 : Int).toNat = v % 65536 from ldv_upd _ _ _ 2]
    go_wp2_with fail
    rw [mask16 v hv0 hv1]
    have he9 : lookE n ((n : Int) - 2 + 1) 2 = 9 := lookE_space (by omega) (by omega)
    have HE9 := hide he9
    refine (load_invE (w0 := w) (c := c) (d := d) (n := n) (m := upd (fun _ => 0) a v 2) _ _ _ ?S1 ?he (unhide HG)).mono ?_
    case S1 => repeat' (first | exact unhide HS6 | apply Inv.alloc | apply Inv.setCell | (simp; done) | (simp; omega) | omega)
    case he => rw [unhide HE9]; omega
    rw [unhide HE9]
    clear he9
    rintro e w7 ⟨rfl, hS, hK⟩
    have hz7 := hK.size
    simp only [World.size_alloc] at hz7
    have HS7 := hide hS
    have e6 := (World.cell?_alloc_lt w7 (.cells #[.int .i64 9, .int .i64 (-1), .int .i64 (-1), .int .i64 (-1)] 26) ⟨w6.heap.size, 0, none⟩ (by show w6.heap.size < _; omega)).trans (keep_new hK (by omega))
    clear hS hK
    go_wp2
    go_ret
    exact ⟨rfl, ((unhide HS7).alloc _).low⟩
  · have HU := hide (show upd (fun _ => 0) a v 2 o = 0 by unfold upd; rw [if_neg hin])
    rw [unhide HU]
    by_cases hi1 : o < a
    · go_wp2_with fail
      refine (load_inv (w0 := w) (c := c) (d := d) (n := n) (m := upd (fun _ => 0) a v 2) _ _ _ ?S1 ?he).mono ?_
      case S1 => repeat' (first | exact unhide HS5 | apply Inv.alloc | apply Inv.setCell | (simp; done) | (simp; omega) | omega)
      case he => exact lookE_ok (by omega) (by omega) (by omega)
      rintro e w6 ⟨rfl, hS, hK⟩
      have hz6 := hK.size
      simp only [World.size_alloc] at hz6
      have HS6 := hide hS
      clear hS hK
      rw [show ldv (upd (fun _ => 0) a v 2) (a : Int).toNat (2 : Int).toNat = v % 65536 from ldv_upd _ _ _ 2]
      go_wp2_with fail
      rw [mask16 v hv0 hv1]
      have he9 : lookE n ((n : Int) - 2 + 1) 2 = 9 := lookE_space (by omega) (by omega)
      have HE9 := hide he9
      refine (load_invE (w0 := w) (c := c) (d := d) (n := n) (m := upd (fun _ => 0) a v 2) _ _ _ ?S1 ?he (unhide HG)).mono ?_
      case S1 => repeat' (first | exact unhide HS6 | apply Inv.alloc | apply Inv.setCell | (simp; done) | (simp; omega) | omega)
      case he => rw [unhide HE9]; omega
      rw [unhide HE9]
      clear he9
      rintro e w7 ⟨rfl, hS, hK⟩
      have hz7 := hK.size
      simp only [World.size_alloc] at hz7
      have HS7 := hide hS
      have e6 := (World.cell?_alloc_lt w7 (.cells #[.int .i64 9, .int .i64 (-1), .int .i64 (-1), .int .i64 (-1)] 26) ⟨w6.heap.size, 0, none⟩ (by show w6.heap.size < _; omega)).trans (keep_new hK (by omega))
      clear hS hK
      go_wp2
      go_ret
      exact ⟨rfl, ((unhide HS7).alloc _).low⟩
    · have hi2 : a + 2 ≤ o := by omega
      clear hin
      go_wp2_with fail
      refine (load_inv (w0 := w) (c := c) (d := d) (n := n) (m := upd (fun _ => 0) a v 2) _ _ _ ?S1 ?he).mono ?_
      case S1 => repeat' (first | exact unhide HS5 | apply Inv.alloc | apply Inv.setCell | (simp; done) | (simp; omega) | omega)
      case he => exact lookE_ok (by omega) (by omega) (by omega)
      rintro e w6 ⟨rfl, hS, hK⟩
      have hz6 := hK.size
      simp only [World.size_alloc] at hz6
      have HS6 := hide hS
      clear hS hK
      rw [show ldv (upd (fun _ => 0) a v 2) (a : Int).toNat (2 : Int).toNat = v % 65536 from ldv_upd _ _ _ 2]
      go_wp2_with fail
      rw [mask16 v hv0 hv1]
      have he9 : lookE n ((n : Int) - 2 + 1) 2 = 9 := lookE_space (by omega) (by omega)
      have HE9 := hide he9
      refine (load_invE (w0 := w) (c := c) (d := d) (n := n) (m := upd (fun _ => 0) a v 2) _ _ _ ?S1 ?he (unhide HG)).mono ?_
      case S1 => repeat' (first | exact unhide HS6 | apply Inv.alloc | apply Inv.setCell | (simp; done) | (simp; omega) | omega)
      case he => rw [unhide HE9]; omega
      rw [unhide HE9]
      clear he9
      rintro e w7 ⟨rfl, hS, hK⟩
      have hz7 := hK.size
      simp only [World.size_alloc] at hz7
      have HS7 := hide hS
      have e6 := (World.cell?_alloc_lt w7 (.cells #[.int .i64 9, .int .i64 (-1), .int .i64 (-1), .int .i64 (-1)] 26) ⟨w6.heap.size, 0, none⟩ (by show w6.heap.size < _; omega)).trans (keep_new hK (by omega))
      clear hS hK
      go_wp2
      go_ret
      exact ⟨rfl, ((unhide HS7).alloc _).low⟩

set_option maxHeartbeats 2000000 in
theorem little_4 (a0 a1 a2 a3 v : Int) (w0 : (Lit.int .i64 a0).wf = true) (w1 : (Lit.int .i64 a1).wf = true) (w2 : (Lit.int .i64 a2).wf = true) (w3 : (Lit.int .i64 a3).wf = true) (hv0 : 0 ≤ v) (hv1 : v < 18446744073709551616) (hr : pk a2 4 = 2) (w : World) (hg : ErrTy w) :
    Calls Tryd.prog 3 #[.int .i64 a0, .int .i64 a1, .int .i64 a2, .int .i64 a3, .int .u64 v] w fun e w' => e = .returned (.bool true) ∧ Below w.heap.size w w' := by
  have H0 := hide w0
  have H1 := hide w1
  have H2 := hide w2
  have H3 := hide w3
  have HR := hide hr
  have HG := hide hg
  clear w0 w1 w2 w3 hr hg
  go_enter Tryd.func3, Tryd.ntmps3
  go_wp2_with fail
  refine (pick_any a0 1000 _ (unhide H0) (by omega) (by omega)).mono ?_
  rintro e w' ⟨rfl, ew⟩
  subst w'
  have hp0 := pk_bd a0 1000 (by omega)
  generalize pk a0 1000 = s0 at hp0 ⊢
  obtain ⟨s, rfl⟩ := Int.eq_ofNat_of_zero_le hp0.1
  have hs : s < 1000 := by omega
  clear hp0
  go_wp2_with fail
  obtain ⟨n, hn⟩ : ∃ n : Nat, n = 16 + s := ⟨_, rfl⟩
  rw [show (16 + (s : Int)) = (n : Int) by omega]
  have hn0 : 16 ≤ n := by omega
  have hn1 : n ≤ 1015 := by omega
  clear hn hs
  refine (pick_any a2 4 _ (unhide H2) (by omega) (by omega)).mono ?_
  rintro e w' ⟨rfl, ew⟩
  subst w'
  rw [unhide HR]
  go_wp2_with fail
  refine (pick_any a1 _ _ (unhide H1) (by omega) (by omega)).mono ?_
  rintro e w' ⟨rfl, ew⟩
  subst w'
  have hp0 := pk_bd a1 (n - 7) (by omega)
  generalize pk a1 (n - 7) = s0 at hp0 ⊢
  obtain ⟨a, rfl⟩ := Int.eq_ofNat_of_zero_le hp0.1
  have ha : a + 8 ≤ n := by omega
  clear hp0
  go_wp2_with fail
  refine (pick_any a3 _ _ (unhide H3) (by omega) (by omega)).mono ?_
  rintro e w' ⟨rfl, ew⟩
  subst w'
  have hp0 := pk_bd a3 n (by omega)
  generalize pk a3 n = s0 at hp0 ⊢
  obtain ⟨o, rfl⟩ := Int.eq_ofNat_of_zero_le hp0.1
  have ho : o < n := by omega
  clear hp0
  go_wp2_with fail
  refine (new_inv n _ (by omega)).mono ?_
  rintro e w2 ⟨b, c, d, rfl, hS, hK⟩
  have hz2 := hK.size
  have hb1 := hS.b1; have hc1 := hS.c1; have hd1 := hS.d1; have hb0 := hS.b0; have hc0 := hS.c0; have hd0 := hS.d0
  have HS := hide hS
  clear hS hK
  go_wp2_with fail
  refine (load_inv (w0 := w) (c := c) (d := d) (n := n) (m := fun _ => 0) _ _ _ ?S1 ?he).mono ?_
  case S1 => repeat' (first | exact unhide HS | apply Inv.alloc | apply Inv.setCell | (simp; done) | (simp; omega) | omega)
  case he => exact lookE_ok (by omega) (by omega) (by omega)
  rintro e w3 ⟨rfl, hS, hK⟩
  have hz3 := hK.size
  simp only [World.size_alloc] at hz3
  have HS3 := hide hS
  clear hS hK
  rw [show ldv (fun _ => 0) (o : Int).toNat (1 : Int).toNat = 0 from ldv_one _ _]
  go_wp2_with fail
  refine (store_inv (w0 := w) (c := c) (d := d) (n := n) (m := fun _ => 0) _ _ _ _ ?S1 ?he).mono ?_
  case S1 => repeat' (first | exact unhide HS3 | apply Inv.alloc | apply Inv.setCell | (simp; done) | (simp; omega) | omega)
  case he => exact lookE_ok (by omega) (by omega) (by omega)
  rintro e w4 ⟨rfl, hS, hK⟩
  have hz4 := hK.size
  have HK4 := hide hK
  simp only [World.size_alloc] at hz4
  have HS4 := hide hS
  clear hS hK
  go_wp2_with fail
  refine (load_inv (w0 := w) (c := c) (d := d) (n := n) (m := upd (fun _ => 0) a v 4) _ _ _ ?S1 ?he).mono ?_
  case S1 => repeat' (first | exact unhide HS4 | apply Inv.alloc | apply Inv.setCell | (simp; done) | (simp; omega) | omega)
  case he => exact lookE_ok (by omega) (by omega) (by omega)
  rintro e w5 ⟨rfl, hS, hK⟩
  have hz5 := hK.size
  have HK5 := hide hK
  simp only [World.size_alloc] at hz5
  have HS5 := hide hS
  clear hS hK
  rw [show ldv (upd (fun _ => 0) a v 4) (o : Int).toNat (1 : Int).toNat = upd (fun _ => 0) a v 4 o from ldv_one _ _]
  have e4 := (World.cell?_alloc_lt w5 (.cells #[.int .i64 0, .int .i64 (-1), .int .i64 (-1), .int .i64 (-1)] 26) ⟨w4.heap.size, 0, none⟩ (by show w4.heap.size < _; omega)).trans (keep_new (unhide HK5) (by omega))
  have e3 := (World.cell?_alloc_lt w5 (.cells #[.int .i64 0, .int .i64 (-1), .int .i64 (-1), .int .i64 (-1)] 26) ⟨w3.heap.size, 0, none⟩ (by show w3.heap.size < _; omega)).trans <| (keep_old (unhide HK5) (x := w3.heap.size) (o := 0) (by omega) (by omega)).trans (keep_new (unhide HK4) (by omega))
  have hub := upd_bd (m := fun _ => 0) (fun _ => by simp) a v 4 o
  by_cases hin : a ≤ o ∧ o < a + 4
  · obtain ⟨hi1, hi2⟩ := hin
    have HU := hide (show upd (fun _ => 0) a v 4 o = byt v (o - a) by unfold upd; rw [if_pos ⟨hi1, hi2⟩])
    generalize upd (fun _ => 0) a v 4 o = u at hub HU ⊢
    go_wp2_with fail
    rw [show bits BinOp.and .u64 (v / 2 ^ (8 * (o - a))) 255 = u from by
      rw [mask8 _ (Int.ediv_nonneg hv0 (Int.pow_nonneg (by omega))) (Int.lt_of_le_of_lt (Int.ediv_le_self _ hv0) hv1), byt_shr]; exact (unhide HU).symm]
    refine (load_inv (w0 := w) (c := c) (d := d) (n := n) (m := upd (fun _ => 0) a v 4) _ _ _ ?S1 ?he).mono ?_
    case S1 => repeat' (first | exact unhide HS5 | apply Inv.alloc | apply Inv.setCell | (simp; done) | (simp; omega) | omega)
    case he => exact lookE_ok (by omega) (by omega) (by omega)
    rintro e w6 ⟨rfl, hS, hK⟩
    have hz6 := hK.size
    simp only [World.size_alloc] at hz6
    have HS6 := hide hS
    clear hS hK
    rw [show ldv (upd (fun _ => 0) a v 4) (a : Int).toNat (4 : Int).toNat = v % 4294967296 from ldv_upd _ _ _ 4]
    go_wp2_with fail
    rw [mask32 v hv0 hv1]
    have he9 : lookE n ((n : Int) - 4 + 1) 4 = 9 := lookE_space (by omega) (by omega)
    have HE9 := hide he9
    refine (load_invE (w0 := w) (c := c) (d := d) (n := n) (m := upd (fun _ => 0) a v 4) _ _ _ ?S1 ?he (unhide HG)).mono ?_
    case S1 => repeat' (first | exact unhide HS6 | apply Inv.alloc | apply Inv.setCell | (simp; done) | (simp; omega) | omega)
    case he => rw [unhide HE9]; omega
    rw [unhide HE9]
    clear he9
    rintro e w7 ⟨rfl, hS, hK⟩
    have hz7 := hK.size
    simp only [World.size_alloc] at hz7
    have HS7 := hide hS
    have e6 := (World.cell?_alloc_lt w7 (.cells #[.int .i64 9, .int .i64 (-1), .int .i64 (-1), .int .i64 (-1)] 26) ⟨w6.heap.size, 0, none⟩ (by show w6.heap.size < _; omega)).trans (keep_new hK (by omega))
    clear hS hK
    go_wp2
    go_ret
    exact ⟨rfl, ((unhide HS7).alloc _).low⟩
  · have HU := hide (show upd (fun _ => 0) a v 4 o = 0 by unfold upd; rw [if_neg hin])
    rw [unhide HU]
    by_cases hi1 : o < a
    · go_wp2_with fail
      refine (load_inv (w0 := w) (c := c) (d := d) (n := n) (m := upd (fun _ => 0) a v 4) _ _ _ ?S1 ?he).mono ?_
      case S1 => repeat' (first | exact unhide HS5 | apply Inv.alloc | apply Inv.setCell | (simp; done) | (simp; omega) | omega)
      case he => exact lookE_ok (by omega) (by omega) (by omega)
      rintro e w6 ⟨rfl, hS, hK⟩
      have hz6 := hK.size
      simp only [World.size_alloc] at hz6
      have HS6 := hide hS
      clear hS hK
      rw [show ldv (upd (fun _ => 0) a v 4) (a : Int).toNat (4 : Int).toNat = v % 4294967296 from ldv_upd _ _ _ 4]
      go_wp2_with fail
      rw [mask32 v hv0 hv1]
      have he9 : lookE n ((n : Int) - 4 + 1) 4 = 9 := lookE_space (by omega) (by omega)
      have HE9 := hide he9
      refine (load_invE (w0 := w) (c := c) (d := d) (n := n) (m := upd (fun _ => 0) a v 4) _ _ _ ?S1 ?he (unhide HG)).mono ?_
      case S1 => repeat' (first | exact unhide HS6 | apply Inv.alloc | apply Inv.setCell | (simp; done) | (simp; omega) | omega)
      case he => rw [unhide HE9]; omega
      rw [unhide HE9]
      clear he9
      rintro e w7 ⟨rfl, hS, hK⟩
      have hz7 := hK.size
      simp only [World.size_alloc] at hz7
      have HS7 := hide hS
      have e6 := (World.cell?_alloc_lt w7 (.cells #[.int .i64 9, .int .i64 (-1), .int .i64 (-1), .int .i64 (-1)] 26) ⟨w6.heap.size, 0, none⟩ (by show w6.heap.size < _; omega)).trans (keep_new hK (by omega))
      clear hS hK
      go_wp2
      go_ret
      exact ⟨rfl, ((unhide HS7).alloc _).low⟩
    · have hi2 : a + 4 ≤ o := by omega
      clear hin
      go_wp2_with fail
      refine (load_inv (w0 := w) (c := c) (d := d) (n := n) (m := upd (fun _ => 0) a v 4) _ _ _ ?S1 ?he).mono ?_
      case S1 => repeat' (first | exact unhide HS5 | apply Inv.alloc | apply Inv.setCell | (simp; done) | (simp; omega) | omega)
      case he => exact lookE_ok (by omega) (by omega) (by omega)
      rintro e w6 ⟨rfl, hS, hK⟩
      have hz6 := hK.size
      simp only [World.size_alloc] at hz6
      have HS6 := hide hS
      clear hS hK
      rw [show ldv (upd (fun _ => 0) a v 4) (a : Int).toNat (4 : Int).toNat = v % 4294967296 from ldv_upd _ _ _ 4]
      go_wp2_with fail
      rw [mask32 v hv0 hv1]
      have he9 : lookE n ((n : Int) - 4 + 1) 4 = 9 := lookE_space (by omega) (by omega)
      have HE9 := hide he9
      refine (load_invE (w0 := w) (c := c) (d := d) (n := n) (m := upd (fun _ => 0) a v 4) _ _ _ ?S1 ?he (unhide HG)).mono ?_
      case S1 => repeat' (first | exact unhide HS6 | apply Inv.alloc | apply Inv.setCell | (simp; done) | (simp; omega) | omega)
      case he => rw [unhide HE9]; omega
      rw [unhide HE9]
      clear he9
      rintro e w7 ⟨rfl, hS, hK⟩
      have hz7 := hK.size
      simp only [World.size_alloc] at hz7
      have HS7 := hide hS
      have e6 := (World.cell?_alloc_lt w7 (.cells #[.int .i64 9, .int .i64 (-1), .int .i64 (-1), .int .i64 (-1)] 26) ⟨w6.heap.size, 0, none⟩ (by show w6.heap.size < _; omega)).trans (keep_new hK (by omega))
      clear hS hK
      go_wp2
      go_ret
      exact ⟨rfl, ((unhide HS7).alloc _).low⟩

set_option maxHeartbeats 2000000 in
theorem little_8 (a0 a1 a2 a3 v : Int) (w0 : (Lit.int .i64 a0).wf = true) (w1 : (Lit.int .i64 a1).wf = true) (w2 : (Lit.int .i64 a2).wf = true) (w3 : (Lit.int .i64 a3).wf = true) (hv0 : 0 ≤ v) (hv1 : v < 18446744073709551616) (hr : pk a2 4 = 3) (w : World) (hg : ErrTy w) :
    Calls Tryd.prog 3 #[.int .i64 a0, .int .i64 a1, .int .i64 a2, .int .i64 a3, .int .u64 v] w fun e w' => e = .returned (.bool true) ∧ Below w.heap.size w w' := by
  have H0 := hide w0
  have H1 := hide w1
  have H2 := hide w2
  have H3 := hide w3
  have HR := hide hr
  have HG := hide hg
  clear w0 w1 w2 w3 hr hg
  go_enter Tryd.func3, Tryd.ntmps3
  go_wp2_with fail
  refine (pick_any a0 1000 _ (unhide H0) (by omega) (by omega)).mono ?_
  rintro e w' ⟨rfl, ew⟩
  subst w'
  have hp0 := pk_bd a0 1000 (by omega)
  generalize pk a0 1000 = s0 at hp0 ⊢
  obtain ⟨s, rfl⟩ := Int.eq_ofNat_of_zero_le hp0.1
  have hs : s < 1000 := by omega
  clear hp0
  go_wp2_with fail
  obtain ⟨n, hn⟩ : ∃ n : Nat, n = 16 + s := ⟨_, rfl⟩
  rw [show (16 + (s : Int)) = (n : Int) by omega]
  have hn0 : 16 ≤ n := by omega
  have hn1 : n ≤ 1015 := by omega
  clear hn hs
  refine (pick_any a2 4 _ (unhide H2) (by omega) (by omega)).mono ?_
  rintro e w' ⟨rfl, ew⟩
  subst w'
  rw [unhide HR]
  go_wp2_with fail
  refine (pick_any a1 _ _ (unhide H1) (by omega) (by omega)).mono ?_
  rintro e w' ⟨rfl, ew⟩
  subst w'
  have hp0 := pk_bd a1 (n - 7) (by omega)
  generalize pk a1 (n - 7) = s0 at hp0 ⊢
  obtain ⟨a, rfl⟩ := Int.eq_ofNat_of_zero_le hp0.1
  have ha : a + 8 ≤ n := by omega
  clear hp0
  go_wp2_with fail
  refine (pick_any a3 _ _ (unhide H3) (by omega) (by omega)).mono ?_
  rintro e w' ⟨rfl, ew⟩
  subst w'
  have hp0 := pk_bd a3 n (by omega)
  generalize pk a3 n = s0 at hp0 ⊢
  obtain ⟨o, rfl⟩ := Int.eq_ofNat_of_zero_le hp0.1
  have ho : o < n := by omega
  clear hp0
  go_wp2_with fail
  refine (new_inv n _ (by omega)).mono ?_
  rintro e w2 ⟨b, c, d, rfl, hS, hK⟩
  have hz2 := hK.size
  have hb1 := hS.b1; have hc1 := hS.c1; have hd1 := hS.d1; have hb0 := hS.b0; have hc0 := hS.c0; have hd0 := hS.d0
  have HS := hide hS
  clear hS hK
  go_wp2_with fail
  refine (load_inv (w0 := w) (c := c) (d := d) (n := n) (m := fun _ => 0) _ _ _ ?S1 ?he).mono ?_
  case S1 => repeat' (first | exact unhide HS | apply Inv.alloc | apply Inv.setCell | (simp; done) | (simp; omega) | omega)
  case he => exact lookE_ok (by omega) (by omega) (by omega)
  rintro e w3 ⟨rfl, hS, hK⟩
  have hz3 := hK.size
  simp only [World.size_alloc] at hz3
  have HS3 := hide hS
  clear hS hK
  rw [show ldv (fun _ => 0) (o : Int).toNat (1 : Int).toNat = 0 from ldv_one _ _]
  go_wp2_with fail
  refine (store_inv (w0 := w) (c := c) (d := d) (n := n) (m := fun _ => 0) _ _ _ _ ?S1 ?he).mono ?_
  case S1 => repeat' (first | exact unhide HS3 | apply Inv.alloc | apply Inv.setCell | (simp; done) | (simp; omega) | omega)
  case he => exact lookE_ok (by omega) (by omega) (by omega)
  rintro e w4 ⟨rfl, hS, hK⟩
  have hz4 := hK.size
  have HK4 := hide hK
  simp only [World.size_alloc] at hz4
  have HS4 := hide hS
  clear hS hK
  go_wp2_with fail
  refine (load_inv (w0 := w) (c := c) (d := d) (n := n) (m := upd (fun _ => 0) a v 8) _ _ _ ?S1 ?he).mono ?_
  case S1 => repeat' (first | exact unhide HS4 | apply Inv.alloc | apply Inv.setCell | (simp; done) | (simp; omega) | omega)
  case he => exact lookE_ok (by omega) (by omega) (by omega)
  rintro e w5 ⟨rfl, hS, hK⟩
  have hz5 := hK.size
  have HK5 := hide hK
  simp only [World.size_alloc] at hz5
  have HS5 := hide hS
  clear hS hK
  rw [show ldv (upd (fun _ => 0) a v 8) (o : Int).toNat (1 : Int).toNat = upd (fun _ => 0) a v 8 o from ldv_one _ _]
  have e4 := (World.cell?_alloc_lt w5 (.cells #[.int .i64 0, .int .i64 (-1), .int .i64 (-1), .int .i64 (-1)] 26) ⟨w4.heap.size, 0, none⟩ (by show w4.heap.size < _; omega)).trans (keep_new (unhide HK5) (by omega))
  have e3 := (World.cell?_alloc_lt w5 (.cells #[.int .i64 0, .int .i64 (-1), .int .i64 (-1), .int .i64 (-1)] 26) ⟨w3.heap.size, 0, none⟩ (by show w3.heap.size < _; omega)).trans <| (keep_old (unhide HK5) (x := w3.heap.size) (o := 0) (by omega) (by omega)).trans (keep_new (unhide HK4) (by omega))
  have hub := upd_bd (m := fun _ => 0) (fun _ => by simp) a v 8 o
  by_cases hin : a ≤ o ∧ o < a + 8
  · obtain ⟨hi1, hi2⟩ := hin
    have HU := hide (show upd (fun _ => 0) a v 8 o = byt v (o - a) by unfold upd; rw [if_pos ⟨hi1, hi2⟩])
    generalize upd (fun _ => 0) a v 8 o = u at hub HU ⊢
    go_wp2_with fail
    rw [show bits BinOp.and .u64 (v / 2 ^ (8 * (o - a))) 255 = u from by
      rw [mask8 _ (Int.ediv_nonneg hv0 (Int.pow_nonneg (by omega))) (Int.lt_of_le_of_lt (Int.ediv_le_self _ hv0) hv1), byt_shr]; exact (unhide HU).symm]
    refine (load_inv (w0 := w) (c := c) (d := d) (n := n) (m := upd (fun _ => 0) a v 8) _ _ _ ?S1 ?he).mono ?_
    case S1 => repeat' (first | exact unhide HS5 | apply Inv.alloc | apply Inv.setCell | (simp; done) | (simp; omega) | omega)
    case he => exact lookE_ok (by omega) (by omega) (by omega)
    rintro e w6 ⟨rfl, hS, hK⟩
    have hz6 := hK.size
    simp only [World.size_alloc] at hz6
    have HS6 := hide hS
    clear hS hK
    rw [show ldv (upd (fun _ => 0) a v 8) (a : Int).toNat (8 : Int).toNat = v % 18446744073709551616 from ldv_upd _ _ _ 8]
    go_wp2_with fail
    rw [show v % 18446744073709551616 = v from Int.emod_eq_of_lt hv0 hv1]
    have he9 : lookE n ((n : Int) - 8 + 1) 8 = 9 := lookE_space (by omega) (by omega)
    have HE9 := hide he9
    refine (load_invE (w0 := w) (c := c) (d := d) (n := n) (m := upd (fun _ => 0) a v 8) _ _ _ ?S1 ?he (unhide HG)).mono ?_
    case S1 => repeat' (first | exact unhide HS6 | apply Inv.alloc | apply Inv.setCell | (simp; done) | (simp; omega) | omega)
    case he => rw [unhide HE9]; omega
    rw [unhide HE9]
    clear he9
    rintro e w7 ⟨rfl, hS, hK⟩
    have hz7 := hK.size
    simp only [World.size_alloc] at hz7
    have HS7 := hide hS
    have e6 := (World.cell?_alloc_lt w7 (.cells #[.int .i64 9, .int .i64 (-1), .int .i64 (-1), .int .i64 (-1)] 26) ⟨w6.heap.size, 0, none⟩ (by show w6.heap.size < _; omega)).trans (keep_new hK (by omega))
    clear hS hK
    go_wp2
    go_ret
    exact ⟨rfl, ((unhide HS7).alloc _).low⟩
  · have HU := hide (show upd (fun _ => 0) a v 8 o = 0 by unfold upd; rw [if_neg hin])
    rw [unhide HU]
    by_cases hi1 : o < a
    · go_wp2_with fail
      refine (load_inv (w0 := w) (c := c) (d := d) (n := n) (m := upd (fun _ => 0) a v 8) _ _ _ ?S1 ?he).mono ?_
      case S1 => repeat' (first | exact unhide HS5 | apply Inv.alloc | apply Inv.setCell | (simp; done) | (simp; omega) | omega)
      case he => exact lookE_ok (by omega) (by omega) (by omega)
      rintro e w6 ⟨rfl, hS, hK⟩
      have hz6 := hK.size
      simp only [World.size_alloc] at hz6
      have HS6 := hide hS
      clear hS hK
      rw [show ldv (upd (fun _ => 0) a v 8) (a : Int).toNat (8 : Int).toNat = v % 18446744073709551616 from ldv_upd _ _ _ 8]
      go_wp2_with fail
      rw [show v % 18446744073709551616 = v from Int.emod_eq_of_lt hv0 hv1]
      have he9 : lookE n ((n : Int) - 8 + 1) 8 = 9 := lookE_space (by omega) (by omega)
      have HE9 := hide he9
      refine (load_invE (w0 := w) (c := c) (d := d) (n := n) (m := upd (fun _ => 0) a v 8) _ _ _ ?S1 ?he (unhide HG)).mono ?_
      case S1 => repeat' (first | exact unhide HS6 | apply Inv.alloc | apply Inv.setCell | (simp; done) | (simp; omega) | omega)
      case he => rw [unhide HE9]; omega
      rw [unhide HE9]
      clear he9
      rintro e w7 ⟨rfl, hS, hK⟩
      have hz7 := hK.size
      simp only [World.size_alloc] at hz7
      have HS7 := hide hS
      have e6 := (World.cell?_alloc_lt w7 (.cells #[.int .i64 9, .int .i64 (-1), .int .i64 (-1), .int .i64 (-1)] 26) ⟨w6.heap.size, 0, none⟩ (by show w6.heap.size < _; omega)).trans (keep_new hK (by omega))
      clear hS hK
      go_wp2
      go_ret
      exact ⟨rfl, ((unhide HS7).alloc _).low⟩
    · have hi2 : a + 8 ≤ o := by omega
      clear hin
      go_wp2_with fail
      refine (load_inv (w0 := w) (c := c) (d := d) (n := n) (m := upd (fun _ => 0) a v 8) _ _ _ ?S1 ?he).mono ?_
      case S1 => repeat' (first | exact unhide HS5 | apply Inv.alloc | apply Inv.setCell | (simp; done) | (simp; omega) | omega)
      case he => exact lookE_ok (by omega) (by omega) (by omega)
      rintro e w6 ⟨rfl, hS, hK⟩
      have hz6 := hK.size
      simp only [World.size_alloc] at hz6
      have HS6 := hide hS
      clear hS hK
      rw [show ldv (upd (fun _ => 0) a v 8) (a : Int).toNat (8 : Int).toNat = v % 18446744073709551616 from ldv_upd _ _ _ 8]
      go_wp2_with fail
      rw [show v % 18446744073709551616 = v from Int.emod_eq_of_lt hv0 hv1]
      have he9 : lookE n ((n : Int) - 8 + 1) 8 = 9 := lookE_space (by omega) (by omega)
      have HE9 := hide he9
      refine (load_invE (w0 := w) (c := c) (d := d) (n := n) (m := upd (fun _ => 0) a v 8) _ _ _ ?S1 ?he (unhide HG)).mono ?_
      case S1 => repeat' (first | exact unhide HS6 | apply Inv.alloc | apply Inv.setCell | (simp; done) | (simp; omega) | omega)
      case he => rw [unhide HE9]; omega
      rw [unhide HE9]
      clear he9
      rintro e w7 ⟨rfl, hS, hK⟩
      have hz7 := hK.size
      simp only [World.size_alloc] at hz7
      have HS7 := hide hS
      have e6 := (World.cell?_alloc_lt w7 (.cells #[.int .i64 9, .int .i64 (-1), .int .i64 (-1), .int .i64 (-1)] 26) ⟨w6.heap.size, 0, none⟩ (by show w6.heap.size < _; omega)).trans (keep_new hK (by omega))
      clear hS hK
      go_wp2
      go_ret
      exact ⟨rfl, ((unhide HS7).alloc _).low⟩

end Go.Proofs.YtobempobmokkcaaDoor
