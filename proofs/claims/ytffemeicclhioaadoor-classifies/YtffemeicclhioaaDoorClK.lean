/-
  Layouts of calls: the statement's comparisons, at equal ones. Own work of the verifier.
-/
import Derived.Test.YtffemeicclhioaaDoorClJ
import Derived.Test.YtffemeicclhioaaDoorClF
import Derived.Deep.RegionHeld3
namespace Go.Proofs.YtffemeicclhioaaDoor
open Go.RowKit

theorem own_len {w : World} {B e size n : Nat} {v : Value} {xs : List Value} (h : w.ownsRow B e size v n xs) : n < 9223372036854775808 := by
  rcases h.2 with ⟨-, e0⟩ | ⟨g, cap, cur, e, -, -, h1, h2, -⟩
  · omega
  · unfold maxLen at h2; omega
theorem own_some {w : World} {B e size n : Nat} {v : Value} {xs : List Value} (h : w.ownsRow B e size v n xs) (hn : 0 < n) : ∃ g c, v = .slice (some ⟨g, 0, none⟩) n c ∧ B ≤ g ∧ g < w.heap.size ∧ ∀ j, j < n * size → w.cell? ⟨g, j, none⟩ = xs[j]? := by
  rcases h.2 with ⟨-, e0⟩ | ⟨g, cap, cur, e, h2, h3, -⟩
  · omega
  · subst e
    exact ⟨g, cap, rfl, h2, row_lt h3, fun j hj => h.cellAt j hj⟩
theorem own_form {w : World} {B e size n : Nat} {v : Value} {xs : List Value} (h : w.ownsRow B e size v n xs) : ∃ p c, v = .slice p n c := by
  rcases h.2 with ⟨e, e0⟩ | ⟨g, cap, cur, e, -⟩
  · exact ⟨none, 0, by rw [e0]; exact e⟩
  · exact ⟨_, _, e⟩
theorem plo_at {w : World} {B : Nat} {v : Value} {xs : List (Int × Int)} (h : PlO w B v xs) {k : Nat} (hk : k < xs.length) : ∃ g c, v = .slice (some ⟨g, 0, none⟩) xs.length c ∧ B ≤ g ∧ w.cell? ⟨g, k * 2, none⟩ = some (.int .i64 (xs.getD k (0, 0)).1) ∧ w.cell? ⟨g, k * 2 + 1, none⟩ = some (.int .i64 (xs.getD k (0, 0)).2) := by
  obtain ⟨g, c, e, hB, -, hc⟩ := own_some h (by omega)
  exact ⟨g, c, e, hB, (hc _ (by omega)).trans (plC_get xs k hk).1, (hc _ (by omega)).trans (plC_get xs k hk).2⟩
theorem spsC_get : ∀ (pvs : List Value) (sps : List SptE) (k : Nat), pvs.length = sps.length → k < sps.length → (spsC pvs sps)[k * 3]? = some (pvs.getD k undef) ∧ (spsC pvs sps)[k * 3 + 1]? = some (.bool (sps.getD k noSpt).ref) ∧ (spsC pvs sps)[k * 3 + 2]? = some (.int .i64 (sps.getD k noSpt).at_)
  | [], [], _, _, hk => absurd hk (by simp)
  | [], _ :: _, _, hl, _ => by simp at hl
  | _ :: _, [], _, hl, _ => by simp at hl
  | p :: pr, s :: sr, 0, _, _ => ⟨rfl, rfl, rfl⟩
  | p :: pr, s :: sr, k + 1, hl, hk => by
    have ih := spsC_get pr sr k (by simpa using hl) (by simpa using hk)
    have e : spsC (p :: pr) (s :: sr) = [p, .bool s.ref, .int .i64 s.at_] ++ spsC pr sr := rfl
    rw [e]
    refine ⟨?_, ?_, ?_⟩
    · rw [List.getElem?_append_right (by simp; omega), show (k + 1) * 3 - [p, Value.bool s.ref, .int .i64 s.at_].length = k * 3 by simp; omega, ih.1]
      simp [List.getD]
    · rw [List.getElem?_append_right (by simp; omega), show (k + 1) * 3 + 1 - [p, Value.bool s.ref, .int .i64 s.at_].length = k * 3 + 1 by simp; omega, ih.2.1]
      simp [List.getD]
    · rw [List.getElem?_append_right (by simp; omega), show (k + 1) * 3 + 2 - [p, Value.bool s.ref, .int .i64 s.at_].length = k * 3 + 2 by simp; omega, ih.2.2]
      simp [List.getD]
theorem lay_at {w : World} {B : Nat} {av rv : Value} {l : LayE} {pvs : List Value} (h : LayO w B av rv l pvs) {k : Nat} (hk : k < l.args.length) : ∃ g c, av = .slice (some ⟨g, 0, none⟩) l.args.length c ∧ B ≤ g ∧ g < w.heap.size ∧ w.cell? ⟨g, k * 3, none⟩ = some (pvs.getD k undef) ∧ w.cell? ⟨g, k * 3 + 1, none⟩ = some (.bool (l.args.getD k noSpt).ref) ∧ w.cell? ⟨g, k * 3 + 2, none⟩ = some (.int .i64 (l.args.getD k noSpt).at_) := by
  obtain ⟨g, c, e, hB, hlt, hc⟩ := own_some h.args (by omega)
  have hs := spsC_get pvs l.args k h.len hk
  exact ⟨g, c, e, hB, hlt, (hc _ (by omega)).trans hs.1, (hc _ (by omega)).trans hs.2.1, (hc _ (by omega)).trans hs.2.2⟩
theorem PlO.below {w w' : World} {B : Nat} {v : Value} {xs : List (Int × Int)} (h : PlO w B v xs) (hb : Below w.heap.size w w') : PlO w' B v xs := own_gb h (gb_ofB (o := none) hb) (fun g _ e => by cases e)
theorem PlO.heap {w w' : World} {B : Nat} {v : Value} {xs : List (Int × Int)} (h : PlO w B v xs) (e : w'.heap = w.heap) : PlO w' B v xs := by
  unfold PlO World.ownsRow at h ⊢
  rw [e]
  exact h
set_option maxHeartbeats 2000000 in
set_option maxRecDepth 100000 in
theorem places_c (xs : List (Int × Int)) (va vb : Value) (Ba Bb : Nat) (w : World) (ha : PlO w Ba va xs) (hb : PlO w Bb vb xs) : Calls Tryd.prog 21 #[va, vb] w fun x w' => x = .returned (.bool true) ∧ Below w.heap.size w w' := by
  obtain ⟨pa, ca, hva⟩ := plo_form ha
  obtain ⟨pb, cb, hvb⟩ := plo_form hb
  subst hva hvb
  have hn' := own_len ha
  have hne : ((xs.length : Int) != (xs.length : Int)) = false := by simp
  have HA := hideI ha
  have HB := hideI hb
  clear ha hb
  go_enter Tryd.func21, Tryd.ntmps21
  go_wp2
  go_loopw [13] (fun j w' => ∃ (k m : Nat), j = .int .i64 k ∧ k ≤ xs.length ∧ w' = w.drewN m) (fun j _ => xs.length - (intOf j).toNat)
  case atStart => exact ⟨0, 0, rfl, by omega, rfl⟩
  case round =>
    obtain ⟨k, m, rfl, hk, hw⟩ := hrel
    subst hw
    by_cases hlt : k < xs.length
    · obtain ⟨ga, ca', ea, -, c1, c2⟩ := plo_at (unhideI HA) hlt
      obtain ⟨gb, cb', eb, -, c3, c4⟩ := plo_at (unhideI HB) hlt
      injection ea with e1 e2 e3
      injection eb with e4 e5 e6
      subst e1 e4
      clear e2 e3 e5 e6
      generalize xs.getD k (0, 0) = y at c1 c2 c3 c4
      obtain ⟨y1, y2⟩ := y
      simp only at c1 c2 c3 c4
      have hy1 : (y1 != y1) = false := by simp
      have hy2 : (y2 != y2) = false := by simp
      go_wp2
      go_quiet (fail)
      go_wp2
      go_roundw
      case rel => exact ⟨k + 1, _, by go_num, by omega, rfl⟩
      case measure => simp [intOf]; omega
    · obtain rfl : k = xs.length := by omega
      go_wp2
      go_ret
      exact ⟨rfl, ⟨rfl, rfl, rfl, Nat.le_refl _, fun _ _ => rfl⟩⟩
theorem bne_self (b : Bool) : (b != b) = false := by cases b <;> rfl
set_option maxHeartbeats 8000000 in
set_option maxRecDepth 100000 in
theorem layouts_c (l : LayE) (a1 r1 a2 r2 : Value) (q1 q2 : List Value) (B1 B2 : Nat) (w : World) (h1 : LayO w B1 a1 r1 l q1) (h2 : LayO w B2 a2 r2 l q2) :
    Calls Tryd.prog 8 #[.agg #[a1, r1, .int .i64 l.size, .int .i64 l.copies], .agg #[a2, r2, .int .i64 l.size, .int .i64 l.copies]] w fun e w' => e = .returned (.bool true) ∧ Below w.heap.size w w' := by
  obtain ⟨pa1, ca1, ha1⟩ := own_form h1.args
  obtain ⟨pa2, ca2, ha2⟩ := own_form h2.args
  obtain ⟨pr1, cr1, hr1⟩ := plo_form h1.res
  obtain ⟨pr2, cr2, hr2⟩ := plo_form h2.res
  subst ha1 ha2 hr1 hr2
  have hnA := own_len h1.args
  have hnR := own_len h1.res
  have hne : ((l.args.length : Int) != (l.args.length : Int)) = false := by simp
  have hns : (l.size != l.size) = false := by simp
  have hnc : (l.copies != l.copies) = false := by simp
  obtain ⟨s0, s1, hZ, hB⟩ := rows2 w (.cells #[.slice pa1 l.args.length ca1, .slice pr1 l.res.length cr1, .int .i64 l.size, .int .i64 l.copies] 33 (0, 0)) (.cells #[.slice pa2 l.args.length ca2, .slice pr2 l.res.length cr2, .int .i64 l.size, .int .i64 l.copies] 33 (0, 0))
  have HH1 := hideI (h1.keep hB)
  have HH2 := hideI (h2.keep hB)
  have HS0 := hideI s0
  have HS1 := hideI s1
  have HB := hideI hB
  clear h1 h2 s0 s1 hB
  go_enter Tryd.func8, Tryd.ntmps8
  go_wp2_with fail
  generalize World.alloc (World.alloc w _) _ = W at HH1 HH2 HS0 HS1 HB hZ ⊢
  refine (places_c l.res _ _ B1 B2 W (unhideI HH1).res (unhideI HH2).res).mono ?_
  rintro e w1 ⟨rfl, hb1⟩
  have hz1 := hb1.size
  have HB1 := hideI (below_cut (unhideI HB) hb1 (by omega))
  have t0 := (hb1.block w.heap.size (by omega)).trans (unhideI HS0)
  have t1 := (hb1.block (w.heap.size + 1) (by omega)).trans (unhideI HS1)
  have HH3 := hideI ((unhideI HH1).keep hb1)
  have HH4 := hideI ((unhideI HH2).keep hb1)
  have x0 := (cells_of_row t0 0).trans rfl
  have x2 := (cells_of_row t0 2).trans rfl
  have x3 := (cells_of_row t0 3).trans rfl
  have y2 := (cells_of_row t1 2).trans rfl
  have y3 := (cells_of_row t1 3).trans rfl
  have HT0 := hideI t0
  have HT1 := hideI t1
  clear hb1 t0 t1 HH1 HH2 HS0 HS1
  go_wp2
  clear x0 x2 x3 y2 y3
  go_loopw [38] (fun j w' => ∃ (k : Nat), j = .int .i64 k ∧ k ≤ l.args.length ∧ Below w1.heap.size w1 w') (fun j _ => l.args.length - (intOf j).toNat)
  case atStart => exact ⟨0, rfl, by omega, Below.refl _ _⟩
  case round =>
    obtain ⟨k, rfl, hk, hbw⟩ := hrel
    have HBW := hideI hbw
    by_cases hlt : k < l.args.length
    · obtain ⟨g1, c1, e1, -, l1, u1, u2, u3⟩ := lay_at (unhideI HH3) hlt
      obtain ⟨g2, c2, e2, -, l2, v1, v2, v3⟩ := lay_at (unhideI HH4) hlt
      injection e1 with f1 f2 f3
      injection e2 with f4 f5 f6
      subst f1 f3 f4 f6
      have hP1 := (unhideI HH3).each k hlt
      have hP2 := (unhideI HH4).each k hlt
      obtain ⟨p1, d1, hpv1⟩ := plo_form hP1
      obtain ⟨p2, d2, hpv2⟩ := plo_form hP2
      rw [hpv1] at u1 hP1
      rw [hpv2] at v1 hP2
      have hzw := hbw.size
      have hnp := own_len hP1
      have m0 : wr.cell? ⟨w.heap.size, 0, none⟩ = some (.slice (some ⟨g1, 0, none⟩) l.args.length ca1) := (cells_of_row ((hbw.block w.heap.size (by omega)).trans (unhideI HT0)) 0).trans rfl
      have m1 : wr.cell? ⟨w.heap.size + 1, 0, none⟩ = some (.slice (some ⟨g2, 0, none⟩) l.args.length ca2) := (cells_of_row ((hbw.block (w.heap.size + 1) (by omega)).trans (unhideI HT1)) 0).trans rfl
      generalize l.args.getD k noSpt = sp at u2 u3 v2 v3 hP1 hP2 u1 v1 hnp hpv1 hpv2
      have hkc : ∀ {g j : Nat} {x : Value}, g < w1.heap.size → w1.cell? ⟨g, j, none⟩ = some x → wr.cell? ⟨g, j, none⟩ = some x := fun {g j x} hg h => (hbw.cell (p := ⟨g, j, none⟩) hg).trans h
      have HK0 := hideI (show wr.drew.cell? ⟨w.heap.size, 0, none⟩ = some (.slice (some ⟨g1, 0, none⟩) l.args.length ca1) ∧ wr.drew.cell? ⟨w.heap.size + 1, 0, none⟩ = some (.slice (some ⟨g2, 0, none⟩) l.args.length ca2) ∧ wr.drew.cell? ⟨g1, k * 3, none⟩ = some (.slice p1 sp.pl.length d1) ∧ wr.drew.cell? ⟨g1, k * 3 + 1, none⟩ = some (.bool sp.ref) ∧ wr.drew.cell? ⟨g1, k * 3 + 2, none⟩ = some (.int .i64 sp.at_) ∧ wr.drew.cell? ⟨g2, k * 3, none⟩ = some (.slice p2 sp.pl.length d2) ∧ wr.drew.cell? ⟨g2, k * 3 + 1, none⟩ = some (.bool sp.ref) ∧ wr.drew.cell? ⟨g2, k * 3 + 2, none⟩ = some (.int .i64 sp.at_) from ⟨m0, m1, hkc l1 u1, hkc l1 u2, hkc l1 u3, hkc l2 v1, hkc l2 v2, hkc l2 v3⟩)
      have HKP := hideI (fun (w5 : World) (hb5 : Below wr.drew.heap.size wr.drew w5) => show (fun V : World => V.cell? ⟨w.heap.size, 0, none⟩ = some (.slice (some ⟨g1, 0, none⟩) l.args.length ca1) ∧ V.cell? ⟨w.heap.size + 1, 0, none⟩ = some (.slice (some ⟨g2, 0, none⟩) l.args.length ca2) ∧ V.cell? ⟨g1, k * 3, none⟩ = some (.slice p1 sp.pl.length d1) ∧ V.cell? ⟨g1, k * 3 + 1, none⟩ = some (.bool sp.ref) ∧ V.cell? ⟨g1, k * 3 + 2, none⟩ = some (.int .i64 sp.at_) ∧ V.cell? ⟨g2, k * 3, none⟩ = some (.slice p2 sp.pl.length d2) ∧ V.cell? ⟨g2, k * 3 + 1, none⟩ = some (.bool sp.ref) ∧ V.cell? ⟨g2, k * 3 + 2, none⟩ = some (.int .i64 sp.at_)) w5 from by
        have h := unhideI HK0
        have g0 : ∀ {g j : Nat} {x : Value}, wr.drew.cell? ⟨g, j, none⟩ = some x → w5.cell? ⟨g, j, none⟩ = some x := fun {g j x} h => (hb5.cell (p := ⟨g, j, none⟩) (World.block_lt_of_cell? _ _ h)).trans h
        exact ⟨g0 h.1, g0 h.2.1, g0 h.2.2.1, g0 h.2.2.2.1, g0 h.2.2.2.2.1, g0 h.2.2.2.2.2.1, g0 h.2.2.2.2.2.2.1, g0 h.2.2.2.2.2.2.2⟩)
      have HPC := hideI (places_c sp.pl _ _ B1 B2 wr.drew ((PlO.below hP1 hbw).heap rfl) ((PlO.below hP2 hbw).heap rfl))
      have nb := bne_self sp.ref
      have nat : (sp.at_ != sp.at_) = false := by simp
      clear u1 u2 u3 v1 v2 v3 hP1 hP2 hpv1 hpv2 m0 m1 hbw f2 f5
      go_wp2_with fail
      refine wp_region_held_drew (S := fun V => V.cell? ⟨w.heap.size, 0, none⟩ = some (.slice (some ⟨g1, 0, none⟩) l.args.length ca1) ∧ V.cell? ⟨w.heap.size + 1, 0, none⟩ = some (.slice (some ⟨g2, 0, none⟩) l.args.length ca2) ∧ V.cell? ⟨g1, k * 3, none⟩ = some (.slice p1 sp.pl.length d1) ∧ V.cell? ⟨g1, k * 3 + 1, none⟩ = some (.bool sp.ref) ∧ V.cell? ⟨g1, k * 3 + 2, none⟩ = some (.int .i64 sp.at_) ∧ V.cell? ⟨g2, k * 3, none⟩ = some (.slice p2 sp.pl.length d2) ∧ V.cell? ⟨g2, k * 3 + 1, none⟩ = some (.bool sp.ref) ∧ V.cell? ⟨g2, k * 3 + 2, none⟩ = some (.int .i64 sp.at_)) (by kernel_rfl) (unhideI HK0) (fun hHeld => ?_)
      refine wpAnyH_take (i := 0) (v := ?v0) rfl (by kernel_rfl) (by kernel_rfl) (by kernel_rfl) (fun _ _ _ h => h) (Or.inl ⟨by rfl, ?hy0⟩) (by assumption) ?_
      case hy0 =>
        intro V hV
        try dsimp only at hV
        go_simp
        all_goals (with_reducible rfl)
      simp only [Act.put, List.setIfInBounds_toArray, List.set_cons_zero, List.set_cons_succ, List.getElem_toArray, List.getElem_cons_zero]
      refine wpAnyH_take (i := 1) (v := ?v1) rfl (by kernel_rfl) (by kernel_rfl) (by kernel_rfl) (fun _ _ _ h => h) (Or.inl ⟨by rfl, ?hy1⟩) (by assumption) ?_
      case hy1 =>
        intro V hV
        try dsimp only at hV
        go_simp
        all_goals (with_reducible rfl)
      simp only [Act.put, List.setIfInBounds_toArray, List.set_cons_zero, List.set_cons_succ, List.getElem_toArray, List.getElem_cons_zero, List.getElem_cons_succ]
      refine wpAnyH_take (i := 2) (v := ?v2) rfl (by kernel_rfl) (by kernel_rfl) (by kernel_rfl) (fun _ _ _ h => h) (Or.inl ⟨by rfl, ?hy2⟩) (by assumption) ?_
      case hy2 =>
        intro V hV
        try dsimp only at hV
        go_simp
        all_goals (with_reducible rfl)
      simp only [Act.put, List.setIfInBounds_toArray, List.set_cons_zero, List.set_cons_succ, List.getElem_toArray, List.getElem_cons_zero, List.getElem_cons_succ]
      refine wpAnyH_take (i := 3) (v := ?v3) rfl (by kernel_rfl) (by kernel_rfl) (by kernel_rfl) (fun _ _ _ h => h) (Or.inl ⟨by rfl, ?hy3⟩) (by assumption) ?_
      case hy3 =>
        intro V hV
        try dsimp only at hV
        go_simp
        all_goals (with_reducible rfl)
      simp only [Act.put, List.setIfInBounds_toArray, List.set_cons_zero, List.set_cons_succ, List.getElem_toArray, List.getElem_cons_zero, List.getElem_cons_succ]
      refine wpAnyH_take (i := 4) (v := ?v4) rfl (by kernel_rfl) (by kernel_rfl) (by kernel_rfl) (fun _ _ _ h => h) (Or.inl ⟨by rfl, ?hy4⟩) (by assumption) ?_
      case hy4 =>
        intro V hV
        try dsimp only at hV
        go_simp
        all_goals (with_reducible rfl)
      simp only [Act.put, List.setIfInBounds_toArray, List.set_cons_zero, List.set_cons_succ, List.getElem_toArray, List.getElem_cons_zero, List.getElem_cons_succ]
      refine wpAnyH_take (i := 5) (v := ?v5) rfl (by kernel_rfl) (by kernel_rfl) (by kernel_rfl) (fun _ _ _ h => h) (Or.inl ⟨by rfl, ?hy5⟩) (by assumption) ?_
      case hy5 =>
        intro V hV
        try dsimp only at hV
        go_simp
        all_goals (with_reducible rfl)
      simp only [Act.put, List.setIfInBounds_toArray, List.set_cons_zero, List.set_cons_succ, List.getElem_toArray, List.getElem_cons_zero, List.getElem_cons_succ]
      refine wpAnyH_take (i := 6) (v := ?v6) rfl (by kernel_rfl) (by kernel_rfl) (by kernel_rfl) (fun _ _ _ h => h) (Or.inl ⟨by rfl, ?hy6⟩) (by assumption) ?_
      case hy6 =>
        intro V hV
        try dsimp only at hV
        go_simp
        all_goals (with_reducible rfl)
      simp only [Act.put, List.setIfInBounds_toArray, List.set_cons_zero, List.set_cons_succ, List.getElem_toArray, List.getElem_cons_zero, List.getElem_cons_succ]
      refine wpAnyH_take (i := 7) (v := ?v7) rfl (by kernel_rfl) (by kernel_rfl) (by kernel_rfl) (fun _ _ _ h => h) (Or.inl ⟨by rfl, ?hy7⟩) (by assumption) ?_
      case hy7 =>
        intro V hV
        try dsimp only at hV
        go_simp
        all_goals (with_reducible rfl)
      simp only [Act.put, List.setIfInBounds_toArray, List.set_cons_zero, List.set_cons_succ, List.getElem_toArray, List.getElem_cons_zero, List.getElem_cons_succ]
      refine wpAnyH_take (i := 8) (v := ?v8) rfl (by kernel_rfl) (by kernel_rfl) (by kernel_rfl) (fun _ _ _ h => h) (Or.inl ⟨by rfl, ?hy8⟩) (by assumption) ?_
      case hy8 =>
        intro V hV
        try dsimp only at hV
        go_simp
        all_goals (with_reducible rfl)
      simp only [Act.put, List.setIfInBounds_toArray, List.set_cons_zero, List.set_cons_succ, List.getElem_toArray, List.getElem_cons_zero, List.getElem_cons_succ]
      refine wpAnyH_take (i := 9) (v := ?v9) rfl (by kernel_rfl) (by kernel_rfl) (by kernel_rfl) (fun _ _ _ h => h) (Or.inl ⟨by rfl, ?hy9⟩) (by assumption) ?_
      case hy9 =>
        intro V hV
        try dsimp only at hV
        go_simp
        all_goals (with_reducible rfl)
      simp only [Act.put, List.setIfInBounds_toArray, List.set_cons_zero, List.set_cons_succ, List.getElem_toArray, List.getElem_cons_zero, List.getElem_cons_succ]
      refine wpAnyH_take (i := 10) (v := ?v10) rfl (by kernel_rfl) (by kernel_rfl) (by kernel_rfl) (fun _ _ _ h => h) (Or.inl ⟨by rfl, ?hy10⟩) (by assumption) ?_
      case hy10 =>
        intro V hV
        try dsimp only at hV
        go_simp
        all_goals (with_reducible rfl)
      simp only [Act.put, List.setIfInBounds_toArray, List.set_cons_zero, List.set_cons_succ, List.getElem_toArray, List.getElem_cons_zero, List.getElem_cons_succ]
      refine wpAnyH_take (i := 11) (v := ?v11) rfl (by kernel_rfl) (by kernel_rfl) (by kernel_rfl) (fun _ _ _ h => h) (Or.inl ⟨by rfl, ?hy11⟩) (by assumption) ?_
      case hy11 =>
        intro V hV
        try dsimp only at hV
        go_simp
        all_goals (with_reducible rfl)
      simp only [Act.put, List.setIfInBounds_toArray, List.set_cons_zero, List.set_cons_succ, List.getElem_toArray, List.getElem_cons_zero, List.getElem_cons_succ]
      refine wpAnyH_take (i := 12) (v := ?v12) rfl (by kernel_rfl) (by kernel_rfl) (by kernel_rfl) (fun _ _ _ h => h) (Or.inl ⟨by rfl, ?hy12⟩) (by assumption) ?_
      case hy12 =>
        intro V hV
        try dsimp only at hV
        go_simp
        all_goals (with_reducible rfl)
      simp only [Act.put, List.setIfInBounds_toArray, List.set_cons_zero, List.set_cons_succ, List.getElem_toArray, List.getElem_cons_zero, List.getElem_cons_succ]
      refine wpAnyH_take (i := 13) (v := ?v13) rfl (by kernel_rfl) (by kernel_rfl) (by kernel_rfl) (fun _ _ _ h => h) (Or.inl ⟨by rfl, ?hy13⟩) (by assumption) ?_
      case hy13 =>
        intro V hV
        try dsimp only at hV
        go_simp
        all_goals (with_reducible rfl)
      simp only [Act.put, List.setIfInBounds_toArray, List.set_cons_zero, List.set_cons_succ, List.getElem_toArray, List.getElem_cons_zero, List.getElem_cons_succ]
      refine wpAnyH_take (i := 14) (v := ?v14) rfl (by kernel_rfl) (by kernel_rfl) (by kernel_rfl) (fun _ _ _ h => h) (Or.inl ⟨by rfl, ?hy14⟩) (by assumption) ?_
      case hy14 =>
        intro V hV
        try dsimp only at hV
        go_simp
        all_goals (with_reducible rfl)
      simp only [Act.put, List.setIfInBounds_toArray, List.set_cons_zero, List.set_cons_succ, List.getElem_toArray, List.getElem_cons_zero, List.getElem_cons_succ]
      refine wpAnyH_take (i := 15) (v := ?v15) rfl (by kernel_rfl) (by kernel_rfl) (by kernel_rfl) (fun _ _ _ h => h) (Or.inl ⟨by rfl, ?hy15⟩) (by assumption) ?_
      case hy15 =>
        intro V hV
        try dsimp only at hV
        go_simp
        all_goals (with_reducible rfl)
      simp only [Act.put, List.setIfInBounds_toArray, List.set_cons_zero, List.set_cons_succ, List.getElem_toArray, List.getElem_cons_zero, List.getElem_cons_succ]
      refine wpAnyH_take (i := 16) (v := ?v16) rfl (by kernel_rfl) (by kernel_rfl) (by kernel_rfl) (fun _ _ _ h => h) (Or.inl ⟨by rfl, ?hy16⟩) (by assumption) ?_
      case hy16 =>
        intro V hV
        try dsimp only at hV
        go_simp
        all_goals (with_reducible rfl)
      simp only [Act.put, List.setIfInBounds_toArray, List.set_cons_zero, List.set_cons_succ, List.getElem_toArray, List.getElem_cons_zero, List.getElem_cons_succ]
      refine wpAnyH_take (i := 17) (v := ?v17) rfl (by kernel_rfl) (by kernel_rfl) (by kernel_rfl) (fun _ _ _ h => h) (Or.inl ⟨by rfl, ?hy17⟩) (by assumption) ?_
      case hy17 =>
        intro V hV
        try dsimp only at hV
        go_simp
        all_goals (with_reducible rfl)
      simp only [Act.put, List.setIfInBounds_toArray, List.set_cons_zero, List.set_cons_succ, List.getElem_toArray, List.getElem_cons_zero, List.getElem_cons_succ]
      refine wpAnyH_take (i := 18) (v := ?v18) rfl (by kernel_rfl) (by kernel_rfl) (by kernel_rfl) (fun _ _ _ h => h) (Or.inl ⟨by rfl, ?hy18⟩) (by assumption) ?_
      case hy18 =>
        intro V hV
        try dsimp only at hV
        go_simp
        all_goals (with_reducible rfl)
      simp only [Act.put, List.setIfInBounds_toArray, List.set_cons_zero, List.set_cons_succ, List.getElem_toArray, List.getElem_cons_zero, List.getElem_cons_succ]
      refine wpAnyH_take (i := 19) (v := ?v19) rfl (by kernel_rfl) (by kernel_rfl) (by kernel_rfl) (fun _ _ _ h => h) (Or.inl ⟨by rfl, ?hy19⟩) (by assumption) ?_
      case hy19 =>
        intro V hV
        try dsimp only at hV
        go_simp
        all_goals (with_reducible rfl)
      simp only [Act.put, List.setIfInBounds_toArray, List.set_cons_zero, List.set_cons_succ, List.getElem_toArray, List.getElem_cons_zero, List.getElem_cons_succ]
      refine wpAnyH_take (i := 20) (v := ?v20) rfl (by kernel_rfl) (by kernel_rfl) (by kernel_rfl) (fun _ _ _ h => h) (Or.inl ⟨by rfl, ?hy20⟩) (by assumption) ?_
      case hy20 =>
        intro V hV
        try dsimp only at hV
        go_simp
        all_goals (with_reducible rfl)
      simp only [Act.put, List.setIfInBounds_toArray, List.set_cons_zero, List.set_cons_succ, List.getElem_toArray, List.getElem_cons_zero, List.getElem_cons_succ]
      refine wpAnyH_take (i := 21) (v := ?v21) rfl (by kernel_rfl) (by kernel_rfl) (by kernel_rfl) (fun _ _ _ h => h) (Or.inl ⟨by rfl, ?hy21⟩) (by assumption) ?_
      case hy21 =>
        intro V hV
        try dsimp only at hV
        go_simp
        all_goals (with_reducible rfl)
      simp only [Act.put, List.setIfInBounds_toArray, List.set_cons_zero, List.set_cons_succ, List.getElem_toArray, List.getElem_cons_zero, List.getElem_cons_succ]
      refine wpAnyH_take (i := 22) (v := ?v22) rfl (by kernel_rfl) (by kernel_rfl) (by kernel_rfl) (fun _ _ _ h => h) (Or.inl ⟨by rfl, ?hy22⟩) (by assumption) ?_
      case hy22 =>
        intro V hV
        try dsimp only at hV
        go_simp
        all_goals (with_reducible rfl)
      simp only [Act.put, List.setIfInBounds_toArray, List.set_cons_zero, List.set_cons_succ, List.getElem_toArray, List.getElem_cons_zero, List.getElem_cons_succ]
      refine wpAnyH_take (i := 23) (v := ?v23) rfl (by kernel_rfl) (by kernel_rfl) (by kernel_rfl) (fun _ _ _ h => h) (Or.inl ⟨by rfl, ?hy23⟩) (by assumption) ?_
      case hy23 =>
        intro V hV
        try dsimp only at hV
        go_simp
        all_goals (with_reducible rfl)
      simp only [Act.put, List.setIfInBounds_toArray, List.set_cons_zero, List.set_cons_succ, List.getElem_toArray, List.getElem_cons_zero, List.getElem_cons_succ]
      refine wpAnyH_take (i := 24) (v := ?v24) rfl (by kernel_rfl) (by kernel_rfl) (by kernel_rfl) (fun _ _ _ h => h) (Or.inl ⟨by rfl, ?hy24⟩) (by assumption) ?_
      case hy24 =>
        intro V hV
        try dsimp only at hV
        go_simp
        all_goals (with_reducible rfl)
      simp only [Act.put, List.setIfInBounds_toArray, List.set_cons_zero, List.set_cons_succ, List.getElem_toArray, List.getElem_cons_zero, List.getElem_cons_succ]
      refine wpAnyH_take (i := 25) (v := ?v25) rfl (by kernel_rfl) (by kernel_rfl) (by kernel_rfl) (fun _ _ _ h => h) (Or.inl ⟨by rfl, ?hy25⟩) (by assumption) ?_
      case hy25 =>
        intro V hV
        try dsimp only at hV
        go_simp
        all_goals (with_reducible rfl)
      simp only [Act.put, List.setIfInBounds_toArray, List.set_cons_zero, List.set_cons_succ, List.getElem_toArray, List.getElem_cons_zero, List.getElem_cons_succ]
      refine wpAnyH_take (i := 26) (v := ?v26) rfl (by kernel_rfl) (by kernel_rfl) (by kernel_rfl) (fun _ _ _ h => h) (Or.inl ⟨by rfl, ?hy26⟩) (by assumption) ?_
      case hy26 =>
        intro V hV
        try dsimp only at hV
        go_simp
        all_goals (with_reducible rfl)
      simp only [Act.put, List.setIfInBounds_toArray, List.set_cons_zero, List.set_cons_succ, List.getElem_toArray, List.getElem_cons_zero, List.getElem_cons_succ]
      refine wpAnyH_take (i := 27) (v := ?v27) rfl (by kernel_rfl) (by kernel_rfl) (by kernel_rfl) (fun _ _ _ h => h) (Or.inl ⟨by rfl, ?hy27⟩) (by assumption) ?_
      case hy27 =>
        intro V hV
        try dsimp only at hV
        go_simp
        all_goals (with_reducible rfl)
      simp only [Act.put, List.setIfInBounds_toArray, List.set_cons_zero, List.set_cons_succ, List.getElem_toArray, List.getElem_cons_zero, List.getElem_cons_succ]
      refine wpAnyH_take (i := 28) (v := ?v28) rfl (by kernel_rfl) (by kernel_rfl) (by kernel_rfl) (fun _ _ _ h => h) (Or.inl ⟨by rfl, ?hy28⟩) (by assumption) ?_
      case hy28 =>
        intro V hV
        try dsimp only at hV
        go_simp
        all_goals (with_reducible rfl)
      simp only [Act.put, List.setIfInBounds_toArray, List.set_cons_zero, List.set_cons_succ, List.getElem_toArray, List.getElem_cons_zero, List.getElem_cons_succ]
      refine wpAnyH_take (i := 29) (v := ?v29) rfl (by kernel_rfl) (by kernel_rfl) (by kernel_rfl) (fun _ _ _ h => h) (Or.inl ⟨by rfl, ?hy29⟩) (by assumption) ?_
      case hy29 =>
        intro V hV
        try dsimp only at hV
        go_simp
        all_goals (with_reducible rfl)
      simp only [Act.put, List.setIfInBounds_toArray, List.set_cons_zero, List.set_cons_succ, List.getElem_toArray, List.getElem_cons_zero, List.getElem_cons_succ]
      refine wpAnyH_take (i := 30) (v := ?v30) rfl (by kernel_rfl) (by kernel_rfl) (by kernel_rfl) (fun _ _ _ h => h) (Or.inl ⟨by rfl, ?hy30⟩) (by assumption) ?_
      case hy30 =>
        intro V hV
        try dsimp only at hV
        go_simp
        all_goals (with_reducible rfl)
      simp only [Act.put, List.setIfInBounds_toArray, List.set_cons_zero, List.set_cons_succ, List.getElem_toArray, List.getElem_cons_zero, List.getElem_cons_succ]
      refine wpAnyH_take (i := 31) (v := ?v31) rfl (by kernel_rfl) (by kernel_rfl) (by kernel_rfl) (fun _ _ _ h => h) (Or.inl ⟨by rfl, ?hy31⟩) (by assumption) ?_
      case hy31 =>
        intro V hV
        try dsimp only at hV
        go_simp
        all_goals (with_reducible rfl)
      simp only [Act.put, List.setIfInBounds_toArray, List.set_cons_zero, List.set_cons_succ, List.getElem_toArray, List.getElem_cons_zero, List.getElem_cons_succ]
      refine wpAnyH_take (i := 32) (v := ?v32) rfl (by kernel_rfl) (by kernel_rfl) (by kernel_rfl) (fun _ _ _ h => h) (Or.inl ⟨by rfl, ?hy32⟩) (by assumption) ?_
      case hy32 =>
        intro V hV
        try dsimp only at hV
        go_simp
        all_goals (with_reducible rfl)
      simp only [Act.put, List.setIfInBounds_toArray, List.set_cons_zero, List.set_cons_succ, List.getElem_toArray, List.getElem_cons_zero, List.getElem_cons_succ]
      refine wpAnyH_take (i := 33) (v := ?v33) rfl (by kernel_rfl) (by kernel_rfl) (by kernel_rfl) (fun _ _ _ h => h) (Or.inl ⟨by rfl, ?hy33⟩) (by assumption) ?_
      case hy33 =>
        intro V hV
        try dsimp only at hV
        go_simp
        all_goals (with_reducible rfl)
      simp only [Act.put, List.setIfInBounds_toArray, List.set_cons_zero, List.set_cons_succ, List.getElem_toArray, List.getElem_cons_zero, List.getElem_cons_succ]
      refine wpAnyH_take (i := 34) (v := ?v34) rfl (by kernel_rfl) (by kernel_rfl) (by kernel_rfl) (fun _ _ _ h => h) (Or.inl ⟨by rfl, ?hy34⟩) (by assumption) ?_
      case hy34 =>
        intro V hV
        try dsimp only at hV
        go_simp
        all_goals (with_reducible rfl)
      simp only [Act.put, List.setIfInBounds_toArray, List.set_cons_zero, List.set_cons_succ, List.getElem_toArray, List.getElem_cons_zero, List.getElem_cons_succ]
      refine wpAnyH_take (i := 35) (v := ?v35) rfl (by kernel_rfl) (by kernel_rfl) (by kernel_rfl) (fun _ _ _ h => h) (Or.inl ⟨by rfl, ?hy35⟩) (by assumption) ?_
      case hy35 =>
        intro V hV
        try dsimp only at hV
        go_simp
        all_goals (with_reducible rfl)
      simp only [Act.put, List.setIfInBounds_toArray, List.set_cons_zero, List.set_cons_succ, List.getElem_toArray, List.getElem_cons_zero, List.getElem_cons_succ]
      refine wpAnyH_take (i := 36) (v := ?v36) rfl (by kernel_rfl) (by kernel_rfl) (by kernel_rfl) (fun _ _ _ h => h) (Or.inl ⟨by rfl, ?hy36⟩) (by assumption) ?_
      case hy36 =>
        intro V hV
        try dsimp only at hV
        go_simp
        all_goals (with_reducible rfl)
      simp only [Act.put, List.setIfInBounds_toArray, List.set_cons_zero, List.set_cons_succ, List.getElem_toArray, List.getElem_cons_zero, List.getElem_cons_succ]
      refine wpAnyH_take (i := 37) (v := ?v37) rfl (by kernel_rfl) (by kernel_rfl) (by kernel_rfl) (fun _ _ _ h => h) (Or.inl ⟨by rfl, ?hy37⟩) (by assumption) ?_
      case hy37 =>
        intro V hV
        try dsimp only at hV
        go_simp
        all_goals (with_reducible rfl)
      simp only [Act.put, List.setIfInBounds_toArray, List.set_cons_zero, List.set_cons_succ, List.getElem_toArray, List.getElem_cons_zero, List.getElem_cons_succ]
      refine wpAnyH_take (i := 38) (v := ?v38) rfl (by kernel_rfl) (by kernel_rfl) (by kernel_rfl) (fun _ _ _ h => h) (Or.inl ⟨by rfl, ?hy38⟩) (by assumption) ?_
      case hy38 =>
        intro V hV
        try dsimp only at hV
        go_simp
        all_goals (with_reducible rfl)
      simp only [Act.put, List.setIfInBounds_toArray, List.set_cons_zero, List.set_cons_succ, List.getElem_toArray, List.getElem_cons_zero, List.getElem_cons_succ]
      refine wpAnyH_take (i := 39) (v := ?v39) rfl (by kernel_rfl) (by kernel_rfl) (by kernel_rfl) (fun _ _ _ h => h) (Or.inl ⟨by rfl, ?hy39⟩) (by assumption) ?_
      case hy39 =>
        intro V hV
        try dsimp only at hV
        go_simp
        all_goals (with_reducible rfl)
      simp only [Act.put, List.setIfInBounds_toArray, List.set_cons_zero, List.set_cons_succ, List.getElem_toArray, List.getElem_cons_zero, List.getElem_cons_succ]
      refine wpAnyH_take (i := 40) (v := ?v40) rfl (by kernel_rfl) (by kernel_rfl) (by kernel_rfl) (fun _ _ _ h => h) (Or.inl ⟨by rfl, ?hy40⟩) (by assumption) ?_
      case hy40 =>
        intro V hV
        try dsimp only at hV
        go_simp
        all_goals (with_reducible rfl)
      simp only [Act.put, List.setIfInBounds_toArray, List.set_cons_zero, List.set_cons_succ, List.getElem_toArray, List.getElem_cons_zero, List.getElem_cons_succ]
      refine wpAnyH_ready (rs := [41]) (by kernel_rfl) (by simp) ?_
      refine AllReadyH.cons rfl (fun K hK => ?_) AllReadyH.nil
      go_simp
      refine (unhideI HPC).mono ?_
      rintro e w5 ⟨rfl, hb5⟩
      have HB5 := hideI hb5
      have HS5 := hideI (unhideI HKP w5 hb5)
      clear hb5
      refine hK.out _ _ (unhideI HS5) (fun hHeld2 => ?_)
      clear hK K
      try simp only [Act.put, List.setIfInBounds_toArray, List.set_cons_zero, List.set_cons_succ, List.getElem_toArray, List.getElem_cons_zero, List.getElem_cons_succ]
      refine wpAnyH_take (i := 42) (v := ?v42) rfl (by kernel_rfl) (by kernel_rfl) (by kernel_rfl) (fun _ _ _ h => h) (Or.inl ⟨by rfl, ?hy42⟩) (by assumption) ?_
      case hy42 =>
        intro V hV
        try dsimp only at hV
        go_simp
        all_goals (with_reducible rfl)
      simp only [Act.put, List.setIfInBounds_toArray, List.set_cons_zero, List.set_cons_succ, List.getElem_toArray, List.getElem_cons_zero, List.getElem_cons_succ]
      refine wpAnyH_take (i := 43) (v := ?v43) rfl (by kernel_rfl) (by kernel_rfl) (by kernel_rfl) (fun _ _ _ h => h) (Or.inl ⟨by rfl, ?hy43⟩) (by assumption) ?_
      case hy43 =>
        intro V hV
        try dsimp only at hV
        go_simp
        all_goals (with_reducible rfl)
      simp only [Act.put, List.setIfInBounds_toArray, List.set_cons_zero, List.set_cons_succ, List.getElem_toArray, List.getElem_cons_zero, List.getElem_cons_succ]
      refine wpAnyH_done (by kernel_rfl) ?_ _
      go_wp2
      go_roundw
      case rel => exact ⟨k + 1, by go_num, by omega, below_cut (below_cut (unhideI HBW) (Below.refl wr.heap.size wr).drew hzw) (unhideI HB5) hzw⟩
      case measure => simp [intOf]; omega
    · obtain rfl : k = l.args.length := by omega
      clear hbw
      go_wp2
      go_ret
      exact ⟨rfl, below_cut (unhideI HB1) (unhideI HBW) (by omega)⟩
end Go.Proofs.YtffemeicclhioaaDoor
