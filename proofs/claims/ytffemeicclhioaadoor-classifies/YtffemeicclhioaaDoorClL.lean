/-
  Layouts of calls: a layout spoilt. Own work of the verifier.
-/
import Derived.Test.YtffemeicclhioaaDoorClK
namespace Go.Proofs.YtffemeicclhioaaDoor
open Go.RowKit

theorem own_row {w : World} {B e size n : Nat} {v : Value} {xs : List Value} (h : w.ownsRow B e size v n xs) (hn : 0 < n) : ∃ g cap cur, v = .slice (some ⟨g, 0, none⟩) n cap ∧ B ≤ g ∧ w.heap[g]? = some (.cells cur e (0, 0)) ∧ n * size ≤ cur.size ∧ ∀ j, j < n * size → cur[j]? = xs[j]? := by
  rcases h.2 with ⟨-, e0⟩ | ⟨g, cap, cur, e1, h2, h3, h4, -, h6, h7⟩
  · omega
  · refine ⟨g, cap, cur, e1, h2, h3, by rw [h6]; exact Nat.mul_le_mul_right _ h4, fun j hj => ?_⟩
    rw [← h7, List.getElem?_take, if_pos hj]
    simp
/-- A layout under way of being spoilt: rows outside [B, E) stay; spots from cell t on stay; rows stay rows. -/
structure SpI (B E : Nat) (W : World) (t : Nat) (w : World) : Prop where
  os : w.os = W.os
  tape : w.tape = W.tape
  output : w.output = W.output
  size : w.heap.size = W.heap.size
  oth : ∀ q : Nat, q < B ∨ E ≤ q → w.heap[q]? = W.heap[q]?
  spots : ∀ (g : Nat) (cs : Array Value), W.heap[g]? = some (.cells cs 60 (0, 0)) → ∃ cs' : Array Value, w.heap[g]? = some (.cells cs' 60 (0, 0)) ∧ cs'.size = cs.size ∧ ∀ j, t ≤ j → cs'[j]? = cs[j]?
  plcs : ∀ (g : Nat) (cs : Array Value), W.heap[g]? = some (.cells cs 62 (0, 0)) → ∃ cs' : Array Value, w.heap[g]? = some (.cells cs' 62 (0, 0)) ∧ cs'.size = cs.size
theorem SpI.first (B E : Nat) (W : World) : SpI B E W 0 W := ⟨rfl, rfl, rfl, rfl, fun _ _ => rfl, fun _ cs h => ⟨cs, h, rfl, fun _ _ => rfl⟩, fun _ cs h => ⟨cs, h, rfl⟩⟩
theorem SpI.mono {B E t t' : Nat} {W w : World} (h : SpI B E W t w) (ht : t ≤ t') : SpI B E W t' w := ⟨h.os, h.tape, h.output, h.size, h.oth, fun g cs e => by
  obtain ⟨cs', h1, h2, h3⟩ := h.spots g cs e
  exact ⟨cs', h1, h2, fun j hj => h3 j (by omega)⟩, h.plcs⟩
theorem SpI.place {B E t g : Nat} {W w : World} {cs : Array Value} (h : SpI B E W t w) (hr : W.heap[g]? = some (.cells cs 62 (0, 0))) (h1 : B ≤ g) (h2 : g < E) (j : Nat) (v : Value) : SpI B E W t (w.setCell ⟨g, j, none⟩ v) := by
  refine ⟨h.os, h.tape, h.output, by simpa using h.size, fun q hq => (heap_setCell_other _ _ _ _ (by show q ≠ g; omega)).trans (h.oth q hq), fun q cs' e => ?_, fun q cs' e => ?_⟩
  · obtain ⟨c, k1, k2, k3⟩ := h.spots q cs' e
    have hne : q ≠ g := fun e' => by subst e'; rw [hr] at e; injection e with e; injection e with _ e _; exact absurd e (by decide)
    exact ⟨c, (heap_setCell_other _ _ _ _ hne).trans k1, k2, k3⟩
  · obtain ⟨c, k1, k2⟩ := h.plcs q cs' e
    by_cases hq : q = g
    · subst hq
      exact ⟨_, heap_setCell_same _ _ j _ _ v k1, by simpa using k2⟩
    · exact ⟨c, (heap_setCell_other _ _ _ _ hq).trans k1, k2⟩
theorem SpI.spot {B E t g : Nat} {W w : World} {cs : Array Value} (h : SpI B E W t w) (hr : W.heap[g]? = some (.cells cs 60 (0, 0))) (h1 : B ≤ g) (h2 : g < E) (j : Nat) (hj : j < t) (v : Value) : SpI B E W t (w.setCell ⟨g, j, none⟩ v) := by
  refine ⟨h.os, h.tape, h.output, by simpa using h.size, fun q hq => (heap_setCell_other _ _ _ _ (by show q ≠ g; omega)).trans (h.oth q hq), fun q cs' e => ?_, fun q cs' e => ?_⟩
  · obtain ⟨c, k1, k2, k3⟩ := h.spots q cs' e
    by_cases hq : q = g
    · subst hq
      exact ⟨_, heap_setCell_same _ _ j _ _ v k1, by simpa using k2, fun i hi => by rw [Array.getElem?_setIfInBounds_ne (by omega)]; exact k3 i hi⟩
    · exact ⟨c, (heap_setCell_other _ _ _ _ hq).trans k1, k2, k3⟩
  · obtain ⟨c, k1, k2⟩ := h.plcs q cs' e
    have hne : q ≠ g := fun e' => by subst e'; rw [hr] at e; injection e with e; injection e with _ e _; exact absurd e (by decide)
    exact ⟨c, (heap_setCell_other _ _ _ _ hne).trans k1, k2⟩
theorem SpI.cellP {B E t g j : Nat} {W w : World} {cs : Array Value} (h : SpI B E W t w) (hr : W.heap[g]? = some (.cells cs 62 (0, 0))) (hj : j < cs.size) : (∃ v, w.cell? ⟨g, j, none⟩ = some v) ∧ w.frozen? ⟨g, j, none⟩ = false := by
  obtain ⟨c, k1, k2⟩ := h.plcs g cs hr
  exact ⟨⟨_, (cells_of_row k1 j).trans (Array.getElem?_eq_getElem (by omega))⟩, frozen_of_row _ _ j _ _ k1⟩
theorem SpI.cellS {B E t g j : Nat} {W w : World} {cs : Array Value} (h : SpI B E W t w) (hr : W.heap[g]? = some (.cells cs 60 (0, 0))) (hj : j < cs.size) : (∃ v, w.cell? ⟨g, j, none⟩ = some v) ∧ w.frozen? ⟨g, j, none⟩ = false := by
  obtain ⟨c, k1, k2, -⟩ := h.spots g cs hr
  exact ⟨⟨_, (cells_of_row k1 j).trans (Array.getElem?_eq_getElem (by omega))⟩, frozen_of_row _ _ j _ _ k1⟩
theorem SpI.at {B E t g j : Nat} {W w : World} {cs : Array Value} {x : Value} (h : SpI B E W t w) (hr : W.heap[g]? = some (.cells cs 60 (0, 0))) (hj : t ≤ j) (hx : cs[j]? = some x) : w.cell? ⟨g, j, none⟩ = some x := by
  obtain ⟨c, k1, k2, k3⟩ := h.spots g cs hr
  exact (cells_of_row k1 j).trans ((k3 j hj).trans hx)
/-- What spoiling leaves. -/
structure SpL (B E : Nat) (w w' : World) : Prop where
  os : w'.os = w.os
  tape : w'.tape = w.tape
  output : w'.output = w.output
  size : w.heap.size ≤ w'.heap.size
  oth : ∀ q : Nat, q < w.heap.size → q < B ∨ E ≤ q → w'.heap[q]? = w.heap[q]?
set_option maxHeartbeats 4000000 in
set_option maxRecDepth 100000 in
theorem spoilLayout_c (l : LayE) (av rv : Value) (pvs : List Value) (B E : Nat) (x y : Int) (w : World) (h : LayO w B av rv l pvs) (hE : E ≤ w.heap.size) (ha : ∀ g, av.ownBlock = some g → g < E) (hr : ∀ g, rv.ownBlock = some g → g < E) (hp : ∀ k, k < l.args.length → ∀ g, (pvs.getD k undef).ownBlock = some g → g < E) :
    Calls Tryd.prog 10 #[.agg #[av, rv, .int .i64 x, .int .i64 y]] w fun e w' => (∃ v, e = .returned v) ∧ SpL B E w w' := by
  obtain ⟨pa, ca, ea⟩ := own_form h.args
  obtain ⟨pr, cr, er⟩ := plo_form h.res
  subst ea er
  have hnA := own_len h.args
  have hnR := own_len h.res
  obtain ⟨r0, hB, hZ⟩ := al0 w (.cells #[.slice pa l.args.length ca, .slice pr l.res.length cr, .int .i64 x, .int .i64 y] 33 (0, 0))
  have HR0 := hideI r0
  have HB := hideI hB
  have HH := hideI (h.keep hB)
  have HA := hideI ha
  have HR := hideI hr
  have HP := hideI hp
  clear h r0 hB ha hr hp
  go_enter Tryd.func10, Tryd.ntmps10
  go_wp2_with fail
  generalize World.alloc w _ = W at HR0 HB HH hZ ⊢
  go_loopw [8] (fun j w' => ∃ (i : Nat), j = .int .i64 i ∧ i ≤ l.args.length ∧ SpI B E W (i * 3) w') (fun j _ => l.args.length - (intOf j).toNat)
  case atStart => exact ⟨0, rfl, by omega, SpI.first B E W⟩
  case round =>
    obtain ⟨i, rfl, hi, hI⟩ := hrel
    by_cases hi2 : i < l.args.length
    · obtain ⟨g, cap, cur, e1, hg, hrow, hsz, hcur⟩ := own_row (unhideI HH).args (by omega)
      injection e1 with f1 f2 f3
      subst f1 f3
      have hgE := unhideI HA g rfl
      have hPk := (unhideI HH).each i hi2
      have hpE := unhideI HP i hi2
      have hcx := (hcur (i * 3) (by omega)).trans (spsC_get pvs l.args i (unhideI HH).len hi2).1
      obtain ⟨pp, pc, hpv⟩ := plo_form hPk
      have hnp := own_len hPk
      rw [hpv] at hPk hpE hcx
      generalize (l.args.getD i noSpt).pl = pls at hPk hpE hcx hnp hpv
      have b0 := (cells_of_row ((hI.oth w.heap.size (Or.inr hE)).trans (unhideI HR0)) 0).trans rfl
      have a0 := hI.at hrow (Nat.le_refl _) hcx
      have HI := hideI hI
      have HCX := hideI hcx
      have HROW := hideI hrow
      have HPK := hideI hPk
      have HPE := hideI hpE
      clear hI hcx hrow hPk hpE hcur hpv f2
      go_wp2
      clear b0 a0
      go_loopw [18] (fun j w' => ∃ (k : Nat), j = .int .i64 k ∧ k ≤ pls.length ∧ SpI B E W (i * 3) w') (fun j _ => pls.length - (intOf j).toNat)
      case atStart => exact ⟨0, rfl, by omega, unhideI HI⟩
      case round =>
        clear HI
        obtain ⟨k, rfl, hk, hI⟩ := hrel
        have b0 := (cells_of_row ((hI.oth w.heap.size (Or.inr hE)).trans (unhideI HR0)) 0).trans rfl
        have a0 := hI.at (unhideI HROW) (Nat.le_refl _) (unhideI HCX)
        by_cases hk2 : k < pls.length
        · obtain ⟨gp, capp, curp, e2, hgp, hrowp, hszp, -⟩ := own_row (unhideI HPK) (by omega)
          injection e2 with f4 f5 f6
          subst f4 f6
          have hgpE := unhideI HPE gp rfl
          obtain ⟨⟨x0, c0⟩, z0⟩ := hI.cellP (j := k * 2) hrowp (by omega)
          obtain ⟨⟨x1, c1⟩, z1⟩ := hI.cellP (j := k * 2 + 1) hrowp (by omega)
          have HX := hideI ((hI.place hrowp hgp hgpE (k * 2) (.int .i64 (-9))).place hrowp hgp hgpE (k * 2 + 1) (.int .i64 0))
          clear hI hrowp f5
          go_wp2
          go_roundw
          case rel => exact ⟨k + 1, by go_num, by omega, unhideI HX⟩
          case measure => simp [intOf]; omega
        · obtain ⟨⟨x0, c0⟩, z0⟩ := hI.cellS (j := i * 3) (unhideI HROW) (by omega)
          obtain ⟨⟨x1, c1⟩, z1⟩ := hI.cellS (j := i * 3 + 1) (unhideI HROW) (by omega)
          obtain ⟨⟨x2, c2⟩, z2⟩ := hI.cellS (j := i * 3 + 2) (unhideI HROW) (by omega)
          have HX := hideI ((((hI.mono (show i * 3 ≤ (i + 1) * 3 by omega)).spot (unhideI HROW) hg hgE (i * 3) (by omega) (.slice none 0 0)).spot (unhideI HROW) hg hgE (i * 3 + 1) (by omega) (.bool false)).spot (unhideI HROW) hg hgE (i * 3 + 2) (by omega) (.int .i64 (-9)))
          have hc0 := hideI c0
          clear hI a0 hc0
          go_wp2
          go_roundw
          case rel => exact ⟨i + 1, by go_num, by omega, unhideI HX⟩
          case measure => simp [intOf]; omega
    · have b1 := (cells_of_row ((hI.oth w.heap.size (Or.inr hE)).trans (unhideI HR0)) 1).trans rfl
      have HI := hideI hI
      clear hI
      go_wp2
      clear b1
      go_loopw [40] (fun j w' => ∃ (k : Nat), j = .int .i64 k ∧ k ≤ l.res.length ∧ SpI B E W (i * 3) w') (fun j _ => l.res.length - (intOf j).toNat)
      case atStart => exact ⟨0, rfl, by omega, unhideI HI⟩
      case round =>
        clear HI
        obtain ⟨k, rfl, hk, hI⟩ := hrel
        have b1 := (cells_of_row ((hI.oth w.heap.size (Or.inr hE)).trans (unhideI HR0)) 1).trans rfl
        by_cases hk2 : k < l.res.length
        · obtain ⟨gp, capp, curp, e2, hgp, hrowp, hszp, -⟩ := own_row (unhideI HH).res (by omega)
          injection e2 with f4 f5 f6
          subst f4 f6
          have hgpE := unhideI HR gp rfl
          obtain ⟨⟨x0, c0⟩, z0⟩ := hI.cellP (j := k * 2) hrowp (by omega)
          obtain ⟨⟨x1, c1⟩, z1⟩ := hI.cellP (j := k * 2 + 1) hrowp (by omega)
          have HX := hideI ((hI.place hrowp hgp hgpE (k * 2) (.int .i64 (-9))).place hrowp hgp hgpE (k * 2 + 1) (.int .i64 0))
          clear hI hrowp f5
          go_wp2
          go_roundw
          case rel => exact ⟨k + 1, by go_num, by omega, unhideI HX⟩
          case measure => simp [intOf]; omega
        · have HX := hideI hI
          clear hI
          go_wp2
          go_returns
          have hX := unhideI HX
          have hb := unhideI HB
          exact ⟨⟨_, rfl⟩, ⟨hX.os.trans hb.os, hX.tape.trans hb.tape, hX.output.trans hb.output, by rw [hX.size, hZ]; omega, fun q h1 h2 => (hX.oth q h2).trans (hb.block q h1)⟩⟩
end Go.Proofs.YtffemeicclhioaaDoor
