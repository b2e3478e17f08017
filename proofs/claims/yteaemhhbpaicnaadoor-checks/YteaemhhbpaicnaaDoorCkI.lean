/-
  Checks: arguments of a call, by package program. Own work of the verifier.
-/
import Derived.Test.YteaemhhbpaicnaaDoorCkH
namespace Go.Proofs.YteaemhhbpaicnaaDoor
open Go.RowKit

set_option maxHeartbeats 4000000 in
set_option maxRecDepth 100000 in
theorem argsFit_c (f : FuncE) (fv ev pv hv sv bv av qv : Value) (r : Int) (gs : List (Int × Int)) (ns : List Int) (w : World) (hh : Li w hv f.homes) (hs : Li w sv f.slots) (ha : LS 2 w av gs.length (fun k => pairA (gs.getD k (0, 0)))) (hq : Li w qv ns) : Calls Tryd.prog 69 #[.agg #[fv, ev, pv, .int .i64 r, hv, sv, bv], av, qv] w fun e w' => e = .returned (.bool (argsB f gs ns)) ∧ Below w.heap.size w w' := by
  obtain ⟨ph, ch, rfl⟩ := hh.shape
  obtain ⟨ps, cs, rfl⟩ := hs.shape
  have hx := al0 w (.cells #[fv, ev, pv, .int .i64 r, .slice ph f.homes.length ch, .slice ps f.slots.length cs, bv] 122 (0, 0))
  have HH := hideI (hh.below hx.2.1)
  have HS := hideI (hs.below hx.2.1)
  obtain ⟨pa, ca, rfl, hca, hla, hac⟩ := (ha.below hx.2.1).pairs
  obtain ⟨pq, cq, rfl, hcq, hlq, hqc⟩ := hq.below hx.2.1
  have hlq : ns.length < 9223372036854775808 := hlq
  have HA := hideI hac
  have HQ := hideI hqc
  have HX := hideI hx
  clear hx hh hs ha hq hac hqc
  by_cases hne : gs.length = ns.length
  · have z : ((gs.length : Int) != (ns.length : Int)) = false := by simp [hne]
    have HAB := hideI (show argsB f gs ns = upB gs.length (fun k => decide ((gs.getD k (0, 0)).1 = ns.getD k 0) && spotB f (gs.getD k (0, 0))) by unfold argsB; simp [hne])
    have HNE := hideI hne
    clear hne
    go_enter Tryd.func69, Tryd.ntmps69
    go_wp2_with fail
    generalize World.alloc w _ = W at HH HS HA HQ HX ⊢
    go_loopw [16] (fun j w' => ∃ k : Nat, j = .int .i64 k ∧ k ≤ gs.length ∧ Below W.heap.size W w' ∧ ∀ q, q < k → (decide ((gs.getD q (0, 0)).1 = ns.getD q 0) && spotB f (gs.getD q (0, 0))) = true) (fun j _ => gs.length - (intOf j).toNat)
    case atStart => exact ⟨0, rfl, by omega, Below.refl _ _, fun q hq => by omega⟩
    case round =>
      obtain ⟨k, rfl, hk, hbw, hno⟩ := hrel
      have HN := hideI hno
      clear hno
      have hWs := (unhideI HX).2.2
      have hws := hbw.size
      by_cases hk2 : k < gs.length
      · have hk3 : k < ns.length := by have := unhideI HNE; omega
        obtain ⟨sb, so, rfl, hcc⟩ := unhideI HA (by omega)
        obtain ⟨sq, oq, rfl, hqq⟩ := unhideI HQ (by omega)
        have hsb : sb < W.heap.size := World.block_lt_of_cell? W _ (hcc k hk2).1
        have c1 := (hbw.cell (p := ⟨sb, so + k * 2, none⟩) hsb).trans (hcc k hk2).1
        have c2 := (hbw.cell (p := ⟨sb, so + k * 2 + 1, none⟩) hsb).trans (hcc k hk2).2
        have hcq' := (hbw.cell (World.block_lt_of_cell? W _ (hqq k hk3))).trans (hqq k hk3)
        have HROW := hideI ((hbw.block w.heap.size (by omega)).trans (unhideI HX).1)
        have HBAD := hideI (fun hb : (decide ((gs.getD k (0, 0)).1 = ns.getD k 0) && spotB f (gs.getD k (0, 0))) = false => show argsB f gs ns = false by rw [unhideI HAB]; exact upB_false hk2 hb)
        have HNX := hideI (fun hb : (decide ((gs.getD k (0, 0)).1 = ns.getD k 0) && spotB f (gs.getD k (0, 0))) = true => upTo_next (q := fun q => decide ((gs.getD q (0, 0)).1 = ns.getD q 0) && spotB f (gs.getD q (0, 0))) (unhideI HN) hb)
        have HBW := hideI hbw
        clear hcc hqq hbw
        generalize gs.getD k (0, 0) = xy at c1 c2 HBAD HNX
        obtain ⟨x, y⟩ := xy
        generalize ns.getD k 0 = z2 at hcq' HBAD HNX
        simp only at c1 c2 HBAD HNX
        go_wp2_with fail
        have hy := al0 wr (.cells #[.int .i64 x, .int .i64 y] 82 (0, 0))
        have hrX := hy.1
        have hrS := (hy.2.1.block w.heap.size (by omega)).trans (unhideI HROW)
        have cq := (hy.2.1.cell (World.block_lt_of_cell? wr _ hcq')).trans hcq'
        have hbU : Below W.heap.size W (wr.alloc (.cells #[.int .i64 x, .int .i64 y] 82 (0, 0))) := below_cut (unhideI HBW) hy.2.1 hws
        have hUs := hy.2.2
        clear hy hcq' c1 c2
        generalize hTx : wr.heap.size = Tx at hrX hUs hws ⊢
        generalize World.alloc wr _ = U at hrX hrS cq hbU hUs ⊢
        have hTU : Tx < U.heap.size := by omega
        have HBU := hideI hbU
        clear hTx
        by_cases hxz : x = z2
        · subst hxz
          have zz : (x != x) = false := by simp
          have hsz : w.heap.size < U.heap.size := by omega
          have HK := hideI (fun (V : World) (h : Below U.heap.size U V) => show Below U.heap.size U V ∧ V.cell? ⟨w.heap.size, 0, none⟩ = some (fv) ∧ V.cell? ⟨w.heap.size, 1, none⟩ = some (ev) ∧ V.cell? ⟨w.heap.size, 2, none⟩ = some (pv) ∧ V.cell? ⟨w.heap.size, 3, none⟩ = some (.int .i64 r) ∧ V.cell? ⟨w.heap.size, 4, none⟩ = some (.slice ph f.homes.length ch) ∧ V.cell? ⟨w.heap.size, 5, none⟩ = some (.slice ps f.slots.length cs) ∧ V.cell? ⟨w.heap.size, 6, none⟩ = some (bv) ∧ V.cell? ⟨Tx, 0, none⟩ = some (.int .i64 x) ∧ V.cell? ⟨Tx, 1, none⟩ = some (.int .i64 y) ∧ V.cell? ⟨sq, oq + k, none⟩ = some (.int .i64 x) from ⟨h, (cells_of_row ((h.block w.heap.size (by omega)).trans hrS) 0).trans rfl, (cells_of_row ((h.block w.heap.size (by omega)).trans hrS) 1).trans rfl, (cells_of_row ((h.block w.heap.size (by omega)).trans hrS) 2).trans rfl, (cells_of_row ((h.block w.heap.size (by omega)).trans hrS) 3).trans rfl, (cells_of_row ((h.block w.heap.size (by omega)).trans hrS) 4).trans rfl, (cells_of_row ((h.block w.heap.size (by omega)).trans hrS) 5).trans rfl, (cells_of_row ((h.block w.heap.size (by omega)).trans hrS) 6).trans rfl, (cells_of_row ((h.block Tx (by omega)).trans hrX) 0).trans rfl, (cells_of_row ((h.block Tx (by omega)).trans hrX) 1).trans rfl, (h.cell (World.block_lt_of_cell? U _ cq)).trans cq⟩)
          have HW := hideI (fun (V : World) (h : Below U.heap.size U V) => hasArg_c f fv ev pv (.slice ph f.homes.length ch) (.slice ps f.slots.length cs) bv r (x, y) V ((unhideI HH).below (below_cut hbU h (by omega))) ((unhideI HS).below (below_cut hbU h (by omega))))
          clear hrX hrS cq hbU hUs hsz hTU
          go_region_held3 (fun V => Below U.heap.size U V ∧ V.cell? ⟨w.heap.size, 0, none⟩ = some (fv) ∧ V.cell? ⟨w.heap.size, 1, none⟩ = some (ev) ∧ V.cell? ⟨w.heap.size, 2, none⟩ = some (pv) ∧ V.cell? ⟨w.heap.size, 3, none⟩ = some (.int .i64 r) ∧ V.cell? ⟨w.heap.size, 4, none⟩ = some (.slice ph f.homes.length ch) ∧ V.cell? ⟨w.heap.size, 5, none⟩ = some (.slice ps f.slots.length cs) ∧ V.cell? ⟨w.heap.size, 6, none⟩ = some (bv) ∧ V.cell? ⟨Tx, 0, none⟩ = some (.int .i64 x) ∧ V.cell? ⟨Tx, 1, none⟩ = some (.int .i64 y) ∧ V.cell? ⟨sq, oq + k, none⟩ = some (.int .i64 x)) ((first | exact unhideI HK _ (Below.refl _ _).drew | exact unhideI HK _ (unhideI HB5))) ((go_at_call 71; refine (unhideI HW _ (Below.refl _ _).drew).mono ?_; rintro e w5 ⟨rfl, hb5⟩; have HB5 := hideI (below_cut (Below.refl U.heap.size U).drew hb5 (Nat.le_refl _)); clear hb5))
          all_goals (
            have hUB := (unhideI HBU).size
            have HB6 := hideI (below_cut (unhideI HBU) (unhideI HB5) hUB)
            cases hsp : spotB f (x, y) with
            | false =>
              have hx := hideI (unhideI HBAD (by rw [hsp]; simp))
              clear hsp
              go_wp2
              go_ret
              exact ⟨by rw [unhideI hx]; rfl, below_cut (unhideI HX).2.1 (unhideI HB6) (by omega)⟩
            | true =>
              have hx := hideI (unhideI HNX (by rw [hsp]; simp))
              clear hsp
              go_wp2
              go_roundw
              case rel => exact ⟨k + 1, by go_num, by omega, unhideI HB6, unhideI hx⟩
              case measure => simp [intOf]; omega)
        · have zz : (x != z2) = true := by simpa using hxz
          have hx := hideI (unhideI HBAD (by simp [hxz]))
          have q0 := (cells_of_row hrX 0).trans rfl
          clear hrX hrS hbU hUs hTU
          go_quiet (fail)
          go_wp2
          go_ret
          exact ⟨by rw [unhideI hx]; rfl, below_drewN (below_cut (unhideI HX).2.1 (unhideI HBU) (by omega)) _⟩
      · have HT := hideI (show argsB f gs ns = true by rw [unhideI HAB]; exact upB_true (fun q hq => unhideI HN q (by omega)))
        obtain rfl : k = gs.length := by omega
        have HBW := hideI hbw
        clear hbw
        go_wp2
        go_ret
        exact ⟨by rw [unhideI HT]; rfl, below_cut (unhideI HX).2.1 (unhideI HBW) (by omega)⟩
  · have z : ((gs.length : Int) != (ns.length : Int)) = true := by simp; omega
    have HT := hideI (show argsB f gs ns = false by unfold argsB; simp [hne])
    clear hne
    go_enter Tryd.func69, Tryd.ntmps69
    go_wp2
    go_ret
    exact ⟨by rw [unhideI HT]; rfl, (unhideI HX).2.1⟩
end Go.Proofs.YteaemhhbpaicnaaDoor
