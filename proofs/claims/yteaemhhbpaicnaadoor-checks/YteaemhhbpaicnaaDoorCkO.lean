/-
  Checks: the instructions of a function, by package program. Own work of the verifier.
-/
import Derived.Test.YteaemhhbpaicnaaDoorCkN
namespace Go.Proofs.YteaemhhbpaicnaaDoor
open Go.RowKit

/-- The numbers of all instructions are words. -/
def NumF (f : FuncE) : Prop := ∀ k j, 0 ≤ ((f.blocks.getD k []).getD j noIns).n ∧ ((f.blocks.getD k []).getD j noIns).n < 18446744073709551616
theorem LS.eights {w : World} {v : Value} {n : Nat} {A : Nat → Array Value} (h : LS 8 w v n A) : ∃ p cap, v = .slice p n cap ∧ n < 9223372036854775808 ∧ (0 < n → ∃ sb so, p = some ⟨sb, so, none⟩ ∧ sb < w.heap.size ∧ ∀ k, k < n → ∀ j x, (A k)[j]? = some x → w.cell? ⟨sb, so + k * 8 + j, none⟩ = some x) := by
  obtain ⟨p, cap, h1, h2, h3, h4⟩ := h
  refine ⟨p, cap, h1, h3, fun h0 => ?_⟩
  obtain ⟨sb, so, e, hl, hc⟩ := h4 h0
  exact ⟨sb, so, e, hl, fun k hk j x hx => hc k hk j x (by simpa using hx)⟩
set_option maxHeartbeats 8000000 in
set_option maxRecDepth 100000 in
theorem firstWrong_c (p : ProgE) (f : FuncE) (fv ev pv hv sv bv : Value) (A E : Nat → Array Value) (B : Nat → Value) (w : World) (hSC : ScD w p f fv ev pv hv sv bv A E B) (hF : FitD p f) (hnn : NumF f) (hN : NeedsAt w) (h1w : 1 < w.heap.size) :
    Calls Tryd.prog 33 #[.agg #[fv, ev], .agg #[pv, .int .i64 f.results, hv, sv, bv]] w fun e w' => e = .returned (.tuple #[.int .i64 (wrongB p f).1, .int .i64 (wrongB p f).2]) ∧ Below w.heap.size w w' := by
  have hx := al0 w (.cells #[fv, ev] 29 (0, 0))
  generalize hW1 : World.alloc w (.cells #[fv, ev] 29 (0, 0)) = W1 at hx
  have hx2 := al0 W1 (.cells #[pv, .int .i64 f.results, hv, sv, bv] 48 (0, 0))
  generalize hW2 : World.alloc W1 (.cells #[pv, .int .i64 f.results, hv, sv, bv] 48 (0, 0)) = W2 at hx2
  have hx3 := al0 W2 (.cells #[fv, ev, pv, .int .i64 f.results, hv, sv, bv] 122 (0, 0))
  have hs1 := hx.2.2
  have hs2 := hx2.2.2
  have hs3 := hx3.2.2
  have hb12 := below_cut hx.2.1 hx2.2.1 (by omega)
  have hb13 := below_cut hb12 hx3.2.1 (by omega)
  have HSC := hideI (hSC.below hb13)
  have HNA := hideI (hN.keep hb13)
  have HW := hideI hb13
  have hr3 := hx3.1
  rw [hs2, hs1] at hr3 hs3
  have HR3 := hideI hr3
  have HZ := hideI hs3
  have HF := hideI hF
  have HNN := hideI hnn
  have H1W := hideI h1w
  have hl3 : f.blocks.length < 9223372036854775808 := by obtain ⟨_, _, _, _, h, _⟩ := hSC.func.bs; exact h
  obtain ⟨pf, cf, rfl⟩ := hSC.prog.fs.shape
  obtain ⟨pe, ce, rfl⟩ := hSC.prog.es.shape
  obtain ⟨pp, cp, rfl⟩ := hSC.func.ps.shape
  obtain ⟨ph, ch, rfl⟩ := hSC.func.hs.shape
  obtain ⟨ps, cs, rfl⟩ := hSC.func.ss.shape
  obtain ⟨pb, cb, rfl⟩ := hSC.func.bs.shape
  clear hx hx2 hx3 hs1 hs2 hs3 hb12 hb13 hr3 hSC hF hnn hN h1w
  subst hW1 hW2
  go_enter Tryd.func33, Tryd.ntmps33
  go_wp2_with fail
  generalize World.alloc (World.alloc (World.alloc w _) _) _ = W at HSC HNA HW HR3 HZ ⊢
  go_loopw [17] (fun j w' => ∃ k : Nat, j = .int .i64 k ∧ k ≤ f.blocks.length ∧ Below W.heap.size W w' ∧ ∀ q, q < k → blkB p f q = true) (fun j _ => f.blocks.length - (intOf j).toNat)
  case atStart => exact ⟨0, rfl, by omega, Below.refl _ _, fun q hq => by omega⟩
  case round =>
    obtain ⟨k, rfl, hk, hbw, hno⟩ := hrel
    have HNO := hideI hno
    clear hno
    by_cases hk2 : k < f.blocks.length
    · obtain ⟨p', cap', he, -, -, hcc⟩ := (unhideI HSC).func.bs.ones
      injection he with e1 e2 e3
      subst e1 e3
      obtain ⟨sb, so, rfl, hc⟩ := hcc (by omega)
      have c0 := (hbw.cell (World.block_lt_of_cell? W _ (hc k hk2))).trans (hc k hk2)
      have hblk := (unhideI HSC).func.each k hk2
      have hgd : f.blocks[k] = f.blocks.getD k [] := by simp [List.getD, hk2]
      rw [hgd] at hblk
      have HOK := hideI (fun j => show okAt p f k j = insB p f ((f.blocks.getD k []).getD j noIns) (decide (j + 1 = (f.blocks.getD k []).length)) from rfl)
      have HBB := hideI (show blkB p f k = upB (f.blocks.getD k []).length (okAt p f k) from rfl)
      have HNJ := hideI ((unhideI HNN) k)
      have HWR := hideI (fun (hb : blkB p f k = false) => show wrongB p f = ((k : Int), (((firstN (f.blocks.getD k []).length (okAt p f k)).getD 0 : Nat) : Int)) by unfold wrongB; rw [firstN_some (unhideI HNO) hk2 hb])
      generalize f.blocks.getD k [] = bl at hblk HOK HBB HNJ HWR
      obtain ⟨Ai, hls, hins⟩ := hblk
      obtain ⟨pl, cl, hBk, hll, hlc⟩ := hls.eights
      rw [hBk] at c0
      have HLC := hideI hlc
      have HINS := hideI hins
      have HBW := hideI hbw
      clear hcc hc hgd hls hlc hins hbw hBk e2
      go_wp2_with fail
      clear c0
      have hwz := (unhideI HBW).size
      generalize hwr : wr = V0 at HBW hwz ⊢
      clear hwr
      go_loopw [24] (fun j w' => ∃ m : Nat, j = .int .i64 m ∧ m ≤ bl.length ∧ Below V0.heap.size V0 w' ∧ ∀ q, q < m → okAt p f k q = true) (fun j _ => bl.length - (intOf j).toNat)
      case atStart => exact ⟨0, rfl, by omega, Below.refl _ _, fun q hq => by omega⟩
      case round =>
        obtain ⟨m, rfl, hm, hbm, hmo⟩ := hrel
        have HMO := hideI hmo
        clear hmo
        have hWm : Below W.heap.size W wr := below_cut (unhideI HBW) hbm hwz
        have hmz := hbm.size
        by_cases hm2 : m < bl.length
        · obtain ⟨sl, sx, rfl, hslt, hcell⟩ := unhideI HLC (by omega)
          have hic := unhideI HINS m hm2
          have hgm : bl[m] = bl.getD m noIns := by simp [List.getD, hm2]
          rw [hgm] at hic
          have HOM := hideI ((unhideI HOK) m)
          have HNM := hideI ((unhideI HNJ) m)
          generalize bl.getD m noIns = i at hic HOM HNM
          obtain ⟨av, ov, hAi, hav, hov⟩ := hic
          have HAV := hideI hav
          have HOV := hideI hov
          obtain ⟨pa, ca, rfl⟩ := hav.shape
          obtain ⟨po, co, rfl⟩ := hov.shape
          have hcm := hcell m hm2
          rw [hAi] at hcm
          have k0 := (hWm.cell hslt).trans (hcm 0 _ rfl)
          have k1 := (hWm.cell hslt).trans (hcm 1 _ rfl)
          have k2 := (hWm.cell hslt).trans (hcm 2 _ rfl)
          have k3 := (hWm.cell hslt).trans (hcm 3 _ rfl)
          have k4 := (hWm.cell hslt).trans (hcm 4 _ rfl)
          have k5 := (hWm.cell hslt).trans (hcm 5 _ rfl)
          have k6 := (hWm.cell hslt).trans (hcm 6 _ rfl)
          have k7 := (hWm.cell hslt).trans (hcm 7 _ rfl)
          rw [Nat.add_zero] at k0
          have hrow := (hWm.block (w.heap.size + 1 + 1) (by have := unhideI HZ; omega)).trans (unhideI HR3)
          have s0 := fun X : Obj => (row_al hrow 0 X).trans rfl
          have s1 := fun X : Obj => (row_al hrow 1 X).trans rfl
          have s2 := fun X : Obj => (row_al hrow 2 X).trans rfl
          have s3 := fun X : Obj => (row_al hrow 3 X).trans rfl
          have s4 := fun X : Obj => (row_al hrow 4 X).trans rfl
          have s5 := fun X : Obj => (row_al hrow 5 X).trans rfl
          have s6 := fun X : Obj => (row_al hrow 6 X).trans rfl
          have hlast : ((m : Int) == (bl.length : Int) - 1) = decide (m + 1 = bl.length) := by
            rw [show ((m : Int) == (bl.length : Int) - 1) = decide ((m : Int) = (bl.length : Int) - 1) from rfl]
            exact decide_eq_decide.2 (by omega)
          have HWM := hideI hWm
          have HBM := hideI hbm
          clear hcm hcell hrow hWm hbm hAi hav hov hgm
          generalize hld : decide (m + 1 = bl.length) = last at hlast HOM
          clear hld
          go_wp2_with fail
          have hy := al0 wr (.cells #[.int .i64 i.op, .int .i64 i.d, .int .i64 i.a, .int .i64 i.bb, .int .u64 i.n, .int .i64 i.f, .slice pa i.args.length ca, .slice po i.outs.length co] 54 (0, 0))
          have hbU := below_cut (unhideI HWM) hy.2.1 (by have := (unhideI HWM).size; omega)
          refine (fits_c p f i last _ _ _ _ _ _ _ _ A E B _ ((unhideI HSC).below hbU) ((unhideI HAV).below hbU) ((unhideI HOV).below hbU) (unhideI HF) (unhideI HNM) ((unhideI HNA).keep hbU) (by have := unhideI HZ; have := hbU.size; omega)).mono ?_
          rintro e w3 ⟨rfl, hb3⟩
          have HU := hideI (below_cut (below_cut (unhideI HBM) hy.2.1 hmz) hb3 (by have := hy.2.2; omega))
          have HU2 := hideI (below_cut hbU hb3 hbU.size)
          clear hb3 hy hbU k0 k1 k2 k3 k4 k5 k6 k7 s0 s1 s2 s3 s4 s5 s6
          cases hfi : insB p f i last with
          | false =>
            have hokf := (unhideI HOM).trans hfi
            have hbf : blkB p f k = false := by rw [unhideI HBB]; exact upB_false hm2 hokf
            have hx := hideI (show wrongB p f = ((k : Int), (m : Int)) by rw [unhideI HWR hbf, firstN_some (unhideI HMO) hm2 hokf]; rfl)
            clear hfi hokf hbf
            go_wp2
            go_returns
            exact ⟨by rw [unhideI hx]; rfl, below_cut (unhideI HW) (unhideI HU2) (by have := unhideI HZ; omega)⟩
          | true =>
            have hx := hideI (upTo_next (unhideI HMO) ((unhideI HOM).trans hfi))
            clear hfi
            go_wp2
            go_roundw
            case rel => exact ⟨m + 1, by go_num, by omega, unhideI HU, unhideI hx⟩
            case measure => simp [intOf]; omega
        · have hx := hideI (upTo_next (q := blkB p f) (unhideI HNO) (by rw [unhideI HBB]; exact upB_true (fun q hq => unhideI HMO q (by omega))))
          obtain rfl : m = bl.length := by omega
          have HWM := hideI hWm
          clear hWm hbm
          go_wp2
          go_roundw
          case rel => exact ⟨k + 1, by go_num, by omega, unhideI HWM, unhideI hx⟩
          case measure => simp [intOf]; omega
    · have hx := hideI (show wrongB p f = (-1, -1) by unfold wrongB; rw [firstN_none (fun q hq => unhideI HNO q (by omega))])
      obtain rfl : k = f.blocks.length := by omega
      have HBW := hideI hbw
      clear hbw
      go_wp2
      go_returns
      exact ⟨by rw [unhideI hx]; rfl, below_cut (unhideI HW) (unhideI HBW) (by have := unhideI HZ; omega)⟩
end Go.Proofs.YteaemhhbpaicnaaDoor
