/-
  Checks: an instruction, by package program. Own work of the verifier.
-/
import Derived.Test.YteaemhhbpaicnaaDoorCkM
namespace Go.Proofs.YteaemhhbpaicnaaDoor
open Go.RowKit

theorem fieldsFit_c (p : ProgE) (f : FuncE) (i : InsE) (fv ev pv hv sv bv av ov : Value) (A E : Nat → Array Value) (B : Nat → Value) (w : World) (h1 : 1 ≤ i.op) (h18 : i.op ≤ 18) (hSC : ScD w p f fv ev pv hv sv bv A E B) (ha : LS 2 w av i.args.length (fun k => pairA (i.args.getD k (0, 0)))) (ho : Li w ov i.outs) (hF : FitD p f) (hn : 0 ≤ i.n ∧ i.n < 18446744073709551616) :
    Calls Tryd.prog 58 #[.agg #[fv, ev, pv, .int .i64 f.results, hv, sv, bv], .agg #[.int .i64 i.op, .int .i64 i.d, .int .i64 i.a, .int .i64 i.bb, .int .u64 i.n, .int .i64 i.f, av, ov]] w fun e w' => e = .returned (.bool (fieldsB p f i)) ∧ Below w.heap.size w w' := by
  obtain ⟨op, d, a, bb, n, fx, gs, os⟩ := i
  simp only at h1 h18 ha ho hn ⊢
  have hs : op = 1 ∨ op = 2 ∨ op = 3 ∨ op = 4 ∨ op = 5 ∨ op = 6 ∨ op = 7 ∨ op = 8 ∨ op = 9 ∨ op = 10 ∨ op = 11 ∨ op = 12 ∨ op = 13 ∨ op = 14 ∨ op = 15 ∨ op = 16 ∨ op = 17 ∨ op = 18 := by omega
  rcases hs with rfl | rfl | rfl | rfl | rfl | rfl | rfl | rfl | rfl | rfl | rfl | rfl | rfl | rfl | rfl | rfl | rfl | rfl
  · exact ff1_c p f d a bb n fx gs os fv ev pv hv sv bv av ov A E B w hSC ha ho hF hn
  · exact ff2_c p f d a bb n fx gs os fv ev pv hv sv bv av ov A E B w hSC ha ho hF hn
  · exact ff3_c p f d a bb n fx gs os fv ev pv hv sv bv av ov A E B w hSC ha ho hF hn
  · exact ff4_c p f d a bb n fx gs os fv ev pv hv sv bv av ov A E B w hSC ha ho hF hn
  · exact ff5_c p f d a bb n fx gs os fv ev pv hv sv bv av ov A E B w hSC ha ho hF hn
  · exact ff6_c p f d a bb n fx gs os fv ev pv hv sv bv av ov A E B w hSC ha ho hF hn
  · exact ff7_c p f d a bb n fx gs os fv ev pv hv sv bv av ov A E B w hSC ha ho hF hn
  · exact ff8_c p f d a bb n fx gs os fv ev pv hv sv bv av ov A E B w hSC ha ho hF hn
  · exact ff9_c p f d a bb n fx gs os fv ev pv hv sv bv av ov A E B w hSC ha ho hF hn
  · exact ff10_c p f d a bb n fx gs os fv ev pv hv sv bv av ov A E B w hSC ha ho hF hn
  · exact ff11_c p f d a bb n fx gs os fv ev pv hv sv bv av ov A E B w hSC ha ho hF hn
  · exact ff12_c p f d a bb n fx gs os fv ev pv hv sv bv av ov A E B w hSC ha ho hF hn
  · exact ff13_c p f d a bb n fx gs os fv ev pv hv sv bv av ov A E B w hSC ha ho hF hn
  · exact ff14_c p f d a bb n fx gs os fv ev pv hv sv bv av ov A E B w hSC ha ho hF hn
  · exact ff15_c p f d a bb n fx gs os fv ev pv hv sv bv av ov A E B w hSC ha ho hF hn
  · exact ff16_c p f d a bb n fx gs os fv ev pv hv sv bv av ov A E B w hSC ha ho hF hn
  · exact ff17_c p f d a bb n fx gs os fv ev pv hv sv bv av ov A E B w hSC ha ho hF hn
  · exact ff18_c p f d a bb n fx gs os fv ev pv hv sv bv av ov A E B w hSC ha ho hF hn
theorem ends_c (op : Int) (w : World) : Calls Tryd.prog 56 #[.int .i64 op] w fun e w' => e = .returned (.bool (inB op 14 18)) ∧ w' = w := by
  unfold inB
  by_cases h1 : 14 ≤ op
  · by_cases h2 : op ≤ 18
    · have hd : decide (14 ≤ op ∧ op ≤ 18) = true := by simp; omega
      rw [hd]
      clear hd
      go_enter Tryd.func56, Tryd.ntmps56
      go_wp2
      go_ret
      exact ⟨rfl, rfl⟩
    · have hd : decide (14 ≤ op ∧ op ≤ 18) = false := by simp; omega
      rw [hd]
      clear hd
      go_enter Tryd.func56, Tryd.ntmps56
      go_wp2
      go_ret
      exact ⟨rfl, rfl⟩
  · have hd : decide (14 ≤ op ∧ op ≤ 18) = false := by simp; omega
    rw [hd]
    clear hd
    go_enter Tryd.func56, Tryd.ntmps56
    go_wp2
    go_ret
    exact ⟨rfl, rfl⟩
set_option maxRecDepth 100000 in
theorem needsZ_c (op : Int) (w : World) (hg : NeedsAt w) (h : ¬ (1 ≤ op ∧ op ≤ 18)) : Calls Tryd.prog 55 #[.int .i64 op] w fun e w' => e = .returned (.int .u8 0) ∧ w' = w := by
  by_cases h0 : op < 0
  · clear h
    go_enter Tryd.func55, Tryd.ntmps55
    go_wp2
    go_ret
    exact ⟨rfl, rfl⟩
  · by_cases h19 : 19 ≤ op
    · clear h
      go_enter Tryd.func55, Tryd.ntmps55
      go_wp2
      go_ret
      exact ⟨rfl, rfl⟩
    · obtain rfl : op = 0 := by omega
      have c0 := (hg 0 (by decide)).trans rfl
      clear h h0 h19 hg
      go_enter Tryd.func55, Tryd.ntmps55
      go_wp2
      go_ret
      exact ⟨rfl, rfl⟩
theorem need_ne (op : Int) (h1 : 1 ≤ op) (h2 : op ≤ 18) : ((needOf op) != 0) = true := by
  have hs : op = 1 ∨ op = 2 ∨ op = 3 ∨ op = 4 ∨ op = 5 ∨ op = 6 ∨ op = 7 ∨ op = 8 ∨ op = 9 ∨ op = 10 ∨ op = 11 ∨ op = 12 ∨ op = 13 ∨ op = 14 ∨ op = 15 ∨ op = 16 ∨ op = 17 ∨ op = 18 := by omega
  rcases hs with rfl | rfl | rfl | rfl | rfl | rfl | rfl | rfl | rfl | rfl | rfl | rfl | rfl | rfl | rfl | rfl | rfl | rfl <;> rfl
theorem NeedsAt.keep {w w' : World} (h : NeedsAt w) (hb : Below w.heap.size w w') : NeedsAt w' := fun k hk => (hb.cell (World.block_lt_of_cell? w _ (h k hk))).trans (h k hk)
set_option maxHeartbeats 4000000 in
set_option maxRecDepth 100000 in
theorem fits_c (p : ProgE) (f : FuncE) (i : InsE) (last : Bool) (fv ev pv hv sv bv av ov : Value) (A E : Nat → Array Value) (B : Nat → Value) (w : World) (hSC : ScD w p f fv ev pv hv sv bv A E B) (ha : LS 2 w av i.args.length (fun k => pairA (i.args.getD k (0, 0)))) (ho : Li w ov i.outs) (hF : FitD p f) (hn : 0 ≤ i.n ∧ i.n < 18446744073709551616) (hN : NeedsAt w) (h1w : 1 < w.heap.size) :
    Calls Tryd.prog 49 #[.agg #[fv, ev, pv, .int .i64 f.results, hv, sv, bv], .agg #[.int .i64 i.op, .int .i64 i.d, .int .i64 i.a, .int .i64 i.bb, .int .u64 i.n, .int .i64 i.f, av, ov], .bool last] w fun e w' => e = .returned (.bool (insB p f i last)) ∧ Below w.heap.size w w' := by
  have hx := al0 w (.cells #[fv, ev, pv, .int .i64 f.results, hv, sv, bv] 122 (0, 0))
  generalize hW1 : World.alloc w (.cells #[fv, ev, pv, .int .i64 f.results, hv, sv, bv] 122 (0, 0)) = W1 at hx
  have hx2 := al0 W1 (.cells #[.int .i64 i.op, .int .i64 i.d, .int .i64 i.a, .int .i64 i.bb, .int .u64 i.n, .int .i64 i.f, av, ov] 54 (0, 0))
  have hs1 := hx.2.2
  have hs2 := hx2.2.2
  have hb12 := below_cut hx.2.1 hx2.2.1 (by omega)
  have HSC := hideI (hSC.below hb12)
  have HA := hideI (ha.below hb12)
  have HO := hideI (ho.below hb12)
  have HNA := hideI (hN.keep hb12)
  have HW := hideI hb12
  have HR1 := hideI ((hx2.2.1.block w.heap.size (by omega)).trans hx.1)
  have hr2 := hx2.1
  rw [hs1] at hr2 hs2
  have HR2 := hideI hr2
  have HZ := hideI hs2
  have HF := hideI hF
  have HNN := hideI hn
  obtain ⟨pf, cf, rfl⟩ := hSC.prog.fs.shape
  obtain ⟨pe, ce, rfl⟩ := hSC.prog.es.shape
  obtain ⟨pp, cp, rfl⟩ := hSC.func.ps.shape
  obtain ⟨ph, ch, rfl⟩ := hSC.func.hs.shape
  obtain ⟨ps, cs, rfl⟩ := hSC.func.ss.shape
  obtain ⟨pb, cb, rfl⟩ := hSC.func.bs.shape
  obtain ⟨pa, ca, rfl⟩ := ha.shape
  obtain ⟨po, co, rfl⟩ := ho.shape
  have H1W := hideI h1w
  clear hx hx2 hs1 hs2 hb12 hr2 hSC ha ho hF hn hN h1w
  subst hW1
  go_enter Tryd.func49, Tryd.ntmps49
  go_wp2_with fail
  generalize World.alloc (World.alloc w _) _ = W at HSC HA HO HNA HW HR1 HR2 HZ ⊢
  have i0 := (cells_of_row (unhideI HR2) 0).trans rfl
  have i1 := (cells_of_row (unhideI HR2) 1).trans rfl
  have i2 := (cells_of_row (unhideI HR2) 2).trans rfl
  have i3 := (cells_of_row (unhideI HR2) 3).trans rfl
  have i4 := (cells_of_row (unhideI HR2) 4).trans rfl
  have i5 := (cells_of_row (unhideI HR2) 5).trans rfl
  have i6 := (cells_of_row (unhideI HR2) 6).trans rfl
  have i7 := (cells_of_row (unhideI HR2) 7).trans rfl
  by_cases hop : 1 ≤ i.op ∧ i.op ≤ 18
  · refine (needs_c i.op hop.1 hop.2 W (unhideI HNA)).mono ?_
    rintro e w2 ⟨rfl, h2⟩
    subst w2
    have zn := need_ne i.op hop.1 hop.2
    generalize needOf i.op = nd at zn ⊢
    have HOP := hideI hop
    clear hop
    go_wp2_with fail
    refine (ends_c i.op W).mono ?_
    rintro e w2 ⟨rfl, h2⟩
    subst w2
    have HI := hideI (show insB p f i last = ((inB i.op 14 18 == last) && (!i.spare && fieldsB p f i)) by
      have hop := unhideI HOP
      unfold insB inB
      have e1 : decide (1 ≤ i.op ∧ i.op ≤ 18) = true := decide_eq_true hop
      have e2 : decide (14 ≤ i.op ∧ i.op ≤ 18) = decide (14 ≤ i.op) := decide_eq_decide.2 ⟨fun h => h.1, fun h => ⟨h, hop.2⟩⟩
      rw [e1, e2, Bool.true_and])
    generalize inB i.op 14 18 = en at HI ⊢
    by_cases hel : en = last
    · subst hel
      have ze : (en == en) = true := by simp
      go_wp2_with fail
      refine (hasSpare_c i.op i.d i.a i.bb i.n i.f pa po i.args.length i.outs.length ca co W (unhideI HOP).1 (unhideI HOP).2 (unhideI HNA) (World.block_lt_of_cell? W _ (unhideI HNA 0 (by decide)))).mono ?_
      rintro e w2 ⟨rfl, hb⟩
      have HB2 := hideI hb
      clear hb i0 i1 i2 i3 i4 i5 i6 i7
      have hz := unhideI HZ
      have hrs := ((unhideI HB2).block w.heap.size (by omega)).trans (unhideI HR1)
      have hri := ((unhideI HB2).block (w.heap.size + 1) (by omega)).trans (unhideI HR2)
      have s0 := (cells_of_row hrs 0).trans rfl
      have s1 := (cells_of_row hrs 1).trans rfl
      have s2 := (cells_of_row hrs 2).trans rfl
      have s3 := (cells_of_row hrs 3).trans rfl
      have s4 := (cells_of_row hrs 4).trans rfl
      have s5 := (cells_of_row hrs 5).trans rfl
      have s6 := (cells_of_row hrs 6).trans rfl
      have i0 := (cells_of_row hri 0).trans rfl
      have i1 := (cells_of_row hri 1).trans rfl
      have i2 := (cells_of_row hri 2).trans rfl
      have i3 := (cells_of_row hri 3).trans rfl
      have i4 := (cells_of_row hri 4).trans rfl
      have i5 := (cells_of_row hri 5).trans rfl
      have i6 := (cells_of_row hri 6).trans rfl
      have i7 := (cells_of_row hri 7).trans rfl
      clear hz hrs hri
      cases hsp : i.spare with
      | true =>
        have hx := hideI (show insB p f i en = false by rw [unhideI HI, hsp]; simp)
        have hsp' : spareOf i.op i.d i.a i.bb i.n i.f i.args.length i.outs.length = true := hsp
        rw [hsp']
        clear hsp hsp'
        go_wp2
        go_ret
        exact ⟨by rw [unhideI hx]; rfl, below_cut (unhideI HW) (unhideI HB2) (by have := unhideI HZ; omega)⟩
      | false =>
        have HX := hideI (show insB p f i en = fieldsB p f i by rw [unhideI HI, hsp]; simp)
        have hsp' : spareOf i.op i.d i.a i.bb i.n i.f i.args.length i.outs.length = false := hsp
        rw [hsp']
        clear hsp hsp'
        go_wp2_with fail
        refine (fieldsFit_c p f i _ _ _ _ _ _ _ _ A E B w2 (unhideI HOP).1 (unhideI HOP).2 ((unhideI HSC).below (unhideI HB2)) ((unhideI HA).below (unhideI HB2)) ((unhideI HO).below (unhideI HB2)) (unhideI HF) (unhideI HNN)).mono ?_
        rintro e w3 ⟨rfl, hb⟩
        have HB3 := hideI (below_cut (unhideI HB2) hb (unhideI HB2).size)
        clear hb
        go_wp2
        go_ret
        exact ⟨by rw [unhideI HX]; rfl, below_cut (unhideI HW) (unhideI HB3) (by have := unhideI HZ; omega)⟩
    · have ze : (en == last) = false := by simpa using hel
      have hx := hideI (show insB p f i last = false by rw [unhideI HI, ze]; rfl)
      clear hel
      go_wp2
      go_ret
      exact ⟨by rw [unhideI hx]; rfl, unhideI HW⟩
  · refine (needsZ_c i.op W (unhideI HNA) hop).mono ?_
    rintro e w2 ⟨rfl, h2⟩
    subst w2
    have hx := hideI (show insB p f i last = false by unfold insB inB; rw [decide_eq_false hop]; rfl)
    clear hop
    go_wp2
    go_ret
    exact ⟨by rw [unhideI hx]; rfl, unhideI HW⟩
end Go.Proofs.YteaemhhbpaicnaaDoor
