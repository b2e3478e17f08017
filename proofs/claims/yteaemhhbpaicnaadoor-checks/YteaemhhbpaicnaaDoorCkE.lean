/-
  Checks: the head of a function, the counts of a program, by package program. Own work of the verifier.
-/
import Derived.Test.YteaemhhbpaicnaaDoorCkD
namespace Go.Proofs.YteaemhhbpaicnaaDoor
open Go.RowKit

theorem BlkC.shape {w : World} {v : Value} {l : List InsE} (h : BlkC w v l) : ∃ q c, v = .slice q l.length c ∧ l.length < 9223372036854775808 := by
  obtain ⟨A, ⟨p, cap, h1, h2, h3, h4⟩, -⟩ := h
  exact ⟨p, cap, h1, h3⟩
theorem Tryd.infTableK : (Tryd.prog.info? 25).map (·.size) = some 12 := by kernel_rfl
theorem FuncD.blk {w : World} {f : FuncE} {pv hv sv bv : Value} {B : Nat → Value} (h : FuncD w f pv hv sv bv B) : ∀ k, k < f.blocks.length → ∃ q c, B k = .slice q (f.blocks.getD k []).length c ∧ (f.blocks.getD k []).length < 9223372036854775808 := fun k hk => by
  have := (h.each k hk).shape
  rwa [show f.blocks[k] = f.blocks.getD k [] by simp [List.getD, hk]] at this
set_option maxHeartbeats 4000000 in
set_option maxRecDepth 100000 in
theorem headFits_c (r sp lk t0 t1 : Int) (va vr vs : Value) (al sh by_ : Int) (pr : Bool) (f : FuncE) (pv hv sv bv : Value) (B : Nat → Value) (w : World) (hr : 4 ≤ r ∧ r ≤ 16) (hF : FuncD w f pv hv sv bv B) :
    Calls Tryd.prog 31 #[.agg (boxOf r sp lk t0 t1 va vr vs al sh by_ pr), .agg #[pv, .int .i64 f.results, hv, sv, bv]] w fun e w' => e = .returned (.bool (headB r (ownL sp lk t0 t1) f)) ∧ Below w.heap.size w w' := by
  have hx := al0 w (.cells (boxOf r sp lk t0 t1 va vr vs al sh by_ pr) 25 (0, 0))
  have hx2 := al0 (w.alloc (.cells (boxOf r sp lk t0 t1 va vr vs al sh by_ pr) 25 (0, 0))) (.cells #[pv, .int .i64 f.results, hv, sv, bv] 48 (0, 0))
  have HFD := hideI ((hF.below hx.2.1).below hx2.2.1)
  have hs1 := hx.2.2
  have hs2 := hx2.2.2
  have HW1 := hideI (below_cut hx.2.1 hx2.2.1 (by omega))
  have hrb := (hx2.2.1.block w.heap.size (by omega)).trans hx.1
  have hrf := hx2.1
  rw [hs1] at hrf hs2
  obtain ⟨pp, cp, rfl⟩ := hF.ps.shape
  obtain ⟨ph, ch, rfl⟩ := hF.hs.shape
  obtain ⟨ps, cs, rfl⟩ := hF.ss.shape
  obtain ⟨pb, cb, rfl⟩ := hF.bs.shape
  have hl1 : f.params.length < 9223372036854775808 := by obtain ⟨_, _, _, _, h, _⟩ := hF.ps; exact h
  have hl2 : f.homes.length < 9223372036854775808 := hF.hs.lt
  have hl3 : f.slots.length < 9223372036854775808 := hF.ss.lt
  have hl4 : f.blocks.length < 9223372036854775808 := by obtain ⟨_, _, _, _, h, _⟩ := hF.bs; exact h
  have HRB := hideI hrb
  have HRF := hideI hrf
  have HS2 := hideI hs2
  have HR := hideI hr
  have HX0 := hideI (fun h : ¬ f.params.length ≤ 8 => show headB r (ownL sp lk t0 t1) f = false by unfold headB; simp [h])
  have HX1 := hideI (fun h : sigB (sigE f) = false => show headB r (ownL sp lk t0 t1) f = false by unfold headB; simp [h])
  have HX2 := hideI (fun h : ¬ f.homes.length ≤ 12 => show headB r (ownL sp lk t0 t1) f = false by unfold headB; simp [h])
  have HX3 := hideI (fun h : homesB r (ownL sp lk t0 t1) f.homes = false => show headB r (ownL sp lk t0 t1) f = false by unfold headB; simp [h])
  have HX4 := hideI (fun h : ¬ f.slots.length ≤ 6 => show headB r (ownL sp lk t0 t1) f = false by unfold headB; simp [h])
  have HX5 := hideI (fun h : numsIn f.slots 1 8 = false => show headB r (ownL sp lk t0 t1) f = false by unfold headB; simp [h])
  have HX6 := hideI (fun h : inB f.blocks.length 1 12 = false => show headB r (ownL sp lk t0 t1) f = false by unfold headB; simp [h])
  have HX7 := hideI (fun h : blocksB f.blocks = false => show headB r (ownL sp lk t0 t1) f = false by unfold headB; simp [h])
  have HX8 := hideI (fun h : paramsB f = false => show headB r (ownL sp lk t0 t1) f = false by unfold headB; simp [h])
  have HXT := hideI (fun (h0 : f.params.length ≤ 8) (h1 : sigB (sigE f) = true) (h2 : f.homes.length ≤ 12) (h3 : homesB r (ownL sp lk t0 t1) f.homes = true) (h4 : f.slots.length ≤ 6) (h5 : numsIn f.slots 1 8 = true) (h6 : inB f.blocks.length 1 12 = true) (h7 : blocksB f.blocks = true) (h8 : paramsB f = true) => show headB r (ownL sp lk t0 t1) f = true by unfold headB; simp [h0, h1, h2, h3, h4, h5, h6, h7, h8])
  clear hx hx2 hF hs1 hs2 hrb hrf hr
  go_enter Tryd.func31, Tryd.ntmps31
  by_cases h0 : f.params.length ≤ 8
  · skip
    go_wp2_with fail
    generalize World.alloc (World.alloc w _) _ = W at HFD HW1 HRB HRF HS2 ⊢
    refine (sigP_c f _ _ _ _ W (unhideI HFD).ps (by omega)).mono ?_
    rintro e w2 ⟨vv, rfl, hvv, hb⟩
    have HB2 := hideI hb
    have HVV := hideI hvv
    obtain ⟨vp, vc, rfl⟩ := hvv.shape
    clear hb hvv
    go_wp2_with fail
    refine (sigFits_c _ _ _ _ (unhideI HVV)).mono ?_
    rintro e w3 ⟨rfl, hb⟩
    have HB3 := hideI (below_cut (unhideI HB2) hb (unhideI HB2).size)
    clear hb HVV HB2
    have hsz := unhideI HS2
    have hrow := ((unhideI HB3).block (w.heap.size + 1) (by omega)).trans (unhideI HRF)
    have r2 := (cells_of_row hrow 2).trans rfl
    clear hrow hsz
    cases h1 : sigB ((sigE f).1, f.results) with
    | false =>
      have hz := hideI (unhideI HX1 h1)
      go_wp2
      go_ret
      exact ⟨by rw [unhideI hz]; rfl, below_cut (unhideI HW1) (unhideI HB3) (by have := unhideI HS2; omega)⟩
    | true =>
      have H1 := hideI h1
      clear h1
      by_cases h2 : f.homes.length ≤ 12
      · skip
        have hsz := unhideI HS2
        have hrow := ((unhideI HB3).block (w.heap.size + 1) (by omega)).trans (unhideI HRF)
        have hrbx := ((unhideI HB3).block w.heap.size (by omega)).trans (unhideI HRB)
        unfold boxOf at hrbx
        have b0 := (cells_of_row hrbx 0).trans rfl
        have b1 := (cells_of_row hrbx 1).trans rfl
        have b2 := (cells_of_row hrbx 2).trans rfl
        have b3 := (cells_of_row hrbx 3).trans rfl
        have b4 := (cells_of_row hrbx 4).trans rfl
        have b5 := (cells_of_row hrbx 5).trans rfl
        have b6 := (cells_of_row hrbx 6).trans rfl
        have b7 := (cells_of_row hrbx 7).trans rfl
        have b8 := (cells_of_row hrbx 8).trans rfl
        have b9 := (cells_of_row hrbx 9).trans rfl
        have b10 := (cells_of_row hrbx 10).trans rfl
        have b11 := (cells_of_row hrbx 11).trans rfl
        clear hrow hsz hrbx
        go_wp2_with fail
        refine (homesFit_c r sp lk t0 t1 va vr vs al sh by_ pr _ f.homes w3 (unhideI HR) ((unhideI HFD).below (unhideI HB3)).hs (by omega)).mono ?_
        rintro e w4 ⟨rfl, hb⟩
        have HB4 := hideI (below_cut (unhideI HB3) hb (unhideI HB3).size)
        clear hb r2 b0 b1 b2 b3 b4 b5 b6 b7 b8 b9 b10 b11
        have hsz := unhideI HS2
        have hrow := ((unhideI HB4).block (w.heap.size + 1) (by omega)).trans (unhideI HRF)
        have r3 := (cells_of_row hrow 3).trans rfl
        have r4 := (cells_of_row hrow 4).trans rfl
        clear hrow hsz
        cases h3 : homesB r (ownL sp lk t0 t1) f.homes with
        | false =>
          have hz := hideI (unhideI HX3 h3)
          go_wp2
          go_ret
          exact ⟨by rw [unhideI hz]; rfl, below_cut (unhideI HW1) (unhideI HB4) (by have := unhideI HS2; omega)⟩
        | true =>
          have H3 := hideI h3
          clear h3
          by_cases h4 : f.slots.length ≤ 6
          · skip
            go_wp2_with fail
            refine (slotsFit_c _ f.slots w4 ((unhideI HFD).below (unhideI HB4)).ss).mono ?_
            rintro e w5 ⟨rfl, h5'⟩
            subst w5
            cases h5 : numsIn f.slots 1 8 with
            | false =>
              have hz := hideI (unhideI HX5 h5)
              go_wp2
              go_ret
              exact ⟨by rw [unhideI hz]; rfl, below_cut (unhideI HW1) (unhideI HB4) (by have := unhideI HS2; omega)⟩
            | true =>
              have H5 := hideI h5
              clear h5
              go_wp2_with fail
              refine (isWithin_c f.blocks.length 1 12 w4).mono ?_
              rintro e w5 ⟨rfl, h5'⟩
              subst w5
              cases h6 : inB f.blocks.length 1 12 with
              | false =>
                have hz := hideI (unhideI HX6 h6)
                go_wp2
                go_ret
                exact ⟨by rw [unhideI hz]; rfl, below_cut (unhideI HW1) (unhideI HB4) (by have := unhideI HS2; omega)⟩
              | true =>
                have H6 := hideI h6
                clear h6
                go_wp2_with fail
                refine (blocksFit_c _ f.blocks B w4 ((unhideI HFD).below (unhideI HB4)).bs (unhideI HFD).blk).mono ?_
                rintro e w5 ⟨rfl, h5'⟩
                subst w5
                cases h7 : blocksB f.blocks with
                | false =>
                  have hz := hideI (unhideI HX7 h7)
                  go_wp2
                  go_ret
                  exact ⟨by rw [unhideI hz]; rfl, below_cut (unhideI HW1) (unhideI HB4) (by have := unhideI HS2; omega)⟩
                | true =>
                  have H7 := hideI h7
                  clear h7
                  have hsz := unhideI HS2
                  have hrow := ((unhideI HB4).block (w.heap.size + 1) (by omega)).trans (unhideI HRF)
                  have r0 := (cells_of_row hrow 0).trans rfl
                  have r1 := (cells_of_row hrow 1).trans rfl
                  have r2 := (cells_of_row hrow 2).trans rfl
                  clear hrow hsz
                  go_wp2_with fail
                  refine (paramsFit_c f _ _ _ _ w4 ((unhideI HFD).below (unhideI HB4)).ps ((unhideI HFD).below (unhideI HB4)).hs ((unhideI HFD).below (unhideI HB4)).ss).mono ?_
                  rintro e w5 ⟨rfl, hb⟩
                  have HB5 := hideI (below_cut (unhideI HB4) hb (unhideI HB4).size)
                  clear hb
                  cases h8 : paramsB f with
                  | false =>
                    have hz := hideI (unhideI HX8 h8)
                    go_wp2
                    go_ret
                    exact ⟨by rw [unhideI hz]; rfl, below_cut (unhideI HW1) (unhideI HB5) (by have := unhideI HS2; omega)⟩
                  | true =>
                    have hz := hideI (unhideI HXT h0 (unhideI H1) h2 (unhideI H3) h4 (unhideI H5) (unhideI H6) (unhideI H7) h8)
                    go_wp2
                    go_ret
                    exact ⟨by rw [unhideI hz]; rfl, below_cut (unhideI HW1) (unhideI HB5) (by have := unhideI HS2; omega)⟩
          · have hz := hideI (unhideI HX4 h4)
            go_wp2
            go_ret
            exact ⟨by rw [unhideI hz]; rfl, below_cut (unhideI HW1) (unhideI HB4) (by have := unhideI HS2; omega)⟩
      · have hz := hideI (unhideI HX2 h2)
        go_wp2
        go_ret
        exact ⟨by rw [unhideI hz]; rfl, below_cut (unhideI HW1) (unhideI HB3) (by have := unhideI HS2; omega)⟩
  · have hz := hideI (unhideI HX0 h0)
    go_wp2
    go_ret
    exact ⟨by rw [unhideI hz]; rfl, unhideI HW1⟩
end Go.Proofs.YteaemhhbpaicnaaDoor
