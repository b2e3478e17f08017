/-
  prologuelaw.Classifies: its walk. Own work of the verifier.
-/
import Derived.Test.YtffemeicclhioaaDoorClI
import Derived.Test.YtffemeicclhioaaDoorClL
import Derived.Test.YtffemeicclhioaaDoorClM
import Derived.Deep.DeepCutAuto
import Derived.Deep.CutBlock
namespace Go.Proofs.YtffemeicclhioaaDoor
open Go.RowKit

/-- The statement's own copies of its arguments stand. -/
structure LwP (w : World) (T : TbE) (sv : Value) (n : Int) (V : World) : Prop where
  low : Below w.heap.size w V
  r0 : V.heap[w.heap.size]? = some (.cells T.box 25 (0, 0))
  r1 : V.heap[w.heap.size + 1]? = some (.cells #[sv, .int .i64 n] 27 (0, 0))
  size : w.heap.size + 2 ≤ V.heap.size
theorem LwP.next {w V V' : World} {T : TbE} {sv : Value} {n : Int} (h : LwP w T sv n V) (hb : Below V.heap.size V V') : LwP w T sv n V' := by
  have hz := h.size
  have hz2 := hb.size
  exact ⟨below_cut h.low hb (by omega), (hb.block _ (by omega)).trans h.r0, (hb.block _ (by omega)).trans h.r1, by omega⟩
theorem LwP.drew {w V : World} {T : TbE} {sv : Value} {n : Int} (h : LwP w T sv n V) : LwP w T sv n V.drew := ⟨h.low.drew, h.r0, h.r1, h.size⟩
theorem CpT.below {w w' : World} {T : TbE} {ga gr gs : Nat} (h : CpT w T ga gr gs) (hb : Below w.heap.size w w') : CpT w' T ga gr gs := ⟨h.a.below hb, h.r.below hb, h.s.below hb⟩
/-- And its copies of the table and of the list. -/
structure LwS (w : World) (T : TbE) (ps : List Int) (sv : Value) (n : Int) (ga gr gs gv bu B : Nat) (V : World) : Prop where
  p : LwP w T sv n V
  ru : V.heap[bu]? = some (.cells (cpT T ga gr gs).box 25 (0, 0))
  cp : CpT V T ga gr gs
  cv : Cp V gv ps
  size : B ≤ V.heap.size
  lw : w.heap.size + 2 ≤ B
  lu : bu < B
  la : ga < B
  lr : gr < B
  ls : gs < B
  lv : gv < B
theorem LwS.keep {w V V' : World} {T : TbE} {ps : List Int} {sv : Value} {n : Int} {ga gr gs gv bu B : Nat} (h : LwS w T ps sv n ga gr gs gv bu B V) (hk : ∀ q, q < B → V'.heap[q]? = V.heap[q]?) (ho : V'.os = V.os) (ht : V'.tape = V.tape) (hu : V'.output = V.output) (hz : V.heap.size ≤ V'.heap.size) : LwS w T ps sv n ga gr gs gv bu B V' := by
  have hw := h.lw
  have hs := h.size
  have hp := h.p
  have hps := hp.size
  have hls := hp.low.size
  exact ⟨⟨⟨ho.trans hp.low.os, ht.trans hp.low.tape, hu.trans hp.low.output, by omega, fun q hq => (hk q (by omega)).trans (hp.low.block q hq)⟩, (hk _ (by omega)).trans hp.r0, (hk _ (by omega)).trans hp.r1, by omega⟩, (hk _ h.lu).trans h.ru, ⟨h.cp.a.keep (hk _ h.la), h.cp.r.keep (hk _ h.lr), h.cp.s.keep (hk _ h.ls)⟩, h.cv.keep (hk _ h.lv), by omega, hw, h.lu, h.la, h.lr, h.ls, h.lv⟩
theorem LwS.below {w V V' : World} {T : TbE} {ps : List Int} {sv : Value} {n : Int} {ga gr gs gv bu B : Nat} (h : LwS w T ps sv n ga gr gs gv bu B V) (hb : Below V.heap.size V V') : LwS w T ps sv n ga gr gs gv bu B V' :=
  h.keep (fun q hq => hb.block q (Nat.lt_of_lt_of_le hq h.size)) hb.os hb.tape hb.output hb.size
theorem LwS.of {w V : World} {T : TbE} {ps : List Int} {sv : Value} {n : Int} {ga gr gs gv bu : Nat} {z : Array Value} (h : LwP w T sv n V) (hr : V.heap[bu]? = some (.cells z 25 (0, 0))) (hc : CpT V T ga gr gs) (hv : Cp V gv ps) (h1 : w.heap.size + 2 ≤ bu) (h2 : bu ≠ ga) (h3 : bu ≠ gr) (h4 : bu ≠ gs) (h5 : bu ≠ gv) :
    LwS w T ps sv n ga gr gs gv bu (V.setRow bu (cpT T ga gr gs).box).heap.size (V.setRow bu (cpT T ga gr gs).box) := by
  have ho : ∀ q, q ≠ bu → (V.setRow bu (cpT T ga gr gs).box).heap[q]? = V.heap[q]? := fun q hq => setRow_other _ _ _ _ hq
  have hz : (V.setRow bu (cpT T ga gr gs).box).heap.size = V.heap.size := by simp [World.setRow]
  have hs := h.size
  exact ⟨⟨below_setRow h.low (by omega), (ho _ (by omega)).trans h.r0, (ho _ (by omega)).trans h.r1, by omega⟩, setRow_heap _ _ _ _ _ _ hr, ⟨hc.a.keep (ho _ (Ne.symm h2)), hc.r.keep (ho _ (Ne.symm h3)), hc.s.keep (ho _ (Ne.symm h4))⟩, hv.keep (ho _ (Ne.symm h5)), Nat.le_refl _, by omega, by rw [hz]; exact row_lt hr, by rw [hz]; exact row_lt hc.a.row, by rw [hz]; exact row_lt hc.r.row, by rw [hz]; exact row_lt hc.s.row, by rw [hz]; exact row_lt hv.row⟩
/-- Two new rows, written whole. -/
theorem newRows (w : World) (z1 z2 c1 c2 : Array Value) (t1 t2 : TypeId) : ∀ V, V = (((w.alloc (.cells z1 t1 (0, 0))).alloc (.cells z2 t2 (0, 0))).setRow w.heap.size c1).setRow (w.heap.size + 1) c2 → V.heap[w.heap.size]? = some (.cells c1 t1 (0, 0)) ∧ V.heap[w.heap.size + 1]? = some (.cells c2 t2 (0, 0)) ∧ Below w.heap.size w V ∧ V.heap.size = w.heap.size + 1 + 1 := fun V e => by
  obtain ⟨r0, r1, hz, hb⟩ := rows2 w (.cells z1 t1 (0, 0)) (.cells z2 t2 (0, 0))
  subst e
  exact ⟨(setRow_other _ _ _ _ (by omega)).trans (setRow_heap _ _ _ _ _ _ r0), setRow_heap _ _ _ _ _ _ ((setRow_other _ _ _ _ (by omega)).trans r1), below_setRow (below_setRow hb (Nat.le_refl _)) (by omega), by simp [World.setRow]⟩
theorem box_one (T : TbE) : T.box.all (·.oneCell') = true := by simp [TbE.box, Value.oneCell']
theorem Tryd.infPfN : (Tryd.prog.info? 35).map (·.size) = some 4 := by kernel_rfl
theorem LayO.sameL {w w' : World} {B : Nat} {av rv : Value} {l : LayE} {pvs : List Value} (h : LayO w B av rv l pvs) (hs : ∀ q, B ≤ q → q < w.heap.size → w'.heap[q]? = w.heap[q]?) : LayO w' B av rv l pvs := by
  have k : ∀ {n size : Nat} {e : TypeId} {v : Value} {xs : List Value}, w.ownsRow B e size v n xs → w'.ownsRow B e size v n xs := fun {n size e v xs} h => by
    obtain ⟨h1, h2 | ⟨g, cap, cur, e1, e2, e3, e4⟩⟩ := h
    · exact ⟨h1, Or.inl h2⟩
    · exact ⟨h1, Or.inr ⟨g, cap, cur, e1, e2, (hs g e2 (row_lt e3)).trans e3, e4⟩⟩
  exact ⟨h.len, k h.args, fun j hj => k (h.each j hj), k h.res⟩
set_option maxHeartbeats 8000000 in
set_option maxRecDepth 100000 in
theorem classifies_walk (T : TbE) (ps : List Int) (pq : Option Addr) (cq : Nat) (n : Int) (w : World) (hE : ErrTy w) (hT : TbO w T) (hTl : TbLim T) (hps : Li w (.slice pq ps.length cq) ps) (hpl : ps.length * 8 ≤ 140737488351232) :
    Calls Tryd.prog 3 #[.agg T.box, .agg #[.slice pq ps.length cq, .int .i64 n]] w fun e w' => e = .returned (.bool true) ∧ Below w.heap.size w w' := by
  obtain ⟨r0, r1, hZ, hB⟩ := rows2 w (.cells T.box 25 (0, 0)) (.cells #[.slice pq ps.length cq, .int .i64 n] 27 (0, 0))
  have HP := hideI (show LwP w T (.slice pq ps.length cq) n _ from ⟨hB, r0, r1, by omega⟩)
  have HFT := hideI (fun V (hV : LwP w T (.slice pq ps.length cq) n V) => copyTable_c T V (hT.below hV.low) hTl)
  have HFV := hideI (fun V (hV : LwP w T (.slice pq ps.length cq) n V) => copyInts_c ps pq cq V (hps.below hV.low) hpl)
  have HE := hideI hE
  have HT := hideI hT
  have HPS := hideI hps
  clear r0 r1 hB hTl hpl hE hT hps hZ
  have hbx : T.box = #[.int .i64 T.r, .int .i64 T.sp, .int .i64 T.lk, .int .i64 T.t0, .int .i64 T.t1, .slice T.pa T.ag.length T.ca, .slice T.pr T.rs.length T.cr, .slice T.ps T.ss.length T.cs, .int .i64 T.al, .int .i64 T.sh, .int .i64 T.br, .bool T.pairs] := rfl
  rw [hbx] at HP ⊢
  clear hbx
  unfold TbE.box at HFT
  go_enter Tryd.func3, Tryd.ntmps3
  go_upto_region 1 with fail
  generalize World.alloc (World.alloc w _) _ = W at HP ⊢
  have HP0 := hideI (unhideI HP).drew
  have HS0 := hideI (show W.drew.cell? ⟨w.heap.size, 0, none⟩ = some (.int .i64 T.r) ∧ W.drew.cell? ⟨w.heap.size, 1, none⟩ = some (.int .i64 T.sp) ∧ W.drew.cell? ⟨w.heap.size, 2, none⟩ = some (.int .i64 T.lk) ∧ W.drew.cell? ⟨w.heap.size, 3, none⟩ = some (.int .i64 T.t0) ∧ W.drew.cell? ⟨w.heap.size, 4, none⟩ = some (.int .i64 T.t1) ∧ W.drew.cell? ⟨w.heap.size, 5, none⟩ = some (.slice T.pa T.ag.length T.ca) ∧ W.drew.cell? ⟨w.heap.size, 6, none⟩ = some (.slice T.pr T.rs.length T.cr) ∧ W.drew.cell? ⟨w.heap.size, 7, none⟩ = some (.slice T.ps T.ss.length T.cs) ∧ W.drew.cell? ⟨w.heap.size, 8, none⟩ = some (.int .i64 T.al) ∧ W.drew.cell? ⟨w.heap.size, 9, none⟩ = some (.int .i64 T.sh) ∧ W.drew.cell? ⟨w.heap.size, 10, none⟩ = some (.int .i64 T.br) ∧ W.drew.cell? ⟨w.heap.size, 11, none⟩ = some (.bool T.pairs) ∧ W.drew.cell? ⟨w.heap.size + 1, 0, none⟩ = some (.slice pq ps.length cq) from ⟨(cells_of_row (unhideI HP0).r0 0).trans rfl, (cells_of_row (unhideI HP0).r0 1).trans rfl, (cells_of_row (unhideI HP0).r0 2).trans rfl, (cells_of_row (unhideI HP0).r0 3).trans rfl, (cells_of_row (unhideI HP0).r0 4).trans rfl, (cells_of_row (unhideI HP0).r0 5).trans rfl, (cells_of_row (unhideI HP0).r0 6).trans rfl, (cells_of_row (unhideI HP0).r0 7).trans rfl, (cells_of_row (unhideI HP0).r0 8).trans rfl, (cells_of_row (unhideI HP0).r0 9).trans rfl, (cells_of_row (unhideI HP0).r0 10).trans rfl, (cells_of_row (unhideI HP0).r0 11).trans rfl, (cells_of_row (unhideI HP0).r1 0).trans rfl⟩)
  have hz0 : w.heap.size + 2 ≤ W.heap.size := (unhideI HP).size
  have hdz : W.drew.heap.size = W.heap.size := rfl
  go_cut [5, 6] (fun s5 s6 wd => ∃ bu ga gr gs gv B, s5 = .pointer (some ⟨bu, 0, none⟩) ∧ s6 = .slice (some ⟨gv, 0, none⟩) ps.length (ps.length + 2) ∧ LwS w T ps (.slice pq ps.length cq) n ga gr gs gv bu B wd)
  case first =>
    go_wp2_with fail
    refine wp_region_held_drew (S := fun V => V.cell? ⟨w.heap.size, 0, none⟩ = some (.int .i64 T.r) ∧ V.cell? ⟨w.heap.size, 1, none⟩ = some (.int .i64 T.sp) ∧ V.cell? ⟨w.heap.size, 2, none⟩ = some (.int .i64 T.lk) ∧ V.cell? ⟨w.heap.size, 3, none⟩ = some (.int .i64 T.t0) ∧ V.cell? ⟨w.heap.size, 4, none⟩ = some (.int .i64 T.t1) ∧ V.cell? ⟨w.heap.size, 5, none⟩ = some (.slice T.pa T.ag.length T.ca) ∧ V.cell? ⟨w.heap.size, 6, none⟩ = some (.slice T.pr T.rs.length T.cr) ∧ V.cell? ⟨w.heap.size, 7, none⟩ = some (.slice T.ps T.ss.length T.cs) ∧ V.cell? ⟨w.heap.size, 8, none⟩ = some (.int .i64 T.al) ∧ V.cell? ⟨w.heap.size, 9, none⟩ = some (.int .i64 T.sh) ∧ V.cell? ⟨w.heap.size, 10, none⟩ = some (.int .i64 T.br) ∧ V.cell? ⟨w.heap.size, 11, none⟩ = some (.bool T.pairs) ∧ V.cell? ⟨w.heap.size + 1, 0, none⟩ = some (.slice pq ps.length cq)) (by kernel_rfl) (unhideI HS0) (fun hHeld => ?_)
    refine wpAnyH_take (i := 0) (v := ?v0) rfl (by kernel_rfl) (by kernel_rfl) (by kernel_rfl) (fun _ _ _ h => h) (Or.inl ⟨by rfl, ?hy0⟩) (by assumption) ?_
    case hy0 =>
      intro V hV
      try dsimp only at hV
      go_simp
      all_goals (with_reducible rfl)
    simp only [Act.put, List.setIfInBounds_toArray, List.set_cons_zero, List.set_cons_succ, List.getElem_toArray, List.getElem_cons_zero]
    refine wpAnyH_take (i := 2) (v := ?v2) rfl (by kernel_rfl) (by kernel_rfl) (by kernel_rfl) (fun _ _ _ h => h) (Or.inl ⟨by rfl, ?hy2⟩) (by assumption) ?_
    case hy2 =>
      intro V hV
      try dsimp only at hV
      go_simp
      all_goals (with_reducible rfl)
    simp only [Act.put, List.setIfInBounds_toArray, List.set_cons_zero, List.set_cons_succ, List.getElem_toArray, List.getElem_cons_zero, List.getElem_cons_succ]
    refine wpAnyH_take (i := 3) (v := ?v3) rfl (by kernel_rfl) (by kernel_rfl) (by kernel_rfl) (fun _ _ _ h => h) (Or.inl ⟨by rfl, ?hy3⟩) (by assumption) ?_
    case hy3 =>
      intro V hV
      try dsimp only at hV
      go_simp
      all_goals (with_reducible rfl)
    simp only [Act.put, List.setIfInBounds_toArray, List.set_cons_zero, List.set_cons_succ, List.getElem_toArray, List.getElem_cons_zero, List.getElem_cons_succ]
    refine wpAnyH_ready (rs := [1, 5]) (by kernel_rfl) (by simp) ?_
    refine AllReadyH.cons rfl (fun K hK => ?_) (AllReadyH.cons rfl (fun K hK => ?_) AllReadyH.nil)
    · go_simp
      refine (unhideI HFT W.drew (unhideI HP0)).mono ?_
      rintro e x1 ⟨ga, gr, gs, rfl, hct, la, lr, ls, hb⟩
      have HP1 := hideI ((unhideI HP0).next hb)
      have HCT1 := hideI hct
      have hx1 := hb.size
      have hya := row_lt hct.a.row
      have hyr := row_lt hct.r.row
      have hys := row_lt hct.s.row
      clear hct hb
      refine hK.out _ _ (show _ from ⟨(cells_of_row (unhideI HP1).r0 0).trans rfl, (cells_of_row (unhideI HP1).r0 1).trans rfl, (cells_of_row (unhideI HP1).r0 2).trans rfl, (cells_of_row (unhideI HP1).r0 3).trans rfl, (cells_of_row (unhideI HP1).r0 4).trans rfl, (cells_of_row (unhideI HP1).r0 5).trans rfl, (cells_of_row (unhideI HP1).r0 6).trans rfl, (cells_of_row (unhideI HP1).r0 7).trans rfl, (cells_of_row (unhideI HP1).r0 8).trans rfl, (cells_of_row (unhideI HP1).r0 9).trans rfl, (cells_of_row (unhideI HP1).r0 10).trans rfl, (cells_of_row (unhideI HP1).r0 11).trans rfl, (cells_of_row (unhideI HP1).r1 0).trans rfl⟩) (fun hHeld2 => ?_)
      clear hK K
      try simp only [Act.put, List.setIfInBounds_toArray, List.set_cons_zero, List.set_cons_succ, List.getElem_toArray, List.getElem_cons_zero, List.getElem_cons_succ]
      refine wpAnyH_ready (rs := [4, 5]) (by kernel_rfl) (by simp) ?_
      refine AllReadyH.cons rfl (fun K hK => ?_) (AllReadyH.cons rfl (fun K hK => ?_) AllReadyH.nil)
      · go_simp
        refine (unhideI HFV x1 (unhideI HP1)).mono ?_
        rintro e x2 ⟨he, hcv, hb⟩
        unfold cpV at he
        subst he
        have HP2 := hideI ((unhideI HP1).next hb)
        have HCV2 := hideI hcv
        have hx2 := hb.size
        have HCT2 := hideI ((unhideI HCT1).below hb)
        have hyv := row_lt hcv.row
        clear hcv hb
        refine hK.out _ _ (show _ from ⟨(cells_of_row (unhideI HP2).r0 0).trans rfl, (cells_of_row (unhideI HP2).r0 1).trans rfl, (cells_of_row (unhideI HP2).r0 2).trans rfl, (cells_of_row (unhideI HP2).r0 3).trans rfl, (cells_of_row (unhideI HP2).r0 4).trans rfl, (cells_of_row (unhideI HP2).r0 5).trans rfl, (cells_of_row (unhideI HP2).r0 6).trans rfl, (cells_of_row (unhideI HP2).r0 7).trans rfl, (cells_of_row (unhideI HP2).r0 8).trans rfl, (cells_of_row (unhideI HP2).r0 9).trans rfl, (cells_of_row (unhideI HP2).r0 10).trans rfl, (cells_of_row (unhideI HP2).r0 11).trans rfl, (cells_of_row (unhideI HP2).r1 0).trans rfl⟩) (fun hHeld2 => ?_)
        clear hK K
        try simp only [Act.put, List.setIfInBounds_toArray, List.set_cons_zero, List.set_cons_succ, List.getElem_toArray, List.getElem_cons_zero, List.getElem_cons_succ]
        refine wpAnyH_ready (rs := [5]) (by kernel_rfl) (by simp) ?_
        refine AllReadyH.cons rfl (fun K hK => ?_) AllReadyH.nil
        go_simp
        have hal := al0 x2 (.cells #[.int .i64 0, .int .i64 0, .int .i64 0, .int .i64 0, .int .i64 0, .slice none 0 0, .slice none 0 0, .slice none 0 0, .int .i64 0, .int .i64 0, .int .i64 0, .bool false] 25 (0, 0))
        have HP3 := hideI ((unhideI HP2).next hal.2.1)
        have HRW3 := hideI hal.1
        have hx3 := hal.2.2
        have HCT3 := hideI ((unhideI HCT2).below hal.2.1)
        have HCV3 := hideI ((unhideI HCV2).below hal.2.1)
        clear hal
        refine hK.out _ _ (show _ from ⟨(cells_of_row (unhideI HP3).r0 0).trans rfl, (cells_of_row (unhideI HP3).r0 1).trans rfl, (cells_of_row (unhideI HP3).r0 2).trans rfl, (cells_of_row (unhideI HP3).r0 3).trans rfl, (cells_of_row (unhideI HP3).r0 4).trans rfl, (cells_of_row (unhideI HP3).r0 5).trans rfl, (cells_of_row (unhideI HP3).r0 6).trans rfl, (cells_of_row (unhideI HP3).r0 7).trans rfl, (cells_of_row (unhideI HP3).r0 8).trans rfl, (cells_of_row (unhideI HP3).r0 9).trans rfl, (cells_of_row (unhideI HP3).r0 10).trans rfl, (cells_of_row (unhideI HP3).r0 11).trans rfl, (cells_of_row (unhideI HP3).r1 0).trans rfl⟩) (fun hHeld2 => ?_)
        clear hK K
        try simp only [Act.put, List.setIfInBounds_toArray, List.set_cons_zero, List.set_cons_succ, List.getElem_toArray, List.getElem_cons_zero, List.getElem_cons_succ]
        refine wpAnyH_ready (rs := [6]) (by kernel_rfl) (by simp) ?_
        refine AllReadyH.cons rfl (fun K hK => ?_) AllReadyH.nil
        rw [if_pos (by rfl)]
        have hls := LwS.of (bu := x2.heap.size) (gv := x1.heap.size) (unhideI HP3) (unhideI HRW3) (unhideI HCT3) (unhideI HCV3) (by omega) (by omega) (by omega) (by omega) (by omega)
        refine wp_store_row 25 _ _ rfl x2.heap.size (cpT T ga gr gs).box rfl rfl 25 _ (unhideI HRW3) (Tryd.infTbM.trans rfl) rfl (box_one _) ?_
        have HLS := hideI hls
        clear hls
        refine hK.out _ _ (show _ from ⟨(cells_of_row (unhideI HLS).p.r0 0).trans rfl, (cells_of_row (unhideI HLS).p.r0 1).trans rfl, (cells_of_row (unhideI HLS).p.r0 2).trans rfl, (cells_of_row (unhideI HLS).p.r0 3).trans rfl, (cells_of_row (unhideI HLS).p.r0 4).trans rfl, (cells_of_row (unhideI HLS).p.r0 5).trans rfl, (cells_of_row (unhideI HLS).p.r0 6).trans rfl, (cells_of_row (unhideI HLS).p.r0 7).trans rfl, (cells_of_row (unhideI HLS).p.r0 8).trans rfl, (cells_of_row (unhideI HLS).p.r0 9).trans rfl, (cells_of_row (unhideI HLS).p.r0 10).trans rfl, (cells_of_row (unhideI HLS).p.r0 11).trans rfl, (cells_of_row (unhideI HLS).p.r1 0).trans rfl⟩) (fun hHeld2 => ?_)
        clear hK K
        try simp only [Act.put]
        refine wpAnyH_ready (rs := [7]) (by kernel_rfl) (by simp) ?_
        refine AllReadyH.cons rfl (fun K hK => ?_) AllReadyH.nil
        go_simp
        refine hK.out _ _ (show _ from ⟨(cells_of_row (unhideI HLS).p.r0 0).trans rfl, (cells_of_row (unhideI HLS).p.r0 1).trans rfl, (cells_of_row (unhideI HLS).p.r0 2).trans rfl, (cells_of_row (unhideI HLS).p.r0 3).trans rfl, (cells_of_row (unhideI HLS).p.r0 4).trans rfl, (cells_of_row (unhideI HLS).p.r0 5).trans rfl, (cells_of_row (unhideI HLS).p.r0 6).trans rfl, (cells_of_row (unhideI HLS).p.r0 7).trans rfl, (cells_of_row (unhideI HLS).p.r0 8).trans rfl, (cells_of_row (unhideI HLS).p.r0 9).trans rfl, (cells_of_row (unhideI HLS).p.r0 10).trans rfl, (cells_of_row (unhideI HLS).p.r0 11).trans rfl, (cells_of_row (unhideI HLS).p.r1 0).trans rfl⟩) (fun hHeld2 => ?_)
        clear hK K
        try simp only [Act.put, List.setIfInBounds_toArray, List.set_cons_zero, List.set_cons_succ, List.getElem_toArray, List.getElem_cons_zero, List.getElem_cons_succ]
        refine wpAnyH_done (by kernel_rfl) ?_ _
        go_wp2
        go_meet
        case rel => exact ⟨_, ga, gr, gs, x1.heap.size, _, rfl, by first | rfl | simp, unhideI HLS⟩
      · go_simp
        have hal := al0 x1 (.cells #[.int .i64 0, .int .i64 0, .int .i64 0, .int .i64 0, .int .i64 0, .slice none 0 0, .slice none 0 0, .slice none 0 0, .int .i64 0, .int .i64 0, .int .i64 0, .bool false] 25 (0, 0))
        have HP2 := hideI ((unhideI HP1).next hal.2.1)
        have HRW2 := hideI hal.1
        have hx2 := hal.2.2
        have HCT2 := hideI ((unhideI HCT1).below hal.2.1)
        clear hal
        refine hK.out _ _ (show _ from ⟨(cells_of_row (unhideI HP2).r0 0).trans rfl, (cells_of_row (unhideI HP2).r0 1).trans rfl, (cells_of_row (unhideI HP2).r0 2).trans rfl, (cells_of_row (unhideI HP2).r0 3).trans rfl, (cells_of_row (unhideI HP2).r0 4).trans rfl, (cells_of_row (unhideI HP2).r0 5).trans rfl, (cells_of_row (unhideI HP2).r0 6).trans rfl, (cells_of_row (unhideI HP2).r0 7).trans rfl, (cells_of_row (unhideI HP2).r0 8).trans rfl, (cells_of_row (unhideI HP2).r0 9).trans rfl, (cells_of_row (unhideI HP2).r0 10).trans rfl, (cells_of_row (unhideI HP2).r0 11).trans rfl, (cells_of_row (unhideI HP2).r1 0).trans rfl⟩) (fun hHeld2 => ?_)
        clear hK K
        try simp only [Act.put, List.setIfInBounds_toArray, List.set_cons_zero, List.set_cons_succ, List.getElem_toArray, List.getElem_cons_zero, List.getElem_cons_succ]
        refine wpAnyH_ready (rs := [4]) (by kernel_rfl) (by simp) ?_
        refine AllReadyH.cons rfl (fun K hK => ?_) AllReadyH.nil
        go_simp
        refine (unhideI HFV (x1.alloc (.cells #[.int .i64 0, .int .i64 0, .int .i64 0, .int .i64 0, .int .i64 0, .slice none 0 0, .slice none 0 0, .slice none 0 0, .int .i64 0, .int .i64 0, .int .i64 0, .bool false] 25 (0, 0))) (unhideI HP2)).mono ?_
        rintro e x3 ⟨he, hcv, hb⟩
        unfold cpV at he
        subst he
        have HP3 := hideI ((unhideI HP2).next hb)
        have HCV3 := hideI hcv
        have hx3 := hb.size
        have HCT3 := hideI ((unhideI HCT2).below hb)
        have HRW3 := hideI ((hb.block _ (row_lt (unhideI HRW2))).trans (unhideI HRW2))
        have hyv := row_lt hcv.row
        clear hcv hb
        refine hK.out _ _ (show _ from ⟨(cells_of_row (unhideI HP3).r0 0).trans rfl, (cells_of_row (unhideI HP3).r0 1).trans rfl, (cells_of_row (unhideI HP3).r0 2).trans rfl, (cells_of_row (unhideI HP3).r0 3).trans rfl, (cells_of_row (unhideI HP3).r0 4).trans rfl, (cells_of_row (unhideI HP3).r0 5).trans rfl, (cells_of_row (unhideI HP3).r0 6).trans rfl, (cells_of_row (unhideI HP3).r0 7).trans rfl, (cells_of_row (unhideI HP3).r0 8).trans rfl, (cells_of_row (unhideI HP3).r0 9).trans rfl, (cells_of_row (unhideI HP3).r0 10).trans rfl, (cells_of_row (unhideI HP3).r0 11).trans rfl, (cells_of_row (unhideI HP3).r1 0).trans rfl⟩) (fun hHeld2 => ?_)
        clear hK K
        try simp only [Act.put, List.setIfInBounds_toArray, List.set_cons_zero, List.set_cons_succ, List.getElem_toArray, List.getElem_cons_zero, List.getElem_cons_succ]
        refine wpAnyH_ready (rs := [6]) (by kernel_rfl) (by simp) ?_
        refine AllReadyH.cons rfl (fun K hK => ?_) AllReadyH.nil
        rw [if_pos (by rfl)]
        have hls := LwS.of (bu := x1.heap.size) (gv := (x1.alloc (.cells #[.int .i64 0, .int .i64 0, .int .i64 0, .int .i64 0, .int .i64 0, .slice none 0 0, .slice none 0 0, .slice none 0 0, .int .i64 0, .int .i64 0, .int .i64 0, .bool false] 25 (0, 0))).heap.size) (unhideI HP3) (unhideI HRW3) (unhideI HCT3) (unhideI HCV3) (by omega) (by omega) (by omega) (by omega) (by omega)
        refine wp_store_row 25 _ _ rfl x1.heap.size (cpT T ga gr gs).box rfl rfl 25 _ (unhideI HRW3) (Tryd.infTbM.trans rfl) rfl (box_one _) ?_
        have HLS := hideI hls
        clear hls
        refine hK.out _ _ (show _ from ⟨(cells_of_row (unhideI HLS).p.r0 0).trans rfl, (cells_of_row (unhideI HLS).p.r0 1).trans rfl, (cells_of_row (unhideI HLS).p.r0 2).trans rfl, (cells_of_row (unhideI HLS).p.r0 3).trans rfl, (cells_of_row (unhideI HLS).p.r0 4).trans rfl, (cells_of_row (unhideI HLS).p.r0 5).trans rfl, (cells_of_row (unhideI HLS).p.r0 6).trans rfl, (cells_of_row (unhideI HLS).p.r0 7).trans rfl, (cells_of_row (unhideI HLS).p.r0 8).trans rfl, (cells_of_row (unhideI HLS).p.r0 9).trans rfl, (cells_of_row (unhideI HLS).p.r0 10).trans rfl, (cells_of_row (unhideI HLS).p.r0 11).trans rfl, (cells_of_row (unhideI HLS).p.r1 0).trans rfl⟩) (fun hHeld2 => ?_)
        clear hK K
        try simp only [Act.put]
        refine wpAnyH_ready (rs := [7]) (by kernel_rfl) (by simp) ?_
        refine AllReadyH.cons rfl (fun K hK => ?_) AllReadyH.nil
        go_simp
        refine hK.out _ _ (show _ from ⟨(cells_of_row (unhideI HLS).p.r0 0).trans rfl, (cells_of_row (unhideI HLS).p.r0 1).trans rfl, (cells_of_row (unhideI HLS).p.r0 2).trans rfl, (cells_of_row (unhideI HLS).p.r0 3).trans rfl, (cells_of_row (unhideI HLS).p.r0 4).trans rfl, (cells_of_row (unhideI HLS).p.r0 5).trans rfl, (cells_of_row (unhideI HLS).p.r0 6).trans rfl, (cells_of_row (unhideI HLS).p.r0 7).trans rfl, (cells_of_row (unhideI HLS).p.r0 8).trans rfl, (cells_of_row (unhideI HLS).p.r0 9).trans rfl, (cells_of_row (unhideI HLS).p.r0 10).trans rfl, (cells_of_row (unhideI HLS).p.r0 11).trans rfl, (cells_of_row (unhideI HLS).p.r1 0).trans rfl⟩) (fun hHeld2 => ?_)
        clear hK K
        try simp only [Act.put, List.setIfInBounds_toArray, List.set_cons_zero, List.set_cons_succ, List.getElem_toArray, List.getElem_cons_zero, List.getElem_cons_succ]
        refine wpAnyH_done (by kernel_rfl) ?_ _
        go_wp2
        go_meet
        case rel => exact ⟨_, ga, gr, gs, (x1.alloc (.cells #[.int .i64 0, .int .i64 0, .int .i64 0, .int .i64 0, .int .i64 0, .slice none 0 0, .slice none 0 0, .slice none 0 0, .int .i64 0, .int .i64 0, .int .i64 0, .bool false] 25 (0, 0))).heap.size, _, rfl, by first | rfl | simp, unhideI HLS⟩
    · go_simp
      have hal := al0 W.drew (.cells #[.int .i64 0, .int .i64 0, .int .i64 0, .int .i64 0, .int .i64 0, .slice none 0 0, .slice none 0 0, .slice none 0 0, .int .i64 0, .int .i64 0, .int .i64 0, .bool false] 25 (0, 0))
      have HP1 := hideI ((unhideI HP0).next hal.2.1)
      have HRW1 := hideI hal.1
      have hx1 := hal.2.2
      clear hal
      refine hK.out _ _ (show _ from ⟨(cells_of_row (unhideI HP1).r0 0).trans rfl, (cells_of_row (unhideI HP1).r0 1).trans rfl, (cells_of_row (unhideI HP1).r0 2).trans rfl, (cells_of_row (unhideI HP1).r0 3).trans rfl, (cells_of_row (unhideI HP1).r0 4).trans rfl, (cells_of_row (unhideI HP1).r0 5).trans rfl, (cells_of_row (unhideI HP1).r0 6).trans rfl, (cells_of_row (unhideI HP1).r0 7).trans rfl, (cells_of_row (unhideI HP1).r0 8).trans rfl, (cells_of_row (unhideI HP1).r0 9).trans rfl, (cells_of_row (unhideI HP1).r0 10).trans rfl, (cells_of_row (unhideI HP1).r0 11).trans rfl, (cells_of_row (unhideI HP1).r1 0).trans rfl⟩) (fun hHeld2 => ?_)
      clear hK K
      try simp only [Act.put, List.setIfInBounds_toArray, List.set_cons_zero, List.set_cons_succ, List.getElem_toArray, List.getElem_cons_zero, List.getElem_cons_succ]
      refine wpAnyH_ready (rs := [1]) (by kernel_rfl) (by simp) ?_
      refine AllReadyH.cons rfl (fun K hK => ?_) AllReadyH.nil
      go_simp
      refine (unhideI HFT (W.drew.alloc (.cells #[.int .i64 0, .int .i64 0, .int .i64 0, .int .i64 0, .int .i64 0, .slice none 0 0, .slice none 0 0, .slice none 0 0, .int .i64 0, .int .i64 0, .int .i64 0, .bool false] 25 (0, 0))) (unhideI HP1)).mono ?_
      rintro e x2 ⟨ga, gr, gs, rfl, hct, la, lr, ls, hb⟩
      have HP2 := hideI ((unhideI HP1).next hb)
      have HCT2 := hideI hct
      have hx2 := hb.size
      have hya := row_lt hct.a.row
      have hyr := row_lt hct.r.row
      have hys := row_lt hct.s.row
      have HRW2 := hideI ((hb.block _ (row_lt (unhideI HRW1))).trans (unhideI HRW1))
      clear hct hb
      refine hK.out _ _ (show _ from ⟨(cells_of_row (unhideI HP2).r0 0).trans rfl, (cells_of_row (unhideI HP2).r0 1).trans rfl, (cells_of_row (unhideI HP2).r0 2).trans rfl, (cells_of_row (unhideI HP2).r0 3).trans rfl, (cells_of_row (unhideI HP2).r0 4).trans rfl, (cells_of_row (unhideI HP2).r0 5).trans rfl, (cells_of_row (unhideI HP2).r0 6).trans rfl, (cells_of_row (unhideI HP2).r0 7).trans rfl, (cells_of_row (unhideI HP2).r0 8).trans rfl, (cells_of_row (unhideI HP2).r0 9).trans rfl, (cells_of_row (unhideI HP2).r0 10).trans rfl, (cells_of_row (unhideI HP2).r0 11).trans rfl, (cells_of_row (unhideI HP2).r1 0).trans rfl⟩) (fun hHeld2 => ?_)
      clear hK K
      try simp only [Act.put, List.setIfInBounds_toArray, List.set_cons_zero, List.set_cons_succ, List.getElem_toArray, List.getElem_cons_zero, List.getElem_cons_succ]
      refine wpAnyH_ready (rs := [4]) (by kernel_rfl) (by simp) ?_
      refine AllReadyH.cons rfl (fun K hK => ?_) AllReadyH.nil
      go_simp
      refine (unhideI HFV x2 (unhideI HP2)).mono ?_
      rintro e x3 ⟨he, hcv, hb⟩
      unfold cpV at he
      subst he
      have HP3 := hideI ((unhideI HP2).next hb)
      have HCV3 := hideI hcv
      have hx3 := hb.size
      have HCT3 := hideI ((unhideI HCT2).below hb)
      have HRW3 := hideI ((hb.block _ (row_lt (unhideI HRW2))).trans (unhideI HRW2))
      have hyv := row_lt hcv.row
      clear hcv hb
      refine hK.out _ _ (show _ from ⟨(cells_of_row (unhideI HP3).r0 0).trans rfl, (cells_of_row (unhideI HP3).r0 1).trans rfl, (cells_of_row (unhideI HP3).r0 2).trans rfl, (cells_of_row (unhideI HP3).r0 3).trans rfl, (cells_of_row (unhideI HP3).r0 4).trans rfl, (cells_of_row (unhideI HP3).r0 5).trans rfl, (cells_of_row (unhideI HP3).r0 6).trans rfl, (cells_of_row (unhideI HP3).r0 7).trans rfl, (cells_of_row (unhideI HP3).r0 8).trans rfl, (cells_of_row (unhideI HP3).r0 9).trans rfl, (cells_of_row (unhideI HP3).r0 10).trans rfl, (cells_of_row (unhideI HP3).r0 11).trans rfl, (cells_of_row (unhideI HP3).r1 0).trans rfl⟩) (fun hHeld2 => ?_)
      clear hK K
      try simp only [Act.put, List.setIfInBounds_toArray, List.set_cons_zero, List.set_cons_succ, List.getElem_toArray, List.getElem_cons_zero, List.getElem_cons_succ]
      refine wpAnyH_ready (rs := [6]) (by kernel_rfl) (by simp) ?_
      refine AllReadyH.cons rfl (fun K hK => ?_) AllReadyH.nil
      rw [if_pos (by rfl)]
      have hls := LwS.of (bu := W.drew.heap.size) (gv := x2.heap.size) (unhideI HP3) (unhideI HRW3) (unhideI HCT3) (unhideI HCV3) (by omega) (by omega) (by omega) (by omega) (by omega)
      refine wp_store_row 25 _ _ rfl W.drew.heap.size (cpT T ga gr gs).box rfl rfl 25 _ (unhideI HRW3) (Tryd.infTbM.trans rfl) rfl (box_one _) ?_
      have HLS := hideI hls
      clear hls
      refine hK.out _ _ (show _ from ⟨(cells_of_row (unhideI HLS).p.r0 0).trans rfl, (cells_of_row (unhideI HLS).p.r0 1).trans rfl, (cells_of_row (unhideI HLS).p.r0 2).trans rfl, (cells_of_row (unhideI HLS).p.r0 3).trans rfl, (cells_of_row (unhideI HLS).p.r0 4).trans rfl, (cells_of_row (unhideI HLS).p.r0 5).trans rfl, (cells_of_row (unhideI HLS).p.r0 6).trans rfl, (cells_of_row (unhideI HLS).p.r0 7).trans rfl, (cells_of_row (unhideI HLS).p.r0 8).trans rfl, (cells_of_row (unhideI HLS).p.r0 9).trans rfl, (cells_of_row (unhideI HLS).p.r0 10).trans rfl, (cells_of_row (unhideI HLS).p.r0 11).trans rfl, (cells_of_row (unhideI HLS).p.r1 0).trans rfl⟩) (fun hHeld2 => ?_)
      clear hK K
      try simp only [Act.put]
      refine wpAnyH_ready (rs := [7]) (by kernel_rfl) (by simp) ?_
      refine AllReadyH.cons rfl (fun K hK => ?_) AllReadyH.nil
      go_simp
      refine hK.out _ _ (show _ from ⟨(cells_of_row (unhideI HLS).p.r0 0).trans rfl, (cells_of_row (unhideI HLS).p.r0 1).trans rfl, (cells_of_row (unhideI HLS).p.r0 2).trans rfl, (cells_of_row (unhideI HLS).p.r0 3).trans rfl, (cells_of_row (unhideI HLS).p.r0 4).trans rfl, (cells_of_row (unhideI HLS).p.r0 5).trans rfl, (cells_of_row (unhideI HLS).p.r0 6).trans rfl, (cells_of_row (unhideI HLS).p.r0 7).trans rfl, (cells_of_row (unhideI HLS).p.r0 8).trans rfl, (cells_of_row (unhideI HLS).p.r0 9).trans rfl, (cells_of_row (unhideI HLS).p.r0 10).trans rfl, (cells_of_row (unhideI HLS).p.r0 11).trans rfl, (cells_of_row (unhideI HLS).p.r1 0).trans rfl⟩) (fun hHeld2 => ?_)
      clear hK K
      try simp only [Act.put, List.setIfInBounds_toArray, List.set_cons_zero, List.set_cons_succ, List.getElem_toArray, List.getElem_cons_zero, List.getElem_cons_succ]
      refine wpAnyH_done (by kernel_rfl) ?_ _
      go_wp2
      go_meet
      case rel => exact ⟨_, ga, gr, gs, x2.heap.size, _, rfl, by first | rfl | simp, unhideI HLS⟩
  case rest =>
    obtain ⟨bu, ga, gr, gs, gv, B, rfl, rfl, hLS⟩ := hcut
    clear HFT HFV HP HP0 HS0 hz0 hdz
    obtain ⟨le, hle⟩ : ∃ le, le = clsL T ps n := ⟨_, rfl⟩
    obtain ⟨cn, hcn⟩ : ∃ cn, cn = clsN T ps n := ⟨_, rfl⟩
    have HPC := hideI (fun V (hV : LwS w T ps (.slice pq ps.length cq) n ga gr gs gv bu B V) => show Calls Tryd.prog 6 #[.agg #[.int .i64 T.r, .int .i64 T.sp, .int .i64 T.lk, .int .i64 T.t0, .int .i64 T.t1, .slice (some ⟨ga, 0, none⟩) T.ag.length (T.ag.length + 2), .slice (some ⟨gr, 0, none⟩) T.rs.length (T.rs.length + 2), .slice (some ⟨gs, 0, none⟩) T.ss.length (T.ss.length + 2), .int .i64 T.al, .int .i64 T.sh, .int .i64 T.br, .bool T.pairs], .agg #[.slice (some ⟨gv, 0, none⟩) ps.length (ps.length + 2), .int .i64 n]] V (fun e w' => ∃ av rv pvs, e = .returned (.tuple #[.agg #[av, rv, .int .i64 le.size, .int .i64 le.copies], flt cn (-1) (-1) (-1)]) ∧ LayO w' V.heap.size av rv le pvs ∧ Below V.heap.size V w') from by rw [hle, hcn]; exact plcls_c (cpT T ga gr gs) ps (some ⟨gv, 0, none⟩) (ps.length + 2) n V ((unhideI HE).keep hV.p.low) hV.cp.tbo hV.cv.li)
    have HRC := hideI (fun V (hV : LwS w T ps (.slice pq ps.length cq) n ga gr gs gv bu B V) => show Calls Tryd.prog 7 #[.agg #[.int .i64 T.r, .int .i64 T.sp, .int .i64 T.lk, .int .i64 T.t0, .int .i64 T.t1, .slice T.pa T.ag.length T.ca, .slice T.pr T.rs.length T.cr, .slice T.ps T.ss.length T.cs, .int .i64 T.al, .int .i64 T.sh, .int .i64 T.br, .bool T.pairs], .agg #[.slice pq ps.length cq, .int .i64 n]] V (fun e w' => ∃ av rv pvs, e = .returned (.tuple #[.agg #[av, rv, .int .i64 le.size, .int .i64 le.copies], flt cn (-1) (-1) (-1)]) ∧ LayO w' V.heap.size av rv le pvs ∧ Below V.heap.size V w') from by rw [hle, hcn]; exact rcls_c T ps pq cq n V ((unhideI HT).below hV.p.low) ((unhideI HPS).below hV.p.low))
    clear hle hcn
    have HL1 := hideI hLS
    have hszB := hLS.size
    have u0 : wc.cell? ⟨bu, 0, none⟩ = some (.int .i64 T.r) := (cells_of_row hLS.ru 0).trans rfl
    have u1 : wc.cell? ⟨bu, 1, none⟩ = some (.int .i64 T.sp) := (cells_of_row hLS.ru 1).trans rfl
    have u2 : wc.cell? ⟨bu, 2, none⟩ = some (.int .i64 T.lk) := (cells_of_row hLS.ru 2).trans rfl
    have u3 : wc.cell? ⟨bu, 3, none⟩ = some (.int .i64 T.t0) := (cells_of_row hLS.ru 3).trans rfl
    have u4 : wc.cell? ⟨bu, 4, none⟩ = some (.int .i64 T.t1) := (cells_of_row hLS.ru 4).trans rfl
    have u5 : wc.cell? ⟨bu, 5, none⟩ = some (.slice (some ⟨ga, 0, none⟩) T.ag.length (T.ag.length + 2)) := (cells_of_row hLS.ru 5).trans rfl
    have u6 : wc.cell? ⟨bu, 6, none⟩ = some (.slice (some ⟨gr, 0, none⟩) T.rs.length (T.rs.length + 2)) := (cells_of_row hLS.ru 6).trans rfl
    have u7 : wc.cell? ⟨bu, 7, none⟩ = some (.slice (some ⟨gs, 0, none⟩) T.ss.length (T.ss.length + 2)) := (cells_of_row hLS.ru 7).trans rfl
    have u8 : wc.cell? ⟨bu, 8, none⟩ = some (.int .i64 T.al) := (cells_of_row hLS.ru 8).trans rfl
    have u9 : wc.cell? ⟨bu, 9, none⟩ = some (.int .i64 T.sh) := (cells_of_row hLS.ru 9).trans rfl
    have u10 : wc.cell? ⟨bu, 10, none⟩ = some (.int .i64 T.br) := (cells_of_row hLS.ru 10).trans rfl
    have u11 : wc.cell? ⟨bu, 11, none⟩ = some (.bool T.pairs) := (cells_of_row hLS.ru 11).trans rfl
    have s1 : wc.cell? ⟨w.heap.size + 1, 1, none⟩ = some (.int .i64 n) := (cells_of_row hLS.p.r1 1).trans rfl
    clear hLS
    go_wp2_with fail
    clear s1
    clear u0 u1 u2 u3 u4 u5 u6 u7 u8 u9 u10 u11
    refine (unhideI HPC wc (unhideI HL1)).mono ?_
    rintro e w2 ⟨av, rv, pvs, rfl, hlay, hb2⟩
    obtain ⟨⟨ap, an, ac, rfl⟩, rp, rn, rc, rfl⟩ := hlay.shapes
    have hz2 := hb2.size
    have HL2 := hideI ((unhideI HL1).below hb2)
    have HLY := hideI hlay
    clear hlay hb2
    have HN3 := hideI (rows2 w2 (.cells #[.slice none 0 0, .slice none 0 0, .int .i64 0, .int .i64 0] 33 (0, 0)) (.cells #[.int .i64 0, .int .i64 0, .int .i64 0, .int .i64 0] 35 (0, 0)))
    unfold flt
    go_upto_region 3 with (first | (refine wpList_store_row rfl 33 _ _ rfl w2.heap.size #[.slice ap an ac, .slice rp rn rc, .int .i64 le.size, .int .i64 le.copies] rfl rfl 33 _ (unhideI HN3).1 (Tryd.infLyK.trans rfl) rfl (by simp [Value.oneCell']) ?_) | (refine wpList_store_row rfl 35 _ _ rfl (w2.heap.size + 1) #[.int .i64 cn, .int .i64 (-1), .int .i64 (-1), .int .i64 (-1)] rfl rfl 35 _ ((setRow_other _ _ _ _ (by omega)).trans (unhideI HN3).2.1) (Tryd.infPfN.trans rfl) rfl (by simp [Value.oneCell']) ?_))
    clear HN3
    have hnw := newRows w2 #[.slice none 0 0, .slice none 0 0, .int .i64 0, .int .i64 0] #[.int .i64 0, .int .i64 0, .int .i64 0, .int .i64 0] #[.slice ap an ac, .slice rp rn rc, .int .i64 le.size, .int .i64 le.copies] #[.int .i64 cn, .int .i64 (-1), .int .i64 (-1), .int .i64 (-1)] 33 35 _ rfl
    generalize World.setRow (World.setRow (World.alloc (World.alloc w2 _) _) _ _) _ _ = V3 at hnw ⊢
    obtain ⟨hrl3, hrf3, hbV3, hzV3⟩ := hnw
    have hL3 := (unhideI HL2).below hbV3
    have HLY3 := hideI ((unhideI HLY).keep hbV3)
    have HL3 := hideI hL3
    have HRL3 := hideI hrl3
    have HRF3 := hideI hrf3
    have t0 : V3.cell? ⟨w.heap.size, 0, none⟩ = some (.int .i64 T.r) := (cells_of_row hL3.p.r0 0).trans rfl
    have t1 : V3.cell? ⟨w.heap.size, 1, none⟩ = some (.int .i64 T.sp) := (cells_of_row hL3.p.r0 1).trans rfl
    have t2 : V3.cell? ⟨w.heap.size, 2, none⟩ = some (.int .i64 T.lk) := (cells_of_row hL3.p.r0 2).trans rfl
    have t3 : V3.cell? ⟨w.heap.size, 3, none⟩ = some (.int .i64 T.t0) := (cells_of_row hL3.p.r0 3).trans rfl
    have t4 : V3.cell? ⟨w.heap.size, 4, none⟩ = some (.int .i64 T.t1) := (cells_of_row hL3.p.r0 4).trans rfl
    have t5 : V3.cell? ⟨w.heap.size, 5, none⟩ = some (.slice T.pa T.ag.length T.ca) := (cells_of_row hL3.p.r0 5).trans rfl
    have t6 : V3.cell? ⟨w.heap.size, 6, none⟩ = some (.slice T.pr T.rs.length T.cr) := (cells_of_row hL3.p.r0 6).trans rfl
    have t7 : V3.cell? ⟨w.heap.size, 7, none⟩ = some (.slice T.ps T.ss.length T.cs) := (cells_of_row hL3.p.r0 7).trans rfl
    have t8 : V3.cell? ⟨w.heap.size, 8, none⟩ = some (.int .i64 T.al) := (cells_of_row hL3.p.r0 8).trans rfl
    have t9 : V3.cell? ⟨w.heap.size, 9, none⟩ = some (.int .i64 T.sh) := (cells_of_row hL3.p.r0 9).trans rfl
    have t10 : V3.cell? ⟨w.heap.size, 10, none⟩ = some (.int .i64 T.br) := (cells_of_row hL3.p.r0 10).trans rfl
    have t11 : V3.cell? ⟨w.heap.size, 11, none⟩ = some (.bool T.pairs) := (cells_of_row hL3.p.r0 11).trans rfl
    have s0 : V3.cell? ⟨w.heap.size + 1, 0, none⟩ = some (.slice pq ps.length cq) := (cells_of_row hL3.p.r1 0).trans rfl
    have s1 : V3.cell? ⟨w.heap.size + 1, 1, none⟩ = some (.int .i64 n) := (cells_of_row hL3.p.r1 1).trans rfl
    clear hL3 hrl3 hrf3 hbV3
    go_wp2_with fail
    clear t0 t1 t2 t3 t4 t5 t6 t7 t8 t9 t10 t11
    clear s0 s1
    refine (unhideI HRC V3 (unhideI HL3)).mono ?_
    rintro e w4 ⟨am, rm, pm, rfl, hlm, hb4⟩
    obtain ⟨⟨mp, mn, mc, rfl⟩, mrp, mrn, mrc, rfl⟩ := hlm.shapes
    have hz4 := hb4.size
    have HL4 := hideI ((unhideI HL3).below hb4)
    have HLY4 := hideI ((unhideI HLY3).keep hb4)
    have HLM := hideI hlm
    have HRL4 := hideI ((hb4.block w2.heap.size (by omega)).trans (unhideI HRL3))
    have HRF4 := hideI ((hb4.block (w2.heap.size + 1) (by omega)).trans (unhideI HRF3))
    clear hlm hb4
    have HN5 := hideI (rows2 w4 (.cells #[.slice none 0 0, .slice none 0 0, .int .i64 0, .int .i64 0] 33 (0, 0)) (.cells #[.int .i64 0, .int .i64 0, .int .i64 0, .int .i64 0] 38 (0, 0)))
    unfold flt
    go_upto_region 4 with (first | (refine wpList_store_row rfl 33 _ _ rfl w4.heap.size #[.slice mp mn mc, .slice mrp mrn mrc, .int .i64 le.size, .int .i64 le.copies] rfl rfl 33 _ (unhideI HN5).1 (Tryd.infLyK.trans rfl) rfl (by simp [Value.oneCell']) ?_) | (refine wpList_store_row rfl 38 _ _ rfl (w4.heap.size + 1) #[.int .i64 cn, .int .i64 (-1), .int .i64 (-1), .int .i64 (-1)] rfl rfl 38 _ ((setRow_other _ _ _ _ (by omega)).trans (unhideI HN5).2.1) (Tryd.infRfI.trans rfl) rfl (by simp [Value.oneCell']) ?_))
    clear HN5
    have hnw := newRows w4 #[.slice none 0 0, .slice none 0 0, .int .i64 0, .int .i64 0] #[.int .i64 0, .int .i64 0, .int .i64 0, .int .i64 0] #[.slice mp mn mc, .slice mrp mrn mrc, .int .i64 le.size, .int .i64 le.copies] #[.int .i64 cn, .int .i64 (-1), .int .i64 (-1), .int .i64 (-1)] 33 38 _ rfl
    generalize World.setRow (World.setRow (World.alloc (World.alloc w4 _) _) _ _) _ _ = V5 at hnw ⊢
    obtain ⟨hrl5, hrf5, hbV5, hzV5⟩ := hnw
    have HL5 := hideI ((unhideI HL4).below hbV5)
    have HLY5 := hideI ((unhideI HLY4).keep hbV5)
    have HLM5 := hideI ((unhideI HLM).keep hbV5)
    have hrl := (hbV5.block w2.heap.size (by omega)).trans (unhideI HRL4)
    have HRL5 := hideI hrl
    have HRF5 := hideI ((hbV5.block (w2.heap.size + 1) (by omega)).trans (unhideI HRF4))
    have HRM5 := hideI hrl5
    have HRE5 := hideI hrf5
    have l0 : V5.cell? ⟨w2.heap.size, 0, none⟩ = some (.slice ap an ac) := (cells_of_row hrl 0).trans rfl
    have l1 : V5.cell? ⟨w2.heap.size, 1, none⟩ = some (.slice rp rn rc) := (cells_of_row hrl 1).trans rfl
    have l2 : V5.cell? ⟨w2.heap.size, 2, none⟩ = some (.int .i64 le.size) := (cells_of_row hrl 2).trans rfl
    have l3 : V5.cell? ⟨w2.heap.size, 3, none⟩ = some (.int .i64 le.copies) := (cells_of_row hrl 3).trans rfl
    have m0 : V5.cell? ⟨w4.heap.size, 0, none⟩ = some (.slice mp mn mc) := (cells_of_row hrl5 0).trans rfl
    have m1 : V5.cell? ⟨w4.heap.size, 1, none⟩ = some (.slice mrp mrn mrc) := (cells_of_row hrl5 1).trans rfl
    have m2 : V5.cell? ⟨w4.heap.size, 2, none⟩ = some (.int .i64 le.size) := (cells_of_row hrl5 2).trans rfl
    have m3 : V5.cell? ⟨w4.heap.size, 3, none⟩ = some (.int .i64 le.copies) := (cells_of_row hrl5 3).trans rfl
    clear hrl hrl5 hrf5 hbV5 HRL3 HRL4 HRF3 HRF4 HLY3 HLY4
    go_wp2_with fail
    clear l0 l1 l2 l3 m0 m1 m2 m3
    refine (layouts_c le _ _ _ _ _ _ _ _ V5 (unhideI HLY5) (unhideI HLM5)).mono ?_
    rintro e w6 ⟨rfl, hb6⟩
    have hz6 := hb6.size
    have HL6 := hideI ((unhideI HL5).below hb6)
    have HLY6 := hideI ((unhideI HLY5).keep hb6)
    have HLM6 := hideI ((unhideI HLM5).keep hb6)
    have HRL6 := hideI ((hb6.block w2.heap.size (by omega)).trans (unhideI HRL5))
    have HRM6 := hideI ((hb6.block w4.heap.size (by omega)).trans (unhideI HRM5))
    have hrf := (hb6.block (w2.heap.size + 1) (by omega)).trans (unhideI HRF5)
    have hre := (hb6.block (w4.heap.size + 1) (by omega)).trans (unhideI HRE5)
    have f0 : w6.cell? ⟨w2.heap.size + 1, 0, none⟩ = some (.int .i64 cn) := (cells_of_row hrf 0).trans rfl
    have f1 : w6.cell? ⟨w2.heap.size + 1, 1, none⟩ = some (.int .i64 (-1)) := (cells_of_row hrf 1).trans rfl
    have f2 : w6.cell? ⟨w2.heap.size + 1, 2, none⟩ = some (.int .i64 (-1)) := (cells_of_row hrf 2).trans rfl
    have f3 : w6.cell? ⟨w2.heap.size + 1, 3, none⟩ = some (.int .i64 (-1)) := (cells_of_row hrf 3).trans rfl
    have g0 : w6.cell? ⟨w4.heap.size + 1, 0, none⟩ = some (.int .i64 cn) := (cells_of_row hre 0).trans rfl
    have g1 : w6.cell? ⟨w4.heap.size + 1, 1, none⟩ = some (.int .i64 (-1)) := (cells_of_row hre 1).trans rfl
    have g2 : w6.cell? ⟨w4.heap.size + 1, 2, none⟩ = some (.int .i64 (-1)) := (cells_of_row hre 2).trans rfl
    have g3 : w6.cell? ⟨w4.heap.size + 1, 3, none⟩ = some (.int .i64 (-1)) := (cells_of_row hre 3).trans rfl
    clear hrf hre hb6 HRL5 HRM5 HRF5 HRE5 HLY5 HLM5
    have HAG := hideI (agrees_sameE cn (-1) (-1) (-1) w6)
    unfold flt at HAG
    go_wp2_with fail
    clear f0 f1 f2 f3 g0 g1 g2 g3
    refine (unhideI HAG).mono ?_
    rintro e w7 ⟨rfl, hb7⟩
    have hz7 := hb7.size
    have HL7 := hideI ((unhideI HL6).below hb7)
    have HLY7 := hideI ((unhideI HLY6).keep hb7)
    have HLM7 := hideI ((unhideI HLM6).keep hb7)
    have hrl := (hb7.block w2.heap.size (by omega)).trans (unhideI HRL6)
    have HRM7 := hideI ((hb7.block w4.heap.size (by omega)).trans (unhideI HRM6))
    have l0 : w7.cell? ⟨w2.heap.size, 0, none⟩ = some (.slice ap an ac) := (cells_of_row hrl 0).trans rfl
    have l1 : w7.cell? ⟨w2.heap.size, 1, none⟩ = some (.slice rp rn rc) := (cells_of_row hrl 1).trans rfl
    have l2 : w7.cell? ⟨w2.heap.size, 2, none⟩ = some (.int .i64 le.size) := (cells_of_row hrl 2).trans rfl
    have l3 : w7.cell? ⟨w2.heap.size, 3, none⟩ = some (.int .i64 le.copies) := (cells_of_row hrl 3).trans rfl
    clear hrl hb7 HRL6 HRM6 HLY6 HLM6 HAG
    go_wp2_with fail
    clear l0 l1 l2 l3
    refine (spoilLayout_c le _ _ pvs wc.heap.size w2.heap.size _ _ w7 (unhideI HLY7) (by omega) (fun g hg => ((unhideI HLY).args.lt g hg).2) (fun g hg => (World.ownsRow.lt (unhideI HLY).res g hg).2) (fun k hk g hg => (World.ownsRow.lt ((unhideI HLY).each k hk) g hg).2)).mono ?_
    rintro e w8 ⟨⟨x8, rfl⟩, hsp⟩
    have hz8 := hsp.size
    have hL8 := (unhideI HL7).keep (V' := w8) (fun q hq => hsp.oth q (by omega) (Or.inl (by omega))) hsp.os hsp.tape hsp.output hsp.size
    have HL8 := hideI hL8
    have HLM8 := hideI ((unhideI HLM7).sameL (w' := w8) (fun q h1 h2 => hsp.oth q h2 (Or.inr (by omega))))
    have HRM8 := hideI ((hsp.oth w4.heap.size (by omega) (Or.inr (by omega))).trans (unhideI HRM7))
    have u0 : w8.cell? ⟨bu, 0, none⟩ = some (.int .i64 T.r) := (cells_of_row hL8.ru 0).trans rfl
    have u1 : w8.cell? ⟨bu, 1, none⟩ = some (.int .i64 T.sp) := (cells_of_row hL8.ru 1).trans rfl
    have u2 : w8.cell? ⟨bu, 2, none⟩ = some (.int .i64 T.lk) := (cells_of_row hL8.ru 2).trans rfl
    have u3 : w8.cell? ⟨bu, 3, none⟩ = some (.int .i64 T.t0) := (cells_of_row hL8.ru 3).trans rfl
    have u4 : w8.cell? ⟨bu, 4, none⟩ = some (.int .i64 T.t1) := (cells_of_row hL8.ru 4).trans rfl
    have u5 : w8.cell? ⟨bu, 5, none⟩ = some (.slice (some ⟨ga, 0, none⟩) T.ag.length (T.ag.length + 2)) := (cells_of_row hL8.ru 5).trans rfl
    have u6 : w8.cell? ⟨bu, 6, none⟩ = some (.slice (some ⟨gr, 0, none⟩) T.rs.length (T.rs.length + 2)) := (cells_of_row hL8.ru 6).trans rfl
    have u7 : w8.cell? ⟨bu, 7, none⟩ = some (.slice (some ⟨gs, 0, none⟩) T.ss.length (T.ss.length + 2)) := (cells_of_row hL8.ru 7).trans rfl
    have u8 : w8.cell? ⟨bu, 8, none⟩ = some (.int .i64 T.al) := (cells_of_row hL8.ru 8).trans rfl
    have u9 : w8.cell? ⟨bu, 9, none⟩ = some (.int .i64 T.sh) := (cells_of_row hL8.ru 9).trans rfl
    have u10 : w8.cell? ⟨bu, 10, none⟩ = some (.int .i64 T.br) := (cells_of_row hL8.ru 10).trans rfl
    have u11 : w8.cell? ⟨bu, 11, none⟩ = some (.bool T.pairs) := (cells_of_row hL8.ru 11).trans rfl
    have s1 : w8.cell? ⟨w.heap.size + 1, 1, none⟩ = some (.int .i64 n) := (cells_of_row hL8.p.r1 1).trans rfl
    clear hsp hL8 HLY7 HLM7 HRM7 HLY
    go_wp2_with fail
    clear s1
    clear u0 u1 u2 u3 u4 u5 u6 u7 u8 u9 u10 u11
    refine (unhideI HPC w8 (unhideI HL8)).mono ?_
    rintro e w9 ⟨a9, r9, p9, rfl, hl9, hb9⟩
    obtain ⟨⟨np, nn, nc, rfl⟩, nrp, nrn, nrc, rfl⟩ := hl9.shapes
    have hz9 := hb9.size
    have HL9 := hideI ((unhideI HL8).below hb9)
    have HLN := hideI hl9
    have HLM9 := hideI ((unhideI HLM8).keep hb9)
    have HRM9 := hideI ((hb9.block w4.heap.size (by omega)).trans (unhideI HRM8))
    clear hl9 hb9
    have HN10 := hideI (rows2 w9 (.cells #[.slice none 0 0, .slice none 0 0, .int .i64 0, .int .i64 0] 33 (0, 0)) (.cells #[.int .i64 0, .int .i64 0, .int .i64 0, .int .i64 0] 35 (0, 0)))
    unfold flt
    go_upto_region 8 with (first | (refine wpList_store_row rfl 33 _ _ rfl w9.heap.size #[.slice np nn nc, .slice nrp nrn nrc, .int .i64 le.size, .int .i64 le.copies] rfl rfl 33 _ (unhideI HN10).1 (Tryd.infLyK.trans rfl) rfl (by simp [Value.oneCell']) ?_) | (refine wpList_store_row rfl 35 _ _ rfl (w9.heap.size + 1) #[.int .i64 cn, .int .i64 (-1), .int .i64 (-1), .int .i64 (-1)] rfl rfl 35 _ ((setRow_other _ _ _ _ (by omega)).trans (unhideI HN10).2.1) (Tryd.infPfN.trans rfl) rfl (by simp [Value.oneCell']) ?_))
    clear HN10
    have hnw := newRows w9 #[.slice none 0 0, .slice none 0 0, .int .i64 0, .int .i64 0] #[.int .i64 0, .int .i64 0, .int .i64 0, .int .i64 0] #[.slice np nn nc, .slice nrp nrn nrc, .int .i64 le.size, .int .i64 le.copies] #[.int .i64 cn, .int .i64 (-1), .int .i64 (-1), .int .i64 (-1)] 33 35 _ rfl
    generalize World.setRow (World.setRow (World.alloc (World.alloc w9 _) _) _ _) _ _ = V10 at hnw ⊢
    obtain ⟨hrl10, hrf10, hbV10, hzV10⟩ := hnw
    have HL10 := hideI ((unhideI HL9).below hbV10)
    have HLN10 := hideI ((unhideI HLN).keep hbV10)
    have HLM10 := hideI ((unhideI HLM9).keep hbV10)
    have hrm := (hbV10.block w4.heap.size (by omega)).trans (unhideI HRM9)
    have l0 : V10.cell? ⟨w9.heap.size, 0, none⟩ = some (.slice np nn nc) := (cells_of_row hrl10 0).trans rfl
    have l1 : V10.cell? ⟨w9.heap.size, 1, none⟩ = some (.slice nrp nrn nrc) := (cells_of_row hrl10 1).trans rfl
    have l2 : V10.cell? ⟨w9.heap.size, 2, none⟩ = some (.int .i64 le.size) := (cells_of_row hrl10 2).trans rfl
    have l3 : V10.cell? ⟨w9.heap.size, 3, none⟩ = some (.int .i64 le.copies) := (cells_of_row hrl10 3).trans rfl
    have m0 : V10.cell? ⟨w4.heap.size, 0, none⟩ = some (.slice mp mn mc) := (cells_of_row hrm 0).trans rfl
    have m1 : V10.cell? ⟨w4.heap.size, 1, none⟩ = some (.slice mrp mrn mrc) := (cells_of_row hrm 1).trans rfl
    have m2 : V10.cell? ⟨w4.heap.size, 2, none⟩ = some (.int .i64 le.size) := (cells_of_row hrm 2).trans rfl
    have m3 : V10.cell? ⟨w4.heap.size, 3, none⟩ = some (.int .i64 le.copies) := (cells_of_row hrm 3).trans rfl
    clear hrm hrl10 hrf10 hbV10 HRM8 HRM9 HLM8 HLM9 HLN
    go_wp2_with fail
    clear l0 l1 l2 l3 m0 m1 m2 m3
    refine (layouts_c le _ _ _ _ _ _ _ _ V10 (unhideI HLN10) (unhideI HLM10)).mono ?_
    rintro e w11 ⟨rfl, hb11⟩
    have hL11 := (unhideI HL10).below hb11
    have HL11 := hideI hL11
    have u0 : w11.cell? ⟨bu, 0, none⟩ = some (.int .i64 T.r) := (cells_of_row hL11.ru 0).trans rfl
    have u1 : w11.cell? ⟨bu, 1, none⟩ = some (.int .i64 T.sp) := (cells_of_row hL11.ru 1).trans rfl
    have u2 : w11.cell? ⟨bu, 2, none⟩ = some (.int .i64 T.lk) := (cells_of_row hL11.ru 2).trans rfl
    have u3 : w11.cell? ⟨bu, 3, none⟩ = some (.int .i64 T.t0) := (cells_of_row hL11.ru 3).trans rfl
    have u4 : w11.cell? ⟨bu, 4, none⟩ = some (.int .i64 T.t1) := (cells_of_row hL11.ru 4).trans rfl
    have u5 : w11.cell? ⟨bu, 5, none⟩ = some (.slice (some ⟨ga, 0, none⟩) T.ag.length (T.ag.length + 2)) := (cells_of_row hL11.ru 5).trans rfl
    have u6 : w11.cell? ⟨bu, 6, none⟩ = some (.slice (some ⟨gr, 0, none⟩) T.rs.length (T.rs.length + 2)) := (cells_of_row hL11.ru 6).trans rfl
    have u7 : w11.cell? ⟨bu, 7, none⟩ = some (.slice (some ⟨gs, 0, none⟩) T.ss.length (T.ss.length + 2)) := (cells_of_row hL11.ru 7).trans rfl
    have u8 : w11.cell? ⟨bu, 8, none⟩ = some (.int .i64 T.al) := (cells_of_row hL11.ru 8).trans rfl
    have u9 : w11.cell? ⟨bu, 9, none⟩ = some (.int .i64 T.sh) := (cells_of_row hL11.ru 9).trans rfl
    have u10 : w11.cell? ⟨bu, 10, none⟩ = some (.int .i64 T.br) := (cells_of_row hL11.ru 10).trans rfl
    have u11 : w11.cell? ⟨bu, 11, none⟩ = some (.bool T.pairs) := (cells_of_row hL11.ru 11).trans rfl
    have t0 : w11.cell? ⟨w.heap.size, 0, none⟩ = some (.int .i64 T.r) := (cells_of_row hL11.p.r0 0).trans rfl
    have t1 : w11.cell? ⟨w.heap.size, 1, none⟩ = some (.int .i64 T.sp) := (cells_of_row hL11.p.r0 1).trans rfl
    have t2 : w11.cell? ⟨w.heap.size, 2, none⟩ = some (.int .i64 T.lk) := (cells_of_row hL11.p.r0 2).trans rfl
    have t3 : w11.cell? ⟨w.heap.size, 3, none⟩ = some (.int .i64 T.t0) := (cells_of_row hL11.p.r0 3).trans rfl
    have t4 : w11.cell? ⟨w.heap.size, 4, none⟩ = some (.int .i64 T.t1) := (cells_of_row hL11.p.r0 4).trans rfl
    have t5 : w11.cell? ⟨w.heap.size, 5, none⟩ = some (.slice T.pa T.ag.length T.ca) := (cells_of_row hL11.p.r0 5).trans rfl
    have t6 : w11.cell? ⟨w.heap.size, 6, none⟩ = some (.slice T.pr T.rs.length T.cr) := (cells_of_row hL11.p.r0 6).trans rfl
    have t7 : w11.cell? ⟨w.heap.size, 7, none⟩ = some (.slice T.ps T.ss.length T.cs) := (cells_of_row hL11.p.r0 7).trans rfl
    have t8 : w11.cell? ⟨w.heap.size, 8, none⟩ = some (.int .i64 T.al) := (cells_of_row hL11.p.r0 8).trans rfl
    have t9 : w11.cell? ⟨w.heap.size, 9, none⟩ = some (.int .i64 T.sh) := (cells_of_row hL11.p.r0 9).trans rfl
    have t10 : w11.cell? ⟨w.heap.size, 10, none⟩ = some (.int .i64 T.br) := (cells_of_row hL11.p.r0 10).trans rfl
    have t11 : w11.cell? ⟨w.heap.size, 11, none⟩ = some (.bool T.pairs) := (cells_of_row hL11.p.r0 11).trans rfl
    have HTB := hideI (show Calls Tryd.prog 11 #[.agg #[.int .i64 T.r, .int .i64 T.sp, .int .i64 T.lk, .int .i64 T.t0, .int .i64 T.t1, .slice (some ⟨ga, 0, none⟩) T.ag.length (T.ag.length + 2), .slice (some ⟨gr, 0, none⟩) T.rs.length (T.rs.length + 2), .slice (some ⟨gs, 0, none⟩) T.ss.length (T.ss.length + 2), .int .i64 T.al, .int .i64 T.sh, .int .i64 T.br, .bool T.pairs], .agg #[.int .i64 T.r, .int .i64 T.sp, .int .i64 T.lk, .int .i64 T.t0, .int .i64 T.t1, .slice T.pa T.ag.length T.ca, .slice T.pr T.rs.length T.cr, .slice T.ps T.ss.length T.cs, .int .i64 T.al, .int .i64 T.sh, .int .i64 T.br, .bool T.pairs]] w11 (fun e w' => e = .returned (.bool true) ∧ Below w11.heap.size w11 w') from tables_l T (some ⟨ga, 0, none⟩) (some ⟨gr, 0, none⟩) (some ⟨gs, 0, none⟩) (T.ag.length + 2) (T.rs.length + 2) (T.ss.length + 2) w11 hL11.cp.tbo ((unhideI HT).below hL11.p.low))
    clear hL11 hb11
    go_wp2_with fail
    clear u0 u1 u2 u3 u4 u5 u6 u7 u8 u9 u10 u11
    clear t0 t1 t2 t3 t4 t5 t6 t7 t8 t9 t10 t11
    refine (unhideI HTB).mono ?_
    rintro e w12 ⟨rfl, hb12⟩
    have hL12 := (unhideI HL11).below hb12
    have HL12 := hideI hL12
    have s0 : w12.cell? ⟨w.heap.size + 1, 0, none⟩ = some (.slice pq ps.length cq) := (cells_of_row hL12.p.r1 0).trans rfl
    clear hL12 hb12 HTB
    go_wp2_with fail
    clear s0
    refine (ints_l ps _ _ w12 (unhideI HL12).cv.li ((unhideI HPS).below (unhideI HL12).p.low)).mono ?_
    rintro e w13 ⟨rfl, hb13⟩
    have HL13 := hideI ((unhideI HL12).below hb13)
    clear hb13
    go_wp2_with fail
    refine (spareInts_c ps gv w13 (unhideI HL13).cv).mono ?_
    rintro e w14 ⟨rfl, hb14⟩
    have hL14 := (unhideI HL13).below hb14
    have HL14 := hideI hL14
    have u5 : w14.cell? ⟨bu, 5, none⟩ = some (.slice (some ⟨ga, 0, none⟩) T.ag.length (T.ag.length + 2)) := (cells_of_row hL14.ru 5).trans rfl
    clear hL14 hb14
    go_wp2_with fail
    clear u5
    refine (spareInts_c T.ag ga w14 (unhideI HL14).cp.a).mono ?_
    rintro e w15 ⟨rfl, hb15⟩
    have HL15 := hideI ((unhideI HL14).below hb15)
    clear hb15
    go_wp2
    go_ret
    exact ⟨rfl, (unhideI HL15).p.low⟩
end Go.Proofs.YtffemeicclhioaaDoor
