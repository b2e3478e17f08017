/-
  Checks: the signature of a function, on both sides. Own work of the verifier.
-/
import Derived.Test.YteaemhhbpaicnaaDoorCkC
namespace Go.Proofs.YteaemhhbpaicnaaDoor
open Go.RowKit

def iC (ns : List Int) : List Value := ns.map fun n => .int .i64 n
def wordsOf (f : FuncE) : List Int := f.params.map (·.1)
def wTk (xs : List (Int × Int)) (k : Nat) : List Value := iC ((xs.take k).map (·.1))
theorem words_take (xs : List (Int × Int)) (k : Nat) (hk : k < xs.length) : wTk xs (k + 1) = wTk xs k ++ [.int .i64 (xs.getD k (0, 0)).1] := by
  unfold wTk
  rw [List.take_succ_eq_append_getElem hk, List.map_append]
  simp [iC, List.getD, hk]
theorem resultsK {P : Program} {fn : Func} {q : Tmp} {uy : TypeId} (h : fn.results = #[.cell q uy]) (tmps : Array Value) (w : World) (g' : Nat) (t' : TypeId) (cs' : Array Value) (fr' : Nat × Nat) (d' : TypeDesc)
    (hp' : tmps.getD q undef = .pointer (some ⟨g', 0, none⟩)) (hg' : w.heap[g']? = some (.cells cs' t' fr')) (hu' : P.underlying uy = some d') (hd' : (match d' with | .struct _ | .array _ _ => true | _ => false) = true) (hi' : (P.info? uy).map (·.size) = some cs'.size) :
    (results fn tmps).run P w = .ok (.agg cs') w := by
  have e2 : tmps[q]?.getD undef = .pointer (some ⟨g', 0, none⟩) := by simpa using hp'
  simp [results, h, e2, asAddr, run_loadVar_row w g' t' uy cs' fr' d' hg' hu' hd' hi']
theorem Tryd.infoInt : (Tryd.prog.info? 3).map (fun i => (i.zero, i.size, i.bytes)) = some (some (.int .i64 0), 1, 8) := by kernel_rfl
theorem Tryd.infSigK : (Tryd.prog.info? 67).map (·.size) = some 2 := by kernel_rfl
theorem info_K {P : Program} {t : TypeId} {z : Value} {n b : Nat} (h : (P.info? t).map (fun i => (i.zero, i.size, i.bytes)) = some (some z, n, b)) : ∃ i, P.info? t = some i ∧ i.zero = some z ∧ i.size = n ∧ i.bytes = b := by
  cases hi : P.info? t with
  | none => simp [hi] at h
  | some i => simp [hi] at h; exact ⟨i, rfl, h.1, h.2.1, h.2.2⟩
theorem Li.of_own {w : World} {base : Nat} {v : Value} {ns : List Int} (h : w.ownsRow base 3 1 v ns.length (iC ns)) (hn : ns.length < 9223372036854775808) : Li w v ns := by
  rcases h.2 with ⟨e, e0⟩ | ⟨g, cap, cur, e, -, -, hc, -⟩
  · exact ⟨none, 0, by rw [e, e0], by omega, hn, fun h0 => by omega⟩
  · refine ⟨_, cap, e, hc, hn, fun h0 => ⟨g, 0, rfl, fun i hi => ?_⟩⟩
    subst e
    have := h.cellAt i (by omega)
    simp only [Nat.zero_add] at this ⊢
    rw [this]
    simp [iC, hi]
theorem own_keepK {w w' : World} {base n size : Nat} {e : TypeId} {v : Value} {xs : List Value} (h : w.ownsRow base e size v n xs) (hk : ∀ g, base ≤ g → w'.heap[g]? = w.heap[g]?) : w'.ownsRow base e size v n xs := by
  obtain ⟨h1, h2 | ⟨g, cap, cur, e1, e2, e3, e4⟩⟩ := h
  · exact ⟨h1, Or.inl h2⟩
  · exact ⟨h1, Or.inr ⟨g, cap, cur, e1, e2, (hk g e2).trans e3, e4⟩⟩
theorem below_setRow {a w : World} {n T : Nat} {cs : Array Value} (h : Below n a w) (hT : n ≤ T) : Below n a (w.setRow T cs) := ⟨h.os, h.tape, h.output, by have := h.size; simpa [World.setRow] using this, fun k hk => (setRow_other w T k cs (by omega)).trans (h.block k hk)⟩
theorem own_formK {w : World} {base n : Nat} {v : Value} {xs : List Value} (h : w.ownsRow base 3 1 v (n + 1) xs) : ∃ g cap, v = .slice (some ⟨g, 0, none⟩) (n + 1) cap := by
  rcases h.2 with ⟨_, e0⟩ | ⟨g, cap, cur, e, -⟩
  · omega
  · exact ⟨g, cap, e⟩
set_option maxHeartbeats 4000000 in
set_option maxRecDepth 100000 in
theorem sigR2_c (f : FuncE) (pv b c d : Value) (w : World) (hp : LS 2 w pv f.params.length (fun k => pairA (f.params.getD k (0, 0)))) (hn : f.params.length ≤ 8796093022208) :
    Calls Tryd.prog 20 #[.agg #[pv, .int .i64 f.results, b, c, d]] w fun e w' => ∃ v, e = .returned (.agg #[v, .int .i64 f.results]) ∧ Li w' v (sigE f).1 ∧ Below w.heap.size w w' ∧ (∀ sb so n c, v = .slice (some ⟨sb, so, none⟩) n c → w.heap.size ≤ sb) := by
  obtain ⟨ti, hti, hz0, hz1, hz2⟩ := info_K Tryd.infoInt
  have hx := al0 w (.cells #[pv, .int .i64 f.results, b, c, d] 48 (0, 0))
  have hp1 := hp.below hx.2.1
  have hx2 := al0 (w.alloc (.cells #[pv, .int .i64 f.results, b, c, d] 48 (0, 0))) (.cells #[.slice none 0 0, .int .i64 0] 67 (0, 0))
  have hp2 := hp1.below hx2.2.1
  have hW1 := below_cut hx.2.1 hx2.2.1 (by omega)
  have hs1 := hx.2.2
  have hs2 := hx2.2.2
  have hrf := (hx2.2.1.block w.heap.size (by omega)).trans hx.1
  have hrr := hx2.1
  rw [hs1] at hs2 hrr
  have HS2 := hideI hs2
  obtain ⟨p, cap, rfl, hcap, hlt, hc⟩ := hp2.pairs
  have HC := hideI hc
  have HW1 := hideI hW1
  have HRF := hideI hrf
  have HRR := hideI hrr
  clear hc hx hp hp1 hx2 hp2 hW1 hrf hrr hs2 hs1
  go_enter Tryd.func20, Tryd.ntmps20
  go_wp2_with fail
  generalize World.alloc (World.alloc w _) _ = W at HC HW1 HRF HRR HS2 ⊢
  go_loopw [3, 9] (fun v j w' => ∃ k : Nat, j = .int .i64 k ∧ k ≤ f.params.length ∧ w'.ownsRow W.heap.size 3 1 v k (wTk f.params k) ∧ Below W.heap.size W w') (fun _ j _ => f.params.length - (intOf j).toNat)
  case atStart => exact ⟨0, rfl, by omega, World.ownsRow_nil _ _ _ _, Below.refl _ _⟩
  case round =>
    obtain ⟨k, rfl, hk, how, hbw⟩ := hrel
    have hws := hbw.size
    by_cases hk2 : k < f.params.length
    · obtain ⟨sb, so, rfl, hcc⟩ := unhideI HC (by omega)
      have hsb : sb < W.heap.size := World.block_lt_of_cell? W _ (hcc k hk2).1
      have c1 := (hbw.cell (p := ⟨sb, so + k * 2, none⟩) hsb).trans (hcc k hk2).1
      have c2 := (hbw.cell (p := ⟨sb, so + k * 2 + 1, none⟩) hsb).trans (hcc k hk2).2
      have HTK := hideI (words_take f.params k hk2)
      have HOW := hideI how
      have HBW := hideI hbw
      clear hcc how hbw
      generalize f.params.getD k (0, 0) = xy at c1 c2 HTK
      obtain ⟨x, y⟩ := xy
      simp only at c1 c2
      go_wp2_with (at_builtin; refine wpList_append_own _ rfl _ _ 23 rfl W.heap.size 3 ti _ 1 8 Tryd.underlying23 hti hz0 hz1 hz2 rfl (by decide) _ _ _ rfl (((unhideI HOW).alloc _).alloc _) ⟨wr.heap.size + 1, 0, none⟩ 1 1 [.int .i64 x] rfl rfl (by intro j u hj; match j, hj with | 0, hj => (simp at hj; subst hj; exact (World.cell?_alloc_at _ _ _ _ (by simp)).trans rfl)) (by intro u hu; simp at hu; subst hu; rfl) ?c3 ?c4 ?c5 ?_)
      case c3 => unfold maxLen; omega
      case c4 => omega
      case c5 => first | omega | (simp; omega)
      intro v' w7 hown hgr _
      have HNW := hideI (show w7.ownsRow W.heap.size 3 1 v' (k + 1) (wTk f.params (k + 1)) by rw [unhideI HTK]; exact hown)
      have HB7 := hideI (show Below W.heap.size W w7 from (((unhideI HBW).alloc (by omega) _).alloc (by simp; omega) _).trans ⟨hgr.os, hgr.tape, hgr.output, hgr.size, fun q hq => hgr.block q (by simp; omega) (fun e => by have := ((unhideI HOW).lt q e.symm).1; omega)⟩)
      obtain ⟨g2, cap2, rfl⟩ := own_formK hown
      clear hown hgr
      go_wp2
      go_roundw
      case rel => exact ⟨k + 1, by go_num, by omega, unhideI HNW, unhideI HB7⟩
      case measure => simp [intOf]; omega
    · obtain rfl : k = f.params.length := by omega
      unfold wTk at how
      rw [List.take_length] at how
      have hs2 := unhideI HS2
      have hll : ((sigE f).1).length = f.params.length := by simp [sigE]
      have hLi := Li.of_own (v := u3) (ns := (sigE f).1) (by rw [hll]; exact how) (by omega)
      obtain ⟨pz, cz, hz⟩ := hLi.shape
      rw [hll] at hz
      clear hll
      subst hz
      have hrow := (hbw.block w.heap.size (by omega)).trans (unhideI HRF)
      have r1 := (cells_of_row hrow 1).trans rfl
      have HRR2 := hideI ((hbw.block (w.heap.size + 1) (by omega)).trans (unhideI HRR))
      have HLI := hideI how
      have HBW := hideI hbw
      clear hrow how hbw hLi hs2
      go_wp2_with (refine wpList_store_row rfl 67 (.tmp 2) (.tmp 22) rfl (w.heap.size + 1) #[.slice pz f.params.length cz, .int .i64 f.results] rfl rfl 67 _ (unhideI HRR2) (Tryd.infSigK.trans rfl) rfl (by simp [Value.oneCell']) ?_)
      refine bodyPost_ret (resultsK (fn := Tryd.f20) (q := 2) (uy := 67) rfl _ _ (w.heap.size + 1) 67 #[.slice pz f.params.length cz, .int .i64 f.results] (0, 0) _ rfl (setRow_heap _ _ _ _ _ _ (unhideI HRR2)) Tryd.underlying67 rfl (Tryd.infSigK.trans rfl)) rfl ?_
      have hs2 := unhideI HS2
      have hs3 := (unhideI HBW).size
      refine ⟨_, rfl, Li.of_own (base := W.heap.size) (by rw [show ((sigE f).1).length = f.params.length by simp [sigE]]; exact own_keepK (unhideI HLI) (fun g hg => setRow_other _ _ _ _ (by omega))) (by simp [sigE]; omega), below_setRow (below_cut (unhideI HW1) (unhideI HBW) (by omega)) (by omega), fun sb so n c e => by have h := ((unhideI HLI).lt sb (by rw [e]; rfl)).1; omega⟩
theorem sigR_c (f : FuncE) (pv b c d : Value) (w : World) (hp : LS 2 w pv f.params.length (fun k => pairA (f.params.getD k (0, 0)))) (hn : f.params.length ≤ 8796093022208) :
    Calls Tryd.prog 20 #[.agg #[pv, .int .i64 f.results, b, c, d]] w fun e w' => ∃ v, e = .returned (.agg #[v, .int .i64 f.results]) ∧ Li w' v (sigE f).1 ∧ Below w.heap.size w w' := by
  refine (sigR2_c f pv b c d w hp hn).mono ?_
  rintro e w' ⟨v, h1, h2, h3, -⟩
  exact ⟨v, h1, h2, h3⟩
set_option maxHeartbeats 4000000 in
set_option maxRecDepth 100000 in
theorem sigP_c (f : FuncE) (pv b c d : Value) (w : World) (hp : LS 2 w pv f.params.length (fun k => pairA (f.params.getD k (0, 0)))) (hn : f.params.length ≤ 8796093022208) :
    Calls Tryd.prog 44 #[.agg #[pv, .int .i64 f.results, b, c, d]] w fun e w' => ∃ v, e = .returned (.agg #[v, .int .i64 f.results]) ∧ Li w' v (sigE f).1 ∧ Below w.heap.size w w' := by
  obtain ⟨ti, hti, hz0, hz1, hz2⟩ := info_K Tryd.infoInt
  have hx := al0 w (.cells #[pv, .int .i64 f.results, b, c, d] 48 (0, 0))
  have hp1 := hp.below hx.2.1
  have hx2 := al0 (w.alloc (.cells #[pv, .int .i64 f.results, b, c, d] 48 (0, 0))) (.cells #[.slice none 0 0, .int .i64 0] 67 (0, 0))
  have hp2 := hp1.below hx2.2.1
  have hx3 := al0 ((w.alloc (.cells #[pv, .int .i64 f.results, b, c, d] 48 (0, 0))).alloc (.cells #[.slice none 0 0, .int .i64 0] 67 (0, 0))) (.cells #[.slice none 0 0, .int .i64 f.results] 67 (0, 0))
  have hp3 := hp2.below hx3.2.1
  have hs1 := hx.2.2
  have hs2 := hx2.2.2
  have hs3 := hx3.2.2
  have hW1 := below_cut (below_cut hx.2.1 hx2.2.1 (by omega)) hx3.2.1 (by omega)
  have hrr := (hx3.2.1.block (w.heap.size + 1) (by omega)).trans (hs1 ▸ hx2.1)
  have hrs := hx3.1
  rw [hs2, hs1] at hrs hs3
  obtain ⟨p, cap, rfl, hcap, hlt, hc⟩ := hp3.pairs
  have hpb := hp
  have HC := hideI hc
  have HW1 := hideI hW1
  have HRS := hideI hrs
  have HRR := hideI hrr
  have HS3 := hideI hs3
  have HPB := hideI hp.pairs
  clear hc hx hp hp1 hx2 hp2 hW1 hrs hrr hx3 hp3 hs1 hs2 hs3 hpb
  go_enter Tryd.func44, Tryd.ntmps44
  go_wp2_with fail
  generalize World.alloc (World.alloc (World.alloc w _) _) _ = W at HC HW1 HRS HRR HS3 ⊢
  go_loopw [12] (fun j w' => ∃ (k : Nat) (v : Value), j = .int .i64 k ∧ k ≤ f.params.length ∧ w'.heap[w.heap.size + 1 + 1]? = some (.cells #[v, .int .i64 f.results] 67 (0, 0)) ∧ w'.ownsRow W.heap.size 3 1 v k (wTk f.params k) ∧ Below (w.heap.size + 2) W w') (fun j _ => f.params.length - (intOf j).toNat)
  case atStart => exact ⟨0, _, rfl, by omega, unhideI HRS, World.ownsRow_nil _ _ _ _, Below.refl _ _⟩
  case round =>
    obtain ⟨k, v, rfl, hk, hrow, how, hbw⟩ := hrel
    have hws := hbw.size
    have cv := (cells_of_row hrow 0).trans rfl
    have r0 := fun X : Obj => (row_al hrow 0 X).trans rfl
    have fz := fun j => frozen_of_row _ _ j _ _ hrow
    obtain ⟨vp, vn, vc, hvs⟩ : ∃ vp vn vc, v = .slice vp vn vc := by
      rcases how.2 with ⟨e, _⟩ | ⟨g, cap, cur, e, _⟩
      · exact ⟨_, _, _, e⟩
      · exact ⟨_, _, _, e⟩
    subst hvs
    by_cases hk2 : k < f.params.length
    · obtain ⟨p', cap', he, -, -, hcc0⟩ := unhideI HPB
      injection he with e1 e2 e3
      subst e1 e3
      obtain ⟨sb, so, rfl, hcc⟩ := hcc0 (by omega)
      have hsb : sb < w.heap.size := World.block_lt_of_cell? w _ (hcc k hk2).1
      have hbb : Below w.heap.size w wr := (unhideI HW1).trans (hbw.mono (Nat.le_add_right _ _))
      have c1 := (hbb.cell (p := ⟨sb, so + k * 2, none⟩) hsb).trans (hcc k hk2).1
      have c2 := (hbb.cell (p := ⟨sb, so + k * 2 + 1, none⟩) hsb).trans (hcc k hk2).2
      have hT := unhideI HS3
      have hTl : w.heap.size + 1 + 1 < wr.heap.size := by omega
      have HTL := hideI hTl
      have HTK := hideI (words_take f.params k hk2)
      have HOW := hideI how
      have HBW := hideI hbw
      have HROW := hideI hrow
      clear hcc hcc0 how hbw hbb hrow hT hTl e2 fz cv HC
      generalize f.params.getD k (0, 0) = xy at c1 c2 HTK
      obtain ⟨x, y⟩ := xy
      simp only at c1 c2
      go_wp2_with (at_builtin; refine wpList_append_own _ rfl _ _ 23 rfl W.heap.size 3 ti _ 1 8 Tryd.underlying23 hti hz0 hz1 hz2 rfl (by decide) _ _ _ rfl (((unhideI HOW).alloc _).alloc _) ⟨wr.heap.size + 1, 0, none⟩ 1 1 [.int .i64 x] rfl rfl (by intro j u hj; match j, hj with | 0, hj => (simp at hj; subst hj; exact (World.cell?_alloc_at _ _ _ _ (by simp)).trans rfl)) (by intro u hu; simp at hu; subst hu; rfl) ?c3 ?c4 ?c5 ?_)
      case c3 => unfold maxLen; omega
      case c4 => omega
      case c5 => first | omega | (simp; omega)
      intro v' w7 hown hgr _
      obtain ⟨g2, cap2, rfl⟩ := own_formK hown
      have hTl := unhideI HTL
      have hT := unhideI HS3
      have hne : ∀ q, q < W.heap.size → some q ≠ (Value.slice vp vn vc).ownBlock := fun q hq e => by have := ((unhideI HOW).lt q e.symm).1; omega
      have hrow7 := (hgr.block (w.heap.size + 1 + 1) (by simp; omega) (hne _ (by omega))).trans ((((Below.refl wr.heap.size wr).alloc (Nat.le_refl _) _).alloc (by simp) _).block (w.heap.size + 1 + 1) hTl |>.trans (unhideI HROW))
      have c7 := (cells_of_row hrow7 0).trans rfl
      have f7 := frozen_of_row _ _ 0 _ _ hrow7
      have HNR := hideI (heap_setCell_same w7 (w.heap.size + 1 + 1) 0 _ _ (.slice (some ⟨g2, 0, none⟩) (k + 1) cap2) hrow7)
      have HNW := hideI (show w7.ownsRow W.heap.size 3 1 (.slice (some ⟨g2, 0, none⟩) (k + 1) cap2) (k + 1) (wTk f.params (k + 1)) by rw [unhideI HTK]; exact hown)
      have HN2 := hideI (own_keepK (w' := w7.setCell ⟨w.heap.size + 1 + 1, 0, none⟩ (.slice (some ⟨g2, 0, none⟩) (k + 1) cap2)) (unhideI HNW) (fun g hg => heap_setCell_other _ _ _ _ (by show g ≠ w.heap.size + 1 + 1; omega)))
      have HB7 := hideI (show Below (w.heap.size + 2) W (w7.setCell ⟨w.heap.size + 1 + 1, 0, none⟩ (.slice (some ⟨g2, 0, none⟩) (k + 1) cap2)) from
        have hb7 : Below (w.heap.size + 2) W w7 := (((unhideI HBW).alloc (by omega) _).alloc (by simp; omega) _).trans ⟨hgr.os, hgr.tape, hgr.output, hgr.size, fun q hq => hgr.block q (by simp; omega) (hne q (by omega))⟩
        ⟨hb7.os, hb7.tape, hb7.output, by simpa using hb7.size, fun q hq => (heap_setCell_other _ _ _ _ (by show q ≠ w.heap.size + 1 + 1; omega)).trans (hb7.block q hq)⟩)
      clear hown hgr hne hTl hT hrow7 r0 c1 c2
      go_wp2
      go_roundw
      case rel => exact ⟨k + 1, _, by go_num, by omega, unhideI HNR, unhideI HN2, unhideI HB7⟩
      case measure => simp [intOf]; omega
    · obtain rfl : k = f.params.length := by omega
      have hvn : vn = f.params.length := by
        rcases how.2 with ⟨e, e0⟩ | ⟨g, cap, cur, e, _⟩
        · injection e with _ e2 _; omega
        · injection e with _ e2 _
      subst vn
      unfold wTk at how
      rw [List.take_length] at how
      have hT := unhideI HS3
      have HRR2 := hideI ((hbw.block (w.heap.size + 1) (by omega)).trans (unhideI HRR))
      have HRS2 := hideI hrow
      have HOW := hideI how
      have HBW := hideI hbw
      clear hrow how hbw hT r0 fz cv
      go_wp2_with (first | (refine wpList_load_row rfl 67 (.tmp 3) rfl (w.heap.size + 1 + 1) rfl 67 #[.slice vp f.params.length vc, .int .i64 f.results] (0, 0) _ (unhideI HRS2) Tryd.underlying67 rfl (Tryd.infSigK.trans rfl) ?_) | (refine wpList_store_row rfl 67 (.tmp 2) (.tmp 24) rfl (w.heap.size + 1) #[.slice vp f.params.length vc, .int .i64 f.results] rfl rfl 67 _ (unhideI HRR2) (Tryd.infSigK.trans rfl) rfl (by simp [Value.oneCell']) ?_))
      refine bodyPost_ret (resultsK (fn := Tryd.f44) (q := 2) (uy := 67) rfl _ _ (w.heap.size + 1) 67 #[.slice vp f.params.length vc, .int .i64 f.results] (0, 0) _ rfl (setRow_heap _ _ _ _ _ _ (unhideI HRR2)) Tryd.underlying67 rfl (Tryd.infSigK.trans rfl)) rfl ?_
      have hT := unhideI HS3
      refine ⟨_, rfl, Li.of_own (base := W.heap.size) (by rw [show ((sigE f).1).length = f.params.length by simp [sigE]]; exact own_keepK (unhideI HOW) (fun g hg => setRow_other _ _ _ _ (by omega))) (by simp [sigE]; omega), below_setRow ((unhideI HW1).trans ((unhideI HBW).mono (by omega))) (by omega)⟩
end Go.Proofs.YteaemhhbpaicnaaDoor
