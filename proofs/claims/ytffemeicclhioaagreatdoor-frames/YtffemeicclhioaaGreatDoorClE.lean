/-
 Layouts of calls: layout.Of. Own work of the verifier.
-/
import Derived.Test.YtffemeicclhioaaGreatDoorPk
import Derived.Test.YtffemeicclhioaaGreatDoorJ15
import Derived.Deep.RegionLaw
import Derived.Below
namespace Go.Proofs.YtffemeicclhioaaGreatDoor
open Go.RowKit

theorem step_callL {P : Program} {ops : Array Oper} {o : Oper} {a : Act} {w : World} {K : Act → World → Prop} {Q : Exit → Act → World → Prop} {E : Prop} (hg : o.guard = none) (f : FuncId) (args : Array Value) {F : Value → World → Prop}
 (hrun : (execOp a.eval o).run P w = .ok (.enter f args) w) (hF : Calls P f args w fun e w' => ∃ v, e = .returned v ∧ F v w') (h : ∀ v w', F v w' → K (a.put o.dst v) w') : if Region.wanted o (yielded ops a.tmps) = true then Oper.wp P o a w K Q else E := by
 have hw : Region.wanted o (yielded ops a.tmps) = true := by simp [Region.wanted, hg]
 rw [if_pos hw]
 unfold Oper.wp
 rw [hrun]
 refine hF.mono ?_
 rintro e w' ⟨v, rfl, hv⟩
 exact h v w' hv
theorem stepA_l {P : Program} {ops : Array Oper} {o : Oper} {a : Act} {w : World} {K : Act → World → Prop} {Q : Exit → Act → World → Prop} {E : Prop}
 (hg : o.guard = none) (s x : Operand) (t : TypeId) (ho : o.op = .call { callee := .builtin .append, args := #[s, x], argTypes := #[t, t] })
 (base : Nat) (e : TypeId) (i : TypeInfo) (z : Value) (size bytes : Nat) (ht : P.underlying t = some (.slice e)) (hi : P.info? e = some i) (hz : i.zero = some z)
 (hsize : i.size = size) (hby : i.bytes = bytes) (hzs : z.cells.size = size) (hsz : 0 < size)
 (v : Value) (n : Nat) (xs : List Value) (hs : a.eval s = v) (hown : w.ownsRow base e size v n xs)
 (ad : Addr) (m c : Nat) (news : List Value) (hx : a.eval x = .slice (some ad) m c) (hl : news.length = m * size) (hnews : ∀ j u, news[j]? = some u → w.cell? (ad.add j) = some u) (h1 : ∀ u ∈ news, u.oneCell' = true)
 (h63 : n + m ≤ maxLen) (hbytes : (n + m) * bytes ≤ 140737488355328) (hbase : base ≤ w.heap.size)
 (h : ∀ v' w', w'.ownsRow base e size v' (n + m) (xs ++ news) → w.grownBy w' v.ownBlock → K (a.put o.dst v') w') :
 if Region.wanted o (yielded ops a.tmps) = true then Oper.wp P o a w K Q else E := by
 have hw : Region.wanted o (yielded ops a.tmps) = true := by simp [Region.wanted, hg]
 rw [if_pos hw]
 exact wp_append_own w s x t ho base e i z size bytes ht hi hz hsize hby hzs hsz v n xs hs hown ad m c news hx hl hnews h1 h63 hbytes hbase (fun v' w' h2 h3 _ => h v' w' h2 h3)
theorem PlO_gb {w w' : World} {B G : Nat} {v : Value} {xs : List (Int × Int)} (h : PlO w B v xs) (hg : w.grownBy w' (some G)) (hG : G < B) : PlO w' B v xs :=
 own_gb h hg (fun g hv e => by injection e with e; have := (World.ownsRow.lt h g hv).1; omega)
theorem PlO_mono {w : World} {B B' : Nat} {v : Value} {xs : List (Int × Int)} (h : PlO w B v xs) (hB : B' ≤ B) : PlO w B' v xs := by
 obtain ⟨h1, h2 | ⟨g, cap, cur, e1, e2, e3⟩⟩ := h
 ·
  exact ⟨h1, Or.inl h2⟩
 ·
  exact ⟨h1, Or.inr ⟨g, cap, cur, e1, Nat.le_trans hB e2, e3⟩⟩
theorem PlO_app {w w' : World} {B B' n : Nat} {v av : Value} {xs : List (Int × Int)} {ys : List Value} (h : PlO w B v xs) (ha : w.ownsRow B' 118 3 av n ys) (hg : w.grownBy w' av.ownBlock) : PlO w' B v xs :=
 own_gb h hg (fun g hv e => by
  rcases h.2 with ⟨e1, -⟩ | ⟨g1, c1, cur1, e1, -, r1, -⟩
  ·
   rw [e1] at hv; cases hv
  ·
   rcases ha.2 with ⟨e2, -⟩ | ⟨g2, c2, cur2, e2, -, r2, -⟩
   ·
    rw [e2] at e; cases e
   ·
    rw [e1] at hv
    rw [e2] at e
    injection hv with hv
    injection e with e
    simp only at hv e
    rw [hv] at r1
    rw [e] at r2
    rw [r1] at r2
    injection r2 with r2
    injection r2 with _ r2 _
    exact absurd r2 (by decide))
theorem PlO_set {w : World} {B b j : Nat} {v u : Value} {xs : List (Int × Int)} (h : PlO w B v xs) (hb : b < B) : PlO (w.setCell ⟨b, j, none⟩ u) B v xs := ownsRow_setCell_below h (a := ⟨b, j, none⟩) hb u
theorem Tryz.infLyK : (Tryz.prog.info? 85).map (·.size) = some 4 := by kernel_rfl
theorem Tryz.infoSp : (Tryz.prog.info? 118).map (fun i => (i.zero, i.size, i.bytes)) = some (some (.agg #[.slice none 0 0, .bool false, .int .i64 0]), 3, 40) := by kernel_rfl
theorem getD_snoc {α : Type} (l : List α) (x d : α) (k : Nat) (h : k < l.length + 1) : (l ++ [x]).getD k d = if k < l.length then l.getD k d else x := by
 split
 ·
  rename_i hk
  simp [List.getD, List.getElem?_append_left hk]
 ·
  rename_i hk
  obtain rfl : k = l.length := by omega
  simp [List.getD]
theorem own_sliceL {w : World} {B T size n : Nat} {v : Value} {xs : List Value} (h : w.ownsRow B T size v (n + 1) xs) : ∃ g c, v = .slice (some ⟨g, 0, none⟩) (n + 1) c := by
 rcases h.2 with ⟨e, e0⟩ | ⟨g, cap, cur, e, -⟩
 ·
  omega
 ·
  exact ⟨_, _, e⟩
theorem plo_shape {w : World} {B : Nat} {v : Value} {xs : List (Int × Int)} (h : PlO w B v xs) : ∃ p n c, v = .slice p n c := by
 rcases h.2 with ⟨e, e0⟩ | ⟨g, cap, cur, e, -⟩
 ·
  exact ⟨_, _, _, e⟩
 ·
  exact ⟨_, _, _, e⟩
/-- How far layout.Of is: k parameters. -/
structure OfI (W : World) (b0 : Nat) (T : TbE) (ps : List Int) (k : Nat) (av : Value) (pvs : List Value) (w : World) : Prop where
 low : Below (b0 + 3) W w
 giv : GivR w (b0 + 3) T (stA T.ag.length T.br T.pairs ps T.sh k)
 row : w.heap[b0 + 4]? = some (.cells #[av, .slice none 0 0, .int .i64 0, .int .i64 0] 85 (0, 0))
 len : pvs.length = k
 own : w.ownsRow (b0 + 5) 118 3 av k (spsC pvs ((List.range k).map (sptA T.ag T.br T.pairs ps T.sh)))
 each : ∀ j, j < k → PlO w (b0 + 5) (pvs.getD j undef) (sptA T.ag T.br T.pairs ps T.sh j).pl
theorem OfI.next {W w3 w7 wr : World} {b0 k : Nat} {T : TbE} {ps : List Int} {av v7 pv : Value} {pvs : List Value} {sp : SptE} (hI : OfI W b0 T ps k av pvs wr) (hz : b0 + 5 ≤ wr.heap.size) (hgb : wr.drew.grownBy w3 (some (b0 + 3))) (hG : GivR w3 (b0 + 3) T (stA T.ag.length T.br T.pairs ps T.sh (k + 1))) (hP : PlO w3 wr.heap.size pv sp.pl) (hsp : sptA T.ag T.br T.pairs ps T.sh k = sp)
 (hgr : (w3.alloc (.cells #[pv, .bool sp.ref, .int .i64 sp.at_] 118 (0, 0))).grownBy w7 av.ownBlock) (hown : w7.ownsRow (b0 + 5) 118 3 v7 (k + 1) (spsC pvs ((List.range k).map (sptA T.ag T.br T.pairs ps T.sh)) ++ [pv, .bool sp.ref, .int .i64 sp.at_])) :
 OfI W b0 T ps (k + 1) v7 (pvs ++ [pv]) (w7.setCell ⟨b0 + 4, 0, none⟩ v7) := by
 have hz3 : wr.heap.size ≤ w3.heap.size := hgb.size
 have ha := al0 w3 (.cells #[pv, .bool sp.ref, .int .i64 sp.at_] 118 (0, 0))
 have hz7 := hgr.size
 have how3 : w3.ownsRow (b0 + 5) 118 3 av k (spsC pvs ((List.range k).map (sptA T.ag T.br T.pairs ps T.sh))) := own_gb (w := wr.drew) hI.own hgb (fun g hg e => by injection e with e; have := (World.ownsRow.lt hI.own g hg).1; omega)
 have hne : ∀ q, q < b0 + 5 → some q ≠ av.ownBlock := fun q hq e => by have := (World.ownsRow.lt hI.own q e.symm).1; omega
 have hblk : ∀ q, q < b0 + 5 → q ≠ b0 + 3 → q ≠ b0 + 4 → (w7.setCell ⟨b0 + 4, 0, none⟩ v7).heap[q]? = wr.heap[q]? := fun q h1 h2 h3 =>
  (heap_setCell_other _ _ _ _ (by show q ≠ b0 + 4; exact h3)).trans ((hgr.block q (by rw [ha.2.2]; omega) (hne q h1)).trans ((ha.2.1.block q (by omega)).trans (hgb.block q (by show q < wr.heap.size; omega) (by intro e; injection e with e; omega))))
 have hP' : ∀ {v : Value} {xs : List (Int × Int)}, PlO w3 (b0 + 5) v xs → PlO (w7.setCell ⟨b0 + 4, 0, none⟩ v7) (b0 + 5) v xs := fun {v xs} h => PlO_set (PlO_app (w := w3.alloc (.cells #[pv, .bool sp.ref, .int .i64 sp.at_] 118 (0, 0))) (World.ownsRow.alloc h _) (World.ownsRow.alloc how3 _) hgr) (by omega)
 have hrw : w7.heap[b0 + 4]? = some (.cells #[av, .slice none 0 0, .int .i64 0, .int .i64 0] 85 (0, 0)) := (hgr.block (b0 + 4) (by rw [ha.2.2]; omega) (hne _ (by omega))).trans ((ha.2.1.block (b0 + 4) (by omega)).trans ((hgb.block (b0 + 4) (by show b0 + 4 < wr.heap.size; omega) (by intro e; injection e with e; omega)).trans hI.row))
 refine ⟨⟨?_, ?_, ?_, ?_, fun q hq => (hblk q (by omega) (by omega) (by omega)).trans (hI.low.block q hq)⟩, ?_, heap_setCell_same _ _ 0 _ _ _ hrw, by simp [hI.len], ?_, fun j hj => ?_⟩
 ·
  exact hgr.os.trans (ha.2.1.os.trans (hgb.os.trans hI.low.os))
 ·
  exact hgr.tape.trans (ha.2.1.tape.trans (hgb.tape.trans hI.low.tape))
 ·
  exact hgr.output.trans (ha.2.1.output.trans (hgb.output.trans hI.low.output))
 ·
  have := hI.low.size
  have h : (w7.setCell ⟨b0 + 4, 0, none⟩ v7).heap.size = w7.heap.size := by simp
  omega
 ·
  exact (heap_setCell_other _ _ _ _ (by show b0 + 3 ≠ b0 + 4; omega)).trans ((hgr.block (b0 + 3) (by rw [ha.2.2]; omega) (hne _ (by omega))).trans ((ha.2.1.block (b0 + 3) (by omega)).trans hG))
 ·
  rw [map_range_snoc, spsC_snoc _ _ _ _ (by simp [hI.len]), hsp]
  exact ownsRow_setCell_below hown (a := ⟨b0 + 4, 0, none⟩) (by show b0 + 4 < b0 + 5; omega) v7
 ·
  rw [getD_snoc _ _ _ _ (by rw [hI.len]; exact hj)]
  split
  ·
   rename_i h
   rw [hI.len] at h
   exact hP' (PlO_gb (w := wr.drew) (hI.each j h) hgb (by omega))
  ·
   rename_i h
   rw [hI.len] at h
   obtain rfl : j = k := by omega
   rw [hsp]
   exact hP' (PlO_mono hP hz)
set_option maxHeartbeats 4000000 in
set_option maxRecDepth 100000 in
theorem lof_c (T : TbE) (ps : List Int) (pq : Option Addr) (cq : Nat) (n : Int) (w : World) (hT : TbR w w.heap.size T) (hps : Li w (.slice pq ps.length cq) ps) (hsig : numsIn ps 0 8 = true) (hpl : ps.length ≤ 8) (hn0 : 0 ≤ n) (hn4 : n ≤ 4) (hLa : T.ag.length ≤ 100) (hLr : T.rs.length ≤ 100) (hs0 : 0 ≤ T.sh) (hs1 : T.sh ≤ 100) :
 Calls Tryz.prog 67 #[.agg T.box, .agg #[.slice pq ps.length cq, .int .i64 n]] w fun e w' => ∃ av rv pvs, e = .returned (.agg #[av, rv, .int .i64 (layE T.ag T.rs T.br T.pairs T.sh ps n).size, .int .i64 (layE T.ag T.rs T.br T.pairs T.sh ps n).copies]) ∧ LayO w' w.heap.size av rv (layE T.ag T.rs T.br T.pairs T.sh ps n) pvs ∧ Below w.heap.size w w' := by
 obtain ⟨ti, hti, hz0, hz1, hz2⟩ := info_K Tryz.infoSp
 have hB : Below w.heap.size w (((((w.alloc (.cells T.box 25 (0, 0))).alloc (.cells #[.slice pq ps.length cq, .int .i64 n] 79 (0, 0))).alloc (.cells #[.slice none 0 0, .slice none 0 0, .int .i64 0, .int .i64 0] 85 (0, 0))).alloc (.cells (givA T ⟨0, T.sh, 0⟩) 164 (0, 0))).alloc (.cells #[.slice none 0 0, .slice none 0 0, .int .i64 0, .int .i64 0] 85 (0, 0))) := (((((Below.refl w.heap.size w).alloc (Nat.le_refl _) (.cells T.box 25 (0, 0))).alloc (by simp) (.cells #[.slice pq ps.length cq, .int .i64 n] 79 (0, 0))).alloc (by simp; omega) (.cells #[.slice none 0 0, .slice none 0 0, .int .i64 0, .int .i64 0] 85 (0, 0))).alloc (by simp; omega) (.cells (givA T ⟨0, T.sh, 0⟩) 164 (0, 0))).alloc (by simp; omega) (.cells #[.slice none 0 0, .slice none 0 0, .int .i64 0, .int .i64 0] 85 (0, 0))
 obtain ⟨r0, r1, r2, r3, hZ⟩ := rows5 w (.cells T.box 25 (0, 0)) (.cells #[.slice pq ps.length cq, .int .i64 n] 79 (0, 0)) (.cells #[.slice none 0 0, .slice none 0 0, .int .i64 0, .int .i64 0] 85 (0, 0)) (.cells (givA T ⟨0, T.sh, 0⟩) 164 (0, 0)) (.cells #[.slice none 0 0, .slice none 0 0, .int .i64 0, .int .i64 0] 85 (0, 0))
 have r4 : (((((w.alloc (.cells T.box 25 (0, 0))).alloc (.cells #[.slice pq ps.length cq, .int .i64 n] 79 (0, 0))).alloc (.cells #[.slice none 0 0, .slice none 0 0, .int .i64 0, .int .i64 0] 85 (0, 0))).alloc (.cells (givA T ⟨0, T.sh, 0⟩) 164 (0, 0))).alloc (.cells #[.slice none 0 0, .slice none 0 0, .int .i64 0, .int .i64 0] 85 (0, 0))).heap[w.heap.size + 4]? = some (.cells #[.slice none 0 0, .slice none 0 0, .int .i64 0, .int .i64 0] 85 (0, 0)) := by have := heap_alloc_new ((((w.alloc (.cells T.box 25 (0, 0))).alloc (.cells #[.slice pq ps.length cq, .int .i64 n] 79 (0, 0))).alloc (.cells #[.slice none 0 0, .slice none 0 0, .int .i64 0, .int .i64 0] 85 (0, 0))).alloc (.cells (givA T ⟨0, T.sh, 0⟩) 164 (0, 0))) (.cells #[.slice none 0 0, .slice none 0 0, .int .i64 0, .int .i64 0] 85 (0, 0)); simpa using this
 have HB := Zac hB
 have HR1 := Zac r1
 have HR2 := Zac r2
 have HG0 := Zac (show GivR _ (w.heap.size + 3) T ⟨0, T.sh, 0⟩ from r3)
 have HR4 := Zac r4
 have HPS := Zac hps
 have HT := Zac hT
 have HSIG := Zac hsig
 have hlt : ps.length < 9223372036854775808 := by omega
 clear hB r0 r1 r2 r3 r4 hps hT hsig
 unfold TbE.box givA at *
 go_enter Tryz.func67, Tryz.ntmps67
 go_wp2_with fail
 generalize World.alloc (World.alloc (World.alloc (World.alloc (World.alloc w _) _) _) _) _ = W at HB HR1 HR2 HG0 HR4 hZ ⊢
 generalize hb0 : w.heap.size = b0 at HB HR1 HR2 HG0 HR4 HT hZ ⊢
 have HI0 := Zac (show OfI W b0 T ps 0 (.slice none 0 0) [] W from ⟨Below.refl _ _, Zaa HG0, Zaa HR4, rfl, World.ownsRow_nil _ _ _ _, fun j hj => by omega⟩)
 go_loopw [17] (fun j w' => ∃ (k : Nat) (av : Value) (pvs : List Value), j = .int .i64 k ∧ k ≤ ps.length ∧ OfI W b0 T ps k av pvs w') (fun j _ => ps.length - (intOf j).toNat)
 case atStart => exact ⟨0, _, _, rfl, by omega, Zaa HI0⟩
 case round =>
  clear HI0 HG0 HR4
  obtain ⟨k, av, pvs, rfl, hk, hI⟩ := hrel
  have hwz := hI.low.size
  have hok := stA_ok (L := T.ag.length) (br := T.br) (pr := T.pairs) (sh := T.sh) (Zaa HSIG) k hk
  by_cases hk2 : k < ps.length
  ·
   have hnk := upB_get (Zaa HSIG) hk2
   unfold inB at hnk
   obtain ⟨hm0, hm8⟩ := of_decide_eq_true hnk
   have hTk : TbR wr (b0 + 3) T := by
    have hm : ∀ {v : Value} {ns : List Int}, RsB w b0 v ns → RsB wr (b0 + 3) v ns := fun {v ns} h => by
     rcases h with h | ⟨sb, so, cap, e1, e2, e3⟩
     ·
      exact Or.inl h
     ·
      refine Or.inr ⟨sb, so, cap, e1, by omega, fun i hi => ?_⟩
      have e4 := e3 i hi
      have hl := World.block_lt_of_cell? w _ e4
      simp only at hl
      exact (World.cell?_of_block (show wr.heap[sb]? = w.heap[sb]? from (hI.low.block sb (by omega)).trans ((Zaa HB).block sb (by omega)))).trans e4
    have ht := Zaa HT
    exact ⟨hm ht.a, hm ht.r, hm ht.s⟩
   obtain ⟨p', cap', he, -, -, hcc⟩ := Zaa HPS
   injection he with j1 j2 j3
   obtain ⟨sb, so, hpq, hc⟩ := hcc (by omega)
   have c := hc k hk2
   have hsb := World.block_lt_of_cell? w _ c
   simp only at hsb
   have cw : wr.cell? ⟨sb, so + k, none⟩ = some (.int .i64 (ps.getD k 0)) := (World.cell?_of_block (show wr.heap[sb]? = w.heap[sb]? from (hI.low.block sb (by omega)).trans ((Zaa HB).block sb (by omega)))).trans c
   obtain ⟨ap, ac, hav⟩ : ∃ ap ac, av = .slice ap k ac := by
    rcases hI.own.2 with ⟨e, e0⟩ | ⟨g, cap, cur, e, _⟩
    ·
     exact ⟨_, _, by rw [e0]; exact e⟩
    ·
     exact ⟨_, _, e⟩
   subst hav
   have y0 := (Zab hI.row 0).trans rfl
   have hok1 := hok.u
   have hok2 := hok.c0
   have hok3 := hok.c1
   have hok4 := hok.p0
   have hok5 := hok.p1
   have HC := Zac (garg_c T (stA T.ag.length T.br T.pairs ps T.sh k) (b0 + 3) (ps.getD k 0) wr.drew hI.giv (hTk.gb (gb_ofB (Below.refl wr.heap.size wr).drew) (by omega)) hm0 hm8 hok1 (by omega) (by omega) (by omega) (by omega) (by omega))
   have HI := Zac hI
   have HSN := Zac (show stepS T.ag.length T.br T.pairs (ps.getD k 0) (stA T.ag.length T.br T.pairs ps T.sh k) = stA T.ag.length T.br T.pairs ps T.sh (k + 1) from rfl)
   have HSP := Zac (show spotS T.ag T.br T.pairs (ps.getD k 0) (stA T.ag.length T.br T.pairs ps T.sh k) = sptA T.ag T.br T.pairs ps T.sh k from rfl)
   rw [Zaa HSN, Zaa HSP] at HC
   have hwr5 : b0 + 5 ≤ wr.heap.size := by omega
   rw [j1, hpq]
   clear hI hTk hok hok1 hok2 hok3 hok4 hok5 hcc hc c j1 j2 j3 HSN HSP
   generalize hzz : ps.getD k 0 = zz at HC cw
   clear hzz hnk hm0 hm8
   generalize hsp : sptA T.ag T.br T.pairs ps T.sh k = sp at HC
   have HSPE := Zac hsp
   clear hsp
   have HF := Zac (show Calls Tryz.prog 77 #[.pointer (some ⟨b0 + 3, 0, none⟩), .int .i64 zz] wr.drew (fun e w3 => ∃ v, e = .returned v ∧ ∃ pv, v = .agg #[pv, .bool sp.ref, .int .i64 sp.at_] ∧ PlO w3 wr.heap.size pv sp.pl ∧ GivR w3 (b0 + 3) T (stA T.ag.length T.br T.pairs ps T.sh (k + 1)) ∧ wr.drew.grownBy w3 (some (b0 + 3))) from (Zaa HC).mono (by
    rintro e w3 ⟨pv, rfl, h1, h2, h3⟩
    exact ⟨_, rfl, pv, rfl, h1, h2, h3⟩))
   clear HC
   go_wp2_with fail
   go_region_law (first | (refine stepA_l rfl (.tmp 22) (.tmp 26) 82 rfl (b0 + 5) 118 ti _ 3 40 Tryz.underlying82 hti hz0 hz1 hz2 rfl (by decide) (.slice ap k ac) k (spsC pvs ((List.range k).map (sptA T.ag T.br T.pairs ps T.sh))) (by simp [Act.eval]) ((Zaa HOW3).alloc _) ⟨w3.heap.size, 0, none⟩ 1 1 [.slice vp vn vc, .bool sp.ref, .int .i64 sp.at_] (by simp [Act.eval]) rfl (by intro j u hj; match j, hj with | 0, hj => (simp at hj; subst hj; simp [Addr.add]) | 1, hj => (simp at hj; subst hj; simp [Addr.add]) | 2, hj => (simp at hj; subst hj; simp [Addr.add])) (by intro u hu; simp at hu; rcases hu with rfl | rfl | rfl <;> rfl) (by unfold maxLen; omega) (by omega) (by simp; omega) ?_; intro v7 w7 hown7 hgr7; have hr7 := Zaa HR7 w7 hgr7; have j0 := (Zab hr7 0).trans rfl; have g0 := frozen_of_row _ _ 0 _ _ hr7; obtain ⟨gg7, cc7, rfl⟩ := own_sliceL hown7; have HOW7 := Zac hown7; have HGR7 := Zac hgr7; have HROW7 := Zac hr7; clear hown7 hgr7 hr7) | (refine step_callL rfl 77 #[.pointer (some ⟨b0 + 3, 0, none⟩), .int .i64 zz] (by simp [go_sem]) (Zaa HF) ?_; rintro v w3 ⟨pv, rfl, hP3, hG3, hgb3⟩; obtain ⟨vp, vn, vc, rfl⟩ := plo_shape hP3; have hw3 : wr.heap.size ≤ w3.heap.size := hgb3.size; have hr3 := (hgb3.block (b0 + 4) (by show b0 + 4 < wr.heap.size; omega) (by intro e; injection e with e; omega)).trans (Zaa HI).row; have h0 := (Zab hr3 0).trans rfl; have h0a := fun X : Obj => (row_al hr3 0 X).trans rfl; have HOW3 := Zac (own_gb (w := wr.drew) (Zaa HI).own hgb3 (fun g hg e => by injection e with e; have := (World.ownsRow.lt (Zaa HI).own g hg).1; omega)); have HP3 := Zac hP3; have HG3 := Zac hG3; have HGB3 := Zac hgb3; have HR3 := Zac hr3; have HR7 := Zac (fun w7 (hgr : (w3.alloc (.cells #[.slice vp vn vc, .bool sp.ref, .int .i64 sp.at_] 118 (0, 0))).grownBy w7 (Value.slice ap k ac).ownBlock) => (hgr.block (b0 + 4) (by simp; omega) (by intro e; have := (World.ownsRow.lt (Zaa HOW3) (b0 + 4) e.symm).1; omega)).trans (((al0 w3 (.cells #[.slice vp vn vc, .bool sp.ref, .int .i64 sp.at_] 118 (0, 0))).2.1.block (b0 + 4) (by omega)).trans hr3)); clear hP3 hG3 hgb3 hr3))
   all_goals (
    have hx := Zac ((Zaa HI).next hwr5 (Zaa HGB3) (Zaa HG3) (Zaa HP3) (Zaa HSPE) (Zaa HGR7) (Zaa HOW7))
    clear HGR7 HOW7 HROW7 HR7 HR3 HGB3 HG3 HP3 HOW3 h0 h0a HF
    go_wp2
    go_roundw
    case rel => exact ⟨k + 1, _, _, by go_num, by omega, Zaa hx⟩
    case measure => simp [intOf]; omega)
  ·
   obtain rfl : k = ps.length := by omega
   obtain ⟨m, rfl⟩ : ∃ m : Nat, n = m := ⟨n.toNat, by omega⟩
   have hok1 := hok.u
   have hok2 := hok.c0
   have hok3 := hok.c1
   have hTk : TbR wr (b0 + 3) T := by
    have hm : ∀ {v : Value} {ns : List Int}, RsB w b0 v ns → RsB wr (b0 + 3) v ns := fun {v ns} h => by
     rcases h with h | ⟨sb, so, cap, e1, e2, e3⟩
     ·
      exact Or.inl h
     ·
      refine Or.inr ⟨sb, so, cap, e1, by omega, fun i hi => ?_⟩
      have e4 := e3 i hi
      have hl := World.block_lt_of_cell? w _ e4
      simp only at hl
      exact (World.cell?_of_block (show wr.heap[sb]? = w.heap[sb]? from (hI.low.block sb (by omega)).trans ((Zaa HB).block sb (by omega)))).trans e4
    have ht := Zaa HT
    exact ⟨hm ht.a, hm ht.r, hm ht.s⟩
   have HC := Zac (gres_c T (stA T.ag.length T.br T.pairs ps T.sh ps.length) (b0 + 3) m wr hI.giv hTk (by omega) (by omega) (by omega) (by omega))
   obtain ⟨ap, ac, hav⟩ : ∃ ap ac, av = .slice ap ps.length ac := by
    rcases hI.own.2 with ⟨e, e0⟩ | ⟨g, cap, cur, e, _⟩
    ·
     exact ⟨_, _, by rw [e0]; exact e⟩
    ·
     exact ⟨_, _, e⟩
   subst hav
   have s1 := (Zab ((hI.low.block (b0 + 1) (by omega)).trans (Zaa HR1)) 1).trans rfl
   have HI := Zac hI
   have HE := Zac (show layE T.ag T.rs T.br T.pairs T.sh ps m = ⟨(List.range ps.length).map (sptA T.ag T.br T.pairs ps T.sh), (List.range m).map (resS T.rs (stA T.ag.length T.br T.pairs ps T.sh ps.length).c), resC T.rs (stA T.ag.length T.br T.pairs ps T.sh ps.length).c m, (stA T.ag.length T.br T.pairs ps T.sh ps.length).p⟩ from rfl)
   clear hI hTk hok hok1 hok2 hok3
   generalize stA T.ag.length T.br T.pairs ps T.sh ps.length = s9 at HC HE
   go_wp2_with fail
   refine (Zaa HC).mono ?_
   rintro e w2 ⟨v, rfl, hP2, hG2, hgb2⟩
   have hz2 := hgb2.size
   obtain ⟨rp, rn, rc, rfl⟩ := plo_shape hP2
   have hrl := (hgb2.block (b0 + 4) (by omega) (by intro e; injection e with e; omega)).trans (Zaa HI).row
   have hrr := (hgb2.block (b0 + 2) (by omega) (by intro e; injection e with e; omega)).trans (((Zaa HI).low.block (b0 + 2) (by omega)).trans (Zaa HR2))
   have l1 := (Zab hrl 1).trans rfl
   have z1 := frozen_of_row _ _ 1 _ _ hrl
   have hru := heap_setCell_same _ _ 1 _ _ (.slice rp rn rc) hrl
   have hgu := hG2.oth (b := b0 + 4) (j := 1) (v := .slice rp rn rc) (by omega)
   have hru2 := (heap_setCell_other w2 ⟨b0 + 4, 1, none⟩ (b0 + 2) (.slice rp rn rc) (by show b0 + 2 ≠ b0 + 4; omega)).trans hrr
   have hPu := PlO_set (b := b0 + 4) (j := 1) (u := .slice rp rn rc) (PlO_mono hP2 (show b0 + 5 ≤ wr.heap.size by omega)) (by omega)
   have HRU := Zac hru
   have HGU := Zac hgu
   have HRR := Zac hru2
   have HPU := Zac hPu
   have HGB2 := Zac hgb2
   clear hrr hP2 hG2 hgb2 s1 hru hgu hru2 hPu hrl
   go_wp2_with fail
   clear l1 z1
   generalize hUU : w2.setCell _ _ = U at HRU HGU HRR HPU ⊢
   have HUU := Zac hUU
   clear hUU
   have l2 := (Zab (Zaa HRU) 2).trans rfl
   have l3 := (Zab (Zaa HRU) 3).trans rfl
   have z2 := frozen_of_row _ _ 2 _ _ (Zaa HRU)
   have z3 := frozen_of_row _ _ 3 _ _ (Zaa HRU)
   have HK0 := Zac (show U.drew.cell? ⟨b0 + 3, 13, none⟩ = some (.int .i64 (resC T.rs s9.c m)) ∧ U.drew.cell? ⟨b0 + 3, 14, none⟩ = some (.int .i64 s9.p) from ⟨(Zaa HGU).k13, (Zaa HGU).k14⟩)
   have HK1 := Zac (show (U.drew.setCell ⟨b0 + 4, 2, none⟩ (.int .i64 (resC T.rs s9.c m))).cell? ⟨b0 + 3, 13, none⟩ = some (.int .i64 (resC T.rs s9.c m)) ∧ (U.drew.setCell ⟨b0 + 4, 2, none⟩ (.int .i64 (resC T.rs s9.c m))).cell? ⟨b0 + 3, 14, none⟩ = some (.int .i64 s9.p) from ⟨((Zaa HGU).oth (w := U.drew) (b := b0 + 4) (j := 2) (v := .int .i64 (resC T.rs s9.c m)) (by omega)).k13, ((Zaa HGU).oth (w := U.drew) (b := b0 + 4) (j := 2) (v := .int .i64 (resC T.rs s9.c m)) (by omega)).k14⟩)
   have HK2 := Zac (show ((U.drew.setCell ⟨b0 + 4, 2, none⟩ (.int .i64 (resC T.rs s9.c m))).setCell ⟨b0 + 4, 3, none⟩ (.int .i64 s9.p)).cell? ⟨b0 + 3, 13, none⟩ = some (.int .i64 (resC T.rs s9.c m)) ∧ ((U.drew.setCell ⟨b0 + 4, 2, none⟩ (.int .i64 (resC T.rs s9.c m))).setCell ⟨b0 + 4, 3, none⟩ (.int .i64 s9.p)).cell? ⟨b0 + 3, 14, none⟩ = some (.int .i64 s9.p) from ⟨(((Zaa HGU).oth (w := U.drew) (b := b0 + 4) (j := 2) (v := .int .i64 (resC T.rs s9.c m)) (by omega)).oth (b := b0 + 4) (j := 3) (v := .int .i64 s9.p) (by omega)).k13, (((Zaa HGU).oth (w := U.drew) (b := b0 + 4) (j := 2) (v := .int .i64 (resC T.rs s9.c m)) (by omega)).oth (b := b0 + 4) (j := 3) (v := .int .i64 s9.p) (by omega)).k14⟩)
   refine wp_region_held_drew (S := fun V => V.cell? ⟨b0 + 3, 13, none⟩ = some (.int .i64 (resC T.rs s9.c m)) ∧ V.cell? ⟨b0 + 3, 14, none⟩ = some (.int .i64 s9.p)) (by kernel_rfl) (Zaa HK0) (fun hHeld => ?_)
   refine tT 0 ?v0 rfl (by kernel_rfl) (fun _ _ _ h => h) (by rfl) ?hy0 (by assumption) ?_
   case hy0 =>
    intro V hV
    try dsimp only at hV
    go_simp
    all_goals (with_reducible rfl)
   simp only [Act.put, zA, zB, zC, zD, zE]
   refine tT 1 ?v1 rfl (by kernel_rfl) (fun _ _ _ h => h) (by rfl) ?hy1 (by assumption) ?_
   case hy1 =>
    intro V hV
    try dsimp only at hV
    go_simp
    all_goals (with_reducible rfl)
   simp only [Act.put, zA, zB, zC, zD, zE, zF]
   refine tT 2 ?v2 rfl (by kernel_rfl) (fun _ _ _ h => h) (by rfl) ?hy2 (by assumption) ?_
   case hy2 =>
    intro V hV
    try dsimp only at hV
    go_simp
    all_goals (with_reducible rfl)
   simp only [Act.put, zA, zB, zC, zD, zE, zF]
   refine tT 3 ?v3 rfl (by kernel_rfl) (fun _ _ _ h => h) (by rfl) ?hy3 (by assumption) ?_
   case hy3 =>
    intro V hV
    try dsimp only at hV
    go_simp
    all_goals (with_reducible rfl)
   simp only [Act.put, zA, zB, zC, zD, zE, zF]
   refine tT 4 ?v4 rfl (by kernel_rfl) (fun _ _ _ h => h) (by rfl) ?hy4 (by assumption) ?_
   case hy4 =>
    intro V hV
    try dsimp only at hV
    go_simp
    all_goals (with_reducible rfl)
   simp only [Act.put, zA, zB, zC, zD, zE, zF]
   refine tT 5 ?v5 rfl (by kernel_rfl) (fun _ _ _ h => h) (by rfl) ?hy5 (by assumption) ?_
   case hy5 =>
    intro V hV
    try dsimp only at hV
    go_simp
    all_goals (with_reducible rfl)
   simp only [Act.put, zA, zB, zC, zD, zE, zF]
   refine tT 6 ?v6 rfl (by kernel_rfl) (fun _ _ _ h => h) (by rfl) ?hy6 (by assumption) ?_
   case hy6 =>
    intro V hV
    try dsimp only at hV
    go_simp
    all_goals (with_reducible rfl)
   simp only [Act.put, zA, zB, zC, zD, zE, zF]
   refine tT 7 ?v7 rfl (by kernel_rfl) (fun _ _ _ h => h) (by rfl) ?hy7 (by assumption) ?_
   case hy7 =>
    intro V hV
    try dsimp only at hV
    go_simp
    all_goals (with_reducible rfl)
   simp only [Act.put, zA, zB, zC, zD, zE, zF]
   refine tT 8 ?v8 rfl (by kernel_rfl) (fun _ _ _ h => h) (by rfl) ?hy8 (by assumption) ?_
   case hy8 =>
    intro V hV
    try dsimp only at hV
    go_simp
    all_goals (with_reducible rfl)
   simp only [Act.put, zA, zB, zC, zD, zE, zF]
   refine wpAnyH_ready (rs := [9]) (by kernel_rfl) (by simp) ?_
   refine AllReadyH.cons rfl (fun K hK => ?_) AllReadyH.nil
   go_simp
   refine hK.out _ _ (Zaa HK1) (fun hHeld2 => ?_)
   clear hK K
   try simp only [Act.put, zA, zB, zC, zD, zE, zF]
   refine tT 10 ?v10 rfl (by kernel_rfl) (fun _ _ _ h => h) (by rfl) ?hy10 (by assumption) ?_
   case hy10 =>
    intro V hV
    try dsimp only at hV
    go_simp
    all_goals (with_reducible rfl)
   simp only [Act.put, zA, zB, zC, zD, zE, zF]
   refine wpAnyH_ready (rs := [11]) (by kernel_rfl) (by simp) ?_
   refine AllReadyH.cons rfl (fun K hK => ?_) AllReadyH.nil
   go_simp
   refine hK.out _ _ (Zaa HK2) (fun hHeld2 => ?_)
   clear hK K
   try simp only [Act.put, zA, zB, zC, zD, zE, zF]
   refine wpAnyH_done (by kernel_rfl) ?_ _
   have hrz : ((U.setCell ⟨b0 + 1 + 1 + 1 + 1, 2, none⟩ (.int .i64 (resC T.rs s9.c m))).setCell ⟨b0 + 1 + 1 + 1 + 1, 3, none⟩ (.int .i64 s9.p)).drew.heap[b0 + 4]? = some (.cells #[.slice ap ps.length ac, .slice rp rn rc, .int .i64 (resC T.rs s9.c m), .int .i64 s9.p] 85 (0, 0)) := heap_setCell_same _ _ 3 _ _ _ (heap_setCell_same U.drew _ 2 _ _ _ (Zaa HRU))
   have hrq : ((U.setCell ⟨b0 + 1 + 1 + 1 + 1, 2, none⟩ (.int .i64 (resC T.rs s9.c m))).setCell ⟨b0 + 1 + 1 + 1 + 1, 3, none⟩ (.int .i64 s9.p)).drew.heap[b0 + 2]? = _ := (heap_setCell_other (U.drew.setCell ⟨b0 + 4, 2, none⟩ (.int .i64 (resC T.rs s9.c m))) ⟨b0 + 4, 3, none⟩ (b0 + 2) (.int .i64 s9.p) (by show b0 + 2 ≠ b0 + 4; omega)).trans ((heap_setCell_other U.drew ⟨b0 + 4, 2, none⟩ (b0 + 2) (.int .i64 (resC T.rs s9.c m)) (by show b0 + 2 ≠ b0 + 4; omega)).trans (Zaa HRR))
   have hpz : PlO ((U.setCell ⟨b0 + 1 + 1 + 1 + 1, 2, none⟩ (.int .i64 (resC T.rs s9.c m))).setCell ⟨b0 + 1 + 1 + 1 + 1, 3, none⟩ (.int .i64 s9.p)).drew (b0 + 5) _ _ := PlO_set (b := b0 + 4) (j := 3) (u := .int .i64 s9.p) (PlO_set (w := U.drew) (b := b0 + 4) (j := 2) (u := .int .i64 (resC T.rs s9.c m)) (Zaa HPU) (by omega)) (by omega)
   have hbz : ∀ q, q ≠ b0 + 3 → q ≠ b0 + 4 → q < wr.heap.size → ((U.setCell ⟨b0 + 1 + 1 + 1 + 1, 2, none⟩ (.int .i64 (resC T.rs s9.c m))).setCell ⟨b0 + 1 + 1 + 1 + 1, 3, none⟩ (.int .i64 s9.p)).drew.heap[q]? = wr.heap[q]? := fun q h1 h2 h3 => by
    have e := Zaa HUU
    subst e
    exact (heap_setCell_other ((w2.setCell ⟨b0 + 4, 1, none⟩ (.slice rp rn rc)).setCell ⟨b0 + 4, 2, none⟩ (.int .i64 (resC T.rs s9.c m))) ⟨b0 + 4, 3, none⟩ q (.int .i64 s9.p) h2).trans ((heap_setCell_other (w2.setCell ⟨b0 + 4, 1, none⟩ (.slice rp rn rc)) ⟨b0 + 4, 2, none⟩ q _ h2).trans ((heap_setCell_other w2 ⟨b0 + 4, 1, none⟩ q _ h2).trans ((Zaa HGB2).block q h3 (by intro e; injection e with e; omega))))
   have hoz : ((U.setCell ⟨b0 + 1 + 1 + 1 + 1, 2, none⟩ (.int .i64 (resC T.rs s9.c m))).setCell ⟨b0 + 1 + 1 + 1 + 1, 3, none⟩ (.int .i64 s9.p)).drew.os = wr.os ∧ ((U.setCell ⟨b0 + 1 + 1 + 1 + 1, 2, none⟩ (.int .i64 (resC T.rs s9.c m))).setCell ⟨b0 + 1 + 1 + 1 + 1, 3, none⟩ (.int .i64 s9.p)).drew.tape = wr.tape ∧ ((U.setCell ⟨b0 + 1 + 1 + 1 + 1, 2, none⟩ (.int .i64 (resC T.rs s9.c m))).setCell ⟨b0 + 1 + 1 + 1 + 1, 3, none⟩ (.int .i64 s9.p)).drew.output = wr.output ∧ ((U.setCell ⟨b0 + 1 + 1 + 1 + 1, 2, none⟩ (.int .i64 (resC T.rs s9.c m))).setCell ⟨b0 + 1 + 1 + 1 + 1, 3, none⟩ (.int .i64 s9.p)).drew.heap.size = w2.heap.size := by
    have e := Zaa HUU
    subst e
    exact ⟨(Zaa HGB2).os, (Zaa HGB2).tape, (Zaa HGB2).output, by simp⟩
   clear l2 l3 z2 z3 HK0 HK1 HK2
   generalize ((U.setCell ⟨b0 + 1 + 1 + 1 + 1, 2, none⟩ (.int .i64 (resC T.rs s9.c m))).setCell ⟨b0 + 1 + 1 + 1 + 1, 3, none⟩ (.int .i64 s9.p)).drew = Z at hrz hrq hpz hbz hoz ⊢
   have y0 := (Zab hrz 0).trans rfl
   have y1 := (Zab hrz 1).trans rfl
   have y2 := (Zab hrz 2).trans rfl
   have y3 := (Zab hrz 3).trans rfl
   have HRQ := Zac hrq
   have HPZ := Zac hpz
   have HBZ := Zac hbz
   have HOZ := Zac hoz
   clear hrz hrq hpz hbz hoz
   go_wp2_with (refine wpList_store_row rfl 85 _ _ rfl (b0 + 2) #[.slice ap ps.length ac, .slice rp rn rc, .int .i64 (resC T.rs s9.c m), .int .i64 s9.p] rfl rfl 85 _ (Zaa HRQ) (Tryz.infLyK.trans rfl) rfl (by simp [Value.oneCell']) ?_)
   refine bodyPost_ret (resultsK (fn := Tryz.f67) (q := 4) (uy := 85) rfl _ _ (b0 + 2) 85 #[.slice ap ps.length ac, .slice rp rn rc, .int .i64 (resC T.rs s9.c m), .int .i64 s9.p] (0, 0) _ rfl (setRow_heap _ _ _ _ _ _ (Zaa HRQ)) Tryz.underlying85 rfl (Tryz.infLyK.trans rfl)) rfl ?_
   have hI := Zaa HI
   have hob := Zaa HOZ
   have hzz := (Zaa HGB2).size
   rw [hb0, Zaa HE]
   have hown : ∀ {e : TypeId} {size n : Nat} {v : Value} {xs : List Value}, wr.ownsRow (b0 + 5) e size v n xs → (Z.setRow (b0 + 2) #[.slice ap ps.length ac, .slice rp rn rc, .int .i64 (resC T.rs s9.c m), .int .i64 s9.p]).ownsRow b0 e size v n xs := fun {e size n v xs} h => by
    obtain ⟨h1, h2 | ⟨g, cap, cur, e1, e2, e3, e4⟩⟩ := h
    ·
     exact ⟨h1, Or.inl h2⟩
    ·
     exact ⟨h1, Or.inr ⟨g, cap, cur, e1, by omega, (setRow_other _ _ _ _ (by omega)).trans ((Zaa HBZ g (by omega) (by omega) (row_lt e3)).trans e3), e4⟩⟩
   refine ⟨_, _, pvs, rfl, ⟨by simp [hI.len], ?_, fun j hj => ?_, ?_⟩, ?_⟩
   ·
    have h := hown hI.own
    simpa using h
   ·
    have hj2 : j < ps.length := by simpa using hj
    have h := hown (hI.each j hj2)
    have e : ((List.range ps.length).map (sptA T.ag T.br T.pairs ps T.sh)).getD j noSpt = sptA T.ag T.br T.pairs ps T.sh j := by simp [List.getD, hj2]
    show PlO _ b0 (pvs.getD j undef) (((List.range ps.length).map (sptA T.ag T.br T.pairs ps T.sh)).getD j noSpt).pl
    rw [e]
    exact h
   ·
    exact PlO_row (Zaa HPZ) (by omega) (by omega)
   ·
    refine ⟨?_, ?_, ?_, ?_, fun q hq => ?_⟩
    ·
     exact hob.1.trans (hI.low.os.trans (Zaa HB).os)
    ·
     exact hob.2.1.trans (hI.low.tape.trans (Zaa HB).tape)
    ·
     exact hob.2.2.1.trans (hI.low.output.trans (Zaa HB).output)
    ·
     have h : (Z.setRow (b0 + 2) #[.slice ap ps.length ac, .slice rp rn rc, .int .i64 (resC T.rs s9.c m), .int .i64 s9.p]).heap.size = Z.heap.size := by simp [World.setRow]
     have := hob.2.2.2
     omega
    ·
     exact (setRow_other _ _ _ _ (by omega)).trans ((Zaa HBZ q (by omega) (by omega) (by omega)).trans ((hI.low.block q (by omega)).trans ((Zaa HB).block q hq)))
end Go.Proofs.YtffemeicclhioaaGreatDoor

