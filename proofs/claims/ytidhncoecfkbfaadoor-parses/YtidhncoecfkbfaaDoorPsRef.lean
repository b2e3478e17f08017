/-
  Parses: prologueref.Parse by its contract. Own work of the verifier.
-/
import Derived.Test.YtidhncoecfkbfaaDoorPsRefP
import Derived.Test.YtidhncoecfkbfaaDoorPsPlP
import Derived.Deep.CutRange
import Derived.BigQuiet
import Derived.Deep.QuietTactic
import Derived.WalkSmall
namespace Go.Proofs.YtidhncoecfkbfaaDoor
open Go.RowKit

theorem RL.idx {w W wr : World} {eb gb : Nat} {S : RSt} {vs : Nat → Value} (h : RL w W wr eb gb S vs) (i : Nat) : RL w W wr eb gb ⟨i, S.sn, S.vals⟩ vs := ⟨h.keep, h.low, h.size, h.sns, h.got, h.sfz, h.gfz, h.row, h.new⟩
theorem Tryd.infRF : (Tryd.prog.info? 29).map (·.size) = some 4 := by kernel_rfl
set_option maxHeartbeats 1000000 in
theorem placed_c (n p : Int) (w : World) : Calls Tryd.prog 30 #[.int .i64 n, .int .i64 p] w fun e w' => e = .returned (flt n (-1) (-1) p) ∧ Below w.heap.size w w' := by
  go_enter Tryd.func30, Tryd.ntmps30
  go_wp2
  go_returns
  exact ⟨rfl, by go_grown⟩
set_option maxHeartbeats 1000000 in
theorem fine_c (w : World) : Calls Tryd.prog 34 #[] w fun e w' => e = .returned (flt 0 (-1) (-1) (-1)) ∧ Below w.heap.size w w' := by
  go_enter Tryd.func34, Tryd.ntmps34
  go_wp2
  go_returns
  exact ⟨rfl, by go_grown⟩
set_option maxHeartbeats 2000000 in
theorem words_two (w : World) : Calls Tryd.prog 32 #[] w fun e w' => ∃ b c, e = .returned (.tuple #[.slice (some ⟨b, 0, none⟩) 11 11, .slice (some ⟨c, 0, none⟩) 11 11]) ∧ (∀ k, k < 11 → w'.cell? ⟨b, k, none⟩ = some (.string ⟨(nm k).toArray⟩)) ∧ (∀ k, k < 11 → w'.cell? ⟨c, k * 2, none⟩ = some (.int .i64 (loK k)) ∧ w'.cell? ⟨c, k * 2 + 1, none⟩ = some (.int .i64 (hiK k))) ∧ w.heap.size ≤ b ∧ w.heap.size ≤ c ∧ Below w.heap.size w w' := by
  go_enter Tryd.func32, Tryd.ntmps32
  go_wp2
  go_ret2
  refine ⟨_, _, rfl, fun k hk => ?_, fun k hk => ?_, Nat.le_refl _, by simp, by go_grown⟩
  · rw [World.cell?_alloc_lt _ _ ⟨w.heap.size, k, none⟩ (by simp), World.cell?_alloc_at _ _ _ _ rfl]
    match k, hk with
    | 0, _ | 1, _ | 2, _ | 3, _ | 4, _ | 5, _ | 6, _ | 7, _ | 8, _ | 9, _ | 10, _ => rfl
  · rw [World.cell?_alloc_at _ _ _ _ (by simp), World.cell?_alloc_at _ _ _ _ (by simp)]
    match k, hk with
    | 0, _ | 1, _ | 2, _ | 3, _ | 4, _ | 5, _ | 6, _ | 7, _ | 8, _ | 9, _ | 10, _ => exact ⟨rfl, rfl⟩
theorem mk_got (W : World) : (Instr.makeSlice 84 (.int .i64 11) (.int .i64 11)).run Tryd.prog W = .ok (.slice (some ⟨W.heap.size, 0, none⟩) 11 11) (W.alloc (.cells #[.slice none 0 0, .slice none 0 0, .slice none 0 0, .slice none 0 0, .slice none 0 0, .slice none 0 0, .slice none 0 0, .slice none 0 0, .slice none 0 0, .slice none 0 0, .slice none 0 0] 43)) := by kernel_rfl
theorem mk_seen (W : World) : (Instr.makeSlice 85 (.int .i64 11) (.int .i64 11)).run Tryd.prog W = .ok (.slice (some ⟨W.heap.size, 0, none⟩) 11 11) (W.alloc (.cells #[.bool false, .bool false, .bool false, .bool false, .bool false, .bool false, .bool false, .bool false, .bool false, .bool false, .bool false] 4)) := by kernel_rfl
/-- What prologueref.Parse leaves. -/
def RParsed (s : ByteArray) (w : World) (e : Ending) (w' : World) : Prop :=
  Below w.heap.size w w' ∧ match parseF s with
    | .inl (n, p) => e = .returned (.tuple #[zeroT, flt n (-1) (-1) p])
    | .inr S => ∃ v4 v5 v6, e = .returned (.tuple #[tabV S v4 v5 v6, flt 0 (-1) (-1) (-1)]) ∧ w'.ownsRow w.heap.size 3 1 v4 (S.vals 4).length (iCells (S.vals 4)) ∧ w'.ownsRow w.heap.size 3 1 v5 (S.vals 5).length (iCells (S.vals 5)) ∧ w'.ownsRow w.heap.size 3 1 v6 (S.vals 6).length (iCells (S.vals 6))
/-- What holds of the worlds while the last region runs: all but the two results stands as it stood. -/
structure HFS (W : World) (T N : Nat) (u : World) : Prop where
  size : N ≤ u.heap.size
  same : ∀ q, q < N → q ≠ T → q ≠ T + 1 → u.heap[q]? = W.heap[q]?
  b0 : ∃ cs, cs.size = 12 ∧ u.heap[T]? = some (.cells cs 45 (0, 0))
  b1 : ∃ cs, cs.size = 4 ∧ u.heap[T + 1]? = some (.cells cs 29 (0, 0))
  os : u.os = W.os
  tape : u.tape = W.tape
  output : u.output = W.output
structure FR (W : World) (T N : Nat) (arr fv : Array Value) (u u' : World) : Prop where
  s : HFS W T N u'
  r0 : u'.heap[T]? = u.heap[T]? ∨ u'.heap[T]? = some (.cells arr 45 (0, 0))
  r1 : u'.heap[T + 1]? = u.heap[T + 1]? ∨ u'.heap[T + 1]? = some (.cells fv 29 (0, 0))
theorem HFS.same_refl {W : World} {T N : Nat} {arr fv : Array Value} {u : World} (h : HFS W T N u) : FR W T N arr fv u u := ⟨h, Or.inl rfl, Or.inl rfl⟩
def OkF (g0 n0 p0 g1 n1 p1 g2 n2 p2 g3 n3 p3 g7 n7 p7 g8 n8 p8 g9 n9 p9 : Nat) (x0 x1 x2 x3 y3 x7 x8 x9 : Int) (a4 a5 a6 : Option Addr) (n4 p4 n5 p5 n6 p6 : Nat) (T gb : Nat) (pr : Bool) (i : Nat) (v : Value) (w : World) : Prop :=
  match i with
  | 0 => v = .slice (some ⟨gb, 0, none⟩) 11 11
  | 1 => v = .pointer (some ⟨gb, 0, none⟩)
  | 2 => v = .slice (some ⟨g0, 0, none⟩) (n0 + 1) p0
  | 3 => v = .pointer (some ⟨g0, 0, none⟩)
  | 4 => v = .int .i64 x0
  | 5 => v = .slice (some ⟨gb, 0, none⟩) 11 11
  | 6 => v = .pointer (some ⟨gb, 1, none⟩)
  | 7 => v = .slice (some ⟨g1, 0, none⟩) (n1 + 1) p1
  | 8 => v = .pointer (some ⟨g1, 0, none⟩)
  | 9 => v = .int .i64 x1
  | 10 => v = .slice (some ⟨gb, 0, none⟩) 11 11
  | 11 => v = .pointer (some ⟨gb, 2, none⟩)
  | 12 => v = .slice (some ⟨g2, 0, none⟩) (n2 + 1) p2
  | 13 => v = .pointer (some ⟨g2, 0, none⟩)
  | 14 => v = .int .i64 x2
  | 15 => v = .slice (some ⟨gb, 0, none⟩) 11 11
  | 16 => v = .pointer (some ⟨gb, 3, none⟩)
  | 17 => v = .slice (some ⟨g3, 0, none⟩) (n3 + 2) p3
  | 18 => v = .pointer (some ⟨g3, 0, none⟩)
  | 19 => v = .int .i64 x3
  | 20 => v = .slice (some ⟨gb, 0, none⟩) 11 11
  | 21 => v = .pointer (some ⟨gb, 3, none⟩)
  | 22 => v = .slice (some ⟨g3, 0, none⟩) (n3 + 2) p3
  | 23 => v = .pointer (some ⟨g3, 1, none⟩)
  | 24 => v = .int .i64 y3
  | 25 => v = .agg #[.int .i64 x3, .int .i64 y3]
  | 26 => v = .slice (some ⟨gb, 0, none⟩) 11 11
  | 27 => v = .pointer (some ⟨gb, 4, none⟩)
  | 28 => v = .slice a4 n4 p4
  | 29 => v = .slice (some ⟨gb, 0, none⟩) 11 11
  | 30 => v = .pointer (some ⟨gb, 5, none⟩)
  | 31 => v = .slice a5 n5 p5
  | 32 => v = .slice (some ⟨gb, 0, none⟩) 11 11
  | 33 => v = .pointer (some ⟨gb, 6, none⟩)
  | 34 => v = .slice a6 n6 p6
  | 35 => v = .slice (some ⟨gb, 0, none⟩) 11 11
  | 36 => v = .pointer (some ⟨gb, 7, none⟩)
  | 37 => v = .slice (some ⟨g7, 0, none⟩) (n7 + 1) p7
  | 38 => v = .pointer (some ⟨g7, 0, none⟩)
  | 39 => v = .int .i64 x7
  | 40 => v = .slice (some ⟨gb, 0, none⟩) 11 11
  | 41 => v = .pointer (some ⟨gb, 8, none⟩)
  | 42 => v = .slice (some ⟨g8, 0, none⟩) (n8 + 1) p8
  | 43 => v = .pointer (some ⟨g8, 0, none⟩)
  | 44 => v = .int .i64 x8
  | 45 => v = .slice (some ⟨gb, 0, none⟩) 11 11
  | 46 => v = .pointer (some ⟨gb, 9, none⟩)
  | 47 => v = .slice (some ⟨g9, 0, none⟩) (n9 + 1) p9
  | 48 => v = .pointer (some ⟨g9, 0, none⟩)
  | 49 => v = .int .i64 x9
  | 50 => v = .slice (some ⟨gb + 1, 0, none⟩) 11 11
  | 51 => v = .pointer (some ⟨gb + 1, 10, none⟩)
  | 52 => v = .bool pr
  | 53 => v = .agg #[.int .i64 x0, .int .i64 x1, .int .i64 x2, .int .i64 x3, .int .i64 y3, .slice a4 n4 p4, .slice a5 n5 p5, .slice a6 n6 p6, .int .i64 x7, .int .i64 x8, .int .i64 x9, .bool pr]
  | 54 => v = .agg #[.int .i64 0, .int .i64 (-1), .int .i64 (-1), .int .i64 (-1)]
  | 55 => w.heap[T]? = some (.cells #[.int .i64 x0, .int .i64 x1, .int .i64 x2, .int .i64 x3, .int .i64 y3, .slice a4 n4 p4, .slice a5 n5 p5, .slice a6 n6 p6, .int .i64 x7, .int .i64 x8, .int .i64 x9, .bool pr] 45 (0, 0))
  | 56 => w.heap[T + 1]? = some (.cells #[.int .i64 0, .int .i64 (-1), .int .i64 (-1), .int .i64 (-1)] 29 (0, 0))
  | _ => True
theorem OkF.stab (g0 n0 p0 g1 n1 p1 g2 n2 p2 g3 n3 p3 g7 n7 p7 g8 n8 p8 g9 n9 p9 : Nat) (x0 x1 x2 x3 y3 x7 x8 x9 : Int) (a4 a5 a6 : Option Addr) (n4 p4 n5 p5 n6 p6 : Nat) (W : World) (T N gb : Nat) (pr : Bool) (i : Nat) (v : Value) (u u' : World) (h : OkF g0 n0 p0 g1 n1 p1 g2 n2 p2 g3 n3 p3 g7 n7 p7 g8 n8 p8 g9 n9 p9 x0 x1 x2 x3 y3 x7 x8 x9 a4 a5 a6 n4 p4 n5 p5 n6 p6 T gb pr i v u) (hr : FR W T N #[.int .i64 x0, .int .i64 x1, .int .i64 x2, .int .i64 x3, .int .i64 y3, .slice a4 n4 p4, .slice a5 n5 p5, .slice a6 n6 p6, .int .i64 x7, .int .i64 x8, .int .i64 x9, .bool pr] #[.int .i64 0, .int .i64 (-1), .int .i64 (-1), .int .i64 (-1)] u u') : OkF g0 n0 p0 g1 n1 p1 g2 n2 p2 g3 n3 p3 g7 n7 p7 g8 n8 p8 g9 n9 p9 x0 x1 x2 x3 y3 x7 x8 x9 a4 a5 a6 n4 p4 n5 p5 n6 p6 T gb pr i v u' := by
  unfold OkF at *
  split at h <;> first | exact h | exact hr.r0.elim (fun e => e.trans h) id | exact hr.r1.elim (fun e => e.trans h) id
set_option maxHeartbeats 8000000 in
set_option maxRecDepth 100000 in
theorem rparse_c (s : ByteArray) (w : World) : Calls Tryd.prog 15 #[.string s] w (RParsed s w) := by
  obtain ⟨ti, hti, hz0, hz1, hz2⟩ := info_partsP Tryd.infoI
  by_cases h4 : 400 < s.size
  · have hF : parseF s = .inl (4, 0) := by unfold parseF; rw [if_pos h4]
    go_enter Tryd.func15, Tryd.ntmps15
    go_wp2_with fail
    have HBL := hideQ (((Below.refl w.heap.size w).alloc (Nat.le_refl _) (.cells #[.int .i64 0, .int .i64 0, .int .i64 0, .int .i64 0, .int .i64 0, .slice none 0 0, .slice none 0 0, .slice none 0 0, .int .i64 0, .int .i64 0, .int .i64 0, .bool false] 45 (0, 0))).alloc (by simp) (.cells #[.int .i64 0, .int .i64 0, .int .i64 0, .int .i64 0] 29 (0, 0)))
    have HR0 := hideQ ((al_old (w.alloc (.cells #[.int .i64 0, .int .i64 0, .int .i64 0, .int .i64 0, .int .i64 0, .slice none 0 0, .slice none 0 0, .slice none 0 0, .int .i64 0, .int .i64 0, .int .i64 0, .bool false] 45 (0, 0))) (.cells #[.int .i64 0, .int .i64 0, .int .i64 0, .int .i64 0] 29 (0, 0)) w.heap.size (by simp)).trans (heap_alloc_new w _))
    have HR1 := hideQ (heap_alloc2_new w (.cells #[.int .i64 0, .int .i64 0, .int .i64 0, .int .i64 0, .int .i64 0, .slice none 0 0, .slice none 0 0, .slice none 0 0, .int .i64 0, .int .i64 0, .int .i64 0, .bool false] 45 (0, 0)) (.cells #[.int .i64 0, .int .i64 0, .int .i64 0, .int .i64 0] 29 (0, 0)))
    refine (placed_c 4 0 _).mono ?_
    rintro e wB ⟨rfl, hbB⟩
    have HZ0 := hideQ ((hbB.block w.heap.size (by simp; try omega)).trans (unhideQ HR0))
    have HZ1 := hideQ ((hbB.block (w.heap.size + 1) (by simp; try omega)).trans (unhideQ HR1))
    have HZB := hideQ ((unhideQ HBL).trans (hbB.mono (by simp; try omega)))
    clear hbB
    go_wp2_with (first | (refine wpList_store_row rfl 45 (.tmp 2) (.tmp 20) rfl w.heap.size #[.int .i64 0, .int .i64 0, .int .i64 0, .int .i64 0, .int .i64 0, .slice none 0 0, .slice none 0 0, .slice none 0 0, .int .i64 0, .int .i64 0, .int .i64 0, .bool false] rfl rfl 45 _ (unhideQ HZ0) Tryd.infTab rfl (by simp [Value.oneCell']) ?_) | (refine wpList_store_row rfl 29 (.tmp 3) (.tmp 21) rfl (w.heap.size + 1) _ rfl rfl 29 _ ((setRow_other _ _ _ _ (by omega)).trans (unhideQ HZ1)) Tryd.infRF rfl (by simp [Value.oneCell']) ?_))
    refine bodyPost_ret (results_row_row (fn := Tryd.f15) (p := 2) (q := 3) (ty := 45) (uy := 29) rfl _ _ w.heap.size 45 #[.int .i64 0, .int .i64 0, .int .i64 0, .int .i64 0, .int .i64 0, .slice none 0 0, .slice none 0 0, .slice none 0 0, .int .i64 0, .int .i64 0, .int .i64 0, .bool false] (0, 0) _ rfl ((setRow_other _ _ _ _ (by omega)).trans (setRow_heap _ _ _ _ _ _ (unhideQ HZ0))) Tryd.underlying45 rfl Tryd.infTab (w.heap.size + 1) 29 #[.int .i64 4, .int .i64 (-1), .int .i64 (-1), .int .i64 0] (0, 0) _ rfl (setRow_heap _ _ _ _ _ _ ((setRow_other _ _ _ _ (by omega)).trans (unhideQ HZ1))) Tryd.underlying29 rfl Tryd.infRF) rfl ?_
    unfold RParsed
    rw [hF]
    exact ⟨below_setRow (below_setRow (unhideQ HZB) (Nat.le_refl _) _) (by omega) _, rfl⟩
  · go_enter Tryd.func15, Tryd.ntmps15
    go_wp2_with fail
    refine (tokens_c s _ (by omega)).mono ?_
    rintro e w1 ⟨v, r, rfl, hb1, hm⟩
    have hs1 := hb1.size
    simp only [World.size_alloc] at hs1
    have HBL := hideQ ((((Below.refl w.heap.size w).alloc (Nat.le_refl _) _).alloc (by simp) _).trans (hb1.mono (by simp; try omega)))
    have HR0 := hideQ ((hb1.block w.heap.size (by simp; try omega)).trans ((al_old _ _ _ (by simp)).trans (heap_alloc_new w _)))
    have HR1 := hideQ ((hb1.block (w.heap.size + 1) (by simp)).trans (heap_alloc2_new w _ _))
    clear hb1
    cases hc : cutF s s.size 0 false [] with
    | inl p =>
      rw [hc] at hm
      simp only at hm
      subst hm
      have hF : parseF s = .inl (1, p) := by unfold parseF; rw [if_neg h4, hc]
      go_wp2_with fail
      refine (placed_c 1 p _).mono ?_
      rintro e wB ⟨rfl, hbB⟩
      have HZ0 := hideQ ((hbB.block w.heap.size (by omega)).trans (unhideQ HR0))
      have HZ1 := hideQ ((hbB.block (w.heap.size + 1) (by omega)).trans (unhideQ HR1))
      have HZB := hideQ ((unhideQ HBL).trans (hbB.mono (by omega)))
      clear hbB
      go_wp2_with (first | (refine wpList_store_row rfl 45 (.tmp 2) (.tmp 29) rfl w.heap.size #[.int .i64 0, .int .i64 0, .int .i64 0, .int .i64 0, .int .i64 0, .slice none 0 0, .slice none 0 0, .slice none 0 0, .int .i64 0, .int .i64 0, .int .i64 0, .bool false] rfl rfl 45 _ (unhideQ HZ0) Tryd.infTab rfl (by simp [Value.oneCell']) ?_) | (refine wpList_store_row rfl 29 (.tmp 3) (.tmp 31) rfl (w.heap.size + 1) _ rfl rfl 29 _ ((setRow_other _ _ _ _ (by omega)).trans (unhideQ HZ1)) Tryd.infRF rfl (by simp [Value.oneCell']) ?_))
      refine bodyPost_ret (results_row_row (fn := Tryd.f15) (p := 2) (q := 3) (ty := 45) (uy := 29) rfl _ _ w.heap.size 45 #[.int .i64 0, .int .i64 0, .int .i64 0, .int .i64 0, .int .i64 0, .slice none 0 0, .slice none 0 0, .slice none 0 0, .int .i64 0, .int .i64 0, .int .i64 0, .bool false] (0, 0) _ rfl ((setRow_other _ _ _ _ (by omega)).trans (setRow_heap _ _ _ _ _ _ (unhideQ HZ0))) Tryd.underlying45 rfl Tryd.infTab (w.heap.size + 1) 29 #[.int .i64 1, .int .i64 (-1), .int .i64 (-1), .int .i64 p] (0, 0) _ rfl (setRow_heap _ _ _ _ _ _ ((setRow_other _ _ _ _ (by omega)).trans (unhideQ HZ1))) Tryd.underlying29 rfl Tryd.infRF) rfl ?_
      unfold RParsed
      rw [hF]
      exact ⟨below_setRow (below_setRow (unhideQ HZB) (Nat.le_refl _) _) (by omega) _, rfl⟩
    | inr l =>
      rw [hc] at hm
      simp only at hm
      obtain ⟨rfl, hl, hown⟩ := hm
      have hF : parseF s = parseL s l := by unfold parseF; rw [if_neg h4, hc]
      obtain ⟨hw, hl2⟩ := cut_wf hc
      obtain ⟨tb, tcap, rfl⟩ : ∃ g cap, v = .slice (some ⟨g, 0, none⟩) (l.length + 1) cap := by
        rcases hown.2 with ⟨e, e0⟩ | ⟨g, cap, cur, e, -⟩
        · omega
        · exact ⟨g, cap, e⟩
      have htb := hown.lt tb rfl
      simp only [World.size_alloc] at htb
      have HOW := hideQ hown
      have HW := hideQ hw
      clear hown hw hc
      go_wp2_with fail
      refine (words_two _).mono ?_
      rintro e w2 ⟨nb, cb, rfl, hnm, hct, hnb, hcb, hb2⟩
      have hs2 := hb2.size
      have hnb2 := World.block_lt_of_cell? w2 _ (hnm 0 (by decide))
      have hcb2 := World.block_lt_of_cell? w2 _ (hct 0 (by decide)).1
      simp only at hnb2 hcb2
      have HBL2 := hideQ ((unhideQ HBL).trans (hb2.mono (by omega)))
      have HR02 := hideQ ((hb2.block w.heap.size (by omega)).trans (unhideQ HR0))
      have HR12 := hideQ ((hb2.block (w.heap.size + 1) (by omega)).trans (unhideQ HR1))
      have HTB := hideQ (hb2.block tb htb.2)
      have HNM := hideQ hnm
      have HCT := hideQ hct
      clear hnm hct hb2 HBL HR0 HR1
      have mg := mk_got
      have ms := mk_seen
      go_wp2_with fail
      clear mg ms
      generalize hWW : (World.alloc (World.alloc w2 _) _) = W
      have hWz : W.heap.size = w2.heap.size + 2 := by rw [← hWW]; simp
      have hWlow : Below w2.heap.size w2 W := by rw [← hWW]; exact ((Below.refl _ _).alloc (Nat.le_refl _) _).alloc (by simp) _
      have bg : W.heap[w2.heap.size]? = some (.cells #[.slice none 0 0, .slice none 0 0, .slice none 0 0, .slice none 0 0, .slice none 0 0, .slice none 0 0, .slice none 0 0, .slice none 0 0, .slice none 0 0, .slice none 0 0, .slice none 0 0] 43 (0, 0)) := by rw [← hWW]; exact (al_old _ _ _ (by simp)).trans (heap_alloc_new w2 _)
      have be : W.heap[w2.heap.size + 1]? = some (.cells #[.bool false, .bool false, .bool false, .bool false, .bool false, .bool false, .bool false, .bool false, .bool false, .bool false, .bool false] 4 (0, 0)) := by rw [← hWW]; exact heap_alloc2_new w2 _ _
      have HRW := hideQ (show RW s l w W tb nb cb (w2.heap.size + 1) w2.heap.size from
        ⟨fun i hi => by
            have e : W.heap[tb]? = w1.heap[tb]? := (hWlow.block tb (by omega)).trans (unhideQ HTB)
            have t := tok_cells (unhideQ HOW) i hi
            exact ⟨(World.cell?_of_block e).trans t.1, (World.cell?_of_block e).trans t.2.1, (World.cell?_of_block e).trans t.2.2⟩,
          fun k hk => (World.cell?_of_block (hWlow.block nb (by omega))).trans (unhideQ HNM k hk),
          fun k hk => ⟨(World.cell?_of_block (hWlow.block cb (by omega))).trans (unhideQ HCT k hk).1, (World.cell?_of_block (hWlow.block cb (by omega))).trans (unhideQ HCT k hk).2⟩,
          by omega, (hWlow.block _ (by omega)).trans (unhideQ HR02), (hWlow.block _ (by omega)).trans (unhideQ HR12)⟩)
      have HRL := hideQ (show RL w W W (w2.heap.size + 1) w2.heap.size S00 (fun _ => .slice none 0 0) from
        ⟨fun _ _ _ _ => rfl, (unhideQ HBL2).trans (hWlow.mono (by omega)), Nat.le_refl _,
          fun k hk => by
            rw [(cells_of be).1]
            match k, hk with
            | 0, _ | 1, _ | 2, _ | 3, _ | 4, _ | 5, _ | 6, _ | 7, _ | 8, _ | 9, _ | 10, _ => rfl,
          fun k hk => by
            rw [(cells_of bg).1]
            match k, hk with
            | 0, _ | 1, _ | 2, _ | 3, _ | 4, _ | 5, _ | 6, _ | 7, _ | 8, _ | 9, _ | 10, _ => rfl,
          (cells_of be).2, (cells_of bg).2, fun k _ => World.ownsRow_nil _ _ _ _, fun _ _ _ => rfl⟩)
      clear hWW bg be hWlow HBL2 HR02 HR12 HTB HNM HCT HOW
      generalize hgb : w2.heap.size = gb at *
      go_loopw [10] (fun i wr => ∃ S vs f, i = .int .i64 (S.i : Nat) ∧ RL w W wr (gb + 1) gb S vs ∧ itemsF s l f S = itemsF s l l.length S00 ∧ l.length ≤ S.i + f ∧ S.i ≤ l.length) (fun i _ => l.length - (intOf i).toNat)
      case atStart => exact ⟨S00, _, l.length, rfl, unhideQ HRL, rfl, by simp [S00], by simp [S00]⟩
      case round =>
        obtain ⟨S, vs, f, rfl, hR, hE, hf, hfit⟩ := hrel
        have hne := (unhideQ HRW).ne
        have tk0 := hR.tk (unhideQ HRW) S.i hfit
        have ck := tk0.1
        have ca := tk0.2.2
        have HR := hideQ hR
        have HE := hideQ hE
        have HTX := hideQ tk0.2.1
        have hres := hR.res (unhideQ HRW)
        have HR0 := hideQ hres.1
        have HR1 := hideQ hres.2
        have HBL := hideQ hR.low
        have hsz := hR.size
        clear hR hE tk0 hres
        rcases kAt_cases (unhideQ HW) S.i with ⟨k0, kb0, hge⟩ | ⟨k3, kb3, hlt⟩ | hoth
        · -- the end
          rw [kb0] at ck
          go_wp2_with fail
          have hSi : S.i = l.length := by omega
          have hit2 : itemsF s l l.length S00 = (true, S) := by
            rw [← unhideQ HE]
            cases f <;> simp [itemsF, show ¬ S.i < l.length by omega]
          have HIT := hideQ hit2
          clear hit2
          go_loopw [16] (fun j wr' => ∃ k : Nat, j = .int .i64 k ∧ k ≤ 10 ∧ wr' = wr ∧ ∀ q, q < k → S.sn q = true) (fun j _ => 10 - (intOf j).toNat)
          case atStart => exact ⟨0, rfl, by omega, rfl, fun q hq => by omega⟩
          case round =>
            obtain ⟨k, rfl, hk, rfl, hall⟩ := hrel
            by_cases hk2 : k < 10
            · have cs := (unhideQ HR).sns k (by omega)
              cases hsn : S.sn k with
              | true =>
                rw [hsn] at cs
                have HAL := hideQ hall
                clear hall
                go_wp2
                go_roundw
                case rel => exact ⟨k + 1, by go_num, by omega, trivial, fun q hq => by
                  rcases Nat.lt_succ_iff_lt_or_eq.1 hq with h | h
                  · exact unhideQ HAL q h
                  · subst h; exact hsn⟩
                case measure => simp [intOf]; omega
              | false =>
                rw [hsn] at cs
                have hfin : parseF s = .inl (1, s.size) := by
                  rw [hF]
                  unfold parseL
                  rw [unhideQ HIT]
                  have hno : allB S.sn = false := by
                    unfold allB
                    rw [List.all_eq_false]
                    exact ⟨k, List.mem_range.2 (by omega), by simp [hsn]⟩
                  rw [if_neg (by simp [hno])]
                  simp [atAt, hSi]
                clear hall
                go_wp2_with fail
                refine (placed_c 1 s.size _).mono ?_
                rintro e wB ⟨rfl, hbB⟩
                have HZ0 := hideQ ((hbB.block w.heap.size (by omega)).trans (unhideQ HR0))
                have HZ1 := hideQ ((hbB.block (w.heap.size + 1) (by omega)).trans (unhideQ HR1))
                have HZB := hideQ ((unhideQ HBL).trans (hbB.mono (by omega)))
                clear hbB
                go_wp2_with (first | (refine wpList_store_row rfl 45 (.tmp 2) (.tmp 195) rfl w.heap.size #[.int .i64 0, .int .i64 0, .int .i64 0, .int .i64 0, .int .i64 0, .slice none 0 0, .slice none 0 0, .slice none 0 0, .int .i64 0, .int .i64 0, .int .i64 0, .bool false] rfl rfl 45 _ (unhideQ HZ0) Tryd.infTab rfl (by simp [Value.oneCell']) ?_) | (refine wpList_store_row rfl 29 (.tmp 3) (.tmp 198) rfl (w.heap.size + 1) _ rfl rfl 29 _ ((setRow_other _ _ _ _ (by omega)).trans (unhideQ HZ1)) Tryd.infRF rfl (by simp [Value.oneCell']) ?_))
                refine bodyPost_ret (results_row_row (fn := Tryd.f15) (p := 2) (q := 3) (ty := 45) (uy := 29) rfl _ _ w.heap.size 45 #[.int .i64 0, .int .i64 0, .int .i64 0, .int .i64 0, .int .i64 0, .slice none 0 0, .slice none 0 0, .slice none 0 0, .int .i64 0, .int .i64 0, .int .i64 0, .bool false] (0, 0) _ rfl ((setRow_other _ _ _ _ (by omega)).trans (setRow_heap _ _ _ _ _ _ (unhideQ HZ0))) Tryd.underlying45 rfl Tryd.infTab (w.heap.size + 1) 29 #[.int .i64 1, .int .i64 (-1), .int .i64 (-1), .int .i64 s.size] (0, 0) _ rfl (setRow_heap _ _ _ _ _ _ ((setRow_other _ _ _ _ (by omega)).trans (unhideQ HZ1))) Tryd.underlying29 rfl Tryd.infRF) rfl ?_
                unfold RParsed
                rw [hfin]
                exact ⟨below_setRow (below_setRow (unhideQ HZB) (Nat.le_refl _) _) (by omega) _, rfl⟩
            · have hk3 : k = 10 := by omega
              subst hk3
              have hyes : allB S.sn = true := by
                unfold allB
                rw [List.all_eq_true]
                exact fun q hq => hall q (List.mem_range.1 hq)
              have HP : parseL s l = .inr S := by
                unfold parseL
                rw [unhideQ HIT]
                rw [if_pos ⟨rfl, hyes⟩]
              clear hall
              go_wp2_with fail
              obtain ⟨_, _, ⟨x0, q0⟩, ⟨x1, q1⟩, ⟨x2, q2⟩, ⟨x3, y3, q3⟩, _, _, _, ⟨x7, q7⟩, ⟨x8, q8⟩, ⟨x9, q9⟩⟩ := parseL_some HP
              have one : ∀ k x, k < 11 → S.vals k = [x] → ∃ g n p, vs k = .slice (some ⟨g, 0, none⟩) (n + 1) p ∧ g ≠ w.heap.size ∧ g ≠ w.heap.size + 1 ∧ wr.cell? ⟨g, 0, none⟩ = some (.int .i64 x) := fun k x hk hx => by
                have r := (unhideQ HR).row k hk
                rw [hx] at r
                obtain ⟨g, cap, e⟩ := own1_form (n := 0) r
                have c := row_cell (ns := [x]) r g 1 cap e 0 (by simp)
                have hg := (r.lt g (by rw [e]; rfl)).1
                exact ⟨g, 0, cap, e, by omega, by omega, by simpa using c⟩
              have shp : ∀ k, k < 11 → ∃ a n p, vs k = .slice a n p := fun k hk => by
                rcases ((unhideQ HR).row k hk).2 with ⟨e, _⟩ | ⟨g, cap, cur, e, -⟩
                · exact ⟨_, _, _, e⟩
                · exact ⟨_, _, _, e⟩
              obtain ⟨g0, n0, p0, v0, oe00⟩ := one 0 x0 (by decide) q0
              obtain ⟨g1, n1, p1, v1, oe10⟩ := one 1 x1 (by decide) q1
              obtain ⟨g2, n2, p2, v2, oe20⟩ := one 2 x2 (by decide) q2
              obtain ⟨g7, n7, p7, v7, oe70⟩ := one 7 x7 (by decide) q7
              obtain ⟨g8, n8, p8, v8, oe80⟩ := one 8 x8 (by decide) q8
              obtain ⟨g9, n9, p9, v9, oe90⟩ := one 9 x9 (by decide) q9
              obtain ⟨a4, n4, p4, v4⟩ := shp 4 (by decide)
              obtain ⟨a5, n5, p5, v5⟩ := shp 5 (by decide)
              obtain ⟨a6, n6, p6, v6⟩ := shp 6 (by decide)
              have r3 := (unhideQ HR).row 3 (by decide)
              rw [q3] at r3
              obtain ⟨g3, p3, v3⟩ := own1_form (n := 1) r3
              have hg3 := (r3.lt g3 (by rw [v3]; rfl)).1
              have oe30 : g3 ≠ w.heap.size ∧ g3 ≠ w.heap.size + 1 ∧ wr.cell? ⟨g3, 0, none⟩ = some (.int .i64 x3) := ⟨by omega, by omega, by simpa using row_cell (ns := [x3, y3]) r3 g3 2 p3 v3 0 (by simp)⟩
              have oe31 : g3 ≠ w.heap.size ∧ g3 ≠ w.heap.size + 1 ∧ wr.cell? ⟨g3, 1, none⟩ = some (.int .i64 y3) := ⟨by omega, by omega, by simpa using row_cell (ns := [x3, y3]) r3 g3 2 p3 v3 1 (by simp)⟩
              obtain ⟨n3, hn3⟩ : ∃ n3, n3 = 0 := ⟨0, rfl⟩
              have v3' : vs 3 = .slice (some ⟨g3, 0, none⟩) (n3 + 2) p3 := by rw [hn3]; exact v3
              have gg : ∀ k, k < 11 → ∀ u, vs k = u → gb ≠ w.heap.size ∧ gb ≠ w.heap.size + 1 ∧ wr.cell? ⟨gb, k, none⟩ = some u := fun k hk u e => ⟨by omega, by omega, ((unhideQ HR).got k hk).trans (congrArg some e)⟩
              have m0 := gg 0 (by decide) _ v0
              have m1 := gg 1 (by decide) _ v1
              have m2 := gg 2 (by decide) _ v2
              have m3 := gg 3 (by decide) _ v3'
              have m4 := gg 4 (by decide) _ v4
              have m5 := gg 5 (by decide) _ v5
              have m6 := gg 6 (by decide) _ v6
              have m7 := gg 7 (by decide) _ v7
              have m8 := gg 8 (by decide) _ v8
              have m9 := gg 9 (by decide) _ v9
              have ocs : gb + 1 ≠ w.heap.size ∧ gb + 1 ≠ w.heap.size + 1 ∧ wr.cell? ⟨gb + 1, 10, none⟩ = some (.bool (S.sn 10)) := ⟨by omega, by omega, (unhideQ HR).sns 10 (by decide)⟩
              generalize hpr : S.sn 10 = pr at ocs
              have hb0 := unhideQ HR0
              have hb1 := unhideQ HR1
              have hwz : w.heap.size + 1 < wr.heap.size := by omega
              clear one shp gg r3 ck ca
              refine flow2 (by kernel_rfl) 199 _ (OkF g0 n0 p0 g1 n1 p1 g2 n2 p2 g3 n3 p3 g7 n7 p7 g8 n8 p8 g9 n9 p9 x0 x1 x2 x3 y3 x7 x8 x9 a4 a5 a6 n4 p4 n5 p5 n6 p6 w.heap.size gb pr) (HFS wr w.heap.size wr.heap.size) (FR wr w.heap.size wr.heap.size #[.int .i64 x0, .int .i64 x1, .int .i64 x2, .int .i64 x3, .int .i64 y3, .slice a4 n4 p4, .slice a5 n5 p5, .slice a6 n6 p6, .int .i64 x7, .int .i64 x8, .int .i64 x9, .bool pr] #[.int .i64 0, .int .i64 (-1), .int .i64 (-1), .int .i64 (-1)]) ?hd ?hsz ?hle (fun i v u u' h hr => OkF.stab g0 n0 p0 g1 n1 p1 g2 n2 p2 g3 n3 p3 g7 n7 p7 g8 n8 p8 g9 n9 p9 x0 x1 x2 x3 y3 x7 x8 x9 a4 a5 a6 n4 p4 n5 p5 n6 p6 wr w.heap.size wr.heap.size gb pr i v u u' h hr) (fun u u' _ hr => hr.s) ?step ?fin ⟨Nat.le_refl _, fun _ _ _ _ => rfl, ⟨_, rfl, hb0⟩, ⟨_, rfl, hb1⟩, rfl, rfl, rfl⟩
              case hd =>
                intro i o ho
                have hi : i < 57 := (Array.getElem?_eq_some_iff.1 ho).1
                match i, hi with
                | 0, _ => obtain rfl := (Option.some.inj ho).symm; exact ⟨Or.inl rfl, rfl⟩
                | 1, _ => obtain rfl := (Option.some.inj ho).symm; exact ⟨Or.inl rfl, rfl⟩
                | 2, _ => obtain rfl := (Option.some.inj ho).symm; exact ⟨Or.inl rfl, rfl⟩
                | 3, _ => obtain rfl := (Option.some.inj ho).symm; exact ⟨Or.inl rfl, rfl⟩
                | 4, _ => obtain rfl := (Option.some.inj ho).symm; exact ⟨Or.inl rfl, rfl⟩
                | 5, _ => obtain rfl := (Option.some.inj ho).symm; exact ⟨Or.inl rfl, rfl⟩
                | 6, _ => obtain rfl := (Option.some.inj ho).symm; exact ⟨Or.inl rfl, rfl⟩
                | 7, _ => obtain rfl := (Option.some.inj ho).symm; exact ⟨Or.inl rfl, rfl⟩
                | 8, _ => obtain rfl := (Option.some.inj ho).symm; exact ⟨Or.inl rfl, rfl⟩
                | 9, _ => obtain rfl := (Option.some.inj ho).symm; exact ⟨Or.inl rfl, rfl⟩
                | 10, _ => obtain rfl := (Option.some.inj ho).symm; exact ⟨Or.inl rfl, rfl⟩
                | 11, _ => obtain rfl := (Option.some.inj ho).symm; exact ⟨Or.inl rfl, rfl⟩
                | 12, _ => obtain rfl := (Option.some.inj ho).symm; exact ⟨Or.inl rfl, rfl⟩
                | 13, _ => obtain rfl := (Option.some.inj ho).symm; exact ⟨Or.inl rfl, rfl⟩
                | 14, _ => obtain rfl := (Option.some.inj ho).symm; exact ⟨Or.inl rfl, rfl⟩
                | 15, _ => obtain rfl := (Option.some.inj ho).symm; exact ⟨Or.inl rfl, rfl⟩
                | 16, _ => obtain rfl := (Option.some.inj ho).symm; exact ⟨Or.inl rfl, rfl⟩
                | 17, _ => obtain rfl := (Option.some.inj ho).symm; exact ⟨Or.inl rfl, rfl⟩
                | 18, _ => obtain rfl := (Option.some.inj ho).symm; exact ⟨Or.inl rfl, rfl⟩
                | 19, _ => obtain rfl := (Option.some.inj ho).symm; exact ⟨Or.inl rfl, rfl⟩
                | 20, _ => obtain rfl := (Option.some.inj ho).symm; exact ⟨Or.inl rfl, rfl⟩
                | 21, _ => obtain rfl := (Option.some.inj ho).symm; exact ⟨Or.inl rfl, rfl⟩
                | 22, _ => obtain rfl := (Option.some.inj ho).symm; exact ⟨Or.inl rfl, rfl⟩
                | 23, _ => obtain rfl := (Option.some.inj ho).symm; exact ⟨Or.inl rfl, rfl⟩
                | 24, _ => obtain rfl := (Option.some.inj ho).symm; exact ⟨Or.inl rfl, rfl⟩
                | 25, _ => obtain rfl := (Option.some.inj ho).symm; exact ⟨Or.inl rfl, rfl⟩
                | 26, _ => obtain rfl := (Option.some.inj ho).symm; exact ⟨Or.inl rfl, rfl⟩
                | 27, _ => obtain rfl := (Option.some.inj ho).symm; exact ⟨Or.inl rfl, rfl⟩
                | 28, _ => obtain rfl := (Option.some.inj ho).symm; exact ⟨Or.inl rfl, rfl⟩
                | 29, _ => obtain rfl := (Option.some.inj ho).symm; exact ⟨Or.inl rfl, rfl⟩
                | 30, _ => obtain rfl := (Option.some.inj ho).symm; exact ⟨Or.inl rfl, rfl⟩
                | 31, _ => obtain rfl := (Option.some.inj ho).symm; exact ⟨Or.inl rfl, rfl⟩
                | 32, _ => obtain rfl := (Option.some.inj ho).symm; exact ⟨Or.inl rfl, rfl⟩
                | 33, _ => obtain rfl := (Option.some.inj ho).symm; exact ⟨Or.inl rfl, rfl⟩
                | 34, _ => obtain rfl := (Option.some.inj ho).symm; exact ⟨Or.inl rfl, rfl⟩
                | 35, _ => obtain rfl := (Option.some.inj ho).symm; exact ⟨Or.inl rfl, rfl⟩
                | 36, _ => obtain rfl := (Option.some.inj ho).symm; exact ⟨Or.inl rfl, rfl⟩
                | 37, _ => obtain rfl := (Option.some.inj ho).symm; exact ⟨Or.inl rfl, rfl⟩
                | 38, _ => obtain rfl := (Option.some.inj ho).symm; exact ⟨Or.inl rfl, rfl⟩
                | 39, _ => obtain rfl := (Option.some.inj ho).symm; exact ⟨Or.inl rfl, rfl⟩
                | 40, _ => obtain rfl := (Option.some.inj ho).symm; exact ⟨Or.inl rfl, rfl⟩
                | 41, _ => obtain rfl := (Option.some.inj ho).symm; exact ⟨Or.inl rfl, rfl⟩
                | 42, _ => obtain rfl := (Option.some.inj ho).symm; exact ⟨Or.inl rfl, rfl⟩
                | 43, _ => obtain rfl := (Option.some.inj ho).symm; exact ⟨Or.inl rfl, rfl⟩
                | 44, _ => obtain rfl := (Option.some.inj ho).symm; exact ⟨Or.inl rfl, rfl⟩
                | 45, _ => obtain rfl := (Option.some.inj ho).symm; exact ⟨Or.inl rfl, rfl⟩
                | 46, _ => obtain rfl := (Option.some.inj ho).symm; exact ⟨Or.inl rfl, rfl⟩
                | 47, _ => obtain rfl := (Option.some.inj ho).symm; exact ⟨Or.inl rfl, rfl⟩
                | 48, _ => obtain rfl := (Option.some.inj ho).symm; exact ⟨Or.inl rfl, rfl⟩
                | 49, _ => obtain rfl := (Option.some.inj ho).symm; exact ⟨Or.inl rfl, rfl⟩
                | 50, _ => obtain rfl := (Option.some.inj ho).symm; exact ⟨Or.inl rfl, rfl⟩
                | 51, _ => obtain rfl := (Option.some.inj ho).symm; exact ⟨Or.inl rfl, rfl⟩
                | 52, _ => obtain rfl := (Option.some.inj ho).symm; exact ⟨Or.inl rfl, rfl⟩
                | 53, _ => obtain rfl := (Option.some.inj ho).symm; exact ⟨Or.inl rfl, rfl⟩
                | 54, _ => obtain rfl := (Option.some.inj ho).symm; exact ⟨Or.inl rfl, rfl⟩
                | 55, _ => obtain rfl := (Option.some.inj ho).symm; exact ⟨Or.inr rfl, rfl⟩
                | 56, _ => obtain rfl := (Option.some.inj ho).symm; exact ⟨Or.inr rfl, rfl⟩
              case hsz =>
                intro i o ho hdo
                have hi : i < 57 := (Array.getElem?_eq_some_iff.1 ho).1
                match i, hi with
                | 0, _ => obtain rfl := (Option.some.inj ho).symm; show _ < 254; decide
                | 1, _ => obtain rfl := (Option.some.inj ho).symm; show _ < 254; decide
                | 2, _ => obtain rfl := (Option.some.inj ho).symm; show _ < 254; decide
                | 3, _ => obtain rfl := (Option.some.inj ho).symm; show _ < 254; decide
                | 4, _ => obtain rfl := (Option.some.inj ho).symm; show _ < 254; decide
                | 5, _ => obtain rfl := (Option.some.inj ho).symm; show _ < 254; decide
                | 6, _ => obtain rfl := (Option.some.inj ho).symm; show _ < 254; decide
                | 7, _ => obtain rfl := (Option.some.inj ho).symm; show _ < 254; decide
                | 8, _ => obtain rfl := (Option.some.inj ho).symm; show _ < 254; decide
                | 9, _ => obtain rfl := (Option.some.inj ho).symm; show _ < 254; decide
                | 10, _ => obtain rfl := (Option.some.inj ho).symm; show _ < 254; decide
                | 11, _ => obtain rfl := (Option.some.inj ho).symm; show _ < 254; decide
                | 12, _ => obtain rfl := (Option.some.inj ho).symm; show _ < 254; decide
                | 13, _ => obtain rfl := (Option.some.inj ho).symm; show _ < 254; decide
                | 14, _ => obtain rfl := (Option.some.inj ho).symm; show _ < 254; decide
                | 15, _ => obtain rfl := (Option.some.inj ho).symm; show _ < 254; decide
                | 16, _ => obtain rfl := (Option.some.inj ho).symm; show _ < 254; decide
                | 17, _ => obtain rfl := (Option.some.inj ho).symm; show _ < 254; decide
                | 18, _ => obtain rfl := (Option.some.inj ho).symm; show _ < 254; decide
                | 19, _ => obtain rfl := (Option.some.inj ho).symm; show _ < 254; decide
                | 20, _ => obtain rfl := (Option.some.inj ho).symm; show _ < 254; decide
                | 21, _ => obtain rfl := (Option.some.inj ho).symm; show _ < 254; decide
                | 22, _ => obtain rfl := (Option.some.inj ho).symm; show _ < 254; decide
                | 23, _ => obtain rfl := (Option.some.inj ho).symm; show _ < 254; decide
                | 24, _ => obtain rfl := (Option.some.inj ho).symm; show _ < 254; decide
                | 25, _ => obtain rfl := (Option.some.inj ho).symm; show _ < 254; decide
                | 26, _ => obtain rfl := (Option.some.inj ho).symm; show _ < 254; decide
                | 27, _ => obtain rfl := (Option.some.inj ho).symm; show _ < 254; decide
                | 28, _ => obtain rfl := (Option.some.inj ho).symm; show _ < 254; decide
                | 29, _ => obtain rfl := (Option.some.inj ho).symm; show _ < 254; decide
                | 30, _ => obtain rfl := (Option.some.inj ho).symm; show _ < 254; decide
                | 31, _ => obtain rfl := (Option.some.inj ho).symm; show _ < 254; decide
                | 32, _ => obtain rfl := (Option.some.inj ho).symm; show _ < 254; decide
                | 33, _ => obtain rfl := (Option.some.inj ho).symm; show _ < 254; decide
                | 34, _ => obtain rfl := (Option.some.inj ho).symm; show _ < 254; decide
                | 35, _ => obtain rfl := (Option.some.inj ho).symm; show _ < 254; decide
                | 36, _ => obtain rfl := (Option.some.inj ho).symm; show _ < 254; decide
                | 37, _ => obtain rfl := (Option.some.inj ho).symm; show _ < 254; decide
                | 38, _ => obtain rfl := (Option.some.inj ho).symm; show _ < 254; decide
                | 39, _ => obtain rfl := (Option.some.inj ho).symm; show _ < 254; decide
                | 40, _ => obtain rfl := (Option.some.inj ho).symm; show _ < 254; decide
                | 41, _ => obtain rfl := (Option.some.inj ho).symm; show _ < 254; decide
                | 42, _ => obtain rfl := (Option.some.inj ho).symm; show _ < 254; decide
                | 43, _ => obtain rfl := (Option.some.inj ho).symm; show _ < 254; decide
                | 44, _ => obtain rfl := (Option.some.inj ho).symm; show _ < 254; decide
                | 45, _ => obtain rfl := (Option.some.inj ho).symm; show _ < 254; decide
                | 46, _ => obtain rfl := (Option.some.inj ho).symm; show _ < 254; decide
                | 47, _ => obtain rfl := (Option.some.inj ho).symm; show _ < 254; decide
                | 48, _ => obtain rfl := (Option.some.inj ho).symm; show _ < 254; decide
                | 49, _ => obtain rfl := (Option.some.inj ho).symm; show _ < 254; decide
                | 50, _ => obtain rfl := (Option.some.inj ho).symm; show _ < 254; decide
                | 51, _ => obtain rfl := (Option.some.inj ho).symm; show _ < 254; decide
                | 52, _ => obtain rfl := (Option.some.inj ho).symm; show _ < 254; decide
                | 53, _ => obtain rfl := (Option.some.inj ho).symm; show _ < 254; decide
                | 54, _ => obtain rfl := (Option.some.inj ho).symm; show _ < 254; decide
                | 55, _ => obtain rfl := (Option.some.inj ho).symm; cases hdo
                | 56, _ => obtain rfl := (Option.some.inj ho).symm; cases hdo
              case hle =>
                intro i o ho
                have hi : i < 57 := (Array.getElem?_eq_some_iff.1 ho).1
                match i, hi with
                | 0, _ => obtain rfl := (Option.some.inj ho).symm; simp
                | 1, _ => obtain rfl := (Option.some.inj ho).symm; simp
                | 2, _ => obtain rfl := (Option.some.inj ho).symm; simp
                | 3, _ => obtain rfl := (Option.some.inj ho).symm; simp
                | 4, _ => obtain rfl := (Option.some.inj ho).symm; simp
                | 5, _ => obtain rfl := (Option.some.inj ho).symm; simp
                | 6, _ => obtain rfl := (Option.some.inj ho).symm; simp
                | 7, _ => obtain rfl := (Option.some.inj ho).symm; simp
                | 8, _ => obtain rfl := (Option.some.inj ho).symm; simp
                | 9, _ => obtain rfl := (Option.some.inj ho).symm; simp
                | 10, _ => obtain rfl := (Option.some.inj ho).symm; simp
                | 11, _ => obtain rfl := (Option.some.inj ho).symm; simp
                | 12, _ => obtain rfl := (Option.some.inj ho).symm; simp
                | 13, _ => obtain rfl := (Option.some.inj ho).symm; simp
                | 14, _ => obtain rfl := (Option.some.inj ho).symm; simp
                | 15, _ => obtain rfl := (Option.some.inj ho).symm; simp
                | 16, _ => obtain rfl := (Option.some.inj ho).symm; simp
                | 17, _ => obtain rfl := (Option.some.inj ho).symm; simp
                | 18, _ => obtain rfl := (Option.some.inj ho).symm; simp
                | 19, _ => obtain rfl := (Option.some.inj ho).symm; simp
                | 20, _ => obtain rfl := (Option.some.inj ho).symm; simp
                | 21, _ => obtain rfl := (Option.some.inj ho).symm; simp
                | 22, _ => obtain rfl := (Option.some.inj ho).symm; simp
                | 23, _ => obtain rfl := (Option.some.inj ho).symm; simp
                | 24, _ => obtain rfl := (Option.some.inj ho).symm; simp
                | 25, _ => obtain rfl := (Option.some.inj ho).symm; simp
                | 26, _ => obtain rfl := (Option.some.inj ho).symm; simp
                | 27, _ => obtain rfl := (Option.some.inj ho).symm; simp
                | 28, _ => obtain rfl := (Option.some.inj ho).symm; simp
                | 29, _ => obtain rfl := (Option.some.inj ho).symm; simp
                | 30, _ => obtain rfl := (Option.some.inj ho).symm; simp
                | 31, _ => obtain rfl := (Option.some.inj ho).symm; simp
                | 32, _ => obtain rfl := (Option.some.inj ho).symm; simp
                | 33, _ => obtain rfl := (Option.some.inj ho).symm; simp
                | 34, _ => obtain rfl := (Option.some.inj ho).symm; simp
                | 35, _ => obtain rfl := (Option.some.inj ho).symm; simp
                | 36, _ => obtain rfl := (Option.some.inj ho).symm; simp
                | 37, _ => obtain rfl := (Option.some.inj ho).symm; simp
                | 38, _ => obtain rfl := (Option.some.inj ho).symm; simp
                | 39, _ => obtain rfl := (Option.some.inj ho).symm; simp
                | 40, _ => obtain rfl := (Option.some.inj ho).symm; simp
                | 41, _ => obtain rfl := (Option.some.inj ho).symm; simp
                | 42, _ => obtain rfl := (Option.some.inj ho).symm; simp
                | 43, _ => obtain rfl := (Option.some.inj ho).symm; simp
                | 44, _ => obtain rfl := (Option.some.inj ho).symm; simp
                | 45, _ => obtain rfl := (Option.some.inj ho).symm; simp
                | 46, _ => obtain rfl := (Option.some.inj ho).symm; simp
                | 47, _ => obtain rfl := (Option.some.inj ho).symm; simp
                | 48, _ => obtain rfl := (Option.some.inj ho).symm; simp
                | 49, _ => obtain rfl := (Option.some.inj ho).symm; simp
                | 50, _ => obtain rfl := (Option.some.inj ho).symm; simp
                | 51, _ => obtain rfl := (Option.some.inj ho).symm; simp
                | 52, _ => obtain rfl := (Option.some.inj ho).symm; simp
                | 53, _ => obtain rfl := (Option.some.inj ho).symm; simp
                | 54, _ => obtain rfl := (Option.some.inj ho).symm; simp
                | 55, _ => obtain rfl := (Option.some.inj ho).symm; simp
                | 56, _ => obtain rfl := (Option.some.inj ho).symm; simp
              case step =>
                intro i o ho a u hS hfr hdp
                have hi : i < 57 := (Array.getElem?_eq_some_iff.1 ho).1
                have oc : ∀ (q j : Nat) (x : Value), (q ≠ w.heap.size ∧ q ≠ w.heap.size + 1 ∧ wr.cell? ⟨q, j, none⟩ = some x) → u.cell? ⟨q, j, none⟩ = some x := fun q j x hx => (World.cell?_of_block (hS.same q (World.block_lt_of_cell? wr _ hx.2.2) hx.1 hx.2.1)).trans hx.2.2
                match i, hi with
                | 0, _ =>
                  obtain rfl := (Option.some.inj ho).symm
                  have f0 : a.eval (.tmp 8) = .slice (some ⟨gb, 0, none⟩) 11 11 := hfr 8 (by omega)
                  refine opRun (F := fun v w' => _ ∧ _) (v := .slice (some ⟨gb, 0, none⟩) 11 11) (w' := u) ?_ ⟨hS.same_refl, rfl⟩
                  simp [Act.eval] at f0
                  clear hdp hfr ho oc hS
                  simp [execOp, f0, go_sem]
                | 1, _ =>
                  obtain rfl := (Option.some.inj ho).symm
                  have f0 : a.eval (.tmp 199) = .slice (some ⟨gb, 0, none⟩) 11 11 := hdp ⟨0, .data⟩ (by simp) rfl ⟨_, rfl, rfl⟩
                  refine opRun (F := fun v w' => _ ∧ _) (v := .pointer (some ⟨gb, 0, none⟩)) (w' := u) ?_ ⟨hS.same_refl, rfl⟩
                  simp [Act.eval] at f0
                  clear hdp hfr ho oc hS
                  simp [execOp, f0, go_sem]
                | 2, _ =>
                  obtain rfl := (Option.some.inj ho).symm
                  have f0 : a.eval (.tmp 200) = .pointer (some ⟨gb, 0, none⟩) := hdp ⟨1, .data⟩ (by simp) rfl ⟨_, rfl, rfl⟩
                  have g := oc _ _ _ m0
                  refine opRun (F := fun v w' => _ ∧ _) (v := .slice (some ⟨g0, 0, none⟩) (n0 + 1) p0) (w' := u) ?_ ⟨hS.same_refl, rfl⟩
                  simp [Act.eval] at f0
                  clear hdp hfr ho oc hS
                  simp [execOp, f0, g, go_sem]
                | 3, _ =>
                  obtain rfl := (Option.some.inj ho).symm
                  have f0 : a.eval (.tmp 201) = .slice (some ⟨g0, 0, none⟩) (n0 + 1) p0 := hdp ⟨2, .data⟩ (by simp) rfl ⟨_, rfl, rfl⟩
                  refine opRun (F := fun v w' => _ ∧ _) (v := .pointer (some ⟨g0, 0, none⟩)) (w' := u) ?_ ⟨hS.same_refl, rfl⟩
                  simp [Act.eval] at f0
                  clear hdp hfr ho oc hS
                  simp [execOp, f0, go_sem]
                | 4, _ =>
                  obtain rfl := (Option.some.inj ho).symm
                  have f0 : a.eval (.tmp 202) = .pointer (some ⟨g0, 0, none⟩) := hdp ⟨3, .data⟩ (by simp) rfl ⟨_, rfl, rfl⟩
                  have g := oc _ _ _ oe00
                  refine opRun (F := fun v w' => _ ∧ _) (v := .int .i64 x0) (w' := u) ?_ ⟨hS.same_refl, rfl⟩
                  simp [Act.eval] at f0
                  clear hdp hfr ho oc hS
                  simp [execOp, f0, g, go_sem]
                | 5, _ =>
                  obtain rfl := (Option.some.inj ho).symm
                  have f0 : a.eval (.tmp 8) = .slice (some ⟨gb, 0, none⟩) 11 11 := hfr 8 (by omega)
                  refine opRun (F := fun v w' => _ ∧ _) (v := .slice (some ⟨gb, 0, none⟩) 11 11) (w' := u) ?_ ⟨hS.same_refl, rfl⟩
                  simp [Act.eval] at f0
                  clear hdp hfr ho oc hS
                  simp [execOp, f0, go_sem]
                | 6, _ =>
                  obtain rfl := (Option.some.inj ho).symm
                  have f0 : a.eval (.tmp 204) = .slice (some ⟨gb, 0, none⟩) 11 11 := hdp ⟨5, .data⟩ (by simp) rfl ⟨_, rfl, rfl⟩
                  refine opRun (F := fun v w' => _ ∧ _) (v := .pointer (some ⟨gb, 1, none⟩)) (w' := u) ?_ ⟨hS.same_refl, rfl⟩
                  simp [Act.eval] at f0
                  clear hdp hfr ho oc hS
                  simp [execOp, f0, go_sem]
                | 7, _ =>
                  obtain rfl := (Option.some.inj ho).symm
                  have f0 : a.eval (.tmp 205) = .pointer (some ⟨gb, 1, none⟩) := hdp ⟨6, .data⟩ (by simp) rfl ⟨_, rfl, rfl⟩
                  have g := oc _ _ _ m1
                  refine opRun (F := fun v w' => _ ∧ _) (v := .slice (some ⟨g1, 0, none⟩) (n1 + 1) p1) (w' := u) ?_ ⟨hS.same_refl, rfl⟩
                  simp [Act.eval] at f0
                  clear hdp hfr ho oc hS
                  simp [execOp, f0, g, go_sem]
                | 8, _ =>
                  obtain rfl := (Option.some.inj ho).symm
                  have f0 : a.eval (.tmp 206) = .slice (some ⟨g1, 0, none⟩) (n1 + 1) p1 := hdp ⟨7, .data⟩ (by simp) rfl ⟨_, rfl, rfl⟩
                  refine opRun (F := fun v w' => _ ∧ _) (v := .pointer (some ⟨g1, 0, none⟩)) (w' := u) ?_ ⟨hS.same_refl, rfl⟩
                  simp [Act.eval] at f0
                  clear hdp hfr ho oc hS
                  simp [execOp, f0, go_sem]
                | 9, _ =>
                  obtain rfl := (Option.some.inj ho).symm
                  have f0 : a.eval (.tmp 207) = .pointer (some ⟨g1, 0, none⟩) := hdp ⟨8, .data⟩ (by simp) rfl ⟨_, rfl, rfl⟩
                  have g := oc _ _ _ oe10
                  refine opRun (F := fun v w' => _ ∧ _) (v := .int .i64 x1) (w' := u) ?_ ⟨hS.same_refl, rfl⟩
                  simp [Act.eval] at f0
                  clear hdp hfr ho oc hS
                  simp [execOp, f0, g, go_sem]
                | 10, _ =>
                  obtain rfl := (Option.some.inj ho).symm
                  have f0 : a.eval (.tmp 8) = .slice (some ⟨gb, 0, none⟩) 11 11 := hfr 8 (by omega)
                  refine opRun (F := fun v w' => _ ∧ _) (v := .slice (some ⟨gb, 0, none⟩) 11 11) (w' := u) ?_ ⟨hS.same_refl, rfl⟩
                  simp [Act.eval] at f0
                  clear hdp hfr ho oc hS
                  simp [execOp, f0, go_sem]
                | 11, _ =>
                  obtain rfl := (Option.some.inj ho).symm
                  have f0 : a.eval (.tmp 209) = .slice (some ⟨gb, 0, none⟩) 11 11 := hdp ⟨10, .data⟩ (by simp) rfl ⟨_, rfl, rfl⟩
                  refine opRun (F := fun v w' => _ ∧ _) (v := .pointer (some ⟨gb, 2, none⟩)) (w' := u) ?_ ⟨hS.same_refl, rfl⟩
                  simp [Act.eval] at f0
                  clear hdp hfr ho oc hS
                  simp [execOp, f0, go_sem]
                | 12, _ =>
                  obtain rfl := (Option.some.inj ho).symm
                  have f0 : a.eval (.tmp 210) = .pointer (some ⟨gb, 2, none⟩) := hdp ⟨11, .data⟩ (by simp) rfl ⟨_, rfl, rfl⟩
                  have g := oc _ _ _ m2
                  refine opRun (F := fun v w' => _ ∧ _) (v := .slice (some ⟨g2, 0, none⟩) (n2 + 1) p2) (w' := u) ?_ ⟨hS.same_refl, rfl⟩
                  simp [Act.eval] at f0
                  clear hdp hfr ho oc hS
                  simp [execOp, f0, g, go_sem]
                | 13, _ =>
                  obtain rfl := (Option.some.inj ho).symm
                  have f0 : a.eval (.tmp 211) = .slice (some ⟨g2, 0, none⟩) (n2 + 1) p2 := hdp ⟨12, .data⟩ (by simp) rfl ⟨_, rfl, rfl⟩
                  refine opRun (F := fun v w' => _ ∧ _) (v := .pointer (some ⟨g2, 0, none⟩)) (w' := u) ?_ ⟨hS.same_refl, rfl⟩
                  simp [Act.eval] at f0
                  clear hdp hfr ho oc hS
                  simp [execOp, f0, go_sem]
                | 14, _ =>
                  obtain rfl := (Option.some.inj ho).symm
                  have f0 : a.eval (.tmp 212) = .pointer (some ⟨g2, 0, none⟩) := hdp ⟨13, .data⟩ (by simp) rfl ⟨_, rfl, rfl⟩
                  have g := oc _ _ _ oe20
                  refine opRun (F := fun v w' => _ ∧ _) (v := .int .i64 x2) (w' := u) ?_ ⟨hS.same_refl, rfl⟩
                  simp [Act.eval] at f0
                  clear hdp hfr ho oc hS
                  simp [execOp, f0, g, go_sem]
                | 15, _ =>
                  obtain rfl := (Option.some.inj ho).symm
                  have f0 : a.eval (.tmp 8) = .slice (some ⟨gb, 0, none⟩) 11 11 := hfr 8 (by omega)
                  refine opRun (F := fun v w' => _ ∧ _) (v := .slice (some ⟨gb, 0, none⟩) 11 11) (w' := u) ?_ ⟨hS.same_refl, rfl⟩
                  simp [Act.eval] at f0
                  clear hdp hfr ho oc hS
                  simp [execOp, f0, go_sem]
                | 16, _ =>
                  obtain rfl := (Option.some.inj ho).symm
                  have f0 : a.eval (.tmp 214) = .slice (some ⟨gb, 0, none⟩) 11 11 := hdp ⟨15, .data⟩ (by simp) rfl ⟨_, rfl, rfl⟩
                  refine opRun (F := fun v w' => _ ∧ _) (v := .pointer (some ⟨gb, 3, none⟩)) (w' := u) ?_ ⟨hS.same_refl, rfl⟩
                  simp [Act.eval] at f0
                  clear hdp hfr ho oc hS
                  simp [execOp, f0, go_sem]
                | 17, _ =>
                  obtain rfl := (Option.some.inj ho).symm
                  have f0 : a.eval (.tmp 215) = .pointer (some ⟨gb, 3, none⟩) := hdp ⟨16, .data⟩ (by simp) rfl ⟨_, rfl, rfl⟩
                  have g := oc _ _ _ m3
                  refine opRun (F := fun v w' => _ ∧ _) (v := .slice (some ⟨g3, 0, none⟩) (n3 + 2) p3) (w' := u) ?_ ⟨hS.same_refl, rfl⟩
                  simp [Act.eval] at f0
                  clear hdp hfr ho oc hS
                  simp [execOp, f0, g, go_sem]
                | 18, _ =>
                  obtain rfl := (Option.some.inj ho).symm
                  have f0 : a.eval (.tmp 216) = .slice (some ⟨g3, 0, none⟩) (n3 + 2) p3 := hdp ⟨17, .data⟩ (by simp) rfl ⟨_, rfl, rfl⟩
                  refine opRun (F := fun v w' => _ ∧ _) (v := .pointer (some ⟨g3, 0, none⟩)) (w' := u) ?_ ⟨hS.same_refl, rfl⟩
                  simp [Act.eval] at f0
                  clear hdp hfr ho oc hS
                  simp [execOp, f0, go_sem]
                  try omega
                | 19, _ =>
                  obtain rfl := (Option.some.inj ho).symm
                  have f0 : a.eval (.tmp 217) = .pointer (some ⟨g3, 0, none⟩) := hdp ⟨18, .data⟩ (by simp) rfl ⟨_, rfl, rfl⟩
                  have g := oc _ _ _ oe30
                  refine opRun (F := fun v w' => _ ∧ _) (v := .int .i64 x3) (w' := u) ?_ ⟨hS.same_refl, rfl⟩
                  simp [Act.eval] at f0
                  clear hdp hfr ho oc hS
                  simp [execOp, f0, g, go_sem]
                | 20, _ =>
                  obtain rfl := (Option.some.inj ho).symm
                  have f0 : a.eval (.tmp 8) = .slice (some ⟨gb, 0, none⟩) 11 11 := hfr 8 (by omega)
                  refine opRun (F := fun v w' => _ ∧ _) (v := .slice (some ⟨gb, 0, none⟩) 11 11) (w' := u) ?_ ⟨hS.same_refl, rfl⟩
                  simp [Act.eval] at f0
                  clear hdp hfr ho oc hS
                  simp [execOp, f0, go_sem]
                | 21, _ =>
                  obtain rfl := (Option.some.inj ho).symm
                  have f0 : a.eval (.tmp 219) = .slice (some ⟨gb, 0, none⟩) 11 11 := hdp ⟨20, .data⟩ (by simp) rfl ⟨_, rfl, rfl⟩
                  refine opRun (F := fun v w' => _ ∧ _) (v := .pointer (some ⟨gb, 3, none⟩)) (w' := u) ?_ ⟨hS.same_refl, rfl⟩
                  simp [Act.eval] at f0
                  clear hdp hfr ho oc hS
                  simp [execOp, f0, go_sem]
                | 22, _ =>
                  obtain rfl := (Option.some.inj ho).symm
                  have f0 : a.eval (.tmp 220) = .pointer (some ⟨gb, 3, none⟩) := hdp ⟨21, .data⟩ (by simp) rfl ⟨_, rfl, rfl⟩
                  have g := oc _ _ _ m3
                  refine opRun (F := fun v w' => _ ∧ _) (v := .slice (some ⟨g3, 0, none⟩) (n3 + 2) p3) (w' := u) ?_ ⟨hS.same_refl, rfl⟩
                  simp [Act.eval] at f0
                  clear hdp hfr ho oc hS
                  simp [execOp, f0, g, go_sem]
                | 23, _ =>
                  obtain rfl := (Option.some.inj ho).symm
                  have f0 : a.eval (.tmp 221) = .slice (some ⟨g3, 0, none⟩) (n3 + 2) p3 := hdp ⟨22, .data⟩ (by simp) rfl ⟨_, rfl, rfl⟩
                  refine opRun (F := fun v w' => _ ∧ _) (v := .pointer (some ⟨g3, 1, none⟩)) (w' := u) ?_ ⟨hS.same_refl, rfl⟩
                  simp [Act.eval] at f0
                  clear hdp hfr ho oc hS
                  simp [execOp, f0, go_sem]
                  try omega
                | 24, _ =>
                  obtain rfl := (Option.some.inj ho).symm
                  have f0 : a.eval (.tmp 222) = .pointer (some ⟨g3, 1, none⟩) := hdp ⟨23, .data⟩ (by simp) rfl ⟨_, rfl, rfl⟩
                  have g := oc _ _ _ oe31
                  refine opRun (F := fun v w' => _ ∧ _) (v := .int .i64 y3) (w' := u) ?_ ⟨hS.same_refl, rfl⟩
                  simp [Act.eval] at f0
                  clear hdp hfr ho oc hS
                  simp [execOp, f0, g, go_sem]
                | 25, _ =>
                  obtain rfl := (Option.some.inj ho).symm
                  have f0 : a.eval (.tmp 218) = .int .i64 x3 := hdp ⟨19, .data⟩ (by simp) rfl ⟨_, rfl, rfl⟩
                  have f1 : a.eval (.tmp 223) = .int .i64 y3 := hdp ⟨24, .data⟩ (by simp) rfl ⟨_, rfl, rfl⟩
                  refine opRun (F := fun v w' => _ ∧ _) (v := .agg #[.int .i64 x3, .int .i64 y3]) (w' := u) ?_ ⟨hS.same_refl, rfl⟩
                  simp [Act.eval] at f0 f1
                  clear hdp hfr ho oc hS
                  simp [execOp, f0, f1, go_sem]
                | 26, _ =>
                  obtain rfl := (Option.some.inj ho).symm
                  have f0 : a.eval (.tmp 8) = .slice (some ⟨gb, 0, none⟩) 11 11 := hfr 8 (by omega)
                  refine opRun (F := fun v w' => _ ∧ _) (v := .slice (some ⟨gb, 0, none⟩) 11 11) (w' := u) ?_ ⟨hS.same_refl, rfl⟩
                  simp [Act.eval] at f0
                  clear hdp hfr ho oc hS
                  simp [execOp, f0, go_sem]
                | 27, _ =>
                  obtain rfl := (Option.some.inj ho).symm
                  have f0 : a.eval (.tmp 225) = .slice (some ⟨gb, 0, none⟩) 11 11 := hdp ⟨26, .data⟩ (by simp) rfl ⟨_, rfl, rfl⟩
                  refine opRun (F := fun v w' => _ ∧ _) (v := .pointer (some ⟨gb, 4, none⟩)) (w' := u) ?_ ⟨hS.same_refl, rfl⟩
                  simp [Act.eval] at f0
                  clear hdp hfr ho oc hS
                  simp [execOp, f0, go_sem]
                | 28, _ =>
                  obtain rfl := (Option.some.inj ho).symm
                  have f0 : a.eval (.tmp 226) = .pointer (some ⟨gb, 4, none⟩) := hdp ⟨27, .data⟩ (by simp) rfl ⟨_, rfl, rfl⟩
                  have g := oc _ _ _ m4
                  refine opRun (F := fun v w' => _ ∧ _) (v := .slice a4 n4 p4) (w' := u) ?_ ⟨hS.same_refl, rfl⟩
                  simp [Act.eval] at f0
                  clear hdp hfr ho oc hS
                  simp [execOp, f0, g, go_sem]
                | 29, _ =>
                  obtain rfl := (Option.some.inj ho).symm
                  have f0 : a.eval (.tmp 8) = .slice (some ⟨gb, 0, none⟩) 11 11 := hfr 8 (by omega)
                  refine opRun (F := fun v w' => _ ∧ _) (v := .slice (some ⟨gb, 0, none⟩) 11 11) (w' := u) ?_ ⟨hS.same_refl, rfl⟩
                  simp [Act.eval] at f0
                  clear hdp hfr ho oc hS
                  simp [execOp, f0, go_sem]
                | 30, _ =>
                  obtain rfl := (Option.some.inj ho).symm
                  have f0 : a.eval (.tmp 228) = .slice (some ⟨gb, 0, none⟩) 11 11 := hdp ⟨29, .data⟩ (by simp) rfl ⟨_, rfl, rfl⟩
                  refine opRun (F := fun v w' => _ ∧ _) (v := .pointer (some ⟨gb, 5, none⟩)) (w' := u) ?_ ⟨hS.same_refl, rfl⟩
                  simp [Act.eval] at f0
                  clear hdp hfr ho oc hS
                  simp [execOp, f0, go_sem]
                | 31, _ =>
                  obtain rfl := (Option.some.inj ho).symm
                  have f0 : a.eval (.tmp 229) = .pointer (some ⟨gb, 5, none⟩) := hdp ⟨30, .data⟩ (by simp) rfl ⟨_, rfl, rfl⟩
                  have g := oc _ _ _ m5
                  refine opRun (F := fun v w' => _ ∧ _) (v := .slice a5 n5 p5) (w' := u) ?_ ⟨hS.same_refl, rfl⟩
                  simp [Act.eval] at f0
                  clear hdp hfr ho oc hS
                  simp [execOp, f0, g, go_sem]
                | 32, _ =>
                  obtain rfl := (Option.some.inj ho).symm
                  have f0 : a.eval (.tmp 8) = .slice (some ⟨gb, 0, none⟩) 11 11 := hfr 8 (by omega)
                  refine opRun (F := fun v w' => _ ∧ _) (v := .slice (some ⟨gb, 0, none⟩) 11 11) (w' := u) ?_ ⟨hS.same_refl, rfl⟩
                  simp [Act.eval] at f0
                  clear hdp hfr ho oc hS
                  simp [execOp, f0, go_sem]
                | 33, _ =>
                  obtain rfl := (Option.some.inj ho).symm
                  have f0 : a.eval (.tmp 231) = .slice (some ⟨gb, 0, none⟩) 11 11 := hdp ⟨32, .data⟩ (by simp) rfl ⟨_, rfl, rfl⟩
                  refine opRun (F := fun v w' => _ ∧ _) (v := .pointer (some ⟨gb, 6, none⟩)) (w' := u) ?_ ⟨hS.same_refl, rfl⟩
                  simp [Act.eval] at f0
                  clear hdp hfr ho oc hS
                  simp [execOp, f0, go_sem]
                | 34, _ =>
                  obtain rfl := (Option.some.inj ho).symm
                  have f0 : a.eval (.tmp 232) = .pointer (some ⟨gb, 6, none⟩) := hdp ⟨33, .data⟩ (by simp) rfl ⟨_, rfl, rfl⟩
                  have g := oc _ _ _ m6
                  refine opRun (F := fun v w' => _ ∧ _) (v := .slice a6 n6 p6) (w' := u) ?_ ⟨hS.same_refl, rfl⟩
                  simp [Act.eval] at f0
                  clear hdp hfr ho oc hS
                  simp [execOp, f0, g, go_sem]
                | 35, _ =>
                  obtain rfl := (Option.some.inj ho).symm
                  have f0 : a.eval (.tmp 8) = .slice (some ⟨gb, 0, none⟩) 11 11 := hfr 8 (by omega)
                  refine opRun (F := fun v w' => _ ∧ _) (v := .slice (some ⟨gb, 0, none⟩) 11 11) (w' := u) ?_ ⟨hS.same_refl, rfl⟩
                  simp [Act.eval] at f0
                  clear hdp hfr ho oc hS
                  simp [execOp, f0, go_sem]
                | 36, _ =>
                  obtain rfl := (Option.some.inj ho).symm
                  have f0 : a.eval (.tmp 234) = .slice (some ⟨gb, 0, none⟩) 11 11 := hdp ⟨35, .data⟩ (by simp) rfl ⟨_, rfl, rfl⟩
                  refine opRun (F := fun v w' => _ ∧ _) (v := .pointer (some ⟨gb, 7, none⟩)) (w' := u) ?_ ⟨hS.same_refl, rfl⟩
                  simp [Act.eval] at f0
                  clear hdp hfr ho oc hS
                  simp [execOp, f0, go_sem]
                | 37, _ =>
                  obtain rfl := (Option.some.inj ho).symm
                  have f0 : a.eval (.tmp 235) = .pointer (some ⟨gb, 7, none⟩) := hdp ⟨36, .data⟩ (by simp) rfl ⟨_, rfl, rfl⟩
                  have g := oc _ _ _ m7
                  refine opRun (F := fun v w' => _ ∧ _) (v := .slice (some ⟨g7, 0, none⟩) (n7 + 1) p7) (w' := u) ?_ ⟨hS.same_refl, rfl⟩
                  simp [Act.eval] at f0
                  clear hdp hfr ho oc hS
                  simp [execOp, f0, g, go_sem]
                | 38, _ =>
                  obtain rfl := (Option.some.inj ho).symm
                  have f0 : a.eval (.tmp 236) = .slice (some ⟨g7, 0, none⟩) (n7 + 1) p7 := hdp ⟨37, .data⟩ (by simp) rfl ⟨_, rfl, rfl⟩
                  refine opRun (F := fun v w' => _ ∧ _) (v := .pointer (some ⟨g7, 0, none⟩)) (w' := u) ?_ ⟨hS.same_refl, rfl⟩
                  simp [Act.eval] at f0
                  clear hdp hfr ho oc hS
                  simp [execOp, f0, go_sem]
                | 39, _ =>
                  obtain rfl := (Option.some.inj ho).symm
                  have f0 : a.eval (.tmp 237) = .pointer (some ⟨g7, 0, none⟩) := hdp ⟨38, .data⟩ (by simp) rfl ⟨_, rfl, rfl⟩
                  have g := oc _ _ _ oe70
                  refine opRun (F := fun v w' => _ ∧ _) (v := .int .i64 x7) (w' := u) ?_ ⟨hS.same_refl, rfl⟩
                  simp [Act.eval] at f0
                  clear hdp hfr ho oc hS
                  simp [execOp, f0, g, go_sem]
                | 40, _ =>
                  obtain rfl := (Option.some.inj ho).symm
                  have f0 : a.eval (.tmp 8) = .slice (some ⟨gb, 0, none⟩) 11 11 := hfr 8 (by omega)
                  refine opRun (F := fun v w' => _ ∧ _) (v := .slice (some ⟨gb, 0, none⟩) 11 11) (w' := u) ?_ ⟨hS.same_refl, rfl⟩
                  simp [Act.eval] at f0
                  clear hdp hfr ho oc hS
                  simp [execOp, f0, go_sem]
                | 41, _ =>
                  obtain rfl := (Option.some.inj ho).symm
                  have f0 : a.eval (.tmp 239) = .slice (some ⟨gb, 0, none⟩) 11 11 := hdp ⟨40, .data⟩ (by simp) rfl ⟨_, rfl, rfl⟩
                  refine opRun (F := fun v w' => _ ∧ _) (v := .pointer (some ⟨gb, 8, none⟩)) (w' := u) ?_ ⟨hS.same_refl, rfl⟩
                  simp [Act.eval] at f0
                  clear hdp hfr ho oc hS
                  simp [execOp, f0, go_sem]
                | 42, _ =>
                  obtain rfl := (Option.some.inj ho).symm
                  have f0 : a.eval (.tmp 240) = .pointer (some ⟨gb, 8, none⟩) := hdp ⟨41, .data⟩ (by simp) rfl ⟨_, rfl, rfl⟩
                  have g := oc _ _ _ m8
                  refine opRun (F := fun v w' => _ ∧ _) (v := .slice (some ⟨g8, 0, none⟩) (n8 + 1) p8) (w' := u) ?_ ⟨hS.same_refl, rfl⟩
                  simp [Act.eval] at f0
                  clear hdp hfr ho oc hS
                  simp [execOp, f0, g, go_sem]
                | 43, _ =>
                  obtain rfl := (Option.some.inj ho).symm
                  have f0 : a.eval (.tmp 241) = .slice (some ⟨g8, 0, none⟩) (n8 + 1) p8 := hdp ⟨42, .data⟩ (by simp) rfl ⟨_, rfl, rfl⟩
                  refine opRun (F := fun v w' => _ ∧ _) (v := .pointer (some ⟨g8, 0, none⟩)) (w' := u) ?_ ⟨hS.same_refl, rfl⟩
                  simp [Act.eval] at f0
                  clear hdp hfr ho oc hS
                  simp [execOp, f0, go_sem]
                | 44, _ =>
                  obtain rfl := (Option.some.inj ho).symm
                  have f0 : a.eval (.tmp 242) = .pointer (some ⟨g8, 0, none⟩) := hdp ⟨43, .data⟩ (by simp) rfl ⟨_, rfl, rfl⟩
                  have g := oc _ _ _ oe80
                  refine opRun (F := fun v w' => _ ∧ _) (v := .int .i64 x8) (w' := u) ?_ ⟨hS.same_refl, rfl⟩
                  simp [Act.eval] at f0
                  clear hdp hfr ho oc hS
                  simp [execOp, f0, g, go_sem]
                | 45, _ =>
                  obtain rfl := (Option.some.inj ho).symm
                  have f0 : a.eval (.tmp 8) = .slice (some ⟨gb, 0, none⟩) 11 11 := hfr 8 (by omega)
                  refine opRun (F := fun v w' => _ ∧ _) (v := .slice (some ⟨gb, 0, none⟩) 11 11) (w' := u) ?_ ⟨hS.same_refl, rfl⟩
                  simp [Act.eval] at f0
                  clear hdp hfr ho oc hS
                  simp [execOp, f0, go_sem]
                | 46, _ =>
                  obtain rfl := (Option.some.inj ho).symm
                  have f0 : a.eval (.tmp 244) = .slice (some ⟨gb, 0, none⟩) 11 11 := hdp ⟨45, .data⟩ (by simp) rfl ⟨_, rfl, rfl⟩
                  refine opRun (F := fun v w' => _ ∧ _) (v := .pointer (some ⟨gb, 9, none⟩)) (w' := u) ?_ ⟨hS.same_refl, rfl⟩
                  simp [Act.eval] at f0
                  clear hdp hfr ho oc hS
                  simp [execOp, f0, go_sem]
                | 47, _ =>
                  obtain rfl := (Option.some.inj ho).symm
                  have f0 : a.eval (.tmp 245) = .pointer (some ⟨gb, 9, none⟩) := hdp ⟨46, .data⟩ (by simp) rfl ⟨_, rfl, rfl⟩
                  have g := oc _ _ _ m9
                  refine opRun (F := fun v w' => _ ∧ _) (v := .slice (some ⟨g9, 0, none⟩) (n9 + 1) p9) (w' := u) ?_ ⟨hS.same_refl, rfl⟩
                  simp [Act.eval] at f0
                  clear hdp hfr ho oc hS
                  simp [execOp, f0, g, go_sem]
                | 48, _ =>
                  obtain rfl := (Option.some.inj ho).symm
                  have f0 : a.eval (.tmp 246) = .slice (some ⟨g9, 0, none⟩) (n9 + 1) p9 := hdp ⟨47, .data⟩ (by simp) rfl ⟨_, rfl, rfl⟩
                  refine opRun (F := fun v w' => _ ∧ _) (v := .pointer (some ⟨g9, 0, none⟩)) (w' := u) ?_ ⟨hS.same_refl, rfl⟩
                  simp [Act.eval] at f0
                  clear hdp hfr ho oc hS
                  simp [execOp, f0, go_sem]
                | 49, _ =>
                  obtain rfl := (Option.some.inj ho).symm
                  have f0 : a.eval (.tmp 247) = .pointer (some ⟨g9, 0, none⟩) := hdp ⟨48, .data⟩ (by simp) rfl ⟨_, rfl, rfl⟩
                  have g := oc _ _ _ oe90
                  refine opRun (F := fun v w' => _ ∧ _) (v := .int .i64 x9) (w' := u) ?_ ⟨hS.same_refl, rfl⟩
                  simp [Act.eval] at f0
                  clear hdp hfr ho oc hS
                  simp [execOp, f0, g, go_sem]
                | 50, _ =>
                  obtain rfl := (Option.some.inj ho).symm
                  have f0 : a.eval (.tmp 9) = .slice (some ⟨gb + 1, 0, none⟩) 11 11 := hfr 9 (by omega)
                  refine opRun (F := fun v w' => _ ∧ _) (v := .slice (some ⟨gb + 1, 0, none⟩) 11 11) (w' := u) ?_ ⟨hS.same_refl, rfl⟩
                  simp [Act.eval] at f0
                  clear hdp hfr ho oc hS
                  simp [execOp, f0, go_sem]
                | 51, _ =>
                  obtain rfl := (Option.some.inj ho).symm
                  have f0 : a.eval (.tmp 249) = .slice (some ⟨gb + 1, 0, none⟩) 11 11 := hdp ⟨50, .data⟩ (by simp) rfl ⟨_, rfl, rfl⟩
                  refine opRun (F := fun v w' => _ ∧ _) (v := .pointer (some ⟨gb + 1, 10, none⟩)) (w' := u) ?_ ⟨hS.same_refl, rfl⟩
                  simp [Act.eval] at f0
                  clear hdp hfr ho oc hS
                  simp [execOp, f0, go_sem]
                | 52, _ =>
                  obtain rfl := (Option.some.inj ho).symm
                  have f0 : a.eval (.tmp 250) = .pointer (some ⟨gb + 1, 10, none⟩) := hdp ⟨51, .data⟩ (by simp) rfl ⟨_, rfl, rfl⟩
                  have g := oc _ _ _ ocs
                  refine opRun (F := fun v w' => _ ∧ _) (v := .bool pr) (w' := u) ?_ ⟨hS.same_refl, rfl⟩
                  simp [Act.eval] at f0
                  clear hdp hfr ho oc hS
                  simp [execOp, f0, g, go_sem]
                | 53, _ =>
                  obtain rfl := (Option.some.inj ho).symm
                  have f0 : a.eval (.tmp 203) = .int .i64 x0 := hdp ⟨4, .data⟩ (by simp) rfl ⟨_, rfl, rfl⟩
                  have f1 : a.eval (.tmp 208) = .int .i64 x1 := hdp ⟨9, .data⟩ (by simp) rfl ⟨_, rfl, rfl⟩
                  have f2 : a.eval (.tmp 213) = .int .i64 x2 := hdp ⟨14, .data⟩ (by simp) rfl ⟨_, rfl, rfl⟩
                  have f3 : a.eval (.tmp 224) = .agg #[.int .i64 x3, .int .i64 y3] := hdp ⟨25, .data⟩ (by simp) rfl ⟨_, rfl, rfl⟩
                  have f4 : a.eval (.tmp 227) = .slice a4 n4 p4 := hdp ⟨28, .data⟩ (by simp) rfl ⟨_, rfl, rfl⟩
                  have f5 : a.eval (.tmp 230) = .slice a5 n5 p5 := hdp ⟨31, .data⟩ (by simp) rfl ⟨_, rfl, rfl⟩
                  have f6 : a.eval (.tmp 233) = .slice a6 n6 p6 := hdp ⟨34, .data⟩ (by simp) rfl ⟨_, rfl, rfl⟩
                  have f7 : a.eval (.tmp 238) = .int .i64 x7 := hdp ⟨39, .data⟩ (by simp) rfl ⟨_, rfl, rfl⟩
                  have f8 : a.eval (.tmp 243) = .int .i64 x8 := hdp ⟨44, .data⟩ (by simp) rfl ⟨_, rfl, rfl⟩
                  have f9 : a.eval (.tmp 248) = .int .i64 x9 := hdp ⟨49, .data⟩ (by simp) rfl ⟨_, rfl, rfl⟩
                  have f10 : a.eval (.tmp 251) = .bool pr := hdp ⟨52, .data⟩ (by simp) rfl ⟨_, rfl, rfl⟩
                  refine opRun (F := fun v w' => _ ∧ _) (v := .agg #[.int .i64 x0, .int .i64 x1, .int .i64 x2, .int .i64 x3, .int .i64 y3, .slice a4 n4 p4, .slice a5 n5 p5, .slice a6 n6 p6, .int .i64 x7, .int .i64 x8, .int .i64 x9, .bool pr]) (w' := u) ?_ ⟨hS.same_refl, rfl⟩
                  simp [Act.eval] at f0 f1 f2 f3 f4 f5 f6 f7 f8 f9 f10
                  clear hdp hfr ho oc hS
                  simp [execOp, f0, f1, f2, f3, f4, f5, f6, f7, f8, f9, f10, go_sem]
                | 54, _ =>
                  obtain rfl := (Option.some.inj ho).symm
                  refine opEnter (F := fun v w' => _ ∧ _) (f := 34) (args := #[]) (w1 := u) ?_ ((fine_c u).mono ?_)
                  · clear hdp hfr ho oc
                    simp [execOp, go_sem]
                  · rintro e u' ⟨rfl, hb⟩
                    obtain ⟨c0, k0, l0⟩ := hS.b0
                    obtain ⟨c1, k1, l1⟩ := hS.b1
                    have hz := hS.size
                    exact ⟨_, rfl, ⟨⟨Nat.le_trans hz hb.size, fun q hq h1 h2 => (hb.block q (by omega)).trans (hS.same q hq h1 h2), ⟨c0, k0, (hb.block _ (by omega)).trans l0⟩, ⟨c1, k1, (hb.block _ (by omega)).trans l1⟩, hb.os.trans hS.os, hb.tape.trans hS.tape, hb.output.trans hS.output⟩, Or.inl (hb.block _ (by omega)), Or.inl (hb.block _ (by omega))⟩, rfl⟩
                | 55, _ =>
                  obtain rfl := (Option.some.inj ho).symm
                  have f0 : a.eval (.tmp 252) = .agg #[.int .i64 x0, .int .i64 x1, .int .i64 x2, .int .i64 x3, .int .i64 y3, .slice a4 n4 p4, .slice a5 n5 p5, .slice a6 n6 p6, .int .i64 x7, .int .i64 x8, .int .i64 x9, .bool pr] := hdp ⟨53, .data⟩ (by simp) rfl ⟨_, rfl, rfl⟩
                  have f1 : a.eval (.tmp 2) = .pointer (some ⟨w.heap.size, 0, none⟩) := hfr 2 (by omega)
                  obtain ⟨c0, k0, l0⟩ := hS.b0
                  obtain ⟨c1, k1, l1⟩ := hS.b1
                  exact wp_store_row 45 (.tmp 2) (.tmp 252) rfl w.heap.size #[.int .i64 x0, .int .i64 x1, .int .i64 x2, .int .i64 x3, .int .i64 y3, .slice a4 n4 p4, .slice a5 n5 p5, .slice a6 n6 p6, .int .i64 x7, .int .i64 x8, .int .i64 x9, .bool pr] f1 f0 45 c0 l0 Tryd.infTab k0 (by simp [Value.oneCell']) ⟨_, rfl, ⟨⟨by simpa using hS.size, fun q hq h1 h2 => (setRow_other _ _ _ _ h1).trans (hS.same q hq h1 h2), ⟨_, rfl, setRow_heap _ _ _ _ _ _ l0⟩, ⟨c1, k1, (setRow_other _ _ _ _ (by omega)).trans l1⟩, hS.os, hS.tape, hS.output⟩, Or.inr (setRow_heap _ _ _ _ _ _ l0), Or.inl (setRow_other _ _ _ _ (by omega))⟩, setRow_heap _ _ _ _ _ _ l0⟩
                | 56, _ =>
                  obtain rfl := (Option.some.inj ho).symm
                  have f0 : a.eval (.tmp 253) = .agg #[.int .i64 0, .int .i64 (-1), .int .i64 (-1), .int .i64 (-1)] := hdp ⟨54, .data⟩ (by simp) rfl ⟨_, rfl, rfl⟩
                  have f1 : a.eval (.tmp 3) = .pointer (some ⟨w.heap.size + 1, 0, none⟩) := hfr 3 (by omega)
                  obtain ⟨c0, k0, l0⟩ := hS.b0
                  obtain ⟨c1, k1, l1⟩ := hS.b1
                  exact wp_store_row 29 (.tmp 3) (.tmp 253) rfl (w.heap.size + 1) #[.int .i64 0, .int .i64 (-1), .int .i64 (-1), .int .i64 (-1)] f1 f0 29 c1 l1 Tryd.infRF k1 (by simp [Value.oneCell']) ⟨_, rfl, ⟨⟨by simpa using hS.size, fun q hq h1 h2 => (setRow_other _ _ _ _ h2).trans (hS.same q hq h1 h2), ⟨c0, k0, (setRow_other _ _ _ _ (by omega)).trans l0⟩, ⟨_, rfl, setRow_heap _ _ _ _ _ _ l1⟩, hS.os, hS.tape, hS.output⟩, Or.inl (setRow_other _ _ _ _ (by omega)), Or.inr (setRow_heap _ _ _ _ _ _ l1)⟩, setRow_heap _ _ _ _ _ _ l1⟩
              case fin =>
                intro a u hS hdf hts hout hok hno
                have h0 : u.heap[w.heap.size]? = some (.cells #[.int .i64 x0, .int .i64 x1, .int .i64 x2, .int .i64 x3, .int .i64 y3, .slice a4 n4 p4, .slice a5 n5 p5, .slice a6 n6 p6, .int .i64 x7, .int .i64 x8, .int .i64 x9, .bool pr] 45 (0, 0)) := (hno 55 _ rfl rfl).2.elim fun _ h => h
                have h1 : u.heap[w.heap.size + 1]? = some (.cells #[.int .i64 0, .int .i64 (-1), .int .i64 (-1), .int .i64 (-1)] 29 (0, 0)) := (hno 56 _ rfl rfl).2.elim fun _ h => h
                have e2 : a.eval (.tmp 2) = .pointer (some ⟨w.heap.size, 0, none⟩) := hout 2 (Or.inl (by omega))
                have e3 : a.eval (.tmp 3) = .pointer (some ⟨w.heap.size + 1, 0, none⟩) := hout 3 (Or.inl (by omega))
                clear hok hno hout
                go_wp2
                refine bodyPost_ret (results_row_row (fn := Tryd.f15) (p := 2) (q := 3) (ty := 45) (uy := 29) rfl _ _ w.heap.size 45 _ (0, 0) _ ?g0 h0 Tryd.underlying45 rfl Tryd.infTab (w.heap.size + 1) 29 _ (0, 0) _ ?g1 h1 Tryd.underlying29 rfl Tryd.infRF) hdf ?_
                case g0 => simpa [Act.eval] using e2
                case g1 => simpa [Act.eval] using e3
                have hbu : Below w.heap.size w u := (unhideQ HBL).trans ⟨hS.os, hS.tape, hS.output, by have := hS.size; omega, fun q hq => hS.same q (by omega) (by omega) (by omega)⟩
                have hrow := fun k (hk : k < 11) => row_mono (row_same (u := u) ((unhideQ HR).row k hk) (fun q h1 h2 => hS.same q h2 (by omega) (by omega))) (show w.heap.size ≤ W.heap.size by omega)
                unfold RParsed
                rw [hF, HP]
                refine ⟨hbu, vs 4, vs 5, vs 6, ?_, hrow 4 (by decide), hrow 5 (by decide), hrow 6 (by decide)⟩
                simp [tabV, boxOf, q0, q1, q2, q3, q7, q8, q9, v4, v5, v6, hpr]
        · -- a word
          rw [kb3] at ck
          have ctx : wr.cell? ⟨tb, S.i * 3 + 1, none⟩ = some (.string ⟨(tAt s l S.i).data.toList.toArray⟩) := by rw [← tAt_mk]; exact unhideQ HTX
          generalize htx : (tAt s l S.i).data.toList = tx at ctx
          go_wp2_with fail
          go_loopw [11, 50] (fun k j wr' => ∃ jj : Nat, j = .int .i64 jj ∧ jj ≤ 11 ∧ wr' = wr ∧ ((k = .int .i64 (-1) ∧ ∀ q, q < jj → ¬ nameOk s l S.i S.sn q) ∨ ∃ k0 : Nat, nameOk s l S.i S.sn k0 ∧ k = .int .i64 k0)) (fun _ j _ => 11 - (intOf j).toNat)
          case atStart => exact ⟨0, rfl, by omega, rfl, Or.inl ⟨rfl, fun q hq => by omega⟩⟩
          case round =>
            obtain ⟨jj, rfl, hjj, rfl, hkk⟩ := hrel
            by_cases hj : jj < 11
            · have cn := (unhideQ HR).nms (unhideQ HRW) jj hj
              have cs := (unhideQ HR).sns jj hj
              have HK := hideQ hkk
              clear hkk
              by_cases hn : nm jj = tx
              · rw [hn] at cn
                cases hsn : S.sn jj with
                | true =>
                  rw [hsn] at cs
                  go_wp2
                  go_roundw
                  case rel => exact ⟨jj + 1, by go_num, by omega, trivial, (unhideQ HK).imp (fun h => ⟨h.1, fun q hq => by
                    rcases Nat.lt_succ_iff_lt_or_eq.1 hq with h' | h'
                    · exact h.2 q h'
                    · subst h'; exact fun c => by rw [c.2.2] at hsn; cases hsn⟩) id⟩
                  case measure => simp [intOf]; omega
                | false =>
                  rw [hsn] at cs
                  have hok : nameOk s l S.i S.sn jj := ⟨hj, hn.trans htx.symm, hsn⟩
                  go_wp2
                  go_roundw
                  case rel => exact ⟨jj + 1, by go_num, by omega, trivial, Or.inr ⟨jj, hok, rfl⟩⟩
                  case measure => simp [intOf]; omega
              · have hse : (tx == nm jj) = false := by simpa using fun e => hn e.symm
                have hse2 : (nm jj == tx) = false := by simpa using hn
                go_wp2
                go_roundw
                case rel => exact ⟨jj + 1, by go_num, by omega, trivial, (unhideQ HK).imp (fun h => ⟨h.1, fun q hq => by
                  rcases Nat.lt_succ_iff_lt_or_eq.1 hq with h' | h'
                  · exact h.2 q h'
                  · subst h'; exact fun c => hn (c.2.1.trans htx)⟩) id⟩
                case measure => simp [intOf]; omega
            · obtain rfl : jj = 11 := by omega
              rcases hkk with ⟨rfl, hno⟩ | ⟨k0, hok, rfl⟩
              · have hNo : nameK s l S.i S.sn = none := nameK_none (fun k h => hno k h.1 h)
                have hI : itemF s l S = (false, S) := by unfold itemF; rw [hNo]
                have hfin : parseF s = .inl (1, atAt s l S.i) := by
                  rw [hF]
                  unfold parseL
                  rw [← unhideQ HE]
                  obtain ⟨f, rfl⟩ : ∃ f', f = f' + 1 := ⟨f - 1, by omega⟩
                  simp [itemsF, hlt, hI]
                clear hno
                go_wp2_with fail
                refine (placed_c 1 (atAt s l S.i) _).mono ?_
                rintro e wB ⟨rfl, hbB⟩
                have HZ0 := hideQ ((hbB.block w.heap.size (by omega)).trans (unhideQ HR0))
                have HZ1 := hideQ ((hbB.block (w.heap.size + 1) (by omega)).trans (unhideQ HR1))
                have HZB := hideQ ((unhideQ HBL).trans (hbB.mono (by omega)))
                clear hbB
                go_wp2_with (first | (refine wpList_store_row rfl 45 (.tmp 2) (.tmp 81) rfl w.heap.size #[.int .i64 0, .int .i64 0, .int .i64 0, .int .i64 0, .int .i64 0, .slice none 0 0, .slice none 0 0, .slice none 0 0, .int .i64 0, .int .i64 0, .int .i64 0, .bool false] rfl rfl 45 _ (unhideQ HZ0) Tryd.infTab rfl (by simp [Value.oneCell']) ?_) | (refine wpList_store_row rfl 29 (.tmp 3) (.tmp 87) rfl (w.heap.size + 1) _ rfl rfl 29 _ ((setRow_other _ _ _ _ (by omega)).trans (unhideQ HZ1)) Tryd.infRF rfl (by simp [Value.oneCell']) ?_))
                refine bodyPost_ret (results_row_row (fn := Tryd.f15) (p := 2) (q := 3) (ty := 45) (uy := 29) rfl _ _ w.heap.size 45 #[.int .i64 0, .int .i64 0, .int .i64 0, .int .i64 0, .int .i64 0, .slice none 0 0, .slice none 0 0, .slice none 0 0, .int .i64 0, .int .i64 0, .int .i64 0, .bool false] (0, 0) _ rfl ((setRow_other _ _ _ _ (by omega)).trans (setRow_heap _ _ _ _ _ _ (unhideQ HZ0))) Tryd.underlying45 rfl Tryd.infTab (w.heap.size + 1) 29 #[.int .i64 1, .int .i64 (-1), .int .i64 (-1), .int .i64 (atAt s l S.i)] (0, 0) _ rfl (setRow_heap _ _ _ _ _ _ ((setRow_other _ _ _ _ (by omega)).trans (unhideQ HZ1))) Tryd.underlying29 rfl Tryd.infRF) rfl ?_
                unfold RParsed
                rw [hfin]
                exact ⟨below_setRow (below_setRow (unhideQ HZB) (Nat.le_refl _) _) (by omega) _, rfl⟩
              · have hk0 := hok.1
                have HNK := hideQ (nameK_some hok)
                have hsnk := hok.2.2
                have cs := (unhideQ HR).sns k0 hk0
                have sf := (unhideQ HR).sfz k0
                have HS1 := hideQ ((unhideQ HR).seen (unhideQ HRW) k0 hk0 (S.i + 1))
                have tk1 := (unhideQ HS1).tk (unhideQ HRW) (S.i + 1) (by omega)
                have c1 := tk1.1
                have hvk := (unhideQ HR).new k0 hk0 hsnk
                have HVK := hideQ hvk
                clear tk1 hok hvk ck
                have HHT := hideQ hlt
                go_upto_region 22 with fail
                go_cut [102] from 42 to 185 (fun c wc => c = .bool (decide (k0 = 2 ∧ kAt l (S.i + 1) = 5)) ∧ wc = wr.setCell ⟨gb + 1, k0, none⟩ (.bool true))
                case first =>
                  by_cases h2 : k0 = 2
                  · subst h2
                    by_cases h5 : kAt l (S.i + 1) = 5
                    · have kb5 : kbAt l (S.i + 1) = 45 := by rcases kAt_cases (unhideQ HW) (S.i + 1) with h | h | h | h | h <;> omega
                      rw [kb5] at c1
                      go_wp2
                      go_meet
                      case rel => exact ⟨by simp [h5], rfl⟩
                    · have kb5 : kbAt l (S.i + 1) ≠ 45 := by rcases kAt_cases (unhideQ HW) (S.i + 1) with h | h | h | h | h <;> omega
                      generalize kbAt l (S.i + 1) = kq at c1 kb5
                      have zk3 : ((kq : Int) == 45) = false := by simp; omega
                      go_wp2
                      go_meet
                      case rel => exact ⟨by simp [h5], rfl⟩
                  · have zk2 : ((k0 : Int) == 2) = false := by simp; omega
                    go_wp2
                    go_meet
                    case rel => exact ⟨by simp [h2], rfl⟩
                case rest =>
                  obtain ⟨rfl, rfl⟩ := hcut
                  go_upto_if 102 with fail
                  go_cut [10] from 42 to 185 (fun iv wc => ∃ (i' : Nat) (ns : List Int) (ua : Option Addr) (ucap : Nat), iv = .int .i64 i' ∧ i' ≤ l.length ∧ numsF s l k0 13 (S.i + 1) [] = (i', ns) ∧ RL w W wc (gb + 1) gb ⟨i', updS S.sn k0, updL S.vals k0 ns⟩ (updV vs k0 (.slice ua ns.length ucap)))
                  case first =>
                    by_cases hd : k0 = 2 ∧ kAt l (S.i + 1) = 5
                    · rw [decide_eq_true hd]
                      obtain ⟨rfl, hd5⟩ := hd
                      have kb5 : kbAt l (S.i + 1) = 45 := by rcases kAt_cases (unhideQ HW) (S.i + 1) with h | h | h | h | h <;> omega
                      have hl2 : S.i + 1 < l.length := by rcases kAt_cases (unhideQ HW) (S.i + 1) with h | h | h | h | h <;> omega
                      have HS2 := hideQ (fun X => (unhideQ HS1).below (unhideQ HRW) ((Below.refl _ _).alloc (Nat.le_refl _) X))
                      have cg := ((unhideQ HS2) (.cells #[.int .i64 (-1)] 3)).got 2 hk0
                      have gf := ((unhideQ HS2) (.cells #[.int .i64 (-1)] 3)).gfz 2
                      rw [unhideQ HVK] at cg
                      have hN : numsF s l 2 13 (S.i + 1) [] = (S.i + 1 + 1, [-1]) := numsF_dash hd5
                      have HN := hideQ hN
                      have hro : ((wr.setCell ⟨gb + 1, 2, none⟩ (.bool true)).alloc (.cells #[.int .i64 (-1)] 3)).ownsRow W.heap.size 3 1 (.slice (some ⟨wr.heap.size, 0, none⟩) 1 1) ([-1] : List Int).length (iCells [-1]) :=
                        ⟨rfl, Or.inr ⟨wr.heap.size, 1, #[.int .i64 (-1)], rfl, hsz, by have := heap_alloc_new (wr.setCell ⟨gb + 1, 2, none⟩ (.bool true)) (.cells #[.int .i64 (-1)] 3); simpa using this, by decide, by unfold maxLen; omega, rfl, rfl⟩⟩
                      have HRV := hideQ (((unhideQ HS2) (.cells #[.int .i64 (-1)] 3)).put (u := .slice (some ⟨wr.heap.size, 0, none⟩) 1 1) (ns := [-1]) (unhideQ HRW) 2 hk0 (by simp [updS]) hro (S.i + 1 + 1))
                      have hfitV : S.i + 1 + 1 ≤ l.length := by omega
                      clear hro hN c1 ca ctx cs sf
                      go_wp2_with fail
                      go_meet
                      case rel => exact ⟨S.i + 1 + 1, [-1], some ⟨wr.heap.size, 0, none⟩, 1, by go_num, hfitV, unhideQ HN, unhideQ HRV⟩
                    · rw [decide_eq_false hd]
                      have HD := hideQ hd
                      clear hd
                      have hw5 : ∀ X : World, X = wr.setCell ⟨gb + 1, k0, none⟩ (.bool true) → RL w W X (gb + 1) gb ⟨S.i + 1, updS S.sn k0, S.vals⟩ vs := fun X e => by rw [e]; exact unhideQ HS1
                      generalize hW5 : wr.setCell ⟨gb + 1, k0, none⟩ (.bool true) = w5 at c1 hw5 ⊢
                      have HS5 := hideQ (hw5 w5 rfl)
                      clear hw5 HS1
                      have hz5 := (unhideQ HS5).size
                      have HNL0 := hideQ (show NL s l w5 w5 gb k0 (S.i + 1) vs 13 (S.i + 1) [] (vs k0) from
                        ⟨⟨rfl, rfl, rfl, Nat.le_refl _, fun _ _ _ => rfl⟩, fun j hj => ((unhideQ HS5).got j hj).trans (by rw [updV_self]), (unhideQ HS5).gfz, by rw [unhideQ HVK]; exact World.ownsRow_nil _ _ _ _, rfl, by simp, by simp, by omega, fun h1 h2 => absurd ⟨h1, h2⟩ (unhideQ HD)⟩)
                      clear hW5 cs sf c1 ca ctx
                      go_wp2_with fail
                      go_loopw [10] (fun iv wr' => ∃ (i' f' : Nat) (ns : List Int) (u : Value), iv = .int .i64 i' ∧ NL s l w5 wr' gb k0 (S.i + 1) vs f' i' ns u) (fun _ wr' => 13 - lenV (wr'.cell? ⟨gb, k0, none⟩))
                      case atStart => exact ⟨S.i + 1, 13, [], vs k0, by go_num, unhideQ HNL0⟩
                      case round =>
                        obtain ⟨i', f', ns, u, rfl, hNL⟩ := hrel
                        obtain ⟨ua, ucap, rfl⟩ : ∃ ua ucap, u = .slice ua ns.length ucap := by
                          rcases hNL.row.2 with ⟨e1, e2⟩ | ⟨g, cap, cur, e1, -⟩
                          · rw [e2]; exact ⟨_, _, e1⟩
                          · exact ⟨_, _, e1⟩
                        have HRB := hideQ (hNL.back (unhideQ HS5) (unhideQ HRW) hk0 (by simp [updS]) i')
                        have cg := hNL.got k0 hk0
                        simp only [updV, if_true] at cg
                        have ch := ((unhideQ HRB).cts (unhideQ HRW) k0 hk0).2
                        have hfitV := hNL.fit
                        have tkN := (unhideQ HRB).tk (unhideQ HRW) i' hfitV
                        have ckN := tkN.1
                        have ctN := tkN.2.1
                        have h12 := hiK_le k0
                        have hlen := hNL.len
                        have HNL := hideQ hNL
                        clear hNL tkN
                        by_cases hc4 : kAt l i' = 4
                        · have kb4 : kbAt l i' = 110 := by rcases kAt_cases (unhideQ HW) i' with h | h | h | h | h <;> omega
                          have hi4 : i' < l.length := by rcases kAt_cases (unhideQ HW) i' with h | h | h | h | h <;> omega
                          rw [kb4] at ckN
                          by_cases hcl : ns.length < hiK k0
                          · by_cases hc3 : (tAt s l i').size ≤ 3
                            · obtain ⟨f', rfl⟩ : ∃ f2, f' = f2 + 1 := ⟨f' - 1, by have := (unhideQ HNL).fuel; omega⟩
                              have HEQ := hideQ ((numsF_go hc4 hcl hc3).symm.trans (unhideQ HNL).eq)
                              have hat := tok_digits (unhideQ HW) hc4
                              have HDA := hideQ (show k0 = 2 → kAt l (i' + 1) = 5 → ¬ (ns ++ [((valN (tAt s l i').data.toList : Nat) : Int)]).length < hiK k0 from fun h1 _ => by rw [h1]; simp [hiK])
                              generalize hiK k0 = hh at ch hcl h12
                              have HAT := hideQ hat
                              generalize hzv : ((valN (tAt s l i').data.toList : Nat) : Int) = z at HEQ HAT HDA
                              generalize htz : (tAt s l i') = tz at HAT ctN hc3
                              clear hat hzv htz
                              have b2 : decide ((ns.length : Int) < (hh : Int)) = true := decide_eq_true (by omega)
                              have b3 : decide ((tz.size : Int) ≤ 3) = true := decide_eq_true (by omega)
                              go_wp2_with fail
                              go_quiet (fail)
                              go_wp2_with fail
                              refine (Tryd.strconv_Atoi tz z (by omega) (unhideQ HAT) _).mono ?_
                              rintro e w6 ⟨rfl, tt, hw6⟩
                              have hb6 : Below wr.heap.size wr w6 := by rw [hw6]; exact (below_drewN (Below.refl wr.heap.size wr) _).trans (bytes_low (wr.drewN _) _ _)
                              clear hw6
                              have hz6 := hb6.size
                              have hsz' := (unhideQ HNL).grow.size
                              have HB6 := hideQ hb6
                              have hlg : gb < wr.heap.size := World.block_lt_of_cell? wr _ cg
                              have hb6g : w6.heap[gb]? = wr.heap[gb]? := hb6.block gb hlg
                              have cg6 : w6.cell? ⟨gb, k0, none⟩ = some (.slice ua ns.length ucap) := (World.cell?_of_block hb6g).trans cg
                              have gf6 : w6.frozen? ⟨gb, k0, none⟩ = false := (World.frozen?_of_block (a := ⟨gb, k0, none⟩) hb6g).trans ((unhideQ HNL).gfz k0)
                              have HOW6 := hideQ (World.ownsRow.kept (unhideQ HNL).row (gb_of_below (row := none) (w' := w6) ⟨hb6.os, hb6.tape, hb6.output, hb6.size, fun q hq => hb6.block q hq⟩) (by cases (Value.slice ua ns.length ucap).ownBlock <;> simp))
                              have HG6 := hideQ (gb_trans (unhideQ HNL).grow (gb_of_below (row := some gb) (w' := w6) ⟨hb6.os, hb6.tape, hb6.output, hb6.size, fun q hq => hb6.block q hq⟩))
                              have HBG := hideQ hb6g
                              clear hb6 hb6g
                              have hgW := hne.2.2.1.2
                              go_wp2_with (at_builtin; refine wpList_append_own _ rfl _ _ 43 rfl w5.heap.size 3 ti _ 1 8 Tryd.underlying43 hti hz0 hz1 hz2 rfl (by decide) _ _ _ rfl ((unhideQ HOW6).alloc _) ⟨w6.heap.size, 0, none⟩ 1 1 [.int .i64 z] rfl rfl (by intro j u hj; match j, hj with | 0, hj => (simp at hj; subst hj; simp [Addr.add])) (by intro u hu; simp at hu; subst hu; rfl) ?c3 ?c4 ?c5 ?_)
                              case c3 => unfold maxLen; omega
                              case c4 => omega
                              case c5 => simp; omega
                              intro v' w7 hown hgr _
                              obtain ⟨g2, cap2, rfl⟩ := own1_form hown
                              have hblk := hgr.block gb (by simp; omega) (by intro e; have := ((unhideQ HOW6).lt gb e.symm).1; omega)
                              have hblk6 : w7.heap[gb]? = w6.heap[gb]? := hblk.trans (al_old _ _ _ (by omega))
                              have cg8 : w7.cell? ⟨gb, k0, none⟩ = some (.slice ua ns.length ucap) := (World.cell?_of_block hblk6).trans cg6
                              have gf8 : w7.frozen? ⟨gb, k0, none⟩ = false := (World.frozen?_of_block (a := ⟨gb, k0, none⟩) hblk6).trans gf6
                              have HBK := hideQ (hblk6.trans (unhideQ HBG))
                              have HOWN := hideQ hown
                              have HGR := hideQ hgr
                              clear hown hgr hblk hblk6
                              go_wp2
                              go_roundw
                              case rel =>
                                refine ⟨i' + 1, f', ns ++ [z], .slice (some ⟨g2, 0, none⟩) (ns.length + 1) cap2, by go_num, ⟨gb_trans (gb_high (gb_trans (unhideQ HG6) (gb_of_below ((Below.refl w6.heap.size w6).alloc (Nat.le_refl _) _))) (unhideQ HGR) (fun q hq => ((unhideQ HOW6).lt q hq).1)) (gb_set _ _ _ _), fun j hj => ?_, fun j => ?_, ?_, unhideQ HEQ, by have := (unhideQ HNL).fuel; simp; omega, by simp; omega, by omega, unhideQ HDA⟩⟩
                                · by_cases hjk : j = k0
                                  · subst hjk
                                    rw [World.cell?_setCell_same _ _ _ cg8]
                                    simp [updV]
                                  · rw [World.cell?_setCell_other _ _ _ _ (by intro e; simp at e; first | done | omega)]
                                    have := (World.cell?_of_block (unhideQ HBK)).trans ((unhideQ HNL).got j hj)
                                    rw [this]
                                    simp [updV, hjk]
                                · rw [World.frozen?_setCell]
                                  exact (World.frozen?_of_block (a := ⟨gb, j, none⟩) (unhideQ HBK)).trans ((unhideQ HNL).gfz j)
                                · have h1 := ownsRow_setCell_below (unhideQ HOWN) (a := ⟨gb, k0, none⟩) (show gb < w5.heap.size by omega) (.slice (some ⟨g2, 0, none⟩) (ns.length + 1) cap2)
                                  have e1 : iCells (ns ++ [z]) = iCells ns ++ [.int .i64 z] := by simp [iCells]
                                  have e2 : (ns ++ [z]).length = ns.length + 1 := by simp
                                  rw [e1, e2]
                                  exact h1
                              case measure =>
                                rw [World.cell?_setCell_same _ _ _ cg8, cg]
                                simp only [lenV]
                                omega
                            · have hN : numsF s l k0 13 (S.i + 1) [] = (i', ns) := by rw [← (unhideQ HNL).eq]; exact numsF_stop (by omega) (unhideQ HNL).dash
                              have HN := hideQ hN
                              generalize hiK k0 = hh at ch hcl h12
                              generalize htz : (tAt s l i') = tz at ctN hc3
                              have b2 : decide ((ns.length : Int) < (hh : Int)) = true := decide_eq_true (by omega)
                              have b3 : decide ((tz.size : Int) ≤ 3) = false := decide_eq_false (by omega)
                              clear hN htz
                              go_wp2_with fail
                              go_quiet (fail)
                              go_wp2_with fail
                              go_meet
                              case rel => exact ⟨i', ns, ua, ucap, rfl, hfitV, unhideQ HN, (unhideQ HRB).below (unhideQ HRW) (below_drewN (Below.refl _ _) _)⟩
                          · have hN : numsF s l k0 13 (S.i + 1) [] = (i', ns) := by rw [← (unhideQ HNL).eq]; exact numsF_stop (by omega) (unhideQ HNL).dash
                            have HN := hideQ hN
                            generalize hiK k0 = hh at ch hcl h12
                            have b2 : decide ((ns.length : Int) < (hh : Int)) = false := decide_eq_false (by omega)
                            clear hN
                            go_wp2_with fail
                            go_quiet (fail)
                            go_wp2_with fail
                            go_meet
                            case rel => exact ⟨i', ns, ua, ucap, rfl, hfitV, unhideQ HN, (unhideQ HRB).below (unhideQ HRW) (below_drewN (Below.refl _ _) _)⟩
                        · have hN : numsF s l k0 13 (S.i + 1) [] = (i', ns) := by rw [← (unhideQ HNL).eq]; exact numsF_stop (by omega) (unhideQ HNL).dash
                          have HN := hideQ hN
                          have kb4 : kbAt l i' ≠ 110 := by rcases kAt_cases (unhideQ HW) i' with h | h | h | h | h <;> omega
                          generalize hkx : kbAt l i' = kx at ckN kb4
                          have z110 : ((kx : Int) == 110) = false := by simp; omega
                          clear hN hkx
                          go_wp2_with fail
                          go_quiet (fail)
                          go_wp2_with fail
                          go_meet
                          case rel => exact ⟨i', ns, ua, ucap, rfl, hfitV, unhideQ HN, (unhideQ HRB).below (unhideQ HRW) (below_drewN (Below.refl _ _) _)⟩
                  case rest =>
                    obtain ⟨i', ns, ua, ucap, rfl, hfitV, hN, hRV⟩ := hcut
                    have HRD := hideQ hRV
                    clear hRV cs sf c1 ca ctx
                    have cgT := (unhideQ HRD).got k0 hk0
                    simp only [updV, if_true] at cgT
                    have clT := ((unhideQ HRD).cts (unhideQ HRW) k0 hk0).1
                    have tkT := (unhideQ HRD).tk (unhideQ HRW) (i') hfitV
                    have ckT := tkT.1
                    have caT := tkT.2.2
                    have hresT := (unhideQ HRD).res (unhideQ HRW)
                    have HR0T := hideQ hresT.1
                    have HR1T := hideQ hresT.2
                    have hszT := (unhideQ HRD).size
                    have hN1 : (numsF s l k0 13 (S.i + 1) []).1 = i' := by rw [hN]
                    have hN2 : (numsF s l k0 13 (S.i + 1) []).2 = (ns) := by rw [hN]
                    clear tkT hresT
                    obtain ⟨f1, hf1⟩ : ∃ f', f = f' + 1 := ⟨f - 1, by omega⟩
                    have hff : f ≤ f1 + 1 := by omega
                    have hge : S.i + 1 ≤ i' := by have := numsF_ge s l k0 13 (S.i + 1) []; rw [hN] at this; exact this
                    have hErr : itemF s l S = (false, ⟨i', updS S.sn k0, updL S.vals k0 (ns)⟩) → parseF s = .inl (1, atAt s l (i')) := fun hI => by
                      rw [hF]
                      unfold parseL
                      rw [← unhideQ HE, hf1]
                      simp [itemsF, hlt, hI]
                    by_cases hlo : loK k0 ≤ (ns).length
                    · by_cases h6 : kAt l (i') = 6
                      · have kb6 : kbAt l (i') = 59 := by rcases kAt_cases (unhideQ HW) (i') with h | h | h | h | h <;> omega
                        have hIl := kAt6 h6
                        have hI : itemF s l S = (true, ⟨i' + 1, updS S.sn k0, updL S.vals k0 (ns)⟩) := by
                          unfold itemF
                          rw [unhideQ HNK]
                          simp only [hN1, hN2, hlo, h6, if_true]
                        have hE' : itemsF s l f1 ⟨i' + 1, updS S.sn k0, updL S.vals k0 (ns)⟩ = itemsF s l l.length S00 := by
                          rw [← unhideQ HE, hf1]
                          simp [itemsF, hlt, hI]
                        have HE' := hideQ hE'
                        rw [kb6] at ckT
                        clear hE' hI hErr hN1 hN2 hN hf1
                        generalize loK k0 = lo at clT hlo
                        have zlo : decide ((ns.length : Int) < (lo : Int)) = false := decide_eq_false (by omega)
                        have zloN : decide (ns.length < lo) = false := decide_eq_false (by omega)
                        go_wp2_with fail
                        go_quiet (fail)
                        go_wp2_with fail
                        go_roundw
                        case rel => exact ⟨⟨i' + 1, updS S.sn k0, updL S.vals k0 (ns)⟩, _, f1, by go_num, ((unhideQ HRD).below (unhideQ HRW) (below_drewN (Below.refl _ _) _)).idx (i' + 1), unhideQ HE', by simp only; omega, by simp only; omega⟩
                        case measure => simp [intOf]; omega
                      · have hI : itemF s l S = (false, ⟨i', updS S.sn k0, updL S.vals k0 (ns)⟩) := by
                          unfold itemF
                          rw [unhideQ HNK]
                          simp only [hN1, hN2, hlo, h6, if_true, if_false]
                        have hfinT := hErr hI
                        have kb6 : kbAt l (i') ≠ 59 := by rcases kAt_cases (unhideQ HW) (i') with h | h | h | h | h <;> omega
                        clear hI hErr hN1 hN2 hN hf1
                        generalize kbAt l (i') = kq at ckT kb6
                        have z59 : ((kq : Int) == 59) = false := by simp; omega
                        generalize loK k0 = lo at clT hlo
                        have zlo : decide ((ns.length : Int) < (lo : Int)) = false := decide_eq_false (by omega)
                        have zloN : decide (ns.length < lo) = false := decide_eq_false (by omega)
                        go_wp2_with fail
                        go_quiet (fail)
                        go_wp2_with fail
                        refine (placed_c 1 (atAt s l (i')) _).mono ?_
                        rintro e wB ⟨rfl, hbB⟩
                        have HZ0 := hideQ ((hbB.block w.heap.size (by simp; omega)).trans (unhideQ HR0T))
                        have HZ1 := hideQ ((hbB.block (w.heap.size + 1) (by simp; omega)).trans (unhideQ HR1T))
                        have HZB := hideQ ((unhideQ (hideQ (below_drewN (unhideQ HRD).low _))).trans (hbB.mono (by simp; omega)))
                        clear hbB
                        go_wp2_with (first | (refine wpList_store_row rfl 45 (.tmp 2) (.tmp 177) rfl w.heap.size #[.int .i64 0, .int .i64 0, .int .i64 0, .int .i64 0, .int .i64 0, .slice none 0 0, .slice none 0 0, .slice none 0 0, .int .i64 0, .int .i64 0, .int .i64 0, .bool false] rfl rfl 45 _ (unhideQ HZ0) Tryd.infTab rfl (by simp [Value.oneCell']) ?_) | (refine wpList_store_row rfl 29 (.tmp 3) (.tmp 183) rfl (w.heap.size + 1) _ rfl rfl 29 _ ((setRow_other _ _ _ _ (by omega)).trans (unhideQ HZ1)) Tryd.infRF rfl (by simp [Value.oneCell']) ?_))
                        refine bodyPost_ret (results_row_row (fn := Tryd.f15) (p := 2) (q := 3) (ty := 45) (uy := 29) rfl _ _ w.heap.size 45 #[.int .i64 0, .int .i64 0, .int .i64 0, .int .i64 0, .int .i64 0, .slice none 0 0, .slice none 0 0, .slice none 0 0, .int .i64 0, .int .i64 0, .int .i64 0, .bool false] (0, 0) _ rfl ((setRow_other _ _ _ _ (by omega)).trans (setRow_heap _ _ _ _ _ _ (unhideQ HZ0))) Tryd.underlying45 rfl Tryd.infTab (w.heap.size + 1) 29 #[.int .i64 1, .int .i64 (-1), .int .i64 (-1), .int .i64 (atAt s l (i'))] (0, 0) _ rfl (setRow_heap _ _ _ _ _ _ ((setRow_other _ _ _ _ (by omega)).trans (unhideQ HZ1))) Tryd.underlying29 rfl Tryd.infRF) rfl ?_
                        unfold RParsed
                        rw [hfinT]
                        exact ⟨below_setRow (below_setRow (unhideQ HZB) (Nat.le_refl _) _) (by omega) _, rfl⟩
                    · have hI : itemF s l S = (false, ⟨i', updS S.sn k0, updL S.vals k0 (ns)⟩) := by
                        unfold itemF
                        rw [unhideQ HNK]
                        simp only [hN1, hN2, hlo, if_false]
                      have hfinT := hErr hI
                      clear hI hErr hN1 hN2 hN hf1
                      generalize loK k0 = lo at clT hlo
                      have zlo : decide ((ns.length : Int) < (lo : Int)) = true := decide_eq_true (by omega)
                      have zloN : decide (ns.length < lo) = true := decide_eq_true (by omega)
                      go_wp2_with fail
                      go_quiet (fail)
                      go_wp2_with fail
                      refine (placed_c 1 (atAt s l (i')) _).mono ?_
                      rintro e wB ⟨rfl, hbB⟩
                      have HZ0 := hideQ ((hbB.block w.heap.size (by simp; omega)).trans (unhideQ HR0T))
                      have HZ1 := hideQ ((hbB.block (w.heap.size + 1) (by simp; omega)).trans (unhideQ HR1T))
                      have HZB := hideQ ((unhideQ (hideQ (below_drewN (unhideQ HRD).low _))).trans (hbB.mono (by simp; omega)))
                      clear hbB
                      go_wp2_with (first | (refine wpList_store_row rfl 45 (.tmp 2) (.tmp 177) rfl w.heap.size #[.int .i64 0, .int .i64 0, .int .i64 0, .int .i64 0, .int .i64 0, .slice none 0 0, .slice none 0 0, .slice none 0 0, .int .i64 0, .int .i64 0, .int .i64 0, .bool false] rfl rfl 45 _ (unhideQ HZ0) Tryd.infTab rfl (by simp [Value.oneCell']) ?_) | (refine wpList_store_row rfl 29 (.tmp 3) (.tmp 183) rfl (w.heap.size + 1) _ rfl rfl 29 _ ((setRow_other _ _ _ _ (by omega)).trans (unhideQ HZ1)) Tryd.infRF rfl (by simp [Value.oneCell']) ?_))
                      refine bodyPost_ret (results_row_row (fn := Tryd.f15) (p := 2) (q := 3) (ty := 45) (uy := 29) rfl _ _ w.heap.size 45 #[.int .i64 0, .int .i64 0, .int .i64 0, .int .i64 0, .int .i64 0, .slice none 0 0, .slice none 0 0, .slice none 0 0, .int .i64 0, .int .i64 0, .int .i64 0, .bool false] (0, 0) _ rfl ((setRow_other _ _ _ _ (by omega)).trans (setRow_heap _ _ _ _ _ _ (unhideQ HZ0))) Tryd.underlying45 rfl Tryd.infTab (w.heap.size + 1) 29 #[.int .i64 1, .int .i64 (-1), .int .i64 (-1), .int .i64 (atAt s l (i'))] (0, 0) _ rfl (setRow_heap _ _ _ _ _ _ ((setRow_other _ _ _ _ (by omega)).trans (unhideQ HZ1))) Tryd.underlying29 rfl Tryd.infRF) rfl ?_
                      unfold RParsed
                      rw [hfinT]
                      exact ⟨below_setRow (below_setRow (unhideQ HZB) (Nat.le_refl _) _) (by omega) _, rfl⟩
        · -- no word
          have hkb : kbAt l S.i ≠ 0 ∧ kbAt l S.i ≠ 119 ∧ S.i < l.length ∧ kAt l S.i ≠ 3 := by omega
          obtain ⟨hk0, hk1, hlt, hk3⟩ := hkb
          generalize hkk : kbAt l S.i = kk at *
          have z0 : ((kk : Int) == 0) = false := by simp; omega
          have z1 : ((kk : Int) == 119) = false := by simp; omega
          clear hoth
          have hNo : nameK s l S.i S.sn = none := nameK_none (fun k h => hk3 (nameOk_word (unhideQ HW) h))
          have hI : itemF s l S = (false, S) := by unfold itemF; rw [hNo]
          have hfin : parseF s = .inl (1, atAt s l S.i) := by
            rw [hF]
            unfold parseL
            rw [← unhideQ HE]
            obtain ⟨f, rfl⟩ : ∃ f', f = f' + 1 := ⟨f - 1, by omega⟩
            simp [itemsF, hlt, hI]
          go_wp2_with fail
          go_loopw [11, 50] (fun k j wr' => ∃ jj : Nat, k = .int .i64 (-1) ∧ j = .int .i64 jj ∧ jj ≤ 11 ∧ wr' = wr) (fun _ j _ => 11 - (intOf j).toNat)
          case atStart => exact ⟨0, rfl, rfl, by omega, rfl⟩
          case round =>
            obtain ⟨jj, rfl, rfl, hjj, rfl⟩ := hrel
            by_cases hj : jj < 11
            · have cn := (unhideQ HR).nms (unhideQ HRW) jj hj
              go_wp2
              go_roundw
              case rel => exact ⟨jj + 1, rfl, by go_num, by omega, trivial⟩
              case measure => simp [intOf]; omega
            · obtain rfl : jj = 11 := by omega
              go_wp2_with fail
              refine (placed_c 1 (atAt s l S.i) _).mono ?_
              rintro e wB ⟨rfl, hbB⟩
              have HZ0 := hideQ ((hbB.block w.heap.size (by omega)).trans (unhideQ HR0))
              have HZ1 := hideQ ((hbB.block (w.heap.size + 1) (by omega)).trans (unhideQ HR1))
              have HZB := hideQ ((unhideQ HBL).trans (hbB.mono (by omega)))
              clear hbB
              go_wp2_with (first | (refine wpList_store_row rfl 45 (.tmp 2) (.tmp 81) rfl w.heap.size #[.int .i64 0, .int .i64 0, .int .i64 0, .int .i64 0, .int .i64 0, .slice none 0 0, .slice none 0 0, .slice none 0 0, .int .i64 0, .int .i64 0, .int .i64 0, .bool false] rfl rfl 45 _ (unhideQ HZ0) Tryd.infTab rfl (by simp [Value.oneCell']) ?_) | (refine wpList_store_row rfl 29 (.tmp 3) (.tmp 87) rfl (w.heap.size + 1) _ rfl rfl 29 _ ((setRow_other _ _ _ _ (by omega)).trans (unhideQ HZ1)) Tryd.infRF rfl (by simp [Value.oneCell']) ?_))
              refine bodyPost_ret (results_row_row (fn := Tryd.f15) (p := 2) (q := 3) (ty := 45) (uy := 29) rfl _ _ w.heap.size 45 #[.int .i64 0, .int .i64 0, .int .i64 0, .int .i64 0, .int .i64 0, .slice none 0 0, .slice none 0 0, .slice none 0 0, .int .i64 0, .int .i64 0, .int .i64 0, .bool false] (0, 0) _ rfl ((setRow_other _ _ _ _ (by omega)).trans (setRow_heap _ _ _ _ _ _ (unhideQ HZ0))) Tryd.underlying45 rfl Tryd.infTab (w.heap.size + 1) 29 #[.int .i64 1, .int .i64 (-1), .int .i64 (-1), .int .i64 (atAt s l S.i)] (0, 0) _ rfl (setRow_heap _ _ _ _ _ _ ((setRow_other _ _ _ _ (by omega)).trans (unhideQ HZ1))) Tryd.underlying29 rfl Tryd.infRF) rfl ?_
              unfold RParsed
              rw [hfin]
              exact ⟨below_setRow (below_setRow (unhideQ HZB) (Nat.le_refl _) _) (by omega) _, rfl⟩
end Go.Proofs.YtidhncoecfkbfaaDoor
