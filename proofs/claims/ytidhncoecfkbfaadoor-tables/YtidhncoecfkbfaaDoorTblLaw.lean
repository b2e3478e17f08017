/-
  Tables: the law's own walk. Own work of the verifier.
-/
import Derived.Test.YtidhncoecfkbfaaDoorTblSam
import Derived.Deep.CutRange
namespace Go.Proofs.YtidhncoecfkbfaaDoor
open Go.RowKit

theorem plsampleU (kk : Nat) (hk : kk < 2) (w : World) (hU : U8 w) (hI : Itm w) (hE : ErrTy w) : Calls Tryd.prog 22 #[.int .i64 kk] w fun e w' => Below w.heap.size w w' ∧ ∃ v4 v5 v6, e = .returned (.tuple #[.agg ((td kk).box v4 v5 v6), flt 0 (-1) (-1) (-1)]) ∧ w'.ownsRow w.heap.size 3 1 v4 (td kk).l4.length (iCells (td kk).l4) ∧ w'.ownsRow w.heap.size 3 1 v5 (td kk).l5.length (iCells (td kk).l5) ∧ w'.ownsRow w.heap.size 3 1 v6 (td kk).l6.length (iCells (td kk).l6) ∧ Apart3 v4 v5 v6 := by
  match kk, hk with
  | 0, _ =>
    obtain ⟨S, hS, hv, hp⟩ := tab_of txt0_tab
    refine (plsample_c 0 (some S) (Or.inl ⟨rfl, S, rfl, hS⟩) w hU hI hE).mono ?_
    rintro e w' ⟨hb, arr, fv, rfl, ⟨v4, v5, v6, h1, h2, h3, h4, h5⟩, hf⟩
    rw [hv 4 (by omega)] at h2
    rw [hv 5 (by omega)] at h3
    rw [hv 6 (by omega)] at h4
    refine ⟨hb, v4, v5, v6, ?_, h2, h3, h4, h5⟩
    rw [h1, hf]
    unfold tabV
    rw [hv 0 (by omega), hv 1 (by omega), hv 2 (by omega), hv 3 (by omega), hv 7 (by omega), hv 8 (by omega), hv 9 (by omega), hp]
    rfl
  | 1, _ =>
    obtain ⟨S, hS, hv, hp⟩ := tab_of txt1_tab
    refine (plsample_c 1 (some S) (Or.inr (Or.inl ⟨rfl, S, rfl, hS⟩)) w hU hI hE).mono ?_
    rintro e w' ⟨hb, arr, fv, rfl, ⟨v4, v5, v6, h1, h2, h3, h4, h5⟩, hf⟩
    rw [hv 4 (by omega)] at h2
    rw [hv 5 (by omega)] at h3
    rw [hv 6 (by omega)] at h4
    refine ⟨hb, v4, v5, v6, ?_, h2, h3, h4, h5⟩
    rw [h1, hf]
    unfold tabV
    rw [hv 0 (by omega), hv 1 (by omega), hv 2 (by omega), hv 3 (by omega), hv 7 (by omega), hv 8 (by omega), hv 9 (by omega), hp]
    rfl
theorem Rs.slice {w : World} {v : Value} {ns : List Int} (h : Rs w v ns) : ∃ a n p, v = .slice a n p := by
  obtain ⟨p, cap, e⟩ := h.shape
  exact ⟨_, _, _, e⟩
theorem own_shape {w : World} {B n : Nat} {v : Value} {xs : List Value} (h : w.ownsRow B 3 1 v n xs) : ∃ a k p, v = .slice a k p := by
  rcases h.2 with ⟨e, _⟩ | ⟨g, cap, cur, e, -⟩
  · exact ⟨_, _, _, e⟩
  · exact ⟨_, _, _, e⟩
theorem al_two (w : World) (X Y : Obj) : ((w.alloc X).alloc Y).heap[w.heap.size]? = some X ∧ ((w.alloc X).alloc Y).heap[w.heap.size + 1]? = some Y ∧ Below w.heap.size w ((w.alloc X).alloc Y) ∧ ((w.alloc X).alloc Y).heap.size = w.heap.size + 2 :=
  ⟨(al_old _ _ _ (by simp)).trans (heap_alloc_new w _), heap_alloc2_new w _ _, ((Below.refl w.heap.size w).alloc (Nat.le_refl _) _).alloc (by simp) _, by simp⟩
theorem rdk {w w' : World} {B : Nat} {v : Value} {ns : List Int} (h : w.ownsRow B 3 1 v ns.length (iCells ns)) (hs : ∀ q, B ≤ q → q < w.heap.size → w'.heap[q]? = w.heap[q]?) : RdI w' v ns := rd_of_own (row_same h hs)
def SmpD (d : TD) (k g : Nat) (u : World) : Prop := ∃ v4 v5 v6, (∃ a n p, v4 = .slice a n p) ∧ (∃ a n p, v5 = .slice a n p) ∧ (∃ a n p, v6 = .slice a n p) ∧ u.rangeAt g (k * 12) (d.box v4 v5 v6).toList ∧ RdI u v4 d.l4 ∧ RdI u v5 d.l5 ∧ RdI u v6 d.l6
theorem RdI.sl {w : World} {v : Value} {ns : List Int} (h : RdI w v ns) : ∃ a n p, v = .slice a n p := by
  obtain ⟨a, cap, e⟩ := h.shape
  exact ⟨_, _, _, e⟩
theorem SmpRow.toD {k g : Nat} {u : World} (h : SmpRow k g u) : SmpD (td k) k g u := by
  obtain ⟨v4, v5, v6, h1, h2, h3, h4⟩ := h
  exact ⟨v4, v5, v6, h2.sl, h3.sl, h4.sl, h1, h2, h3, h4⟩
theorem SmpD.below {d : TD} {k g : Nat} {u u' : World} (h : SmpD d k g u) (hb : Below u.heap.size u u') : SmpD d k g u' := by
  obtain ⟨v4, v5, v6, s4, s5, s6, h1, h2, h3, h4⟩ := h
  refine ⟨v4, v5, v6, s4, s5, s6, fun j v hv => ?_, h2.below hb, h3.below hb, h4.below hb⟩
  have := h1 j v hv
  exact (hb.cell (p := ⟨g, k * 12 + j, none⟩) (World.block_lt_of_cell? u _ this)).trans this
def OkTb (d : TD) (kk : Nat) (arr : Array Value) (T8 : Nat) (i : Nat) (v : Value) (u : World) : Prop :=
  match i with
  | 0 => v = .agg arr
  | 1 => ∃ g, v = .slice (some ⟨g, 0, none⟩) 2 2 ∧ SmpD d kk g u
  | 2 => v = .int .i64 kk
  | 3 => ∃ g, v = .pointer (some ⟨g, kk * 12, none⟩) ∧ SmpD d kk g u
  | 4 => ∃ u4 u5 u6, v = .agg (d.box u4 u5 u6) ∧ RdI u u4 d.l4 ∧ RdI u u5 d.l5 ∧ RdI u u6 d.l6
  | 5 => v = .bool true
  | 6 => v = .bool false
  | 7 => v = .bool false
  | 8 => v = .pointer (some ⟨T8, 0, none⟩)
  | 9 => v = .int .i64 0
  | 10 => v = .bool false
  | 11 => v = .bool false
  | _ => True
theorem OkTb.stab {d : TD} {kk : Nat} {arr : Array Value} {T8 : Nat} (i : Nat) (v : Value) (u u' : World) (h : OkTb d kk arr T8 i v u) (hb : Below u.heap.size u u') : OkTb d kk arr T8 i v u' := by
  unfold OkTb at *
  split at h
  · exact h
  · obtain ⟨g, e, hg⟩ := h
    exact ⟨g, e, hg.below hb⟩
  · exact h
  · obtain ⟨g, e, hg⟩ := h
    exact ⟨g, e, hg.below hb⟩
  · obtain ⟨u4, u5, u6, e, h4, h5, h6⟩ := h
    exact ⟨u4, u5, u6, e, h4.below hb, h5.below hb, h6.below hb⟩
  all_goals exact h
theorem wanted_of {ops : Array Oper} {o : Oper} {a : Act} {j s : Nat} {b : Bool} {oj : Oper} (hg : o.guard = some (j, b)) (hj : ops[j]? = some oj) (hd : oj.dst = some s) (hs : s < a.tmps.size) (hv : a.eval (.tmp s) = .bool b) : Region.wanted o (yielded ops a.tmps) = true := by
  unfold Region.wanted
  rw [hg]
  have e : a.tmps[s]? = some (.bool b) := by
    have h1 : a.tmps[s]? = some a.tmps[s] := Array.getElem?_eq_getElem hs
    have h2 : a.tmps[s] = .bool b := by simpa [Act.eval, hs] using hv
    rw [h1, h2]
  simp [yielded, hj, hd, e]
theorem below_drew1 (w : World) : Below w.heap.size w w.drew := ⟨rfl, rfl, rfl, Nat.le_refl _, fun _ _ => rfl⟩
def OkU (d : TD) (kk : Nat) (arr : Array Value) (i : Nat) (v : Value) (u : World) : Prop :=
  match i with
  | 6 => v = .bool true
  | j => OkTb d kk arr 0 j v u
theorem OkU.stab {d : TD} {kk : Nat} {arr : Array Value} (i : Nat) (v : Value) (u u' : World) (h : OkU d kk arr i v u) (hb : Below u.heap.size u u') : OkU d kk arr i v u' := by
  unfold OkU at *
  split at h
  · exact h
  · exact OkTb.stab _ v u u' h hb
def dL (i : Nat) : Nat := if i < 6 then 58 + i else if i = 6 then 4 else i + 100
theorem dL_inj (i j : Nat) (h : dL i = dL j) : i = j := by unfold dL at h; split at h <;> split at h <;> (try split at h) <;> (try split at h) <;> omega
theorem dL_keep (t : Nat) (ht : t = 1 ∨ t = 9) (i : Nat) : dL i ≠ t := by unfold dL; split <;> (try split) <;> omega
set_option maxHeartbeats 8000000 in
set_option maxRecDepth 100000 in
theorem tables_walk (r sp lk t0 t1 : Int) (va vr vs : Value) (al sh by_ : Int) (pr : Bool) (ag rs ss : List Int) (k : Int) (w : World) (hU : U8 w) (hI : Itm w) (hE : ErrTy w) (ha : Rs w va ag) (hr : Rs w vr rs) (hs : Rs w vs ss) (ca : ∀ a n cap, va = .slice a n cap → n ≤ cap) (cr : ∀ a n cap, vr = .slice a n cap → n ≤ cap) (cs : ∀ a n cap, vs = .slice a n cap → n ≤ cap) : Calls Tryd.prog 6 #[.agg (boxOf r sp lk t0 t1 va vr vs al sh by_ pr), .int .i64 k] w fun e w' => e = .returned (.bool true) ∧ Below w.heap.size w w' := by
  have hit := hI.lt
  have hut := hU.lt
  have he0 := lt_of_cell hE
  have hb0 : ∀ X, Below w.heap.size w (w.alloc X) := fun X => (Below.refl w.heap.size w).alloc (Nat.le_refl _) X
  have HC := hideQ (fun X : Obj => plcheck_c r sp lk t0 t1 va vr vs al sh by_ pr ag rs ss (w.alloc X) (hE.below (hb0 X) he0) (ha.below (hb0 X)) (hr.below (hb0 X)) (hs.below (hb0 X)) ca cr cs)
  have HT := hideQ (fun (V : World) (h : Below w.heap.size w V) => rtable_c r sp lk t0 t1 va vr vs al sh by_ pr ag rs ss V (ha.below h) (hr.below h) (hs.below h) ca cr cs)
  have HSm := hideQ (fun (kk : Nat) (hk : kk < 2) (V : World) (h : Below w.heap.size w V) => plsampleU kk hk V (hU.below h hU.lt) (hI.grown (gb_of_below (row := some w.heap.size) h) (Nat.ne_of_lt hit)) (hE.below h he0))
  have HSn := hideQ (fun (hk : k ≠ 0 ∧ k ≠ 1) (V : World) (h : Below w.heap.size w V) => plsample_c k none (Or.inr (Or.inr ⟨hk.1, hk.2, rfl⟩)) V (hU.below h hU.lt) (hI.grown (gb_of_below (row := some w.heap.size) h) (Nat.ne_of_lt hit)) (hE.below h he0))
  obtain ⟨a4, n4, p4, rfl⟩ := ha.slice
  obtain ⟨a5, n5, p5, rfl⟩ := hr.slice
  obtain ⟨a6, n6, p6, rfl⟩ := hs.slice
  have HB0 := hideQ hb0
  clear hU hI hE ha hr hs ca cr cs hb0
  generalize hbb : tabB r sp lk t0 t1 ag rs ss al sh by_ = bb at HC HT
  clear hbb
  unfold boxOf at HC HT ⊢
  go_enter Tryd.func6, Tryd.ntmps6
  go_wp2_with fail
  refine (unhideQ HC _).mono ?_
  rintro e w1 ⟨rfl, hb1⟩
  have hz1 := hb1.size
  simp only [World.size_alloc] at hz1
  have pB := (hb1.block w.heap.size (by simp)).trans (heap_alloc_new w _)
  have HB1 := hideQ ((unhideQ HB0 _).trans (hb1.mono (by simp)))
  generalize hnn : chkN bb = nn
  have hx1 : Below w1.heap.size w1 (w1.alloc (.cells #[.int .i64 nn, .int .i64 (-1), .int .i64 (-1), .int .i64 (-1)] 25)) := (Below.refl w1.heap.size w1).alloc (Nat.le_refl _) _
  have pF := heap_alloc_new w1 (.cells #[.int .i64 nn, .int .i64 (-1), .int .i64 (-1), .int .i64 (-1)] 25)
  have hzV : (w1.alloc (.cells #[.int .i64 nn, .int .i64 (-1), .int .i64 (-1), .int .i64 (-1)] 25)).heap.size = w1.heap.size + 1 := by simp
  have q := cells_of ((hx1.block w.heap.size (by omega)).trans pB)
  have c0 := q.1 0
  have c1 := q.1 1
  have c2 := q.1 2
  have c3 := q.1 3
  have c4 := q.1 4
  have c5 := q.1 5
  have c6 := q.1 6
  have c7 := q.1 7
  have c8 := q.1 8
  have c9 := q.1 9
  have c10 := q.1 10
  have c11 := q.1 11
  simp at c0 c1 c2 c3 c4 c5 c6 c7 c8 c9 c10 c11
  have HX1 := hideQ ((unhideQ HB1).trans (hx1.mono (by omega)))
  have HPF := hideQ pF
  have HZV := hideQ hzV
  have HNN := hideQ hnn
  clear hb1 pB q hx1 pF hzV hnn
  go_wp2_with fail
  clear c0 c1 c2 c3 c4 c5 c6 c7 c8 c9 c10 c11
  have hzV := unhideQ HZV
  have HV := hideQ (And.intro (unhideQ HX1) (unhideQ HPF))
  clear HX1 HPF HZV
  generalize w1.alloc (.cells #[.int .i64 nn, .int .i64 (-1), .int .i64 (-1), .int .i64 (-1)] 25) = V1 at HV hzV ⊢
  refine (unhideQ HT V1 (unhideQ HV).1).mono ?_
  rintro e w2 ⟨rfl, hb2⟩
  have hz2 := hb2.size
  have pF2 := (hb2.block w1.heap.size (by omega)).trans (unhideQ HV).2
  have HB2 := hideQ ((unhideQ HV).1.trans (hb2.mono (by omega)))
  clear hb2
  have q := cells_of pF2
  have f0 := q.1 0
  have f1 := q.1 1
  have f2 := q.1 2
  have f3 := q.1 3
  simp at f0 f1 f2 f3
  clear q pF2
  go_upto_if 14 with fail
  go_cut [6] from 11 to 63 (fun ev wc => ev = .int .i64 nn ∧ wc = w2)
  case first =>
    cases bb with
    | true =>
      have hnn : nn = 0 := (unhideQ HNN).symm
      subst hnn
      go_wp2
      go_meet
      case rel => exact ⟨rfl, rfl⟩
    | false =>
      have hnn : nn = 2 := (unhideQ HNN).symm
      subst hnn
      go_wp2
      go_meet
      case rel => exact ⟨rfl, rfl⟩
  case rest =>
    obtain ⟨rfl, hwc⟩ := hcut
    subst wc
    go_wp2_with fail
    refine (agrees_same nn (-1) (-1) (-1) w2).mono ?_
    rintro e w3 ⟨rfl, hb3⟩
    have hz3 := hb3.size
    have HB3 := hideQ ((unhideQ HB2).trans (hb3.mono (by omega)))
    clear hb3 f0 f1 f2 f3
    by_cases hk : k = 0 ∨ k = 1
    · obtain ⟨kk, hkk, rfl⟩ : ∃ kk : Nat, kk < 2 ∧ k = kk := hk.elim (fun h => ⟨0, by omega, by simp [h]⟩) (fun h => ⟨1, by omega, by simp [h]⟩)
      obtain ⟨hle4, hle5, hle6⟩ := td_len kk
      have hPS := fun V h => unhideQ HSm kk hkk V h
      have hSA : ∀ V, Calls Tryd.prog 23 #[] V fun e w' => Below V.heap.size V w' ∧ ∃ g, e = .returned (.slice (some ⟨g, 0, none⟩) 2 2) ∧ SmpD (td kk) kk g w' := fun V => (samples_c V).mono (by
        rintro e w' ⟨hb, g, rfl, h⟩
        exact ⟨hb, g, rfl, (h kk hkk).toD⟩)
      have HPS := hideQ hPS
      have HSA := hideQ hSA
      clear hPS hSA HSm HSn hk
      generalize td kk = d at HPS HSA hle4 hle5 hle6
      go_wp2_with fail
      refine (unhideQ HPS w3 (unhideQ HB3)).mono ?_
      rintro e w4 ⟨hb4, v4, v5, v6, rfl, r4, r5, r6, hap⟩
      obtain ⟨a4, n4, p4, rfl⟩ := own_shape r4
      obtain ⟨a5, n5, p5, rfl⟩ := own_shape r5
      obtain ⟨a6, n6, p6, rfl⟩ := own_shape r6
      have hz4 := hb4.size
      have HB4 := hideQ ((unhideQ HB3).trans (hb4.mono (by omega)))
      unfold TD.box boxOf
      have hx4 := al_two w4 (.cells (d.box (.slice a4 n4 p4) (.slice a5 n5 p5) (.slice a6 n6 p6)) 45) (.cells #[.int .i64 0, .int .i64 (-1), .int .i64 (-1), .int .i64 (-1)] 25)
      unfold TD.box boxOf at hx4
      have HX4 := hideQ hx4
      have HO4 := hideQ r4
      have HO5 := hideQ r5
      have HO6 := hideQ r6
      have HAP := hideQ hap
      have z0 : decide ((kk : Int) < 0) = false := decide_eq_false (by omega)
      have z1 : decide ((1 : Int) < (kk : Int)) = false := decide_eq_false (by omega)
      clear hb4 r4 r5 r6 hap hx4
      go_wp2_with fail
      have hx4 := unhideQ HX4
      clear HX4
      generalize World.alloc (World.alloc w4 _) _ = V4 at hx4 ⊢
      obtain ⟨p7, p8, hbV4, hzV4⟩ := hx4
      have HP7 := hideQ p7
      have HP8 := hideQ p8
      have HBV := hideQ hbV4
      have HR4 := hideQ (fun (u : World) (h : Below V4.heap.size V4 u) => rdk (w' := u) (unhideQ HO4) (fun q _ hq => (h.block q (by omega)).trans (hbV4.block q hq)))
      have HR5 := hideQ (fun (u : World) (h : Below V4.heap.size V4 u) => rdk (w' := u) (unhideQ HO5) (fun q _ hq => (h.block q (by omega)).trans (hbV4.block q hq)))
      have HR6 := hideQ (fun (u : World) (h : Below V4.heap.size V4 u) => rdk (w' := u) (unhideQ HO6) (fun q _ hq => (h.block q (by omega)).trans (hbV4.block q hq)))
      clear p7 p8 hbV4
      refine flow2w (by kernel_rfl) 39 _ (OkTb d kk (d.box (.slice a4 n4 p4) (.slice a5 n5 p5) (.slice a6 n6 p6)) (w4.heap.size + 1)) (fun u => Below V4.heap.size V4 u) (fun u u' => Below u.heap.size u u') ?hd ?hw ?hsz ?hle (fun i v u u' h hr => OkTb.stab i v u u' h hr) (fun u u' h hr => h.trans (hr.mono h.size)) ?step ?fin (below_drew1 V4)
      case hd =>
        intro i o ho
        have hi : i < 12 := (Array.getElem?_eq_some_iff.1 ho).1
        match i, hi with
        | 0, _ => obtain rfl := (Option.some.inj ho).symm; exact Or.inl rfl
        | 1, _ => obtain rfl := (Option.some.inj ho).symm; exact Or.inl rfl
        | 2, _ => obtain rfl := (Option.some.inj ho).symm; exact Or.inl rfl
        | 3, _ => obtain rfl := (Option.some.inj ho).symm; exact Or.inl rfl
        | 4, _ => obtain rfl := (Option.some.inj ho).symm; exact Or.inl rfl
        | 5, _ => obtain rfl := (Option.some.inj ho).symm; exact Or.inl rfl
        | 6, _ => obtain rfl := (Option.some.inj ho).symm; exact Or.inl rfl
        | 7, _ => obtain rfl := (Option.some.inj ho).symm; exact Or.inl rfl
        | 8, _ => obtain rfl := (Option.some.inj ho).symm; exact Or.inl rfl
        | 9, _ => obtain rfl := (Option.some.inj ho).symm; exact Or.inl rfl
        | 10, _ => obtain rfl := (Option.some.inj ho).symm; exact Or.inl rfl
        | 11, _ => obtain rfl := (Option.some.inj ho).symm; exact Or.inl rfl
      case hw =>
        intro i o ho a u hts hdp
        have hi : i < 12 := (Array.getElem?_eq_some_iff.1 ho).1
        match i, hi with
        | 0, _ => obtain rfl := (Option.some.inj ho).symm; rfl
        | 1, _ => obtain rfl := (Option.some.inj ho).symm; rfl
        | 2, _ => obtain rfl := (Option.some.inj ho).symm; rfl
        | 3, _ => obtain rfl := (Option.some.inj ho).symm; rfl
        | 4, _ => obtain rfl := (Option.some.inj ho).symm; rfl
        | 5, _ => obtain rfl := (Option.some.inj ho).symm; rfl
        | 6, _ => obtain rfl := (Option.some.inj ho).symm; rfl
        | 7, _ => obtain rfl := (Option.some.inj ho).symm; rfl
        | 8, _ =>
          obtain rfl := (Option.some.inj ho).symm
          exact wanted_of (j := 7) (s := 46) (b := false) rfl rfl rfl (by rw [hts]; show 46 < 64; decide) (hdp ⟨7, .guard⟩ (by simp) rfl ⟨_, rfl, rfl⟩)
        | 9, _ =>
          obtain rfl := (Option.some.inj ho).symm
          exact wanted_of (j := 7) (s := 46) (b := false) rfl rfl rfl (by rw [hts]; show 46 < 64; decide) (hdp ⟨7, .guard⟩ (by simp) rfl ⟨_, rfl, rfl⟩)
        | 10, _ =>
          obtain rfl := (Option.some.inj ho).symm
          exact wanted_of (j := 7) (s := 46) (b := false) rfl rfl rfl (by rw [hts]; show 46 < 64; decide) (hdp ⟨7, .guard⟩ (by simp) rfl ⟨_, rfl, rfl⟩)
        | 11, _ => obtain rfl := (Option.some.inj ho).symm; rfl
      case hsz =>
        intro i o ho hdo
        have hi : i < 12 := (Array.getElem?_eq_some_iff.1 ho).1
        match i, hi with
        | 0, _ => show 39 < 64; decide
        | 1, _ => show 40 < 64; decide
        | 2, _ => show 41 < 64; decide
        | 3, _ => show 42 < 64; decide
        | 4, _ => show 43 < 64; decide
        | 5, _ => show 44 < 64; decide
        | 6, _ => show 45 < 64; decide
        | 7, _ => show 46 < 64; decide
        | 8, _ => show 47 < 64; decide
        | 9, _ => show 48 < 64; decide
        | 10, _ => show 49 < 64; decide
        | 11, _ => show 50 < 64; decide
      case hle =>
        intro i o ho
        have hi : i < 12 := (Array.getElem?_eq_some_iff.1 ho).1
        match i, hi with
        | 0, _ => obtain rfl := (Option.some.inj ho).symm; simp
        | 1, _ => obtain rfl := (Option.some.inj ho).symm; simp
        | 2, _ => obtain rfl := (Option.some.inj ho).symm; simp
        | 3, _ => obtain rfl := (Option.some.inj ho).symm; simp
        | 4, _ => obtain rfl := (Option.some.inj ho).symm; simp
        | 5, _ => obtain rfl := (Option.some.inj ho).symm; simp
        | 6, _ => obtain rfl := (Option.some.inj ho).symm; simp
        | 7, _ => obtain rfl := (Option.some.inj ho).symm; simp
        | 8, _ => obtain rfl := (Option.some.inj ho).symm; simp
        | 9, _ => obtain rfl := (Option.some.inj ho).symm; simp
        | 10, _ => obtain rfl := (Option.some.inj ho).symm; simp
        | 11, _ => obtain rfl := (Option.some.inj ho).symm; simp
      case step =>
        intro i o ho a u hS hfr hdp
        have hi : i < 12 := (Array.getElem?_eq_some_iff.1 ho).1
        match i, hi with
          | 0, _ =>
            obtain rfl := (Option.some.inj ho).symm
            have f0 : a.eval (.tmp 7) = .pointer (some ⟨w4.heap.size, 0, none⟩) := hfr 7 (by omega)
            exact wp_load_row 45 (.tmp 7) rfl w4.heap.size f0 45 (d.box (.slice a4 n4 p4) (.slice a5 n5 p5) (.slice a6 n6 p6)) (0, 0) _ ((hS.block w4.heap.size (by omega)).trans (unhideQ HP7)) Tryd.underlying45 rfl (Tryd.infTab.trans rfl) ⟨_, rfl, Below.refl _ _, rfl⟩
          | 1, _ =>
            obtain rfl := (Option.some.inj ho).symm
            refine opEnter (F := fun v w' => _ ∧ _) (f := 23) (args := #[]) (w1 := u) ?_ ((unhideQ HSA u).mono ?_)
            · clear hdp hfr ho
              simp [execOp, go_sem]
            · rintro e u' ⟨hb, g, rfl, hg⟩
              exact ⟨_, rfl, hb, g, rfl, hg⟩
          | 2, _ =>
            obtain rfl := (Option.some.inj ho).symm
            have f0 : a.eval (.tmp 1) = .int .i64 kk := hfr 1 (by omega)
            refine opRun (F := fun v w' => _ ∧ _) (v := .int .i64 kk) (w' := u) ?_ ⟨Below.refl _ _, rfl⟩
            simp [Act.eval] at f0
            clear hdp hfr ho hS
            simp [execOp, f0, go_sem]
          | 3, _ =>
            obtain rfl := (Option.some.inj ho).symm
            obtain ⟨g, f0, hg⟩ : ∃ g, a.eval (.tmp 40) = .slice (some ⟨g, 0, none⟩) 2 2 ∧ SmpD d kk g u := hdp ⟨1, .data⟩ (by simp) rfl ⟨_, rfl, rfl⟩
            have f1 : a.eval (.tmp 41) = .int .i64 kk := hdp ⟨2, .data⟩ (by simp) rfl ⟨_, rfl, rfl⟩
            refine opRun (F := fun v w' => _ ∧ _) (v := .pointer (some ⟨g, kk * 12, none⟩)) (w' := u) ?_ ⟨Below.refl _ _, g, rfl, hg⟩
            simp [Act.eval] at f0 f1
            clear hdp hfr ho hS hg
            have z1 : (kk : Int) < 2 := by omega
            simp [execOp, f0, f1, go_sem]
            intro h
            exfalso
            omega
          | 4, _ =>
            obtain rfl := (Option.some.inj ho).symm
            obtain ⟨g, f0, u4, u5, u6, s4, s5, s6, hrg, h4, h5, h6⟩ : ∃ g, a.eval (.tmp 42) = .pointer (some ⟨g, kk * 12, none⟩) ∧ SmpD d kk g u := hdp ⟨3, .data⟩ (by simp) rfl ⟨_, rfl, rfl⟩
            exact wp_load_mid 45 (.tmp 42) rfl g (kk * 12) f0 (d.box u4 u5 u6).toList _ hrg Tryd.underlying45 rfl (Tryd.infTab.trans rfl) ⟨_, rfl, Below.refl _ _, u4, u5, u6, rfl, h4, h5, h6⟩
          | 5, _ =>
            obtain rfl := (Option.some.inj ho).symm
            have f0 : a.eval (.tmp 39) = .agg (d.box (.slice a4 n4 p4) (.slice a5 n5 p5) (.slice a6 n6 p6)) := hdp ⟨0, .data⟩ (by simp) rfl ⟨_, rfl, rfl⟩
            obtain ⟨u4, u5, u6, f1, h4, h5, h6⟩ : ∃ u4 u5 u6, a.eval (.tmp 43) = .agg (d.box u4 u5 u6) ∧ RdI u u4 d.l4 ∧ RdI u u5 d.l5 ∧ RdI u u6 d.l6 := hdp ⟨4, .data⟩ (by simp) rfl ⟨_, rfl, rfl⟩
            refine opEnter (F := fun v w' => _ ∧ _) (f := 16) (args := #[.agg (d.box (.slice a4 n4 p4) (.slice a5 n5 p5) (.slice a6 n6 p6)), .agg (d.box u4 u5 u6)]) (w1 := u) ?_ ((tables_same d.r d.sp d.lk d.t0 d.t1 d.al d.sh d.by_ d.pr d.l4 d.l5 d.l6 _ _ _ u4 u5 u6 u ((unhideQ HR4 u hS)) ((unhideQ HR5 u hS)) ((unhideQ HR6 u hS)) h4 h5 h6 hle4 hle5 hle6).mono ?_)
            · clear hdp hfr ho
              simp [Act.eval] at f0 f1
              simp [execOp, f0, f1, go_sem]
            · rintro e u' ⟨rfl, hb⟩
              exact ⟨_, rfl, hb, rfl⟩
          | 6, _ =>
            obtain rfl := (Option.some.inj ho).symm
            have f0 : a.eval (.tmp 44) = .bool true := hdp ⟨5, .data⟩ (by simp) rfl ⟨_, rfl, rfl⟩
            refine opRun (F := fun v w' => _ ∧ _) (v := .bool false) (w' := u) ?_ ⟨Below.refl _ _, rfl⟩
            simp [Act.eval] at f0
            clear hdp hfr ho hS
            simp [execOp, f0, go_sem]
          | 7, _ =>
            obtain rfl := (Option.some.inj ho).symm
            have f0 : a.eval (.tmp 45) = .bool false := hdp ⟨6, .data⟩ (by simp) rfl ⟨_, rfl, rfl⟩
            refine opRun (F := fun v w' => _ ∧ _) (v := .bool false) (w' := u) ?_ ⟨Below.refl _ _, rfl⟩
            simp [Act.eval] at f0
            clear hdp hfr ho hS
            simp [execOp, f0, go_sem]
          | 8, _ =>
            obtain rfl := (Option.some.inj ho).symm
            have f0 : a.eval (.tmp 8) = .pointer (some ⟨w4.heap.size + 1, 0, none⟩) := hfr 8 (by omega)
            refine opRun (F := fun v w' => _ ∧ _) (v := .pointer (some ⟨w4.heap.size + 1, 0, none⟩)) (w' := u) ?_ ⟨Below.refl _ _, rfl⟩
            simp [Act.eval] at f0
            clear hdp hfr ho hS
            simp [execOp, f0, go_sem]
          | 9, _ =>
            obtain rfl := (Option.some.inj ho).symm
            have f0 : a.eval (.tmp 47) = .pointer (some ⟨w4.heap.size + 1, 0, none⟩) := hdp ⟨8, .data⟩ (by simp) rfl ⟨_, rfl, rfl⟩
            have g := ((cells_of ((hS.block (w4.heap.size + 1) (by omega)).trans (unhideQ HP8))).1 0)
            simp at g
            refine opRun (F := fun v w' => _ ∧ _) (v := .int .i64 0) (w' := u) ?_ ⟨Below.refl _ _, rfl⟩
            simp [Act.eval] at f0
            clear hdp hfr ho hS
            simp [execOp, f0, g, go_sem]
          | 10, _ =>
            obtain rfl := (Option.some.inj ho).symm
            have f0 : a.eval (.tmp 48) = .int .i64 0 := hdp ⟨9, .data⟩ (by simp) rfl ⟨_, rfl, rfl⟩
            refine opRun (F := fun v w' => _ ∧ _) (v := .bool false) (w' := u) ?_ ⟨Below.refl _ _, rfl⟩
            simp [Act.eval] at f0
            clear hdp hfr ho hS
            simp [execOp, f0, go_sem]
          | 11, _ =>
            obtain rfl := (Option.some.inj ho).symm
            have f0 : a.eval (.tmp 46) = .bool false := hdp ⟨7, .data⟩ (by simp) rfl ⟨_, rfl, rfl⟩
            have f1 : a.eval (.tmp 49) = .bool false := hdp ⟨10, .data⟩ (by simp) rfl ⟨_, rfl, rfl⟩
            refine opRun (F := fun v w' => _ ∧ _) (v := .bool false) (w' := u) ?_ ⟨Below.refl _ _, rfl⟩
            simp [Act.eval] at f0 f1
            clear hdp hfr ho hS
            simp [execOp, f0, f1, go_sem]
      case fin =>
        intro a u hS hdf hts hout hok hno
        have e50 : a.eval (.tmp 50) = .bool false := hok 11 _ rfl rfl
        have ha := act_of2 a _ 39 [a.eval (.tmp 39), a.eval (.tmp 40), a.eval (.tmp 41), a.eval (.tmp 42), a.eval (.tmp 43), a.eval (.tmp 44), a.eval (.tmp 45), a.eval (.tmp 46), a.eval (.tmp 47), a.eval (.tmp 48), a.eval (.tmp 49), a.eval (.tmp 50)] hdf hts (by show 39 + 12 ≤ 64; omega) hout (fun i hi => by
          have hi' : i < 12 := hi
          clear hi
          match i, hi' with
          | 0, _ => rfl
          | 1, _ => rfl
          | 2, _ => rfl
          | 3, _ => rfl
          | 4, _ => rfl
          | 5, _ => rfl
          | 6, _ => rfl
          | 7, _ => rfl
          | 8, _ => rfl
          | 9, _ => rfl
          | 10, _ => rfl
          | 11, _ => rfl
          | n + 12, h => exact absurd h (by omega))
        rw [e50] at ha
        clear hok hno hout hts hdf e50
        generalize a.eval (.tmp 39) = y39, a.eval (.tmp 40) = y40, a.eval (.tmp 41) = y41, a.eval (.tmp 42) = y42, a.eval (.tmp 43) = y43, a.eval (.tmp 44) = y44, a.eval (.tmp 45) = y45, a.eval (.tmp 46) = y46, a.eval (.tmp 47) = y47, a.eval (.tmp 48) = y48, a.eval (.tmp 49) = y49 at ha
        simp only [List.take_succ_cons, List.take_zero, List.drop_succ_cons, List.drop_zero, List.length_cons, List.length_nil, List.cons_append, List.nil_append] at ha
        subst ha
        have hzu := hS.size
        have pA := (hS.block w4.heap.size (by omega)).trans (unhideQ HP7)
        have c0 := (cells_of pA).1 0
        have c1 := (cells_of pA).1 1
        have c2 := (cells_of pA).1 2
        have c3 := (cells_of pA).1 3
        have c4 := (cells_of pA).1 4
        have c5 := (cells_of pA).1 5
        have c6 := (cells_of pA).1 6
        have c7 := (cells_of pA).1 7
        have c8 := (cells_of pA).1 8
        have c9 := (cells_of pA).1 9
        have c10 := (cells_of pA).1 10
        have c11 := (cells_of pA).1 11
        simp at c0 c1 c2 c3 c4 c5 c6 c7 c8 c9 c10 c11
        have HBu := hideQ (((unhideQ HB4).trans ((unhideQ HBV).mono (by omega))).trans (hS.mono (by omega)))
        have ku : ∀ q, q < w4.heap.size → u.heap[q]? = w4.heap[q]? := fun q hq => (hS.block q (by omega)).trans ((unhideQ HBV).block q hq)
        have HSP := hideQ (spoilTable_c d.r d.sp d.lk d.t0 d.t1 d.al d.sh d.by_ d.pr d.l4.length d.l5.length d.l6.length _ _ _ _ _ _ w3.heap.size u (row_same (unhideQ HO4) (fun q _ hq => ku q hq)) (row_same (unhideQ HO5) (fun q _ hq => ku q hq)) (row_same (unhideQ HO6) (fun q _ hq => ku q hq)) hle4 hle5 hle6 (by omega) (unhideQ HAP))
        unfold boxOf at HSP
        clear pA hS ku
        go_wp2_with fail
        clear c0 c1 c2 c3 c4 c5 c6 c7 c8 c9 c10 c11
        refine (unhideQ HSP).mono ?_
        rintro e w5 ⟨⟨xx, rfl⟩, hsp⟩
        have hz5 := hsp.size
        have HB5 := hideQ (show Below w.heap.size w w5 from (unhideQ HBu).trans ⟨hsp.os, hsp.tape, hsp.output, by omega, fun q hq => hsp.same q (by omega) (fun e => by have := ((unhideQ HO4).lt q e).1; omega) (fun e => by have := ((unhideQ HO5).lt q e).1; omega) (fun e => by have := ((unhideQ HO6).lt q e).1; omega)⟩)
        clear hsp HSP
        go_wp2_with fail
        refine (unhideQ HPS w5 (unhideQ HB5)).mono ?_
        rintro e w6 ⟨hb6, t4, t5, t6, rfl, r4, r5, r6, -⟩
        obtain ⟨b4, i4, j4, rfl⟩ := own_shape r4
        obtain ⟨b5, i5, j5, rfl⟩ := own_shape r5
        obtain ⟨b6, i6, j6, rfl⟩ := own_shape r6
        have hz6 := hb6.size
        have HB6 := hideQ ((unhideQ HB5).trans (hb6.mono (by omega)))
        unfold TD.box boxOf
        have hx6 := al_two w6 (.cells (d.box (.slice b4 i4 j4) (.slice b5 i5 j5) (.slice b6 i6 j6)) 45) (.cells #[.int .i64 0, .int .i64 (-1), .int .i64 (-1), .int .i64 (-1)] 25)
        unfold TD.box boxOf at hx6
        have HX6 := hideQ hx6
        have HU4 := hideQ r4
        have HU5 := hideQ r5
        have HU6 := hideQ r6
        clear hb6 r4 r5 r6 hx6
        go_wp2_with fail
        have hx6 := unhideQ HX6
        clear HX6
        generalize World.alloc (World.alloc w6 _) _ = V6 at hx6 ⊢
        obtain ⟨p7, -, hbV6, hzV6⟩ := hx6
        clear HP7
        have HP7 := hideQ p7
        have HBV6 := hideQ hbV6
        have HS4 := hideQ (fun (u : World) (h : Below V6.heap.size V6 u) => rdk (w' := u) (unhideQ HU4) (fun q _ hq => (h.block q (by omega)).trans (hbV6.block q hq)))
        have HS5 := hideQ (fun (u : World) (h : Below V6.heap.size V6 u) => rdk (w' := u) (unhideQ HU5) (fun q _ hq => (h.block q (by omega)).trans (hbV6.block q hq)))
        have HS6 := hideQ (fun (u : World) (h : Below V6.heap.size V6 u) => rdk (w' := u) (unhideQ HU6) (fun q _ hq => (h.block q (by omega)).trans (hbV6.block q hq)))
        clear p7 hbV6
        refine flow3 (by kernel_rfl) dL dL_inj (fun t => t = 1 ∨ t = 9) dL_keep _ (OkU d kk (d.box (.slice b4 i4 j4) (.slice b5 i5 j5) (.slice b6 i6 j6))) (fun u => Below V6.heap.size V6 u) (fun u u' => Below u.heap.size u u') ?hd ?hsz ?hle (fun i v u u' h hr => OkU.stab i v u u' h hr) (fun u u' h hr => h.trans (hr.mono h.size)) ?step ?fin (below_drew1 V6)
        case hd =>
          intro i o ho
          have hi : i < 7 := (Array.getElem?_eq_some_iff.1 ho).1
          match i, hi with
          | 0, _ => obtain rfl := (Option.some.inj ho).symm; exact ⟨Or.inl rfl, rfl⟩
          | 1, _ => obtain rfl := (Option.some.inj ho).symm; exact ⟨Or.inl rfl, rfl⟩
          | 2, _ => obtain rfl := (Option.some.inj ho).symm; exact ⟨Or.inl rfl, rfl⟩
          | 3, _ => obtain rfl := (Option.some.inj ho).symm; exact ⟨Or.inl rfl, rfl⟩
          | 4, _ => obtain rfl := (Option.some.inj ho).symm; exact ⟨Or.inl rfl, rfl⟩
          | 5, _ => obtain rfl := (Option.some.inj ho).symm; exact ⟨Or.inl rfl, rfl⟩
          | 6, _ => obtain rfl := (Option.some.inj ho).symm; exact ⟨Or.inl rfl, rfl⟩
        case hsz =>
          intro i o ho hdo
          have hi : i < 7 := (Array.getElem?_eq_some_iff.1 ho).1
          match i, hi with
          | 0, _ => show dL 0 < 64; decide
          | 1, _ => show dL 1 < 64; decide
          | 2, _ => show dL 2 < 64; decide
          | 3, _ => show dL 3 < 64; decide
          | 4, _ => show dL 4 < 64; decide
          | 5, _ => show dL 5 < 64; decide
          | 6, _ => show dL 6 < 64; decide
        case hle =>
          intro i o ho
          have hi : i < 7 := (Array.getElem?_eq_some_iff.1 ho).1
          match i, hi with
          | 0, _ => obtain rfl := (Option.some.inj ho).symm; decide
          | 1, _ => obtain rfl := (Option.some.inj ho).symm; decide
          | 2, _ => obtain rfl := (Option.some.inj ho).symm; decide
          | 3, _ => obtain rfl := (Option.some.inj ho).symm; decide
          | 4, _ => obtain rfl := (Option.some.inj ho).symm; decide
          | 5, _ => obtain rfl := (Option.some.inj ho).symm; decide
          | 6, _ => obtain rfl := (Option.some.inj ho).symm; decide
        case step =>
          intro i o ho a u hS hfr hdp
          have hi : i < 7 := (Array.getElem?_eq_some_iff.1 ho).1
          match i, hi with
            | 0, _ =>
              obtain rfl := (Option.some.inj ho).symm
              have f0 : a.eval (.tmp 9) = .pointer (some ⟨w6.heap.size, 0, none⟩) := hfr 9 (by simp)
              exact wp_load_row 45 (.tmp 9) rfl w6.heap.size f0 45 (d.box (.slice b4 i4 j4) (.slice b5 i5 j5) (.slice b6 i6 j6)) (0, 0) _ ((hS.block w6.heap.size (by omega)).trans (unhideQ HP7)) Tryd.underlying45 rfl (Tryd.infTab.trans rfl) ⟨_, rfl, Below.refl _ _, rfl⟩
            | 1, _ =>
              obtain rfl := (Option.some.inj ho).symm
              refine opEnter (F := fun v w' => _ ∧ _) (f := 23) (args := #[]) (w1 := u) ?_ ((unhideQ HSA u).mono ?_)
              · clear hdp hfr ho
                simp [execOp, go_sem]
              · rintro e u' ⟨hb, g, rfl, hg⟩
                exact ⟨_, rfl, hb, g, rfl, hg⟩
            | 2, _ =>
              obtain rfl := (Option.some.inj ho).symm
              have f0 : a.eval (.tmp 1) = .int .i64 kk := hfr 1 (by simp)
              refine opRun (F := fun v w' => _ ∧ _) (v := .int .i64 kk) (w' := u) ?_ ⟨Below.refl _ _, rfl⟩
              simp [Act.eval] at f0
              clear hdp hfr ho hS
              simp [execOp, f0, go_sem]
            | 3, _ =>
              obtain rfl := (Option.some.inj ho).symm
              obtain ⟨g, f0, hg⟩ : ∃ g, a.eval (.tmp 59) = .slice (some ⟨g, 0, none⟩) 2 2 ∧ SmpD d kk g u := hdp ⟨1, .data⟩ (by simp) rfl ⟨_, rfl, rfl⟩
              have f1 : a.eval (.tmp 60) = .int .i64 kk := hdp ⟨2, .data⟩ (by simp) rfl ⟨_, rfl, rfl⟩
              refine opRun (F := fun v w' => _ ∧ _) (v := .pointer (some ⟨g, kk * 12, none⟩)) (w' := u) ?_ ⟨Below.refl _ _, g, rfl, hg⟩
              simp [Act.eval] at f0 f1
              clear hdp hfr ho hS hg
              have z1 : (kk : Int) < 2 := by omega
              simp [execOp, f0, f1, go_sem]
              intro h
              exfalso
              omega
            | 4, _ =>
              obtain rfl := (Option.some.inj ho).symm
              obtain ⟨g, f0, u4, u5, u6, s4, s5, s6, hrg, h4, h5, h6⟩ : ∃ g, a.eval (.tmp 61) = .pointer (some ⟨g, kk * 12, none⟩) ∧ SmpD d kk g u := hdp ⟨3, .data⟩ (by simp) rfl ⟨_, rfl, rfl⟩
              exact wp_load_mid 45 (.tmp 61) rfl g (kk * 12) f0 (d.box u4 u5 u6).toList _ hrg Tryd.underlying45 rfl (Tryd.infTab.trans rfl) ⟨_, rfl, Below.refl _ _, u4, u5, u6, rfl, h4, h5, h6⟩
            | 5, _ =>
              obtain rfl := (Option.some.inj ho).symm
              have f0 : a.eval (.tmp 58) = .agg (d.box (.slice b4 i4 j4) (.slice b5 i5 j5) (.slice b6 i6 j6)) := hdp ⟨0, .data⟩ (by simp) rfl ⟨_, rfl, rfl⟩
              obtain ⟨u4, u5, u6, f1, h4, h5, h6⟩ : ∃ u4 u5 u6, a.eval (.tmp 62) = .agg (d.box u4 u5 u6) ∧ RdI u u4 d.l4 ∧ RdI u u5 d.l5 ∧ RdI u u6 d.l6 := hdp ⟨4, .data⟩ (by simp) rfl ⟨_, rfl, rfl⟩
              refine opEnter (F := fun v w' => _ ∧ _) (f := 16) (args := #[.agg (d.box (.slice b4 i4 j4) (.slice b5 i5 j5) (.slice b6 i6 j6)), .agg (d.box u4 u5 u6)]) (w1 := u) ?_ ((tables_same d.r d.sp d.lk d.t0 d.t1 d.al d.sh d.by_ d.pr d.l4 d.l5 d.l6 _ _ _ u4 u5 u6 u ((unhideQ HS4 u hS)) ((unhideQ HS5 u hS)) ((unhideQ HS6 u hS)) h4 h5 h6 hle4 hle5 hle6).mono ?_)
              · clear hdp hfr ho
                simp [Act.eval] at f0 f1
                simp [execOp, f0, f1, go_sem]
              · rintro e u' ⟨rfl, hb⟩
                exact ⟨_, rfl, hb, rfl⟩
            | 6, _ =>
              obtain rfl := (Option.some.inj ho).symm
              have f0 : a.eval (.tmp 63) = .bool true := hdp ⟨5, .data⟩ (by simp) rfl ⟨_, rfl, rfl⟩
              refine opRun (F := fun v w' => _ ∧ _) (v := .bool true) (w' := u) ?_ ⟨Below.refl _ _, rfl⟩
              simp [Act.eval] at f0
              clear hdp hfr ho hS
              simp [execOp, f0, go_sem]
        case fin =>
          intro a u hS hdf hts hout hok hno
          have e4 : a.eval (.tmp 4) = .bool true := hok 6 _ rfl rfl
          have hbF := ((unhideQ HB6).trans ((unhideQ HBV6).mono (by omega))).trans (hS.mono (by omega))
          clear hok hno hout
          go_wp2
          refine bodyPost_ret (v := .bool true) (by simp [Act.eval] at e4; simp [results, Tryd.results6, e4]) hdf ?_
          exact ⟨rfl, hbF⟩
    · have hk0 : k ≠ 0 := fun h => hk (Or.inl h)
      have hk1 : k ≠ 1 := fun h => hk (Or.inr h)
      clear hk HSm
      go_wp2_with fail
      refine (unhideQ HSn ⟨hk0, hk1⟩ w3 (unhideQ HB3)).mono ?_
      rintro e w4 ⟨hb4, arr, fv, rfl, h1, h2⟩
      rw [h1, h2]
      clear h1 h2
      have hz4 := hb4.size
      have HB4 := hideQ ((unhideQ HB3).trans (hb4.mono (by omega)))
      clear hb4
      unfold zeroT boxOf
      have HTS := hideQ (fun V : World => tables_same 0 0 0 0 0 0 0 0 false [] [] [] _ _ _ _ _ _ V (Or.inl ⟨rfl, rfl⟩) (Or.inl ⟨rfl, rfl⟩) (Or.inl ⟨rfl, rfl⟩) (Or.inl ⟨rfl, rfl⟩) (Or.inl ⟨rfl, rfl⟩) (Or.inl ⟨rfl, rfl⟩) (by simp) (by simp) (by simp))
      unfold boxOf at HTS
      have hx4 := al_two w4 (.cells #[.int .i64 0, .int .i64 0, .int .i64 0, .int .i64 0, .int .i64 0, .slice none 0 0, .slice none 0 0, .slice none 0 0, .int .i64 0, .int .i64 0, .int .i64 0, .bool false] 45) (.cells #[.int .i64 6, .int .i64 (-1), .int .i64 (-1), .int .i64 (-1)] 25)
      have HX4 := hideQ hx4
      clear hx4
      by_cases hlt : k < 0
      · go_wp2_with fail
        refine (unhideQ HTS _).mono ?_
        rintro e w5 ⟨rfl, hb5⟩
        have hz5 := hb5.size
        simp only [World.size_alloc] at hz5
        have q := cells_of ((hb5.block (w4.heap.size + 1) (by simp)).trans (unhideQ HX4).2.1)
        have f0 := q.1 0
        have f1 := q.1 1
        have f2 := q.1 2
        have f3 := q.1 3
        simp at f0 f1 f2 f3
        have HB5 := hideQ ((unhideQ HB4).trans (((unhideQ HX4).2.2.1.mono (by omega)).trans (hb5.mono (by simp; omega))))
        clear q hb5
        go_wp2_with fail
        refine (agrees_same 6 (-1) (-1) (-1) _).mono ?_
        rintro e w6 ⟨rfl, hb6⟩
        have HB6 := hideQ ((unhideQ HB5).trans (hb6.mono (unhideQ HB5).size))
        clear hb6
        go_wp2
        go_ret
        exact ⟨rfl, unhideQ HB6⟩
      · have hgt : 1 < k := by omega
        go_wp2_with fail
        refine (unhideQ HTS _).mono ?_
        rintro e w5 ⟨rfl, hb5⟩
        have hz5 := hb5.size
        simp only [World.size_alloc] at hz5
        have q := cells_of ((hb5.block (w4.heap.size + 1) (by simp)).trans (unhideQ HX4).2.1)
        have f0 := q.1 0
        have f1 := q.1 1
        have f2 := q.1 2
        have f3 := q.1 3
        simp at f0 f1 f2 f3
        have HB5 := hideQ ((unhideQ HB4).trans (((unhideQ HX4).2.2.1.mono (by omega)).trans (hb5.mono (by simp; omega))))
        clear q hb5
        go_wp2_with fail
        refine (agrees_same 6 (-1) (-1) (-1) _).mono ?_
        rintro e w6 ⟨rfl, hb6⟩
        have HB6 := hideQ ((unhideQ HB5).trans (hb6.mono (unhideQ HB5).size))
        clear hb6
        go_wp2
        go_ret
        exact ⟨rfl, unhideQ HB6⟩
end Go.Proofs.YtidhncoecfkbfaaDoor
