/-
  Tables: the law's own walk. Own work of the verifier.
-/
import Derived.Test.YtobempobmokkcaaGreatDoorTblSam
import Derived.Deep.CutRange
namespace Go.Proofs.YtobempobmokkcaaGreatDoor
open Go.RowKit

theorem plsampleU (kk : Nat) (hk : kk < 2) (w : World) (hU : U8 w) (hI : Itm w) (hE : ErrTy w) : Calls Tryz.prog 8 #[.int .i64 kk] w fun e w' => Below w.heap.size w w' ∧ ∃ v4 v5 v6, e = .returned (.tuple #[.agg ((td kk).box v4 v5 v6), flt 0 (-1) (-1) (-1)]) ∧ w'.ownsRow w.heap.size 3 1 v4 (td kk).l4.length (iCells (td kk).l4) ∧ w'.ownsRow w.heap.size 3 1 v5 (td kk).l5.length (iCells (td kk).l5) ∧ w'.ownsRow w.heap.size 3 1 v6 (td kk).l6.length (iCells (td kk).l6) ∧ Apart3 v4 v5 v6 := by
  match kk, hk with
  | 0, _ =>
    obtain ⟨S, hS, hv, hp⟩ := tab_of txt0_tab
    refine (plsample_c 0 (some S) (Or.inl ⟨rfl, S, rfl, hS⟩) w hU hI hE).mono ?_
    rintro e w' ⟨hb, arr, fv, rfl, ⟨v4, v5, v6, h1, h2, h3, h4, h5⟩, hf⟩
    rw [hv 4 (by omega)] at h2
    rw [hv 5 (by omega)] at h3
    rw [hv 6 (by omega)] at h4
    refine ⟨hb, v4, v5, v6, ?_, h2, h3, h4, h5⟩
    rw [h1, hf]
    unfold tabV
    rw [hv 0 (by omega), hv 1 (by omega), hv 2 (by omega), hv 3 (by omega), hv 7 (by omega), hv 8 (by omega), hv 9 (by omega), hp]
    rfl
  | 1, _ =>
    obtain ⟨S, hS, hv, hp⟩ := tab_of txt1_tab
    refine (plsample_c 1 (some S) (Or.inr (Or.inl ⟨rfl, S, rfl, hS⟩)) w hU hI hE).mono ?_
    rintro e w' ⟨hb, arr, fv, rfl, ⟨v4, v5, v6, h1, h2, h3, h4, h5⟩, hf⟩
    rw [hv 4 (by omega)] at h2
    rw [hv 5 (by omega)] at h3
    rw [hv 6 (by omega)] at h4
    refine ⟨hb, v4, v5, v6, ?_, h2, h3, h4, h5⟩
    rw [h1, hf]
    unfold tabV
    rw [hv 0 (by omega), hv 1 (by omega), hv 2 (by omega), hv 3 (by omega), hv 7 (by omega), hv 8 (by omega), hv 9 (by omega), hp]
    rfl
theorem Rs.slice {w : World} {v : Value} {ns : List Int} (h : Rs w v ns) : ∃ a n p, v = .slice a n p := by
  obtain ⟨p, cap, e⟩ := h.shape
  exact ⟨_, _, _, e⟩
theorem own_shape {w : World} {B n : Nat} {v : Value} {xs : List Value} (h : w.ownsRow B 3 1 v n xs) : ∃ a k p, v = .slice a k p := by
  rcases h.2 with ⟨e, _⟩ | ⟨g, cap, cur, e, -⟩
  · exact ⟨_, _, _, e⟩
  · exact ⟨_, _, _, e⟩
theorem al_two (w : World) (X Y : Obj) : ((w.alloc X).alloc Y).heap[w.heap.size]? = some X ∧ ((w.alloc X).alloc Y).heap[w.heap.size + 1]? = some Y ∧ Below w.heap.size w ((w.alloc X).alloc Y) ∧ ((w.alloc X).alloc Y).heap.size = w.heap.size + 2 :=
  ⟨(al_old _ _ _ (by simp)).trans (heap_alloc_new w _), heap_alloc2_new w _ _, ((Below.refl w.heap.size w).alloc (Nat.le_refl _) _).alloc (by simp) _, by simp⟩
theorem rdk {w w' : World} {B : Nat} {v : Value} {ns : List Int} (h : w.ownsRow B 3 1 v ns.length (iCells ns)) (hs : ∀ q, B ≤ q → q < w.heap.size → w'.heap[q]? = w.heap[q]?) : RdI w' v ns := rd_of_own (row_same h hs)
def SmpD (d : TD) (k g : Nat) (u : World) : Prop := ∃ v4 v5 v6, (∃ a n p, v4 = .slice a n p) ∧ (∃ a n p, v5 = .slice a n p) ∧ (∃ a n p, v6 = .slice a n p) ∧ u.rangeAt g (k * 12) (d.box v4 v5 v6).toList ∧ RdI u v4 d.l4 ∧ RdI u v5 d.l5 ∧ RdI u v6 d.l6
theorem RdI.sl {w : World} {v : Value} {ns : List Int} (h : RdI w v ns) : ∃ a n p, v = .slice a n p := by
  obtain ⟨a, cap, e⟩ := h.shape
  exact ⟨_, _, _, e⟩
theorem SmpRow.toD {k g : Nat} {u : World} (h : SmpRow k g u) : SmpD (td k) k g u := by
  obtain ⟨v4, v5, v6, h1, h2, h3, h4⟩ := h
  exact ⟨v4, v5, v6, h2.sl, h3.sl, h4.sl, h1, h2, h3, h4⟩
theorem SmpD.below {d : TD} {k g : Nat} {u u' : World} (h : SmpD d k g u) (hb : Below u.heap.size u u') : SmpD d k g u' := by
  obtain ⟨v4, v5, v6, s4, s5, s6, h1, h2, h3, h4⟩ := h
  refine ⟨v4, v5, v6, s4, s5, s6, fun j v hv => ?_, h2.below hb, h3.below hb, h4.below hb⟩
  have := h1 j v hv
  exact (hb.cell (p := ⟨g, k * 12 + j, none⟩) (World.block_lt_of_cell? u _ this)).trans this
def OkTb (d : TD) (kk : Nat) (arr : Array Value) (T8 : Nat) (i : Nat) (v : Value) (u : World) : Prop :=
  match i with
  | 0 => v = .agg arr
  | 1 => ∃ g, v = .slice (some ⟨g, 0, none⟩) 2 2 ∧ SmpD d kk g u
  | 2 => v = .int .i64 kk
  | 3 => ∃ g, v = .pointer (some ⟨g, kk * 12, none⟩) ∧ SmpD d kk g u
  | 4 => ∃ u4 u5 u6, v = .agg (d.box u4 u5 u6) ∧ RdI u u4 d.l4 ∧ RdI u u5 d.l5 ∧ RdI u u6 d.l6
  | 5 => v = .bool true
  | 6 => v = .bool false
  | 7 => v = .bool false
  | 8 => v = .pointer (some ⟨T8, 0, none⟩)
  | 9 => v = .int .i64 0
  | 10 => v = .bool false
  | 11 => v = .bool false
  | _ => True
theorem OkTb.stab {d : TD} {kk : Nat} {arr : Array Value} {T8 : Nat} (i : Nat) (v : Value) (u u' : World) (h : OkTb d kk arr T8 i v u) (hb : Below u.heap.size u u') : OkTb d kk arr T8 i v u' := by
  unfold OkTb at *
  split at h
  · exact h
  · obtain ⟨g, e, hg⟩ := h
    exact ⟨g, e, hg.below hb⟩
  · exact h
  · obtain ⟨g, e, hg⟩ := h
    exact ⟨g, e, hg.below hb⟩
  · obtain ⟨u4, u5, u6, e, h4, h5, h6⟩ := h
    exact ⟨u4, u5, u6, e, h4.below hb, h5.below hb, h6.below hb⟩
  all_goals exact h
theorem wanted_of {ops : Array Oper} {o : Oper} {a : Act} {j s : Nat} {b : Bool} {oj : Oper} (hg : o.guard = some (j, b)) (hj : ops[j]? = some oj) (hd : oj.dst = some s) (hs : s < a.tmps.size) (hv : a.eval (.tmp s) = .bool b) : Region.wanted o (yielded ops a.tmps) = true := by
  unfold Region.wanted
  rw [hg]
  have e : a.tmps[s]? = some (.bool b) := by
    have h1 : a.tmps[s]? = some a.tmps[s] := Array.getElem?_eq_getElem hs
    have h2 : a.tmps[s] = .bool b := by simpa [Act.eval, hs] using hv
    rw [h1, h2]
  simp [yielded, hj, hd, e]
theorem below_drew1 (w : World) : Below w.heap.size w w.drew := ⟨rfl, rfl, rfl, Nat.le_refl _, fun _ _ => rfl⟩
def OkU (d : TD) (kk : Nat) (arr : Array Value) (i : Nat) (v : Value) (u : World) : Prop :=
  match i with
  | 6 => v = .bool true
  | j => OkTb d kk arr 0 j v u
theorem OkU.stab {d : TD} {kk : Nat} {arr : Array Value} (i : Nat) (v : Value) (u u' : World) (h : OkU d kk arr i v u) (hb : Below u.heap.size u u') : OkU d kk arr i v u' := by
  unfold OkU at *
  split at h
  · exact h
  · exact OkTb.stab _ v u u' h hb
def dL (i : Nat) : Nat := if i < 6 then 58 + i else if i = 6 then 4 else i + 100
theorem dL_inj (i j : Nat) (h : dL i = dL j) : i = j := by unfold dL at h; split at h <;> split at h <;> (try split at h) <;> (try split at h) <;> omega
theorem dL_keep (t : Nat) (ht : t = 1 ∨ t = 9) (i : Nat) : dL i ≠ t := by unfold dL; split <;> (try split) <;> omega
end Go.Proofs.YtobempobmokkcaaGreatDoor
