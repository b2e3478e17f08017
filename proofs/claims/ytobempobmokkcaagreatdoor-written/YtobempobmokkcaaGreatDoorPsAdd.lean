/-
  Parses: table.addRune by its contract. Own work of the verifier.
-/
import Derived.Test.YtobempobmokkcaaGreatDoorPsLeaf
import Derived.WalkSmall
import Derived.Laws.OwnMore
namespace Go.Proofs.YtobempobmokkcaaGreatDoor
open Go.RowKit

theorem hideQ {p : Prop} (h : p) : Hid p := h
theorem unhideQ {p : Prop} (h : Hid p) : p := h
theorem info_partsP {P : Program} {t : TypeId} {z : Value} {n b : Nat} (h : (P.info? t).map (fun i => (i.zero, i.size, i.bytes)) = some (some z, n, b)) : ∃ i, P.info? t = some i ∧ i.zero = some z ∧ i.size = n ∧ i.bytes = b := by
  obtain ⟨i, hi, e⟩ := Option.map_eq_some_iff.1 h
  simp only [Prod.mk.injEq] at e
  exact ⟨i, hi, e.1, e.2.1, e.2.2⟩
theorem Tryz.infoPc : (Tryz.prog.info? 220).map (fun i => (i.zero, i.size, i.bytes)) = some (some (.agg #[.int .i64 0, .int .i64 0, .int .i64 0]), 3, 24) := by kernel_rfl
def tkCells (l : List Tk) : List Value := l.flatMap fun t => [.int .i64 t.k, .int .i64 t.a, .int .i64 t.e]
theorem tkCells_snoc (l : List Tk) (t : Tk) : tkCells (l ++ [t]) = tkCells l ++ [.int .i64 t.k, .int .i64 t.a, .int .i64 t.e] := by simp [tkCells]
theorem tkCells_len : ∀ (l : List Tk), (tkCells l).length = l.length * 3
  | [] => rfl
  | t :: r => by have := tkCells_len r; simp only [tkCells, List.flatMap_cons, List.length_append, List.length_cons, List.length_nil] at this ⊢; omega
/-- The pieces so far, in a row of the call's own. -/
def Own3 (w : World) (base : Nat) (v : Value) (l : List Tk) : Prop := w.ownsRow base 220 3 v l.length (tkCells l)
theorem below_of_grown {w w' : World} {base : Nat} {row : Option Nat} (h : w.grownBy w' row) (hr : ∀ k, row = some k → base ≤ k) (hb : base ≤ w.heap.size) : Below base w w' :=
  ⟨h.os, h.tape, h.output, h.size, fun i hi => h.block i (by omega) (fun e => by have := hr i e.symm; omega)⟩

theorem Own3.shape {w : World} {base : Nat} {v : Value} {l : List Tk} (h : Own3 w base v l) : (l = [] ∧ v = .slice none 0 0) ∨ ∃ g cap, v = .slice (some ⟨g, 0, none⟩) l.length cap := by
  rcases h.2 with ⟨h1, h2⟩ | ⟨g, cap, cur, h1, -⟩
  · exact Or.inl ⟨List.eq_nil_of_length_eq_zero h2, h1⟩
  · exact Or.inr ⟨g, cap, h1⟩
theorem new3 (w : World) (k p q : Int) : ∀ j u, ([.int .i64 k, .int .i64 p, .int .i64 q] : List Value)[j]? = some u → (w.alloc (.cells #[.int .i64 k, .int .i64 p, .int .i64 q] 220)).cell? ((⟨w.heap.size, 0, none⟩ : Addr).add j) = some u := by
  intro j u hj
  match j, hj with
  | 0, hj => simp at hj; subst hj; simp [Addr.add]
  | 1, hj => simp at hj; subst hj; simp [Addr.add]
  | 2, hj => simp at hj; subst hj; simp [Addr.add]

theorem own3_at {w : World} {base g cap : Nat} {l : List Tk} {t : Tk} (h : Own3 w base (.slice (some ⟨g, 0, none⟩) (l.length + 1) cap) (l ++ [t])) (j : Nat) (hj : j < 3) : w.cell? ⟨g, l.length * 3 + j, none⟩ = ([.int .i64 t.k, .int .i64 t.a, .int .i64 t.e] : List Value)[j]? := by
  have h' : w.ownsRow base 220 3 (.slice (some ⟨g, 0, none⟩) (l.length + 1) cap) (l.length + 1) (tkCells (l ++ [t])) := by simpa [Own3] using h
  rw [h'.cellAt (l.length * 3 + j) (by omega), tkCells_snoc, List.getElem?_append_right (by rw [tkCells_len]; omega), tkCells_len, Nat.add_sub_cancel_left]
theorem own3_k {w : World} {base g cap : Nat} {l : List Tk} {t : Tk} (h : Own3 w base (.slice (some ⟨g, 0, none⟩) (l.length + 1) cap) (l ++ [t])) : w.cell? ⟨g, l.length * 3, none⟩ = some (.int .i64 t.k) := own3_at h 0 (by omega)
theorem own3_e {w : World} {base g cap : Nat} {l : List Tk} {t : Tk} (h : Own3 w base (.slice (some ⟨g, 0, none⟩) (l.length + 1) cap) (l ++ [t])) : w.cell? ⟨g, l.length * 3 + 2, none⟩ = some (.int .i64 t.e) := own3_at h 2 (by omega)
theorem Own3.frozenAt' {w : World} {base g cap : Nat} {l : List Tk} {t : Tk} (h : Own3 w base (.slice (some ⟨g, 0, none⟩) (l.length + 1) cap) (l ++ [t])) (j : Nat) : w.frozen? ⟨g, j, none⟩ = false := by
  have h' : w.ownsRow base 220 3 (.slice (some ⟨g, 0, none⟩) (l.length + 1) cap) (l.length + 1) (tkCells (l ++ [t])) := by simpa [Own3] using h
  exact h'.frozenAt j
theorem own3_set {w : World} {base g cap : Nat} {l : List Tk} {t : Tk} (h : Own3 w base (.slice (some ⟨g, 0, none⟩) (l.length + 1) cap) (l ++ [t])) (q : Nat) : Own3 (w.setCell ⟨g, l.length * 3 + 2, none⟩ (.int .i64 q)) base (.slice (some ⟨g, 0, none⟩) (l.length + 1) cap) (l ++ [⟨t.k, t.a, q⟩]) := by
  have h' : w.ownsRow base 220 3 (.slice (some ⟨g, 0, none⟩) (l.length + 1) cap) (l.length + 1) (tkCells (l ++ [t])) := by simpa [Own3] using h
  have h2 := (h'.stored (l.length * 3 + 2) (.int .i64 q)).1
  have e : (tkCells (l ++ [t])).set (l.length * 3 + 2) (.int .i64 q) = tkCells (l ++ [⟨t.k, t.a, q⟩]) := by
    rw [tkCells_snoc, tkCells_snoc, List.set_append_right _ _ (by rw [tkCells_len]; omega), tkCells_len, Nat.add_sub_cancel_left]
    rfl
  rw [e] at h2
  simpa [Own3] using h2
theorem own3_below {w : World} {base g cap : Nat} {l : List Tk} {t : Tk} (h : Own3 w base (.slice (some ⟨g, 0, none⟩) (l.length + 1) cap) (l ++ [t])) (q : Nat) (hb : base ≤ w.heap.size) : Below base w (w.setCell ⟨g, l.length * 3 + 2, none⟩ (.int .i64 q)) := by
  have h' : w.ownsRow base 220 3 (.slice (some ⟨g, 0, none⟩) (l.length + 1) cap) (l.length + 1) (tkCells (l ++ [t])) := by simpa [Own3] using h
  exact below_of_grown (h'.stored (l.length * 3 + 2) (.int .i64 q)).2 (fun k hk => by have := h'.lt g rfl; simp at hk; omega) hb
theorem own3_app {w : World} {base : Nat} {v : Value} {l : List Tk} {k p n : Nat} (hn : l.length = n) (h : w.ownsRow base 220 3 v (n + 1) (tkCells l ++ [.int .i64 k, .int .i64 p, .int .i64 (p + 1)])) : Own3 w base v (l ++ [⟨k, p, p + 1⟩]) := by
  unfold Own3
  rw [tkCells_snoc]
  simpa [hn] using h
set_option maxHeartbeats 2000000 in
set_option maxRecDepth 100000 in
theorem addRune_nil3 (base : Nat) (a : Option Addr) (cap p : Nat) (w : World) (h : Own3 w base (.slice a 0 cap) []) (hp : p ≤ 400) (hb : base ≤ w.heap.size) :
    Calls Tryz.prog 96 #[.slice a 0 cap, .int .i64 3, .int .i64 p] w fun e w' => ∃ v', e = .returned v' ∧ Own3 w' base v' [⟨3, p, p + 1⟩] ∧ Below base w w' := by
  obtain ⟨i0, hi, hz0, hz1, hz2⟩ := info_partsP Tryz.infoPc
  have HH := hideQ h
  clear h
  go_enter Tryz.func96, Tryz.ntmps96
  go_wp2_with (at_builtin; refine wpList_append_own _ rfl _ _ 137 rfl base 220 i0 _ 3 24 Tryz.underlying137 hi hz0 hz1 hz2 rfl (by decide) _ _ _ rfl ((unhideQ HH).alloc _) ⟨w.heap.size, 0, none⟩ 1 1 [.int .i64 3, .int .i64 p, .int .i64 (p + 1)] rfl rfl (new3 w 3 p (p + 1)) (by intro u hu; simp at hu; rcases hu with rfl | rfl | rfl <;> rfl) ?c3 ?c4 ?c5 ?_)
  case c3 => first | (simp [maxLen]; done) | (unfold maxLen; omega) | (unfold maxLen; simp only [List.length_append, List.length_cons, List.length_nil]; omega)
  case c4 => first | (simp; done) | omega | (simp only [List.length_append, List.length_cons, List.length_nil]; omega)
  case c5 => simp; omega
  intro v' w' hown hgr _
  have HR := hideQ (own3_app (l := []) (k := 3) (p := p) (by first | rfl | exact hn | exact hln) hown)
  have HG := hideQ (((Below.refl base w).alloc hb _).trans (below_of_grown hgr (fun j hj => ((unhideQ HH).lt j hj).1) (by simp; omega) : Below base _ w'))
  clear hown hgr
  go_wp2
  go_ret
  exact ⟨_, rfl, unhideQ HR, unhideQ HG⟩
set_option maxHeartbeats 2000000 in
set_option maxRecDepth 100000 in
theorem addRune_nil4 (base : Nat) (a : Option Addr) (cap p : Nat) (w : World) (h : Own3 w base (.slice a 0 cap) []) (hp : p ≤ 400) (hb : base ≤ w.heap.size) :
    Calls Tryz.prog 96 #[.slice a 0 cap, .int .i64 4, .int .i64 p] w fun e w' => ∃ v', e = .returned v' ∧ Own3 w' base v' [⟨4, p, p + 1⟩] ∧ Below base w w' := by
  obtain ⟨i0, hi, hz0, hz1, hz2⟩ := info_partsP Tryz.infoPc
  have HH := hideQ h
  clear h
  go_enter Tryz.func96, Tryz.ntmps96
  go_wp2_with (at_builtin; refine wpList_append_own _ rfl _ _ 137 rfl base 220 i0 _ 3 24 Tryz.underlying137 hi hz0 hz1 hz2 rfl (by decide) _ _ _ rfl ((unhideQ HH).alloc _) ⟨w.heap.size, 0, none⟩ 1 1 [.int .i64 4, .int .i64 p, .int .i64 (p + 1)] rfl rfl (new3 w 4 p (p + 1)) (by intro u hu; simp at hu; rcases hu with rfl | rfl | rfl <;> rfl) ?c3 ?c4 ?c5 ?_)
  case c3 => first | (simp [maxLen]; done) | (unfold maxLen; omega) | (unfold maxLen; simp only [List.length_append, List.length_cons, List.length_nil]; omega)
  case c4 => first | (simp; done) | omega | (simp only [List.length_append, List.length_cons, List.length_nil]; omega)
  case c5 => simp; omega
  intro v' w' hown hgr _
  have HR := hideQ (own3_app (l := []) (k := 4) (p := p) (by first | rfl | exact hn | exact hln) hown)
  have HG := hideQ (((Below.refl base w).alloc hb _).trans (below_of_grown hgr (fun j hj => ((unhideQ HH).lt j hj).1) (by simp; omega) : Below base _ w'))
  clear hown hgr
  go_wp2
  go_ret
  exact ⟨_, rfl, unhideQ HR, unhideQ HG⟩
set_option maxHeartbeats 2000000 in
set_option maxRecDepth 100000 in
theorem addRune_nil5 (base : Nat) (a : Option Addr) (cap p : Nat) (w : World) (h : Own3 w base (.slice a 0 cap) []) (hp : p ≤ 400) (hb : base ≤ w.heap.size) :
    Calls Tryz.prog 96 #[.slice a 0 cap, .int .i64 5, .int .i64 p] w fun e w' => ∃ v', e = .returned v' ∧ Own3 w' base v' [⟨5, p, p + 1⟩] ∧ Below base w w' := by
  obtain ⟨i0, hi, hz0, hz1, hz2⟩ := info_partsP Tryz.infoPc
  have HH := hideQ h
  clear h
  go_enter Tryz.func96, Tryz.ntmps96
  go_wp2_with (at_builtin; refine wpList_append_own _ rfl _ _ 137 rfl base 220 i0 _ 3 24 Tryz.underlying137 hi hz0 hz1 hz2 rfl (by decide) _ _ _ rfl ((unhideQ HH).alloc _) ⟨w.heap.size, 0, none⟩ 1 1 [.int .i64 5, .int .i64 p, .int .i64 (p + 1)] rfl rfl (new3 w 5 p (p + 1)) (by intro u hu; simp at hu; rcases hu with rfl | rfl | rfl <;> rfl) ?c3 ?c4 ?c5 ?_)
  case c3 => first | (simp [maxLen]; done) | (unfold maxLen; omega) | (unfold maxLen; simp only [List.length_append, List.length_cons, List.length_nil]; omega)
  case c4 => first | (simp; done) | omega | (simp only [List.length_append, List.length_cons, List.length_nil]; omega)
  case c5 => simp; omega
  intro v' w' hown hgr _
  have HR := hideQ (own3_app (l := []) (k := 5) (p := p) (by first | rfl | exact hn | exact hln) hown)
  have HG := hideQ (((Below.refl base w).alloc hb _).trans (below_of_grown hgr (fun j hj => ((unhideQ HH).lt j hj).1) (by simp; omega) : Below base _ w'))
  clear hown hgr
  go_wp2
  go_ret
  exact ⟨_, rfl, unhideQ HR, unhideQ HG⟩
set_option maxHeartbeats 2000000 in
set_option maxRecDepth 100000 in
theorem addRune_nil6 (base : Nat) (a : Option Addr) (cap p : Nat) (w : World) (h : Own3 w base (.slice a 0 cap) []) (hp : p ≤ 400) (hb : base ≤ w.heap.size) :
    Calls Tryz.prog 96 #[.slice a 0 cap, .int .i64 6, .int .i64 p] w fun e w' => ∃ v', e = .returned v' ∧ Own3 w' base v' [⟨6, p, p + 1⟩] ∧ Below base w w' := by
  obtain ⟨i0, hi, hz0, hz1, hz2⟩ := info_partsP Tryz.infoPc
  have HH := hideQ h
  clear h
  go_enter Tryz.func96, Tryz.ntmps96
  go_wp2_with (at_builtin; refine wpList_append_own _ rfl _ _ 137 rfl base 220 i0 _ 3 24 Tryz.underlying137 hi hz0 hz1 hz2 rfl (by decide) _ _ _ rfl ((unhideQ HH).alloc _) ⟨w.heap.size, 0, none⟩ 1 1 [.int .i64 6, .int .i64 p, .int .i64 (p + 1)] rfl rfl (new3 w 6 p (p + 1)) (by intro u hu; simp at hu; rcases hu with rfl | rfl | rfl <;> rfl) ?c3 ?c4 ?c5 ?_)
  case c3 => first | (simp [maxLen]; done) | (unfold maxLen; omega) | (unfold maxLen; simp only [List.length_append, List.length_cons, List.length_nil]; omega)
  case c4 => first | (simp; done) | omega | (simp only [List.length_append, List.length_cons, List.length_nil]; omega)
  case c5 => simp; omega
  intro v' w' hown hgr _
  have HR := hideQ (own3_app (l := []) (k := 6) (p := p) (by first | rfl | exact hn | exact hln) hown)
  have HG := hideQ (((Below.refl base w).alloc hb _).trans (below_of_grown hgr (fun j hj => ((unhideQ HH).lt j hj).1) (by simp; omega) : Below base _ w'))
  clear hown hgr
  go_wp2
  go_ret
  exact ⟨_, rfl, unhideQ HR, unhideQ HG⟩
set_option maxHeartbeats 2000000 in
set_option maxRecDepth 100000 in
theorem addRune_k3 (base g cap p : Nat) (l : List Tk) (t : Tk) (w : World) (h : Own3 w base (.slice (some ⟨g, 0, none⟩) (l.length + 1) cap) (l ++ [t])) (hl : l.length ≤ 400) (hp : p ≤ 400) (hb : base ≤ w.heap.size) (hk : (t.k : Int) ≠ 3) :
    Calls Tryz.prog 96 #[.slice (some ⟨g, 0, none⟩) (l.length + 1) cap, .int .i64 3, .int .i64 p] w fun e w' => ∃ v', e = .returned v' ∧ Own3 w' base v' (l ++ [t] ++ [⟨3, p, p + 1⟩]) ∧ Below base w w' := by
  obtain ⟨i0, hi, hz0, hz1, hz2⟩ := info_partsP Tryz.infoPc
  have ck := own3_k h
  have ce := own3_e h
  have hln : (l ++ [t]).length = l.length + 1 := by simp
  have HH := hideQ h
  clear h
  generalize t.e = te at *
  generalize hn : l.length = n at *
  go_enter Tryz.func96, Tryz.ntmps96
  go_wp2_with (at_builtin; refine wpList_append_own _ rfl _ _ 137 rfl base 220 i0 _ 3 24 Tryz.underlying137 hi hz0 hz1 hz2 rfl (by decide) _ _ _ rfl ((unhideQ HH).alloc _) ⟨w.heap.size, 0, none⟩ 1 1 [.int .i64 3, .int .i64 p, .int .i64 (p + 1)] rfl rfl (new3 w 3 p (p + 1)) (by intro u hu; simp at hu; rcases hu with rfl | rfl | rfl <;> rfl) ?c3 ?c4 ?c5 ?_)
  case c3 => first | (simp [maxLen]; done) | (unfold maxLen; omega) | (unfold maxLen; simp only [List.length_append, List.length_cons, List.length_nil]; omega)
  case c4 => first | (simp; done) | omega | (simp only [List.length_append, List.length_cons, List.length_nil]; omega)
  case c5 => simp; omega
  intro v' w' hown hgr _
  have HR := hideQ (own3_app (l := l ++ [t]) (k := 3) (p := p) (by first | rfl | exact hn | exact hln) hown)
  have HG := hideQ (((Below.refl base w).alloc hb _).trans (below_of_grown hgr (fun j hj => ((unhideQ HH).lt j hj).1) (by simp; omega) : Below base _ w'))
  clear hown hgr
  go_wp2
  go_ret
  exact ⟨_, rfl, unhideQ HR, unhideQ HG⟩
set_option maxHeartbeats 2000000 in
set_option maxRecDepth 100000 in
theorem addRune_e3 (base g cap p : Nat) (l : List Tk) (t : Tk) (w : World) (h : Own3 w base (.slice (some ⟨g, 0, none⟩) (l.length + 1) cap) (l ++ [t])) (hl : l.length ≤ 400) (hp : p ≤ 400) (hb : base ≤ w.heap.size) (hk : t.k = 3) (he : (t.e : Int) ≠ p) :
    Calls Tryz.prog 96 #[.slice (some ⟨g, 0, none⟩) (l.length + 1) cap, .int .i64 3, .int .i64 p] w fun e w' => ∃ v', e = .returned v' ∧ Own3 w' base v' (l ++ [t] ++ [⟨3, p, p + 1⟩]) ∧ Below base w w' := by
  obtain ⟨i0, hi, hz0, hz1, hz2⟩ := info_partsP Tryz.infoPc
  have ck := own3_k h
  have ce := own3_e h
  have hln : (l ++ [t]).length = l.length + 1 := by simp
  have HH := hideQ h
  clear h
  rw [hk] at ck
  generalize t.e = te at *
  generalize hn : l.length = n at *
  go_enter Tryz.func96, Tryz.ntmps96
  go_wp2_with (at_builtin; refine wpList_append_own _ rfl _ _ 137 rfl base 220 i0 _ 3 24 Tryz.underlying137 hi hz0 hz1 hz2 rfl (by decide) _ _ _ rfl ((unhideQ HH).alloc _) ⟨w.heap.size, 0, none⟩ 1 1 [.int .i64 3, .int .i64 p, .int .i64 (p + 1)] rfl rfl (new3 w 3 p (p + 1)) (by intro u hu; simp at hu; rcases hu with rfl | rfl | rfl <;> rfl) ?c3 ?c4 ?c5 ?_)
  case c3 => first | (simp [maxLen]; done) | (unfold maxLen; omega) | (unfold maxLen; simp only [List.length_append, List.length_cons, List.length_nil]; omega)
  case c4 => first | (simp; done) | omega | (simp only [List.length_append, List.length_cons, List.length_nil]; omega)
  case c5 => simp; omega
  intro v' w' hown hgr _
  have HR := hideQ (own3_app (l := l ++ [t]) (k := 3) (p := p) (by first | rfl | exact hn | exact hln) hown)
  have HG := hideQ (((Below.refl base w).alloc hb _).trans (below_of_grown hgr (fun j hj => ((unhideQ HH).lt j hj).1) (by simp; omega) : Below base _ w'))
  clear hown hgr
  go_wp2
  go_ret
  exact ⟨_, rfl, unhideQ HR, unhideQ HG⟩
set_option maxHeartbeats 2000000 in
set_option maxRecDepth 100000 in
theorem addRune_on3 (base g cap p : Nat) (l : List Tk) (t : Tk) (w : World) (h : Own3 w base (.slice (some ⟨g, 0, none⟩) (l.length + 1) cap) (l ++ [t])) (hl : l.length ≤ 400) (hp : p ≤ 400) (hb : base ≤ w.heap.size) (hk : t.k = 3) (he : t.e = p) :
    Calls Tryz.prog 96 #[.slice (some ⟨g, 0, none⟩) (l.length + 1) cap, .int .i64 3, .int .i64 p] w fun e w' => ∃ v', e = .returned v' ∧ Own3 w' base v' (l ++ [⟨t.k, t.a, p + 1⟩]) ∧ Below base w w' := by
  have ck := own3_k h
  have ce := own3_e h
  have hfz := h.frozenAt' (l.length * 3 + 2)
  have HR := hideQ (own3_set h (p + 1))
  have HG := hideQ (own3_below h (p + 1) hb)
  clear h
  rw [hk] at ck
  rw [he] at ce
  generalize hn : l.length = n at *
  go_enter Tryz.func96, Tryz.ntmps96
  go_wp2
  go_ret
  exact ⟨_, rfl, unhideQ HR, unhideQ HG⟩
set_option maxHeartbeats 2000000 in
set_option maxRecDepth 100000 in
theorem addRune_k4 (base g cap p : Nat) (l : List Tk) (t : Tk) (w : World) (h : Own3 w base (.slice (some ⟨g, 0, none⟩) (l.length + 1) cap) (l ++ [t])) (hl : l.length ≤ 400) (hp : p ≤ 400) (hb : base ≤ w.heap.size) (hk : (t.k : Int) ≠ 4) :
    Calls Tryz.prog 96 #[.slice (some ⟨g, 0, none⟩) (l.length + 1) cap, .int .i64 4, .int .i64 p] w fun e w' => ∃ v', e = .returned v' ∧ Own3 w' base v' (l ++ [t] ++ [⟨4, p, p + 1⟩]) ∧ Below base w w' := by
  obtain ⟨i0, hi, hz0, hz1, hz2⟩ := info_partsP Tryz.infoPc
  have ck := own3_k h
  have ce := own3_e h
  have hln : (l ++ [t]).length = l.length + 1 := by simp
  have HH := hideQ h
  clear h
  generalize t.e = te at *
  generalize hn : l.length = n at *
  go_enter Tryz.func96, Tryz.ntmps96
  go_wp2_with (at_builtin; refine wpList_append_own _ rfl _ _ 137 rfl base 220 i0 _ 3 24 Tryz.underlying137 hi hz0 hz1 hz2 rfl (by decide) _ _ _ rfl ((unhideQ HH).alloc _) ⟨w.heap.size, 0, none⟩ 1 1 [.int .i64 4, .int .i64 p, .int .i64 (p + 1)] rfl rfl (new3 w 4 p (p + 1)) (by intro u hu; simp at hu; rcases hu with rfl | rfl | rfl <;> rfl) ?c3 ?c4 ?c5 ?_)
  case c3 => first | (simp [maxLen]; done) | (unfold maxLen; omega) | (unfold maxLen; simp only [List.length_append, List.length_cons, List.length_nil]; omega)
  case c4 => first | (simp; done) | omega | (simp only [List.length_append, List.length_cons, List.length_nil]; omega)
  case c5 => simp; omega
  intro v' w' hown hgr _
  have HR := hideQ (own3_app (l := l ++ [t]) (k := 4) (p := p) (by first | rfl | exact hn | exact hln) hown)
  have HG := hideQ (((Below.refl base w).alloc hb _).trans (below_of_grown hgr (fun j hj => ((unhideQ HH).lt j hj).1) (by simp; omega) : Below base _ w'))
  clear hown hgr
  go_wp2
  go_ret
  exact ⟨_, rfl, unhideQ HR, unhideQ HG⟩
set_option maxHeartbeats 2000000 in
set_option maxRecDepth 100000 in
theorem addRune_e4 (base g cap p : Nat) (l : List Tk) (t : Tk) (w : World) (h : Own3 w base (.slice (some ⟨g, 0, none⟩) (l.length + 1) cap) (l ++ [t])) (hl : l.length ≤ 400) (hp : p ≤ 400) (hb : base ≤ w.heap.size) (hk : t.k = 4) (he : (t.e : Int) ≠ p) :
    Calls Tryz.prog 96 #[.slice (some ⟨g, 0, none⟩) (l.length + 1) cap, .int .i64 4, .int .i64 p] w fun e w' => ∃ v', e = .returned v' ∧ Own3 w' base v' (l ++ [t] ++ [⟨4, p, p + 1⟩]) ∧ Below base w w' := by
  obtain ⟨i0, hi, hz0, hz1, hz2⟩ := info_partsP Tryz.infoPc
  have ck := own3_k h
  have ce := own3_e h
  have hln : (l ++ [t]).length = l.length + 1 := by simp
  have HH := hideQ h
  clear h
  rw [hk] at ck
  generalize t.e = te at *
  generalize hn : l.length = n at *
  go_enter Tryz.func96, Tryz.ntmps96
  go_wp2_with (at_builtin; refine wpList_append_own _ rfl _ _ 137 rfl base 220 i0 _ 3 24 Tryz.underlying137 hi hz0 hz1 hz2 rfl (by decide) _ _ _ rfl ((unhideQ HH).alloc _) ⟨w.heap.size, 0, none⟩ 1 1 [.int .i64 4, .int .i64 p, .int .i64 (p + 1)] rfl rfl (new3 w 4 p (p + 1)) (by intro u hu; simp at hu; rcases hu with rfl | rfl | rfl <;> rfl) ?c3 ?c4 ?c5 ?_)
  case c3 => first | (simp [maxLen]; done) | (unfold maxLen; omega) | (unfold maxLen; simp only [List.length_append, List.length_cons, List.length_nil]; omega)
  case c4 => first | (simp; done) | omega | (simp only [List.length_append, List.length_cons, List.length_nil]; omega)
  case c5 => simp; omega
  intro v' w' hown hgr _
  have HR := hideQ (own3_app (l := l ++ [t]) (k := 4) (p := p) (by first | rfl | exact hn | exact hln) hown)
  have HG := hideQ (((Below.refl base w).alloc hb _).trans (below_of_grown hgr (fun j hj => ((unhideQ HH).lt j hj).1) (by simp; omega) : Below base _ w'))
  clear hown hgr
  go_wp2
  go_ret
  exact ⟨_, rfl, unhideQ HR, unhideQ HG⟩
set_option maxHeartbeats 2000000 in
set_option maxRecDepth 100000 in
theorem addRune_on4 (base g cap p : Nat) (l : List Tk) (t : Tk) (w : World) (h : Own3 w base (.slice (some ⟨g, 0, none⟩) (l.length + 1) cap) (l ++ [t])) (hl : l.length ≤ 400) (hp : p ≤ 400) (hb : base ≤ w.heap.size) (hk : t.k = 4) (he : t.e = p) :
    Calls Tryz.prog 96 #[.slice (some ⟨g, 0, none⟩) (l.length + 1) cap, .int .i64 4, .int .i64 p] w fun e w' => ∃ v', e = .returned v' ∧ Own3 w' base v' (l ++ [⟨t.k, t.a, p + 1⟩]) ∧ Below base w w' := by
  have ck := own3_k h
  have ce := own3_e h
  have hfz := h.frozenAt' (l.length * 3 + 2)
  have HR := hideQ (own3_set h (p + 1))
  have HG := hideQ (own3_below h (p + 1) hb)
  clear h
  rw [hk] at ck
  rw [he] at ce
  generalize hn : l.length = n at *
  go_enter Tryz.func96, Tryz.ntmps96
  go_wp2
  go_ret
  exact ⟨_, rfl, unhideQ HR, unhideQ HG⟩
set_option maxHeartbeats 2000000 in
set_option maxRecDepth 100000 in
theorem addRune_any5 (base n cap p : Nat) (a : Option Addr) (l : List Tk) (w : World) (h : Own3 w base (.slice a n cap) l) (hn : l.length = n) (hl : n ≤ 401) (hp : p ≤ 400) (hb : base ≤ w.heap.size) :
    Calls Tryz.prog 96 #[.slice a n cap, .int .i64 5, .int .i64 p] w fun e w' => ∃ v', e = .returned v' ∧ Own3 w' base v' (l ++ [⟨5, p, p + 1⟩]) ∧ Below base w w' := by
  obtain ⟨i0, hi, hz0, hz1, hz2⟩ := info_partsP Tryz.infoPc
  have HH := hideQ h
  clear h
  go_enter Tryz.func96, Tryz.ntmps96
  go_wp2_with (at_builtin; refine wpList_append_own _ rfl _ _ 137 rfl base 220 i0 _ 3 24 Tryz.underlying137 hi hz0 hz1 hz2 rfl (by decide) _ _ _ rfl ((unhideQ HH).alloc _) ⟨w.heap.size, 0, none⟩ 1 1 [.int .i64 5, .int .i64 p, .int .i64 (p + 1)] rfl rfl (new3 w 5 p (p + 1)) (by intro u hu; simp at hu; rcases hu with rfl | rfl | rfl <;> rfl) ?c3 ?c4 ?c5 ?_)
  case c3 => first | (simp [maxLen]; done) | (unfold maxLen; omega) | (unfold maxLen; simp only [List.length_append, List.length_cons, List.length_nil]; omega)
  case c4 => first | (simp; done) | omega | (simp only [List.length_append, List.length_cons, List.length_nil]; omega)
  case c5 => simp; omega
  intro v' w' hown hgr _
  have HR := hideQ (own3_app (l := l) (k := 5) (p := p) (by first | rfl | exact hn | exact hln) hown)
  have HG := hideQ (((Below.refl base w).alloc hb _).trans (below_of_grown hgr (fun j hj => ((unhideQ HH).lt j hj).1) (by simp; omega) : Below base _ w'))
  clear hown hgr
  go_wp2
  go_ret
  exact ⟨_, rfl, unhideQ HR, unhideQ HG⟩
set_option maxHeartbeats 2000000 in
set_option maxRecDepth 100000 in
theorem addRune_any6 (base n cap p : Nat) (a : Option Addr) (l : List Tk) (w : World) (h : Own3 w base (.slice a n cap) l) (hn : l.length = n) (hl : n ≤ 401) (hp : p ≤ 400) (hb : base ≤ w.heap.size) :
    Calls Tryz.prog 96 #[.slice a n cap, .int .i64 6, .int .i64 p] w fun e w' => ∃ v', e = .returned v' ∧ Own3 w' base v' (l ++ [⟨6, p, p + 1⟩]) ∧ Below base w w' := by
  obtain ⟨i0, hi, hz0, hz1, hz2⟩ := info_partsP Tryz.infoPc
  have HH := hideQ h
  clear h
  go_enter Tryz.func96, Tryz.ntmps96
  go_wp2_with (at_builtin; refine wpList_append_own _ rfl _ _ 137 rfl base 220 i0 _ 3 24 Tryz.underlying137 hi hz0 hz1 hz2 rfl (by decide) _ _ _ rfl ((unhideQ HH).alloc _) ⟨w.heap.size, 0, none⟩ 1 1 [.int .i64 6, .int .i64 p, .int .i64 (p + 1)] rfl rfl (new3 w 6 p (p + 1)) (by intro u hu; simp at hu; rcases hu with rfl | rfl | rfl <;> rfl) ?c3 ?c4 ?c5 ?_)
  case c3 => first | (simp [maxLen]; done) | (unfold maxLen; omega) | (unfold maxLen; simp only [List.length_append, List.length_cons, List.length_nil]; omega)
  case c4 => first | (simp; done) | omega | (simp only [List.length_append, List.length_cons, List.length_nil]; omega)
  case c5 => simp; omega
  intro v' w' hown hgr _
  have HR := hideQ (own3_app (l := l) (k := 6) (p := p) (by first | rfl | exact hn | exact hln) hown)
  have HG := hideQ (((Below.refl base w).alloc hb _).trans (below_of_grown hgr (fun j hj => ((unhideQ HH).lt j hj).1) (by simp; omega) : Below base _ w'))
  clear hown hgr
  go_wp2
  go_ret
  exact ⟨_, rfl, unhideQ HR, unhideQ HG⟩
end Go.Proofs.YtobempobmokkcaaGreatDoor
