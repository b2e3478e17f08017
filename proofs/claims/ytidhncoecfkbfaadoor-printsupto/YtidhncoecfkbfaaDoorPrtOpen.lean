/-
  prologuelaw.Prints: a table's value opened. Own work of the verifier.
-/
import Derived.Test.YtidhncoecfkbfaaDoorPrtTab
import Derived.WideShapes
import Derived.SizedLaws
namespace Go.Proofs.YtidhncoecfkbfaaDoor
open Go.ChangeShapes Go.WideShapes Go.ChangeAt Go.RowKit

namespace bulks
theorem one_le {H : Type} (d : DataW H) : 1 ≤ Rows.uptoBulk d := by
  cases d with
  | lit l => cases l <;> simp [Rows.uptoBulk]
  | _ => simp [Rows.uptoBulk]
theorem length_le {H : Type} : ∀ (l : List (DataW H)), l.length ≤ Rows.uptoBulkAll l
  | [] => by simp [Rows.uptoBulkAll]
  | x :: r => by have := one_le x; have := length_le r; simp only [Rows.uptoBulkAll, List.length_cons]; omega
theorem slice_le {H : Type} (elems spare : List (DataW H)) : elems.length ≤ Rows.uptoBulk (.slice elems spare) := by
  have h1 := length_le elems
  simp only [Rows.uptoBulk]
  omega
end bulks

theorem list12 {α : Type} {l : List α} (h : l.length = 12) : ∃ a0 a1 a2 a3 a4 a5 a6 a7 a8 a9 a10 a11, l = [a0, a1, a2, a3, a4, a5, a6, a7, a8, a9, a10, a11] := by
  match l, h with
  | [a0, a1, a2, a3, a4, a5, a6, a7, a8, a9, a10, a11], _ => exact ⟨_, _, _, _, _, _, _, _, _, _, _, _, rfl⟩
theorem list11 {α : Type} {l : List α} (h : l.length = 11) : ∃ a0 a1 a2 a3 a4 a5 a6 a7 a8 a9 a10, l = [a0, a1, a2, a3, a4, a5, a6, a7, a8, a9, a10] := by
  match l, h with
  | [a0, a1, a2, a3, a4, a5, a6, a7, a8, a9, a10], _ => exact ⟨_, _, _, _, _, _, _, _, _, _, _, rfl⟩
theorem list2 {α : Type} {l : List α} (h : l.length = 2) : ∃ a0 a1, l = [a0, a1] := by
  match l, h with
  | [a0, a1], _ => exact ⟨_, _, rfl⟩

theorem Tryd.cells2i : Tryd.prog.cellsOf 42 = 2 := by kernel_rfl
theorem Tryd.cellsInts : Tryd.prog.cellsOf 43 = 1 := by kernel_rfl
section
variable {H : Type} {enc : TypeId × Value → H} {w : World} {fuel : Nat} {held : Bool}

/-- A list of numbers, opened. -/
theorem nums_open {v : Value} {y : DataW H × List MemPlace} (h : DataW.trod enc Tryd.prog w 0 (fun _ => true) held fuel 43 [v] = some y) :
    ∃ ns : List Int, Rs w v ns ∧ okI ns ∧ ns.length ≤ Rows.uptoBulk y.1 := by
  rcases open_ints Tryd.underlying43 Tryd.underlying3 Tryd.cellsInt h with ⟨hcs, rfl⟩ | ⟨a, len, cap, zs, hcs, -, hl, -, hz, rfl, hc, hw⟩
  · simp at hcs
    subst hcs
    exact ⟨[], Or.inl ⟨rfl, _, _, rfl⟩, fun n hn => (by cases hn), Nat.zero_le _⟩
  · simp at hcs
    subst hcs
    simp at hz
    have ht : (zs.take len).length = len := by simp; omega
    refine ⟨zs.take len, ?_, fun n hn => bounds_i64 (hw n (List.mem_of_mem_take hn)), ?_⟩
    · rcases Nat.eq_zero_or_pos len with rfl | hpos
      · exact Or.inl ⟨by simp, _, _, rfl⟩
      · obtain ⟨sb, so, spot⟩ := a
        have h0 := hc 0 (by omega)
        have hs : spot = none := by simpa [Addr.add] using World.cell?_spot h0
        subst hs
        refine Or.inr ⟨sb, so, cap, by rw [ht], fun i hi => ?_⟩
        rw [ht] at hi
        have := hc i (by omega)
        rw [Go.WideShapes.add_plain] at this
        rw [this]
        simp [List.getD, hi]
    · have h1 := bulks.slice_le (lits (H := H) .i64 (zs.take len)) (lits .i64 (zs.drop len))
      have h2 : (lits (H := H) .i64 (zs.take len)).length = (zs.take len).length := by simp [lits]
      rw [h2] at h1
      exact h1
theorem int_open {v : Value} {y : DataW H × List MemPlace} (h : DataW.trod enc Tryd.prog w 0 (fun _ => true) held fuel 3 [v] = some y) : ∃ n : Int, v = .int .i64 n ∧ okN n := by
  obtain ⟨n, e, -, hw⟩ := DataW.trod_int Tryd.underlying3 h
  exact ⟨n, List.head_eq_of_cons_eq e, bounds_i64 hw⟩
set_option maxRecDepth 100000 in
theorem two_open {v0 v1 : Value} {y : DataW H × List MemPlace} (h : DataW.trod enc Tryd.prog w 0 (fun _ => true) held fuel 42 [v0, v1] = some y) : ∃ n m : Int, v0 = .int .i64 n ∧ v1 = .int .i64 m ∧ okN n ∧ okN m := by
  obtain ⟨xs, m, -, -, -, hxl, hall⟩ := DataW.trod_array Tryd.underlying42 h
  obtain ⟨x0, x1, rfl⟩ := list2 hxl
  have h0 : DataW.trod enc Tryd.prog w 0 (fun _ => true) held m 3 [v0] = some x0 := by
    have := hall 0 (by decide)
    rw [Tryd.cellsInt] at this
    exact this
  have h1 : DataW.trod enc Tryd.prog w 0 (fun _ => true) held m 3 [v1] = some x1 := by
    have := hall 1 (by decide)
    rw [Tryd.cellsInt] at this
    exact this
  obtain ⟨n, e0, o0⟩ := int_open h0
  obtain ⟨k, e1, o1⟩ := int_open h1
  exact ⟨n, k, e0, e1, o0, o1⟩

set_option maxRecDepth 100000 in
theorem table_open {b0 : Nat} {r : Reach} {v : Value} {d : DataW H} {p : List MemPlace} (hv : Value.okWide Tryd.prog w r b0 45 v) (h : DataW.Trod enc Tryd.prog w 0 (fun _ => true) held 45 v d p) (ht : Tabs w) (hbulk : Rows.uptoBulkAll [d] ≤ 1048576) :
    ∃ r sp lk t0 t1 va vr vs al sh by_ ag rs ss pr, v = .agg (boxOf r sp lk t0 t1 va vr vs al sh by_ pr) ∧ Tb w r sp lk t0 t1 va vr vs al sh by_ ag rs ss := by
  obtain ⟨cs, rfl, hsz⟩ := okWide_struct Tryd.underlying45 hv
  obtain ⟨l⟩ := cs
  obtain ⟨c0, c1, c2, c3, c4, c5, c6, c7, c8, c9, c10, c11, rfl⟩ := list12 (l := l) (hsz.trans (by kernel_rfl))
  obtain ⟨fuel, hf⟩ := h
  obtain ⟨xs, n, -, hx, -, hxl, hall⟩ := DataW.trod_struct Tryd.underlying45 hf
  obtain ⟨y0, y1, y2, y3, y4, y5, y6, y7, y8, y9, y10, rfl⟩ := list11 hxl
  have f0 : DataW.trod enc Tryd.prog w 0 (fun _ => true) held n 3 [c0] = some y0 := field_of hall (i := 0) rfl Tryd.cellsInt rfl
  have f1 : DataW.trod enc Tryd.prog w 0 (fun _ => true) held n 3 [c1] = some y1 := field_of hall (i := 1) rfl Tryd.cellsInt rfl
  have f2 : DataW.trod enc Tryd.prog w 0 (fun _ => true) held n 3 [c2] = some y2 := field_of hall (i := 2) rfl Tryd.cellsInt rfl
  have f3 : DataW.trod enc Tryd.prog w 0 (fun _ => true) held n 42 [c3, c4] = some y3 := field_of hall (i := 3) rfl Tryd.cells2i rfl
  have f4 : DataW.trod enc Tryd.prog w 0 (fun _ => true) held n 43 [c5] = some y4 := field_of hall (i := 4) rfl Tryd.cellsInts rfl
  have f5 : DataW.trod enc Tryd.prog w 0 (fun _ => true) held n 43 [c6] = some y5 := field_of hall (i := 5) rfl Tryd.cellsInts rfl
  have f6 : DataW.trod enc Tryd.prog w 0 (fun _ => true) held n 43 [c7] = some y6 := field_of hall (i := 6) rfl Tryd.cellsInts rfl
  have f7 : DataW.trod enc Tryd.prog w 0 (fun _ => true) held n 3 [c8] = some y7 := field_of hall (i := 7) rfl Tryd.cellsInt rfl
  have f8 : DataW.trod enc Tryd.prog w 0 (fun _ => true) held n 3 [c9] = some y8 := field_of hall (i := 8) rfl Tryd.cellsInt rfl
  have f9 : DataW.trod enc Tryd.prog w 0 (fun _ => true) held n 3 [c10] = some y9 := field_of hall (i := 9) rfl Tryd.cellsInt rfl
  have f10 : DataW.trod enc Tryd.prog w 0 (fun _ => true) held n 4 [c11] = some y10 := field_of hall (i := 10) rfl Tryd.cellsBool rfl
  clear hall
  obtain ⟨i0, rfl, o0⟩ := int_open (v := c0) (y := y0) f0
  obtain ⟨i1, rfl, o1⟩ := int_open (v := c1) (y := y1) f1
  obtain ⟨i2, rfl, o2⟩ := int_open (v := c2) (y := y2) f2
  obtain ⟨i3, i4, rfl, rfl, o3, o4⟩ := two_open (v0 := c3) (v1 := c4) (y := y3) f3
  obtain ⟨ag, l5, a5, b5⟩ := nums_open (v := c5) (y := y4) f4
  obtain ⟨rs, l6, a6, b6⟩ := nums_open (v := c6) (y := y5) f5
  obtain ⟨ss, l7, a7, b7⟩ := nums_open (v := c7) (y := y6) f6
  obtain ⟨i8, rfl, o8⟩ := int_open (v := c8) (y := y7) f7
  obtain ⟨i9, rfl, o9⟩ := int_open (v := c9) (y := y8) f8
  obtain ⟨i10, rfl, o10⟩ := int_open (v := c10) (y := y9) f9
  obtain ⟨pr, hpr, -⟩ := DataW.trod_bool Tryd.underlying4 (cs := [c11]) (x := y10) f10
  obtain rfl := List.head_eq_of_cons_eq hpr
  have hd : d = .agg ([y0, y1, y2, y3, y4, y5, y6, y7, y8, y9, y10].map (·.1)) := congrArg Prod.fst hx
  subst hd
  simp only [Rows.uptoBulkAll, Rows.uptoBulk, List.map_cons, List.map_nil] at hbulk
  exact ⟨i0, i1, i2, i3, i4, c5, c6, c7, i8, i9, i10, ag, rs, ss, pr, rfl, ⟨ht, ⟨o0, o1, o2, o3, o4, o8, o9, o10⟩, ⟨a5, a6, a7⟩, ⟨l5, l6, l7⟩, by omega⟩⟩
end
end Go.Proofs.YtidhncoecfkbfaaDoor
