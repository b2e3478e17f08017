/-
  Parses: the reader of package table: peek, place. Own work of the verifier.
-/
import Derived.Test.YtobempobmokkcaaGreatDoorPsName
import Derived.Test.YtobempobmokkcaaGreatDoorPsTok
namespace Go.Proofs.YtobempobmokkcaaGreatDoor
open Go.RowKit

/-- The pieces are pieces of the text. -/
def WfT (s : ByteArray) (l : List Tk) : Prop := ∀ t ∈ l, t.a < t.e ∧ t.e ≤ s.size ∧ 3 ≤ t.k ∧ t.k ≤ 6 ∧ ∀ i, t.a ≤ i → i < t.e → kindN (s.get! i).toNat = t.k
structure Rdr (w : World) (b : Nat) (s : ByteArray) (v : Value) (i : Nat) (sn : Nat → Bool) (vs : Nat → Value) : Prop where
  txt : w.cell? ⟨b, 0, none⟩ = some (.string s)
  pcs : w.cell? ⟨b, 1, none⟩ = some v
  nxt : w.cell? ⟨b, 2, none⟩ = some (.int .i64 i)
  seen : ∀ k, k < 11 → w.cell? ⟨b, 3 + k, none⟩ = some (.bool (sn k))
  vals : ∀ k, k < 11 → w.cell? ⟨b, 14 + k, none⟩ = some (vs k)
  frz : ∀ j, w.frozen? ⟨b, j, none⟩ = false
theorem own3_get {w : World} {base g cap : Nat} {l : List Tk} {i : Nat} {t : Tk} (h : Own3 w base (.slice (some ⟨g, 0, none⟩) l.length cap) l) (ht : l[i]? = some t) (j : Nat) (hj : j < 3) : w.cell? ⟨g, i * 3 + j, none⟩ = ([.int .i64 t.k, .int .i64 t.a, .int .i64 t.e] : List Value)[j]? := by
  obtain ⟨hi, rfl⟩ := List.getElem?_eq_some_iff.1 ht
  have e : l = l.take i ++ [l[i]] ++ l.drop (i + 1) := by
    rw [List.append_assoc, List.singleton_append, List.getElem_cons_drop, List.take_append_drop]
  have h1 : (tkCells l)[i * 3 + j]? = ([.int .i64 (l[i]).k, .int .i64 (l[i]).a, .int .i64 (l[i]).e] : List Value)[j]? := by
    have hl : (tkCells (l.take i)).length = i * 3 := by rw [tkCells_len]; simp; omega
    have h3 : tkCells l = tkCells (l.take i) ++ ([.int .i64 (l[i]).k, .int .i64 (l[i]).a, .int .i64 (l[i]).e] ++ tkCells (l.drop (i + 1))) := by
      have h4 := congrArg tkCells e
      simp only [tkCells, List.flatMap_append, List.flatMap_cons, List.flatMap_nil, List.append_nil, List.append_assoc] at h4 ⊢
      exact h4
    rw [h3]
    rw [List.getElem?_append_right (by omega), hl, Nat.add_sub_cancel_left, List.getElem?_append_left (by simpa using hj)]
  have h2 : w.ownsRow base 220 3 (.slice (some ⟨g, 0, none⟩) l.length cap) l.length (tkCells l) := h
  rw [h2.cellAt (i * 3 + j) (by omega), h1]
set_option maxHeartbeats 2000000 in
set_option maxRecDepth 100000 in
theorem place_end (w : World) (b base : Nat) (s : ByteArray) (v : Value) (sn : Nat → Bool) (vs : Nat → Value) (l : List Tk) (h : Rdr w b s v l.length sn vs) (ho : Own3 w base v l) (hl : l.length ≤ 400) :
    Calls Tryz.prog 59 #[.pointer (some ⟨b, 0, none⟩)] w fun e w' => e = .returned (.int .i64 s.size) ∧ Below w.heap.size w w' := by
  have c0 := h.txt
  have c1 := h.pcs
  have c2 := h.nxt
  obtain ⟨a, cap, rfl⟩ : ∃ a cap, v = .slice a l.length cap := by
    rcases ho.shape with ⟨e, rfl⟩ | ⟨g, cap, rfl⟩
    · subst e; exact ⟨_, _, rfl⟩
    · exact ⟨_, _, rfl⟩
  clear h ho
  go_enter Tryz.func59, Tryz.ntmps59
  go_wp2
  go_region
  all_goals go_wp2
  all_goals go_ret
  all_goals exact ⟨rfl, by go_grown⟩
set_option maxHeartbeats 2000000 in
set_option maxRecDepth 100000 in
theorem place_in (w : World) (b base : Nat) (s : ByteArray) (v : Value) (i : Nat) (sn : Nat → Bool) (vs : Nat → Value) (l : List Tk) (t : Tk) (h : Rdr w b s v i sn vs) (ho : Own3 w base v l) (hl : l.length ≤ 400) (ht : l[i]? = some t) :
    Calls Tryz.prog 59 #[.pointer (some ⟨b, 0, none⟩)] w fun e w' => e = .returned (.int .i64 t.a) ∧ Below w.heap.size w w' := by
  have c0 := h.txt
  have c1 := h.pcs
  have c2 := h.nxt
  have hi : i < l.length := (List.getElem?_eq_some_iff.1 ht).1
  obtain ⟨g, cap, rfl⟩ : ∃ g cap, v = .slice (some ⟨g, 0, none⟩) l.length cap := by
    rcases ho.shape with ⟨e, rfl⟩ | ⟨g, cap, rfl⟩
    · subst e; simp at hi
    · exact ⟨_, _, rfl⟩
  have d1 : w.cell? ⟨g, i * 3 + 1, none⟩ = some (.int .i64 t.a) := own3_get ho ht 1 (by omega)
  clear h ho
  generalize hn : l.length = n at *
  go_enter Tryz.func59, Tryz.ntmps59
  go_wp2
  go_region
  all_goals go_wp2
  all_goals go_region
  all_goals go_wp2
  all_goals go_ret
  all_goals exact ⟨rfl, by go_grown⟩
set_option maxHeartbeats 2000000 in
set_option maxRecDepth 100000 in
theorem peek_end (w : World) (b base : Nat) (s : ByteArray) (v : Value) (sn : Nat → Bool) (vs : Nat → Value) (l : List Tk) (h : Rdr w b s v l.length sn vs) (ho : Own3 w base v l) (hl : l.length ≤ 400) :
    Calls Tryz.prog 212 #[.pointer (some ⟨b, 0, none⟩)] w fun e w' => e = .returned (.tuple #[.int .i64 0, .string ⟨#[]⟩]) ∧ Below w.heap.size w w' := by
  have c1 := h.pcs
  have c2 := h.nxt
  obtain ⟨a, cap, rfl⟩ : ∃ a cap, v = .slice a l.length cap := by
    rcases ho.shape with ⟨e, rfl⟩ | ⟨g, cap, rfl⟩
    · subst e; exact ⟨_, _, rfl⟩
    · exact ⟨_, _, rfl⟩
  clear h ho
  go_enter Tryz.func212, Tryz.ntmps212
  go_wp2
  go_region
  all_goals go_wp2
  all_goals go_ret2
  all_goals exact ⟨rfl, by go_grown⟩
set_option maxHeartbeats 2000000 in
set_option maxRecDepth 100000 in
theorem peek_in (w : World) (b base : Nat) (s : ByteArray) (v : Value) (i : Nat) (sn : Nat → Bool) (vs : Nat → Value) (l : List Tk) (t : Tk) (h : Rdr w b s v i sn vs) (ho : Own3 w base v l) (hl : l.length ≤ 400) (ht : l[i]? = some t) (hw : WfT s l) :
    Calls Tryz.prog 212 #[.pointer (some ⟨b, 0, none⟩)] w fun e w' => e = .returned (.tuple #[.int .i64 t.k, .string (s.extract t.a t.e)]) ∧ Below w.heap.size w w' := by
  have c0 := h.txt
  have c1 := h.pcs
  have c2 := h.nxt
  have hi : i < l.length := (List.getElem?_eq_some_iff.1 ht).1
  obtain ⟨g, cap, rfl⟩ : ∃ g cap, v = .slice (some ⟨g, 0, none⟩) l.length cap := by
    rcases ho.shape with ⟨e, rfl⟩ | ⟨g, cap, rfl⟩
    · subst e; simp at hi
    · exact ⟨_, _, rfl⟩
  have d0 : w.cell? ⟨g, i * 3, none⟩ = some (.int .i64 t.k) := own3_get ho ht 0 (by omega)
  have d1 : w.cell? ⟨g, i * 3 + 1, none⟩ = some (.int .i64 t.a) := own3_get ho ht 1 (by omega)
  have d2 : w.cell? ⟨g, i * 3 + 2, none⟩ = some (.int .i64 t.e) := own3_get ho ht 2 (by omega)
  obtain ⟨w1, w2, -⟩ := hw t (List.mem_of_getElem? ht)
  have hsl := slice_run s t.a t.e (by omega) w2
  have old : ∀ (q : Nat) (o : Nat) (u : Value), w.cell? ⟨q, o, none⟩ = some u → (w.alloc (.cells #[.int .i64 0, .int .i64 0, .int .i64 0] 220)).cell? ⟨q, o, none⟩ = some u := fun q o u hu => (World.cell?_alloc_lt _ _ ⟨q, o, none⟩ (World.block_lt_of_cell? w _ hu)).trans hu
  have hlb : b < w.heap.size := World.block_lt_of_cell? w _ c0
  have hlg : g < w.heap.size := World.block_lt_of_cell? w _ d0
  have hnb : b ≠ w.heap.size := by omega
  have hng : g ≠ w.heap.size := by omega
  have a0 := old _ _ _ c0
  have a1 := old _ _ _ c1
  have a2 := old _ _ _ c2
  have a3 := old _ _ _ d0
  have a4 := old _ _ _ d1
  have a5 := old _ _ _ d2
  clear h ho hw old
  generalize hn : l.length = n at *
  go_enter Tryz.func212, Tryz.ntmps212
  go_wp2
  go_region
  all_goals go_wp2
  all_goals go_region
  all_goals go_wp2
  all_goals go_region
  all_goals go_wp2
  all_goals go_ret2
  all_goals exact ⟨rfl, by go_grown⟩
end Go.Proofs.YtobempobmokkcaaGreatDoor
