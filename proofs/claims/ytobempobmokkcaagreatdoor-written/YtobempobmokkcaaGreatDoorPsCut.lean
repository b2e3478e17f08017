/-
  Parses: table.cut by its contract. Own work of the verifier.
-/
import Derived.Test.YtobempobmokkcaaGreatDoorPsAdd
namespace Go.Proofs.YtobempobmokkcaaGreatDoor
open Go.RowKit

theorem snoc_of {α : Type} : ∀ (l : List α), l = [] ∨ ∃ l0 t, l = l0 ++ [t]
  | [] => Or.inl rfl
  | a :: r => Or.inr ⟨(a :: r).dropLast, (a :: r).getLast (by simp), (List.dropLast_concat_getLast (by simp)).symm⟩
theorem addRune_c (base : Nat) (l : List Tk) (v : Value) (k p : Nat) (w : World) (h : Own3 w base v l) (hl : l.length ≤ 400) (hp : p ≤ 400) (hb : base ≤ w.heap.size) (hk : 3 ≤ k ∧ k ≤ 6) :
    Calls Tryz.prog 96 #[v, .int .i64 k, .int .i64 p] w fun e w' => ∃ v', e = .returned v' ∧ Own3 w' base v' (addR l k p) ∧ Below base w w' := by
  by_cases h56 : k = 5 ∨ k = 6
  · have hs : ∃ a cap, v = .slice a l.length cap := by
      rcases h.shape with ⟨e, rfl⟩ | ⟨g, cap, rfl⟩
      · subst e; exact ⟨_, _, rfl⟩
      · exact ⟨_, _, rfl⟩
    obtain ⟨a, cap, rfl⟩ := hs
    have e : addR l k p = l ++ [⟨k, p, p + 1⟩] := addR_new l k p (fun t _ h3 => by omega)
    rw [e]
    rcases h56 with rfl | rfl
    · exact addRune_any5 base _ cap p a l w h rfl (by omega) hp hb
    · exact addRune_any6 base _ cap p a l w h rfl (by omega) hp hb
  have h34 : k = 3 ∨ k = 4 := by omega
  rcases snoc_of l with rfl | ⟨l0, t, rfl⟩
  · have hs : ∃ a cap, v = .slice a 0 cap := by
      rcases h.shape with ⟨e, rfl⟩ | ⟨g, cap, rfl⟩
      · exact ⟨_, _, rfl⟩
      · exact ⟨_, _, rfl⟩
    obtain ⟨a, cap, rfl⟩ := hs
    rcases h34 with rfl | rfl
    · exact addRune_nil3 base a cap p w h hp hb
    · exact addRune_nil4 base a cap p w h hp hb
  · obtain ⟨g, cap, rfl⟩ : ∃ g cap, v = .slice (some ⟨g, 0, none⟩) (l0.length + 1) cap := by
      rcases h.shape with ⟨e, _⟩ | ⟨g, cap, e⟩
      · simp at e
      · exact ⟨g, cap, by simpa using e⟩
    have hl0 : l0.length ≤ 400 := by simp at hl; omega
    by_cases c1 : t.k = k
    · by_cases c2 : t.e = p
      · have e : addR (l0 ++ [t]) k p = l0 ++ [⟨t.k, t.a, p + 1⟩] := by simp [addR, c1, c2, h34]
        rw [e]
        rcases h34 with rfl | rfl
        · exact addRune_on3 base g cap p l0 t w h hl0 hp hb c1 c2
        · exact addRune_on4 base g cap p l0 t w h hl0 hp hb c1 c2
      · have e : addR (l0 ++ [t]) k p = l0 ++ [t] ++ [⟨k, p, p + 1⟩] := by simp [addR, c2]
        rw [e]
        rcases h34 with rfl | rfl
        · exact addRune_e3 base g cap p l0 t w h hl0 hp hb c1 (by omega)
        · exact addRune_e4 base g cap p l0 t w h hl0 hp hb c1 (by omega)
    · have e : addR (l0 ++ [t]) k p = l0 ++ [t] ++ [⟨k, p, p + 1⟩] := by simp [addR, c1]
      rw [e]
      rcases h34 with rfl | rfl
      · exact addRune_k3 base g cap p l0 t w h hl0 hp hb (by omega)
      · exact addRune_k4 base g cap p l0 t w h hl0 hp hb (by omega)
theorem addR_len (l : List Tk) (k p : Nat) : (addR l k p).length ≤ l.length + 1 := by
  unfold addR
  split
  · split
    · simp
    · simp
  · simp

/-! ### the rune at a place -/
theorem get_ge (s : ByteArray) (i : Nat) (h : s.size ≤ i) : s.get! i = 0 := by
  obtain ⟨d⟩ := s
  have h' : d.size ≤ i := h
  simp [ByteArray.get!, show ¬ i < d.size by omega]
  rfl
theorem get_extract (s : ByteArray) (p k : Nat) (hp : p ≤ s.size) : (s.extract p s.size).get! k = s.get! (p + k) := by
  by_cases h : p + k < s.size
  · rw [Utf8W.get!_of_lt _ _ (by simp; omega), Utf8W.get!_of_lt _ _ h]
    simp [ByteArray.getElem_extract]
  · have h1 : ¬ k < (s.extract p s.size).size := by simp; omega
    have e1 := get_ge (s.extract p s.size) k (by omega)
    have e2 := get_ge s (p + k) (by omega)
    rw [e1, e2]
theorem dec_extract (s : ByteArray) (p : Nat) (hp : p < s.size) : Lib.decodeGo (s.extract p s.size) = Utf8.decode s p := by
  unfold Lib.decodeGo
  rw [if_neg (by simp; omega), Lib.decode_at, Lib.decode_at]
  simp only [get_extract s p _ (by omega)]
  simp
set_option maxHeartbeats 1000000 in
set_option maxRecDepth 100000 in
theorem decode_c (s : ByteArray) (w : World) (hs : 0 < s.size) (hT : Lib.Utf8Tabs 3 4 w) :
    Calls Tryz.prog 137 #[.string s] w fun e w' => e = .returned (.tuple #[.int .i32 (Lib.decodeGo s).1, .int .i64 (Lib.decodeGo s).2]) ∧ Below w.heap.size w w' := by
  have HC := hideQ (Tryz.utf8_decodeRuneInStringSlow s w hT)
  clear hT
  have hne : s.toList.isEmpty = false := by
    rw [Lib.toList_data]
    cases h : s.data.toList with
    | nil => exact absurd hs (by rw [Lib.size_eq, h]; simp)
    | cons _ _ => rfl
  obtain ⟨x0, hx0⟩ : ∃ x0, s.get! 0 = x0 := ⟨_, rfl⟩
  have hs0 : s[0]'hs = x0 := by rw [← hx0]; exact (Utf8W.get!_of_lt s 0 hs).symm
  have hz0 : (0 : Int) < (s.size : Int) := by omega
  by_cases ha : x0.toNat < 128
  · have hd : Lib.decodeGo s = (x0.toNat, 1) := by
      simp only [Lib.decodeGo, show s.size ≠ 0 by omega, if_false]
      rw [Lib.decode_at, hx0]
      simp [Lib.decodeN, ha]
    rw [hd]
    clear HC
    have haz : (x0.toNat : Int) < 128 := by omega
    go_enter Tryz.func137, Tryz.ntmps137
    go_wp2
    go_ret2
    exact ⟨rfl, Below.refl _ _⟩
  · have haz : ¬ ((x0.toNat : Int) < 128) := by omega
    generalize (Lib.decodeGo s).1 = R at HC
    generalize (Lib.decodeGo s).2 = K at HC
    go_enter Tryz.func137, Tryz.ntmps137
    go_wp2_with fail
    refine (unhideQ HC).mono ?_
    rintro e w' ⟨rfl, hb⟩
    have HB := hideQ hb
    clear hb
    go_wp2
    go_ret2
    exact ⟨rfl, unhideQ HB⟩
set_option maxHeartbeats 1000000 in
theorem isBroken_c (s : ByteArray) (r : Nat) (w : World) (hs : 0 < s.size) (hT : Lib.Utf8Tabs 3 4 w) :
    Calls Tryz.prog 94 #[.string s, .int .i32 r] w fun e w' => e = .returned (.bool (decide (r = 65533 ∧ (Lib.decodeGo s).2 = 1))) ∧ Below w.heap.size w w' := by
  by_cases h : r = 65533
  · have HC := hideQ (decode_c s w hs hT)
    clear hT
    subst h
    go_enter Tryz.func94, Tryz.ntmps94
    go_wp2_with fail
    refine (unhideQ HC).mono ?_
    rintro e w' ⟨rfl, hb⟩
    have HB := hideQ hb
    clear hb
    go_wp2
    go_ret
    refine ⟨?_, unhideQ HB⟩
    simp
    first | done | omega | (rw [Bool.eq_iff_iff]; simp; omega)
  · have h' : (r : Int) ≠ 65533 := by omega
    go_enter Tryz.func94, Tryz.ntmps94
    go_wp2
    go_ret
    exact ⟨by simp [h], Below.refl _ _⟩
end Go.Proofs.YtobempobmokkcaaGreatDoor
