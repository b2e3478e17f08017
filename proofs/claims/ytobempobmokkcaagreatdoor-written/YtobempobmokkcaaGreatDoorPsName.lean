/-
  Parses: table.itemNamed, table.valueOf. Own work of the verifier.
-/
import Derived.Test.YtobempobmokkcaaGreatDoorPsCut2
import Derived.Test.YtobempobmokkcaaGreatDoorPrtItem
namespace Go.Proofs.YtobempobmokkcaaGreatDoor
open Go.RowKit

def valN (l : List UInt8) : Nat := l.foldl (fun v b => 10 * v + (b.toNat - 48)) 0
theorem valN_snoc (l : List UInt8) (b : UInt8) : valN (l ++ [b]) = 10 * valN l + (b.toNat - 48) := by simp [valN]
theorem valN_lt : ∀ (n : Nat) (l : List UInt8), l.length = n → (∀ b ∈ l, 48 ≤ b.toNat ∧ b.toNat ≤ 57) → valN l < 10 ^ n
  | 0, l, h, _ => by
    have : l = [] := List.eq_nil_of_length_eq_zero h
    subst this; decide
  | n + 1, l, h, hb => by
    rcases snoc_of l with rfl | ⟨l0, t, rfl⟩
    · simp at h
    · have h1 := valN_lt n l0 (by simpa using h) (fun b hb' => hb b (by simp [hb']))
      have h2 := hb t (by simp)
      rw [valN_snoc, Nat.pow_succ]
      omega
set_option maxHeartbeats 2000000 in
set_option maxRecDepth 100000 in
theorem itemNamed_c (t : List UInt8) (w : World) (hI : Items w) :
    Calls Tryz.prog 213 #[.string ⟨t.toArray⟩] w fun e w' => w' = w ∧ ((∃ k, k < 11 ∧ nm k = t ∧ e = .returned (.int .i64 k)) ∨ ((∀ k, k < 11 → nm k ≠ t) ∧ e = .returned (.int .i64 (-1)))) := by
  have HI := hideQ hI
  clear hI
  go_enter Tryz.func213, Tryz.ntmps213
  go_wp2_with fail
  go_loopw [4] (fun j w2 => ∃ k : Nat, j = .int .i64 k ∧ w2 = w ∧ k ≤ 11 ∧ ∀ i, i < k → nm i ≠ t) (fun j _ => 11 - (intOf j).toNat)
  case atStart => exact ⟨0, rfl, rfl, by omega, fun i hi => by omega⟩
  case round =>
    obtain ⟨k, rfl, rfl, hk, hno⟩ := hrel
    by_cases hk2 : k < 11
    · have hc := (unhideQ HI k hk2).1
      by_cases hn : nm k = t
      · rw [hn] at hc
        have HN := hideQ hno
        clear hno
        go_wp2
        go_ret
        exact ⟨rfl, Or.inl ⟨k, hk2, hn, rfl⟩⟩
      · have HN := hideQ hno
        clear hno
        have hse : (nm k == t) = false := by simpa using hn
        go_wp2
        go_roundw
        case rel => exact ⟨k + 1, by go_num, by trivial, by omega, fun i hi => by
          rcases Nat.lt_succ_iff_lt_or_eq.1 hi with h | h
          · exact unhideQ HN i h
          · subst h; exact hn⟩
        case measure => simp [intOf]; omega
    · have hk3 : k = 11 := by omega
      subst hk3
      have HN := hideQ hno
      clear hno
      go_wp2
      go_ret
      exact ⟨rfl, Or.inr ⟨unhideQ HN, rfl⟩⟩

set_option maxHeartbeats 2000000 in
set_option maxRecDepth 100000 in
theorem valueOf_c (s : ByteArray) (w : World) (hs : s.size ≤ 3) (hd : ∀ i, i < s.size → 48 ≤ (s.get! i).toNat ∧ (s.get! i).toNat ≤ 57) :
    Calls Tryz.prog 280 #[.string s] w fun e w' => e = .returned (.int .i64 (valN s.data.toList)) ∧ Below w.heap.size w w' := by
  have HD := hideQ hd
  have hsl : s.data.toList.length = s.size := Array.length_toList
  clear hd
  go_enter Tryz.func280, Tryz.ntmps280
  go_wp2_with fail
  go_loopw [3] (fun v wr => ∃ q : Nat, q ≤ s.size ∧ v = .int .i64 (valN (s.data.toList.take q)) ∧ wr.heap[w.heap.size]? = some (.stringIter s q) ∧ Below w.heap.size w wr) (fun _ wr => s.size - wr.iterPos w.heap.size)
  case atStart => exact ⟨0, by omega, rfl, heap_alloc_new w _, (Below.refl _ _).alloc (Nat.le_refl _) _⟩
  case round =>
    obtain ⟨q, hq, rfl, hit, hb⟩ := hrel
    by_cases hp : q < s.size
    · have hgq := unhideQ HD q hp
      have hda := dec_ascii s q (by omega)
      have hnx : ∀ ty, (Instr.next (.pointer (some ⟨w.heap.size, 0, none⟩)) true ty).run Tryz.prog _ = .ok (.tuple #[.bool true, .int .i64 q, .int .i32 (s.get! q).toNat]) _ := fun ty => by have := Lib.run_next_any_at (P := Tryz.prog) _ w.heap.size s q ty hit hp; rw [hda] at this; exact this
      have hm := iterPos_of hit
      have G1 := hideQ (Lib.iterAt_heap _ _ s _ (q + 1) hit)
      have hm2 := iterPos_of (unhideQ G1)
      have G2 := hideQ (Lib.below_iterAt hb (Nat.le_refl _) s (q + 1))
      have hv : valN (s.data.toList.take (q + 1)) = 10 * valN (s.data.toList.take q) + ((s.get! q).toNat - 48) := by
        rw [List.take_succ_eq_append_getElem (by omega), valN_snoc]
        rw [Utf8W.get!_of_lt s q hp]
        rfl
      have hlt := valN_lt q (s.data.toList.take q) (by simp; omega) (fun b hb' => by
        obtain ⟨i, hi⟩ := List.getElem?_of_mem (List.mem_of_mem_take hb')
        have hi2 : i < s.size := by
          have := (List.getElem?_eq_some_iff.1 hi).1
          omega
        have h := unhideQ HD i hi2
        rw [Utf8W.get!_of_lt s i hi2] at h
        have e : s[i]'hi2 = b := by
          have := (List.getElem?_eq_some_iff.1 hi).2
          simp at this
          exact this
        rw [e] at h; exact h)
      have hlt2 : valN (s.data.toList.take q) < 1000 := by
        have : 10 ^ q ≤ 10 ^ 2 := Nat.pow_le_pow_right (by decide) (by omega)
        omega
      have HV := hideQ hv
      clear hv hit hb hda hlt
      generalize valN (s.data.toList.take q) = V at *
      generalize (s.get! q).toNat = B at *
      go_wp2
      go_roundw
      case rel => exact ⟨q + 1, hp, by rw [unhideQ HV]; go_num, unhideQ G1, unhideQ G2⟩
      case measure => omega
    · obtain rfl : q = s.size := by omega
      have hnx : ∀ ty, (Instr.next (.pointer (some ⟨w.heap.size, 0, none⟩)) true ty).run Tryz.prog _ = _ := fun ty => Lib.run_next_end_at _ w.heap.size s _ ty hit hp
      have HB := hideQ hb
      clear hb
      have ht : s.data.toList.take s.size = s.data.toList := by rw [← hsl]; exact List.take_length
      rw [ht]
      go_wp2
      go_ret
      exact ⟨rfl, unhideQ HB⟩
end Go.Proofs.YtobempobmokkcaaGreatDoor
