/-
  plain.NewStack, (*plain.Stack).Load, Store by contracts. Own work of the verifier.
-/
import Derived.Test.YtidhncoecfkbfaaDoorStkMem
namespace Go.Proofs.YtidhncoecfkbfaaDoor
open Go.RowKit

theorem lookE_zero {n : Nat} {a k : Int} (h : lookE n a k = 0) : ∃ a' k' : Nat, a = a' ∧ k = k' ∧ 1 ≤ k' ∧ k' ≤ 8 ∧ a' + k' ≤ n := by
  unfold lookE at h
  split at h
  · omega
  · split at h
    · omega
    · rename_i h1 h2
      have hk := (isW_iff k).1 (by cases e : isW k <;> simp_all)
      exact ⟨a.toNat, k.toNat, by omega, by omega, by omega, by omega, by omega⟩

/-! ### prologue.Stack -/
set_option maxHeartbeats 400000 in
theorem pload_err (c d n : Nat) (a k : Int) (w : World) (hn : n ≤ 65536) (he : lookE n a k ≠ 0) (hc : w.cell? ⟨c, 0, none⟩ = some (.slice (some ⟨d, 0, none⟩) n n)) :
    Calls Tryd.prog 26 #[.pointer (some ⟨c, 0, none⟩), .int .i64 a, .int .i64 k] w fun e w' => e = .returned (.tuple #[.int .u64 0, errV (lookE n a k)]) ∧ w' = w := by
  have hv : errV (lookE n a k) = .iface 104 (.int .i64 (lookE n a k)) := by simp [errV, he]
  have hl := loadB_err (some ⟨d, 0, none⟩) n a k w hn he
  rw [hv] at hl ⊢
  have HL := hide hl
  clear hl hv he
  go_enter Tryd.func26, Tryd.ntmps26
  go_wp2_with (go_at_call 45; refine (unhide HL).mono ?_; rintro e w' ⟨rfl, rfl⟩)
  go_ret2
  exact ⟨rfl, rfl⟩
set_option maxHeartbeats 400000 in
theorem pload_ok (c d n : Nat) (m : Nat → Int) (a k : Nat) (w : World) (hn : n ≤ 65536) (hk8 : k ≤ 8) (hak : a + k ≤ n) (he : lookE n a k = 0) (hm : ∀ i, 0 ≤ m i ∧ m i < 256) (hcs : ∀ i, i < n → w.cell? ⟨d, i, none⟩ = some (.int .u8 (m i))) (hc : w.cell? ⟨c, 0, none⟩ = some (.slice (some ⟨d, 0, none⟩) n n)) :
    Calls Tryd.prog 26 #[.pointer (some ⟨c, 0, none⟩), .int .i64 a, .int .i64 k] w fun e w' => e = .returned (.tuple #[.int .u64 (ldv m a k), .nilIface]) ∧ w' = w := by
  have HL := hide (loadB_ok d n m a k w hn hk8 hak he hcs hm)
  clear he hm hcs
  go_enter Tryd.func26, Tryd.ntmps26
  go_wp2_with (go_at_call 45; refine (unhide HL).mono ?_; rintro e w' ⟨rfl, rfl⟩)
  go_ret2
  exact ⟨rfl, rfl⟩
set_option maxHeartbeats 400000 in
theorem pstore_err (c d n : Nat) (a k v : Int) (w : World) (hn : n ≤ 65536) (he : lookE n a k ≠ 0) (hc : w.cell? ⟨c, 0, none⟩ = some (.slice (some ⟨d, 0, none⟩) n n)) :
    Calls Tryd.prog 28 #[.pointer (some ⟨c, 0, none⟩), .int .i64 a, .int .i64 k, .int .u64 v] w fun e w' => e = .returned (errV (lookE n a k)) ∧ w' = w := by
  have hv : errV (lookE n a k) = .iface 104 (.int .i64 (lookE n a k)) := by simp [errV, he]
  have hl := storeB_err (some ⟨d, 0, none⟩) n a k v w hn he
  rw [hv] at hl ⊢
  have HL := hide hl
  clear hl hv he
  go_enter Tryd.func28, Tryd.ntmps28
  go_wp2_with (go_at_call 47; refine (unhide HL).mono ?_; rintro e w' ⟨rfl, rfl⟩)
  go_ret
  exact ⟨rfl, rfl⟩
set_option maxHeartbeats 400000 in
theorem pstore_ok (c d n : Nat) (m : Nat → Int) (a k : Nat) (v : Int) (w : World) (hn : n ≤ 65536) (hk8 : k ≤ 8) (hak : a + k ≤ n) (he : lookE n a k = 0) (hcs : ∀ i, i < n → w.cell? ⟨d, i, none⟩ = some (.int .u8 (m i))) (hfs : ∀ i, i < n → w.frozen? ⟨d, i, none⟩ = false) (hc : w.cell? ⟨c, 0, none⟩ = some (.slice (some ⟨d, 0, none⟩) n n)) :
    Calls Tryd.prog 28 #[.pointer (some ⟨c, 0, none⟩), .int .i64 a, .int .i64 k, .int .u64 v] w fun e w' => e = .returned .nilIface ∧ w' = stw w d a v k := by
  have HL := hide (storeB_ok d n m a k v w hn hk8 hak he hcs hfs)
  clear he hcs hfs
  go_enter Tryd.func28, Tryd.ntmps28
  go_wp2_with (go_at_call 47; refine (unhide HL).mono ?_; rintro e w' ⟨rfl, rfl⟩)
  go_ret
  exact ⟨rfl, rfl⟩
set_option maxHeartbeats 400000 in
theorem pnew_err (n : Int) (w : World) (h : n < 0 ∨ 65536 < n) : Calls Tryd.prog 24 #[.int .i64 n] w fun e w' => e = .returned (.tuple #[.pointer none, .iface 104 (.int .i64 6)]) ∧ w' = w := by
  have HL := hide (new_err n w h)
  clear h
  go_enter Tryd.func24, Tryd.ntmps24
  go_wp2_with (go_at_call 43; refine (unhide HL).mono ?_; rintro e w' ⟨rfl, rfl⟩)
  go_ret2
  exact ⟨rfl, rfl⟩
set_option maxHeartbeats 400000 in
theorem pnew_ok (n : Nat) (w : World) (h : n ≤ 65536) : Calls Tryd.prog 24 #[.int .i64 n] w fun e w' => e = .returned (.tuple #[.pointer (some ⟨w.heap.size + 1, 0, none⟩), .nilIface]) ∧ w' = (w.alloc (.cells (madeCells #[.int .u8 0] n) 5)).alloc (.cells #[.slice (some ⟨w.heap.size, 0, none⟩) n n] 103) := by
  have HL := hide (new_ok n w h)
  clear h
  generalize hM : madeCells #[.int .u8 0] n = M at HL ⊢
  clear hM
  go_enter Tryd.func24, Tryd.ntmps24
  go_wp2_with (go_at_call 43; refine (unhide HL).mono ?_; rintro e w' ⟨rfl, rfl⟩)
  go_ret2
  exact ⟨rfl, rfl⟩
end Go.Proofs.YtidhncoecfkbfaaDoor
