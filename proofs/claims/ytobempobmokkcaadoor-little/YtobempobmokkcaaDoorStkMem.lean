/-
  memory.Bytes by contracts: Load, Store. Own work of the verifier.
-/
import Derived.Test.YtobempobmokkcaaDoorStkLeaf
namespace Go.Proofs.YtobempobmokkcaaDoor
open Go.RowKit

set_option maxHeartbeats 400000 in
theorem loadB_err (p : Option Addr) (n : Nat) (a k : Int) (w : World) (hn : n ≤ 65536) (he : lookE n a k ≠ 0) : Calls Tryd.prog 14 #[.slice p n n, .int .i64 a, .int .i64 k] w fun e w' => e = .returned (.tuple #[.int .u64 0, errV (lookE n a k)]) ∧ w' = w := by
  have hv : errV (lookE n a k) = .iface 50 (.int .i64 (lookE n a k)) := by simp [errV, he]
  have hl := look_any p n a k w hn
  rw [hv] at hl ⊢
  have HL := hide hl
  clear hl hv he
  go_enter Tryd.func14, Tryd.ntmps14
  go_wp2_with (go_at_call 20; refine (unhide HL).mono ?_; rintro e w' ⟨rfl, rfl⟩)
  go_ret2
  exact ⟨rfl, rfl⟩

set_option maxHeartbeats 400000 in
theorem loadB_ok (d n : Nat) (m : Nat → Int) (a k : Nat) (w : World) (hn : n ≤ 65536) (hk8 : k ≤ 8) (hak : a + k ≤ n) (he : lookE n a k = 0) (hc : ∀ i, i < n → w.cell? ⟨d, i, none⟩ = some (.int .u8 (m i))) (hm : ∀ i, 0 ≤ m i ∧ m i < 256) :
    Calls Tryd.prog 14 #[.slice (some ⟨d, 0, none⟩) n n, .int .i64 a, .int .i64 k] w fun e w' => e = .returned (.tuple #[.int .u64 (ldv m a k), .nilIface]) ∧ w' = w := by
  have hl := look_any (some ⟨d, 0, none⟩) n a k w hn
  have hv : errV 0 = .nilIface := by simp [errV]
  rw [he, hv] at hl
  have HL := hide hl
  have HM := hide hm
  have HC := hide hc
  clear hl he hm hc hv
  go_enter Tryd.func14, Tryd.ntmps14
  go_wp2_with (go_at_call 20; refine (unhide HL).mono ?_; rintro e w' ⟨rfl, rfl⟩)
  go_loop [9, 10] (fun v i => ∃ j : Nat, j ≤ k ∧ i = .int .i64 ((j : Int) - 1) ∧ v = .int .u64 (ldv m (a + j) (k - j))) (fun _ i => (intOf i + 1).toNat)
  case atStart => exact ⟨k, Nat.le_refl _, rfl, by simp [ldv]⟩
  case round =>
    obtain ⟨j, hj, rfl, rfl⟩ := hrel
    cases j with
    | zero =>
      have HE := hide (show ldv m (a + 0) (k - 0) = ldv m a k from rfl)
      go_wp2
      go_ret2
      exact ⟨rfl, rfl⟩
    | succ j =>
      have hcx := unhide HC (a + j) (by omega)
      have hmx := unhide HM (a + j)
      have hb := ldv_bd (unhide HM) (k - (j + 1)) (a + (j + 1))
      have hp := pow256_le (k - (j + 1)) (by omega)
      have hb2 : ldv m (a + (j + 1)) (k - (j + 1)) < 72057594037927936 := by omega
      clear hp
      obtain ⟨hb0, -⟩ := hb
      have HO := hide (or8 _ _ hb0 hb2 hmx.1 hmx.2)
      go_wp2
      go_round
      case rel =>
        refine ⟨j, by omega, rfl, ?_⟩
        rw [unhide HO, show k - j = (k - (j + 1)) + 1 by omega]
        rfl
      case measure => simp [intOf]

set_option maxHeartbeats 400000 in
theorem storeB_err (p : Option Addr) (n : Nat) (a k v : Int) (w : World) (hn : n ≤ 65536) (he : lookE n a k ≠ 0) : Calls Tryd.prog 15 #[.slice p n n, .int .i64 a, .int .i64 k, .int .u64 v] w fun e w' => e = .returned (errV (lookE n a k)) ∧ w' = w := by
  have hv : errV (lookE n a k) = .iface 50 (.int .i64 (lookE n a k)) := by simp [errV, he]
  have hl := look_any p n a k w hn
  rw [hv] at hl ⊢
  have HL := hide hl
  clear hl hv he
  go_enter Tryd.func15, Tryd.ntmps15
  go_wp2_with (go_at_call 20; refine (unhide HL).mono ?_; rintro e w' ⟨rfl, rfl⟩)
  go_ret
  exact ⟨rfl, rfl⟩

set_option maxHeartbeats 400000 in
theorem storeB_ok (d n : Nat) (m : Nat → Int) (a k : Nat) (v : Int) (w : World) (hn : n ≤ 65536) (hk8 : k ≤ 8) (hak : a + k ≤ n) (he : lookE n a k = 0) (hc : ∀ i, i < n → w.cell? ⟨d, i, none⟩ = some (.int .u8 (m i))) (hf : ∀ i, i < n → w.frozen? ⟨d, i, none⟩ = false) :
    Calls Tryd.prog 15 #[.slice (some ⟨d, 0, none⟩) n n, .int .i64 a, .int .i64 k, .int .u64 v] w fun e w' => e = .returned .nilIface ∧ w' = stw w d a v k := by
  have hl := look_any (some ⟨d, 0, none⟩) n a k w hn
  have hv : errV 0 = .nilIface := by simp [errV]
  rw [he, hv] at hl
  have HL := hide hl
  have HF := hide hf
  have HC := hide hc
  clear hl he hf hc hv
  go_enter Tryd.func15, Tryd.ntmps15
  go_wp2_with (go_at_call 20; refine (unhide HL).mono ?_; rintro e w' ⟨rfl, hw'⟩; subst hw')
  go_loopw [19] (fun i wr => ∃ j : Nat, j ≤ k ∧ i = .int .i64 j ∧ wr = stw w' d a v j) (fun i _ => k - (intOf i).toNat)
  case atStart => exact ⟨0, by omega, rfl, rfl⟩
  case round =>
    obtain ⟨j, hj, rfl, rfl⟩ := hrel
    by_cases hlt : j < k
    · have hcx := stw_cell w' d a v n m (unhide HC) j (by omega) (a + j) (by omega)
      have hfx := (stw_frozen w' d a v ⟨d, a + j, none⟩ j).trans (unhide HF (a + j) (by omega))
      go_wp2
      go_roundw
      case rel => exact ⟨j + 1, hlt, by go_num, by rw [byt_shr]; rfl⟩
      case measure => simp [intOf]; omega
    · obtain rfl : j = k := by omega
      go_wp2
      go_ret
      exact ⟨rfl, rfl⟩

set_option maxHeartbeats 400000 in
theorem new_err (n : Int) (w : World) (h : n < 0 ∨ 65536 < n) : Calls Tryd.prog 12 #[.int .i64 n] w fun e w' => e = .returned (.tuple #[.slice none 0 0, .iface 50 (.int .i64 6)]) ∧ w' = w := by
  by_cases h0 : n < 0
  · clear h
    go_enter Tryd.func12, Tryd.ntmps12
    go_wp2
    go_ret2
    exact ⟨rfl, rfl⟩
  · have h1 : 65536 < n := by omega
    clear h
    go_enter Tryd.func12, Tryd.ntmps12
    go_wp2
    go_ret2
    exact ⟨rfl, rfl⟩
theorem Tryd.info8 : (Tryd.prog.info? 5).map (fun i => (i.zero, i.size, i.bytes)) = some (some (.int .u8 0), 1, 1) := by kernel_rfl
set_option maxRecDepth 100000 in
set_option maxHeartbeats 400000 in
theorem new_ok (n : Nat) (w : World) (h : n ≤ 65536) : Calls Tryd.prog 12 #[.int .i64 n] w fun e w' => e = .returned (.tuple #[.slice (some ⟨w.heap.size, 0, none⟩) n n, .nilIface]) ∧ w' = w.alloc (.cells (madeCells #[.int .u8 0] n) 5) := by
  have hr := run_make_row' (P := Tryd.prog) 45 5 (.int .u8 0) 1 Tryd.underlying45 Tryd.info8 rfl .i64 .i64 n (by omega) (by omega) w
  go_enter Tryd.func12, Tryd.ntmps12
  go_wp2
  go_ret2
  exact ⟨rfl, rfl⟩
end Go.Proofs.YtobempobmokkcaaDoor
