/-
  The statement's own stack (prologueref.bytes): Load. Own work of the verifier.
-/
import Derived.Test.YtidhncoecfkbfaaDoorStkRef3
namespace Go.Proofs.YtidhncoecfkbfaaDoor
open Go.RowKit Go.Maps

set_option maxHeartbeats 1000000 in
theorem rload_ok {r q n kk : Nat} {m : Nat → Int} (a k : Nat) (w : World) (R : Ref w r q n kk m) (hm : ∀ i, 0 ≤ m i ∧ m i < 256) (hn : n ≤ 65536) (he : lookE n a k = 0) :
    Calls Tryd.prog 11 #[.pointer (some ⟨r, 0, none⟩), .int .i64 a, .int .i64 k] w fun e w' => e = .returned (.tuple #[.int .u64 (ldv m a k), flt 0 (-1) (-1) (-1)]) ∧ Below w.heap.size w w' := by
  obtain ⟨a', k', ea, ek, hk1, hk8, hak⟩ := lookE_zero he
  obtain rfl : a = a' := by omega
  obtain rfl : k = k' := by omega
  clear ea ek
  have hrl := lt_of_cell R.c0
  have hql := R.mem.lt
  have HR := hide R
  have HM := hide hm
  have HE := hide he
  clear R hm he
  go_enter Tryd.func11, Tryd.ntmps11
  go_wp2_with fail
  refine (rfault_any r n _ _ _ hn ((unhide HR).alloc _).c0).mono ?_
  rw [unhide HE]
  rintro e w2 ⟨rfl, hb⟩
  have hz := hb.size
  simp only [World.size_alloc] at hz
  have HR2 := hide (((unhide HR).alloc (.cells #[.int .i64 0, .int .i64 0, .int .i64 0, .int .i64 0] 29)).below hb (by simp; omega) (by simp; omega))
  have hcell : ∀ o, w2.cell? ⟨w.heap.size, o, none⟩ = (w.alloc (.cells #[.int .i64 0, .int .i64 0, .int .i64 0, .int .i64 0] 29)).cell? ⟨w.heap.size, o, none⟩ := fun o => hb.cell (p := ⟨w.heap.size, o, none⟩) (by simp)
  have hfroz : ∀ o, w2.frozen? ⟨w.heap.size, o, none⟩ = false := fun o => (hb.frozen (p := ⟨w.heap.size, o, none⟩) (by simp)).trans (World.frozen?_alloc_at _ _ _ _ rfl)
  have hB0 : Below w.heap.size w w2 := ((Below.refl w.heap.size w).alloc (Nat.le_refl _) _).trans (hb.mono (by simp))
  have HB := hide hB0
  have HCF := hide (show (∀ o, w2.cell? ⟨w.heap.size, o, none⟩ = (w.alloc (.cells #[.int .i64 0, .int .i64 0, .int .i64 0, .int .i64 0] 29)).cell? ⟨w.heap.size, o, none⟩) ∧ (∀ o, w2.frozen? ⟨w.heap.size, o, none⟩ = false) from ⟨hcell, hfroz⟩)
  clear hb hB0 hcell hfroz
  have hc1 := ((unhide HR2).alloc (.cells #[.int .i64 0, .int .i64 (-1), .int .i64 (-1), .int .i64 (-1)] 29)).c1
  obtain ⟨D, hown, hD1, hD2⟩ := ((unhide HR2).alloc (.cells #[.int .i64 0, .int .i64 (-1), .int .i64 (-1), .int .i64 (-1)] 29)).mem
  have HO := hide hown
  have HD := hide hD2
  clear hown hD2 hD1
  go_wp2_with fail
  go_loop [9, 10] (fun v i => ∃ j : Nat, j ≤ k ∧ i = .int .i64 ((j : Int) - 1) ∧ v = .int .u64 (ldv m (a + j) (k - j))) (fun _ i => (intOf i + 1).toNat)
  case atStart => exact ⟨k, Nat.le_refl _, rfl, by simp [ldv]⟩
  case round =>
    obtain ⟨j, hj, rfl, rfl⟩ := hrel
    cases j with
    | zero =>
      have hcell : ∀ o, (w2.alloc (.cells #[.int .i64 0, .int .i64 (-1), .int .i64 (-1), .int .i64 (-1)] 29)).cell? ⟨w.heap.size, o, none⟩ = (w.alloc (.cells #[.int .i64 0, .int .i64 0, .int .i64 0, .int .i64 0] 29)).cell? ⟨w.heap.size, o, none⟩ := fun o => (World.cell?_alloc_lt _ _ ⟨w.heap.size, o, none⟩ (by show w.heap.size < _; omega)).trans ((unhide HCF).1 o)
      have hfroz : ∀ o, (w2.alloc (.cells #[.int .i64 0, .int .i64 (-1), .int .i64 (-1), .int .i64 (-1)] 29)).frozen? ⟨w.heap.size, o, none⟩ = false := fun o => (World.frozen?_alloc_old _ _ ⟨w.heap.size, o, none⟩ (by show w.heap.size ≠ _; omega)).trans ((unhide HCF).2 o)
      go_wp2
      go_region
      all_goals
        go_wp2
        refine bodyPost_ret (v := .tuple #[.int .u64 (ldv m a k), flt 0 (-1) (-1) (-1)]) (by simp [results, Tryd.results11, go_sem, hcell]) rfl ⟨rfl, ?_⟩
        have hB0 := unhide HB
        go_grown
    | succ j =>
      have hb := ldv_bd (unhide HM) (k - (j + 1)) (a + (j + 1))
      have hp := pow256_le (k - (j + 1)) (by omega)
      have hb2 : ldv m (a + (j + 1)) (k - (j + 1)) < 72057594037927936 := by omega
      clear hp
      obtain ⟨hb0, -⟩ := hb
      go_wp2_with (at_lookup; refine wpList_lookup_own_int _ rfl _ _ 68 rfl 3 32 .u64 keyLaw Tryd.underlying68 Tryd.underlying32 (zeroU _) q kk D rfl (unhide HO) _ _ rfl (keyOf_int_mk Tryd.underlying3 (WalkArith.wf_i64 (by omega))) ?_; intro c hat hwc; obtain ⟨hc0, hc2, HCE⟩ := at_bd (i := a + j) (by omega) (unhide HD) (unhide HM) hat; clear hat hwc)
      go_round
      case rel =>
        refine ⟨j, by omega, rfl, ?_⟩
        rw [unhide HCE, show k - j = (k - (j + 1)) + 1 by omega]
        simp only [ldv]
        rw [Int.add_comm]; rfl
      case measure => simp [intOf]

set_option maxHeartbeats 1000000 in
theorem rload_err {r q n kk : Nat} {m : Nat → Int} (a k : Int) (w : World) (R : Ref w r q n kk m) (hn : n ≤ 65536) (he : lookE n a k ≠ 0) :
    Calls Tryd.prog 11 #[.pointer (some ⟨r, 0, none⟩), .int .i64 a, .int .i64 k] w fun e w' => e = .returned (.tuple #[.int .u64 0, flt (lookE n a k) (-1) (-1) (-1)]) ∧ Below w.heap.size w w' := by
  have hrl := lt_of_cell R.c0
  have HR := hide R
  have hl0 : (lookE n a k == 0) = false := by simp [he]
  generalize hle : lookE n a k = le at hl0 ⊢
  have HE := hide hle
  clear R he hle
  go_enter Tryd.func11, Tryd.ntmps11
  go_wp2_with fail
  refine (rfault_any r n _ _ _ hn ((unhide HR).alloc _).c0).mono ?_
  rw [unhide HE]
  rintro e w2 ⟨rfl, hb⟩
  have hz := hb.size
  simp only [World.size_alloc] at hz
  have hcell0 : ∀ o, w2.cell? ⟨w.heap.size, o, none⟩ = (w.alloc (.cells #[.int .i64 0, .int .i64 0, .int .i64 0, .int .i64 0] 29)).cell? ⟨w.heap.size, o, none⟩ := fun o => hb.cell (p := ⟨w.heap.size, o, none⟩) (by simp)
  have hfroz0 : ∀ o, w2.frozen? ⟨w.heap.size, o, none⟩ = false := fun o => (hb.frozen (p := ⟨w.heap.size, o, none⟩) (by simp)).trans (World.frozen?_alloc_at _ _ _ _ rfl)
  have hcell : ∀ o, (w2.alloc (.cells #[.int .i64 le, .int .i64 (-1), .int .i64 (-1), .int .i64 (-1)] 29)).cell? ⟨w.heap.size, o, none⟩ = (w.alloc (.cells #[.int .i64 0, .int .i64 0, .int .i64 0, .int .i64 0] 29)).cell? ⟨w.heap.size, o, none⟩ := fun o => (World.cell?_alloc_lt _ _ ⟨w.heap.size, o, none⟩ (by show w.heap.size < _; omega)).trans (hcell0 o)
  have hfroz : ∀ o, (w2.alloc (.cells #[.int .i64 le, .int .i64 (-1), .int .i64 (-1), .int .i64 (-1)] 29)).frozen? ⟨w.heap.size, o, none⟩ = false := fun o => (World.frozen?_alloc_old _ _ ⟨w.heap.size, o, none⟩ (by show w.heap.size ≠ _; omega)).trans (hfroz0 o)
  have hB0 : Below w.heap.size w w2 := ((Below.refl w.heap.size w).alloc (Nat.le_refl _) _).trans (hb.mono (by simp))
  have HB := hide hB0
  clear hb hB0 hcell0 hfroz0
  go_wp2_with fail
  refine wp_loop_rounds 1 ?_
  rw [rounds_succ]
  go_wp2
  all_goals
    go_region
    all_goals
      go_wp2
      refine bodyPost_ret (v := .tuple #[.int .u64 0, flt le (-1) (-1) (-1)]) (by simp [results, Tryd.results11, go_sem, hcell]) rfl ⟨rfl, ?_⟩
      have hB0 := unhide HB
      go_grown
end Go.Proofs.YtidhncoecfkbfaaDoor
