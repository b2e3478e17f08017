/-
  The statement's own stack (prologueref.bytes): fault. Own work of the verifier.
-/
import Derived.Test.YtidhncoecfkbfaaDoorStkRef
namespace Go.Proofs.YtidhncoecfkbfaaDoor
open Go.RowKit Go.Maps

theorem isW_bd {k : Int} (h : isW k = true) : 1 ≤ k ∧ k ≤ 8 := by have := (isW_iff k).1 h; omega
set_option maxHeartbeats 1000000 in
theorem rfault_any (r n : Nat) (a k : Int) (w : World) (hn : n ≤ 65536) (hc : w.cell? ⟨r, 0, none⟩ = some (.int .i64 n)) :
    Calls Tryd.prog 27 #[.pointer (some ⟨r, 0, none⟩), .int .i64 a, .int .i64 k] w fun e w' => e = .returned (flt (lookE n a k) (-1) (-1) (-1)) ∧ Below w.heap.size w w' := by
  have hr := lt_of_cell hc
  cases hw : isW k with
  | false =>
    have HE := hide (show lookE n a k = 6 by simp [lookE, hw])
    have HW := hide hw
    clear hw
    go_enter Tryd.func27, Tryd.ntmps27
    go_wp2_with fail
    refine (has_width _ k _ ?s0 ?s1 ?s2 ?s3).mono ?_
    case s0 => rw [World.cell?_alloc_at _ _ _ _ (by simp)]; rfl
    case s1 => rw [World.cell?_alloc_at _ _ _ _ (by simp)]; rfl
    case s2 => rw [World.cell?_alloc_at _ _ _ _ (by simp)]; rfl
    case s3 => rw [World.cell?_alloc_at _ _ _ _ (by simp)]; rfl
    rw [unhide HW]
    rintro e w' ⟨rfl, rfl⟩
    go_wp2_with fail
    refine (only_any _ _).mono ?_
    rintro e w2 ⟨rfl, hb⟩
    have hcell : ∀ o, w2.cell? ⟨w.heap.size, o, none⟩ = (w.alloc (.cells #[.int .i64 0, .int .i64 0, .int .i64 0, .int .i64 0] 29)).cell? ⟨w.heap.size, o, none⟩ := fun o => (hb.cell (p := ⟨w.heap.size, o, none⟩) (by simp; omega)).trans (World.cell?_alloc_lt _ _ ⟨w.heap.size, o, none⟩ (by simp))
    have hfroz : ∀ o, w2.frozen? ⟨w.heap.size, o, none⟩ = (w.alloc (.cells #[.int .i64 0, .int .i64 0, .int .i64 0, .int .i64 0] 29)).frozen? ⟨w.heap.size, o, none⟩ := fun o => (hb.frozen (p := ⟨w.heap.size, o, none⟩) (by simp; omega)).trans (World.frozen?_alloc_old _ _ ⟨w.heap.size, o, none⟩ (by simp))
    have hz := hb.size
    simp only [World.size_alloc] at hz
    have hB0 : Below w.heap.size w w2 := (((Below.refl w.heap.size w).alloc (Nat.le_refl _) _).alloc (by simp) _).trans (hb.mono (by simp; omega))
    have HB := hide hB0
    clear hb hB0
    go_wp2_with fail
    rw [unhide HE]
    refine bodyPost_ret (v := flt 6 (-1) (-1) (-1)) (by simp [results, Tryd.results27, go_sem, hcell]) rfl ⟨rfl, ?_⟩
    have hB0 := unhide HB
    go_grown
  | true =>
    have hbd := isW_bd hw
    obtain ⟨hk1, hk8⟩ := hbd
    by_cases ha : a < 0
    · have HE := hide (show lookE n a k = 9 by simp [lookE, hw, ha])
      have HW := hide hw
      clear hw
      go_enter Tryd.func27, Tryd.ntmps27
      go_wp2_with fail
      refine (has_width _ k _ ?s0 ?s1 ?s2 ?s3).mono ?_
      case s0 => rw [World.cell?_alloc_at _ _ _ _ (by simp)]; rfl
      case s1 => rw [World.cell?_alloc_at _ _ _ _ (by simp)]; rfl
      case s2 => rw [World.cell?_alloc_at _ _ _ _ (by simp)]; rfl
      case s3 => rw [World.cell?_alloc_at _ _ _ _ (by simp)]; rfl
      rw [unhide HW]
      rintro e w' ⟨rfl, rfl⟩
      go_wp2_with fail
      refine (only_any _ _).mono ?_
      rintro e w2 ⟨rfl, hb⟩
      have hcell : ∀ o, w2.cell? ⟨w.heap.size, o, none⟩ = (w.alloc (.cells #[.int .i64 0, .int .i64 0, .int .i64 0, .int .i64 0] 29)).cell? ⟨w.heap.size, o, none⟩ := fun o => (hb.cell (p := ⟨w.heap.size, o, none⟩) (by simp; omega)).trans (World.cell?_alloc_lt _ _ ⟨w.heap.size, o, none⟩ (by simp))
      have hfroz : ∀ o, w2.frozen? ⟨w.heap.size, o, none⟩ = (w.alloc (.cells #[.int .i64 0, .int .i64 0, .int .i64 0, .int .i64 0] 29)).frozen? ⟨w.heap.size, o, none⟩ := fun o => (hb.frozen (p := ⟨w.heap.size, o, none⟩) (by simp; omega)).trans (World.frozen?_alloc_old _ _ ⟨w.heap.size, o, none⟩ (by simp))
      have hz := hb.size
      simp only [World.size_alloc] at hz
      have hB0 : Below w.heap.size w w2 := (((Below.refl w.heap.size w).alloc (Nat.le_refl _) _).alloc (by simp) _).trans (hb.mono (by simp; omega))
      have HB := hide hB0
      clear hb hB0
      go_wp2_with fail
      rw [unhide HE]
      refine bodyPost_ret (v := flt 9 (-1) (-1) (-1)) (by simp [results, Tryd.results27, go_sem, hcell]) rfl ⟨rfl, ?_⟩
      have hB0 := unhide HB
      go_grown
    by_cases hs : (n : Int) - k < a
    · have HE := hide (show lookE n a k = 9 by simp [lookE, hw, hs])
      have HW := hide hw
      clear hw
      have hcr : ((w.alloc (.cells #[.int .i64 0, .int .i64 0, .int .i64 0, .int .i64 0] 29)).alloc (.cells #[.int .i64 1, .int .i64 2, .int .i64 4, .int .i64 8] 3)).cell? ⟨r, 0, none⟩ = some (.int .i64 n) := by
        rw [World.cell?_alloc_lt _ _ ⟨r, 0, none⟩ (by simp; omega), World.cell?_alloc_lt _ _ ⟨r, 0, none⟩ hr]; exact hc
      go_enter Tryd.func27, Tryd.ntmps27
      go_wp2_with fail
      refine (has_width _ k _ ?s0 ?s1 ?s2 ?s3).mono ?_
      case s0 => rw [World.cell?_alloc_at _ _ _ _ (by simp)]; rfl
      case s1 => rw [World.cell?_alloc_at _ _ _ _ (by simp)]; rfl
      case s2 => rw [World.cell?_alloc_at _ _ _ _ (by simp)]; rfl
      case s3 => rw [World.cell?_alloc_at _ _ _ _ (by simp)]; rfl
      rw [unhide HW]
      rintro e w' ⟨rfl, rfl⟩
      go_wp2_with fail
      refine (only_any _ _).mono ?_
      rintro e w2 ⟨rfl, hb⟩
      have hcell : ∀ o, w2.cell? ⟨w.heap.size, o, none⟩ = (w.alloc (.cells #[.int .i64 0, .int .i64 0, .int .i64 0, .int .i64 0] 29)).cell? ⟨w.heap.size, o, none⟩ := fun o => (hb.cell (p := ⟨w.heap.size, o, none⟩) (by simp; omega)).trans (World.cell?_alloc_lt _ _ ⟨w.heap.size, o, none⟩ (by simp))
      have hfroz : ∀ o, w2.frozen? ⟨w.heap.size, o, none⟩ = (w.alloc (.cells #[.int .i64 0, .int .i64 0, .int .i64 0, .int .i64 0] 29)).frozen? ⟨w.heap.size, o, none⟩ := fun o => (hb.frozen (p := ⟨w.heap.size, o, none⟩) (by simp; omega)).trans (World.frozen?_alloc_old _ _ ⟨w.heap.size, o, none⟩ (by simp))
      have hz := hb.size
      simp only [World.size_alloc] at hz
      have hB0 : Below w.heap.size w w2 := (((Below.refl w.heap.size w).alloc (Nat.le_refl _) _).alloc (by simp) _).trans (hb.mono (by simp; omega))
      have HB := hide hB0
      clear hb hB0
      go_wp2_with fail
      rw [unhide HE]
      refine bodyPost_ret (v := flt 9 (-1) (-1) (-1)) (by simp [results, Tryd.results27, go_sem, hcell]) rfl ⟨rfl, ?_⟩
      have hB0 := unhide HB
      go_grown
    · have HE := hide (show lookE n a k = 0 by simp [lookE, hw, ha, hs])
      have HW := hide hw
      clear hw
      have hcr : ((w.alloc (.cells #[.int .i64 0, .int .i64 0, .int .i64 0, .int .i64 0] 29)).alloc (.cells #[.int .i64 1, .int .i64 2, .int .i64 4, .int .i64 8] 3)).cell? ⟨r, 0, none⟩ = some (.int .i64 n) := by
        rw [World.cell?_alloc_lt _ _ ⟨r, 0, none⟩ (by simp; omega), World.cell?_alloc_lt _ _ ⟨r, 0, none⟩ hr]; exact hc
      go_enter Tryd.func27, Tryd.ntmps27
      go_wp2_with fail
      refine (has_width _ k _ ?s0 ?s1 ?s2 ?s3).mono ?_
      case s0 => rw [World.cell?_alloc_at _ _ _ _ (by simp)]; rfl
      case s1 => rw [World.cell?_alloc_at _ _ _ _ (by simp)]; rfl
      case s2 => rw [World.cell?_alloc_at _ _ _ _ (by simp)]; rfl
      case s3 => rw [World.cell?_alloc_at _ _ _ _ (by simp)]; rfl
      rw [unhide HW]
      rintro e w' ⟨rfl, rfl⟩
      go_wp2_with fail
      refine (fine_any _).mono ?_
      rintro e w2 ⟨rfl, hb⟩
      have hcell : ∀ o, w2.cell? ⟨w.heap.size, o, none⟩ = (w.alloc (.cells #[.int .i64 0, .int .i64 0, .int .i64 0, .int .i64 0] 29)).cell? ⟨w.heap.size, o, none⟩ := fun o => (hb.cell (p := ⟨w.heap.size, o, none⟩) (by simp; omega)).trans (World.cell?_alloc_lt _ _ ⟨w.heap.size, o, none⟩ (by simp))
      have hfroz : ∀ o, w2.frozen? ⟨w.heap.size, o, none⟩ = (w.alloc (.cells #[.int .i64 0, .int .i64 0, .int .i64 0, .int .i64 0] 29)).frozen? ⟨w.heap.size, o, none⟩ := fun o => (hb.frozen (p := ⟨w.heap.size, o, none⟩) (by simp; omega)).trans (World.frozen?_alloc_old _ _ ⟨w.heap.size, o, none⟩ (by simp))
      have hz := hb.size
      simp only [World.size_alloc] at hz
      have hB0 : Below w.heap.size w w2 := (((Below.refl w.heap.size w).alloc (Nat.le_refl _) _).alloc (by simp) _).trans (hb.mono (by simp; omega))
      have HB := hide hB0
      clear hb hB0
      go_wp2_with fail
      rw [unhide HE]
      refine bodyPost_ret (v := flt 0 (-1) (-1) (-1)) (by simp [results, Tryd.results27, go_sem, hcell]) rfl ⟨rfl, ?_⟩
      have hB0 := unhide HB
      go_grown
end Go.Proofs.YtidhncoecfkbfaaDoor
