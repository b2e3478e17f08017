/-
  Encodes: the reference's pen by its contracts. Own work of the verifier.
-/
import Derived.Test.YthnmdbddfmgdlaaDoorEncA
import Derived.Deep.QuietTactic
import Derived.BigQuiet
namespace Go.Proofs.YthnmdbddfmgdlaaDoor
open Go.RowKit

set_option maxHeartbeats 1000000 in
theorem in_c (n lo hi : Int) (w : World) : Calls Tryd.prog 29 #[.int .i64 n, .int .i64 lo, .int .i64 hi] w fun e w' => e = .returned (.bool (decide (lo ≤ n ∧ n ≤ hi))) ∧ w' = w := by
  by_cases h1 : lo ≤ n
  · by_cases h2 : n ≤ hi
    · have hd : decide (lo ≤ n ∧ n ≤ hi) = true := by simp; omega
      rw [hd]
      clear hd
      go_enter Tryd.func29, Tryd.ntmps29
      go_wp2
      go_ret
      exact ⟨rfl, rfl⟩
    · have hd : decide (lo ≤ n ∧ n ≤ hi) = false := by simp; omega
      rw [hd]
      clear hd
      go_enter Tryd.func29, Tryd.ntmps29
      go_wp2
      go_ret
      exact ⟨rfl, rfl⟩
  · have hd : decide (lo ≤ n ∧ n ≤ hi) = false := by simp; omega
    rw [hd]
    clear hd
    go_enter Tryd.func29, Tryd.ntmps29
    go_wp2
    go_ret
    exact ⟨rfl, rfl⟩
/-- The pen at block b: its bytes, and whether something is wrong. -/
structure Pn (w : World) (b : Nat) (l : List UInt8) (bad : Bool) : Prop where
  c0 : w.cell? ⟨b, 0, none⟩ = some (.string ⟨l.toArray⟩)
  c1 : w.cell? ⟨b, 1, none⟩ = some (.bool bad)
  f0 : w.frozen? ⟨b, 0, none⟩ = false
  f1 : w.frozen? ⟨b, 1, none⟩ = false
theorem conv1 (g : Nat) (x : Int) (u : World) (hc : u.cell? ⟨g, 0, none⟩ = some (.int .u8 (x % 256))) : (convert 91 9 (.slice (some ⟨g, 0, none⟩) 1 1)).run Tryd.prog u = .ok (.string ⟨#[byteOf x]⟩) u :=
  run_convert_bytes_back u 91 9 5 ⟨g, 0, none⟩ 1 [byteOf x] Tryd.underlying91 Tryd.underlying5 Tryd.underlying9 (fun j hj => by
    have : j = 0 := by simp at hj; exact hj
    subst this
    rw [show (⟨g, 0, none⟩ : Addr).add 0 = ⟨g, 0, none⟩ by unfold Addr.add; simp, hc]
    have : ((byteOf x).toNat : Int) = x % 256 := by unfold byteOf; simp; omega
    simp [this])
theorem str_app (l : List UInt8) (y : UInt8) : ((⟨l.toArray⟩ : ByteArray) ++ ⟨#[y]⟩) = ⟨(l ++ [y]).toArray⟩ := by
  apply ByteArray.ext
  simp
theorem pn_after {w : World} {b : Nat} {l : List UInt8} {bad : Bool} (h : Pn w b l bad) (t : Bool) (y : UInt8) (X : Obj) : Pn (((w.setCell ⟨b, 1, none⟩ (.bool t)).setCell ⟨b, 0, none⟩ (.string (⟨l.toArray⟩ ++ ⟨#[y]⟩))).alloc X).drew b (l ++ [y]) t ∧ w.grownBy (((w.setCell ⟨b, 1, none⟩ (.bool t)).setCell ⟨b, 0, none⟩ (.string (⟨l.toArray⟩ ++ ⟨#[y]⟩))).alloc X).drew (some b) := by
  have hbl : b < w.heap.size := World.block_lt_of_cell? w _ h.c0
  rw [str_app]
  have e1 : (w.setCell ⟨b, 1, none⟩ (.bool t)).cell? ⟨b, 0, none⟩ = some (.string ⟨l.toArray⟩) := (World.cell?_setCell_other _ _ _ _ (by simp)).trans h.c0
  have e2 : (w.setCell ⟨b, 1, none⟩ (.bool t)).cell? ⟨b, 1, none⟩ = some (.bool t) := World.cell?_setCell_same _ _ _ h.c1
  refine ⟨⟨?_, ?_, ?_, ?_⟩, ?_⟩
  · exact (World.cell?_alloc_past _ _ _ (by simpa using hbl)).trans (World.cell?_setCell_same _ _ _ e1)
  · exact (World.cell?_alloc_past _ _ _ (by simpa using hbl)).trans ((World.cell?_setCell_other _ _ _ _ (by simp)).trans e2)
  · exact (World.frozen?_alloc_past _ _ _ (by simpa using hbl)).trans (by rw [World.frozen?_setCell, World.frozen?_setCell]; exact h.f0)
  · exact (World.frozen?_alloc_past _ _ _ (by simpa using hbl)).trans (by rw [World.frozen?_setCell, World.frozen?_setCell]; exact h.f1)
  · have q := (Below.refl ((w.setCell ⟨b, 1, none⟩ (.bool t)).setCell ⟨b, 0, none⟩ (.string ⟨(l ++ [y]).toArray⟩)).heap.size ((w.setCell ⟨b, 1, none⟩ (.bool t)).setCell ⟨b, 0, none⟩ (.string ⟨(l ++ [y]).toArray⟩))).alloc (Nat.le_refl _) X
    refine ⟨rfl, rfl, rfl, ?_, fun k hk hne => ?_⟩
    · exact Nat.le_trans (by simp) q.size
    · have hkb : k ≠ b := fun e => hne (by rw [e])
      refine (q.block k (by simpa using hk)).trans ?_
      exact (heap_setCell_other _ ⟨b, 0, none⟩ k _ hkb).trans (heap_setCell_other _ ⟨b, 1, none⟩ k _ hkb)
set_option maxHeartbeats 2000000 in
set_option maxRecDepth 100000 in
theorem pnum_c (b : Nat) (l : List UInt8) (bad : Bool) (x lo hi : Int) (w : World) (h : Pn w b l bad) (hl : l.length < 9223372036854775807) :
    Calls Tryd.prog 14 #[.pointer (some ⟨b, 0, none⟩), .int .i64 x, .int .i64 lo, .int .i64 hi] w fun e w' => e = .returned (.tuple #[]) ∧ Pn w' b (l ++ [byteOf x]) (bad || !decide (lo ≤ x ∧ x ≤ hi)) ∧ w.grownBy w' (some b) := by
  have c0 := h.c0
  have c1 := h.c1
  have f0 := h.f0
  have f1 := h.f1
  have hbl : b < w.heap.size := World.block_lt_of_cell? w _ c0
  cases bad with
  | true =>
    go_enter Tryd.func14, Tryd.ntmps14
    go_wp2_with fail
    have HCV := hideE (fun u h => conv1 w.heap.size x u h)
    have hcv := unhideE HCV
    have hcw : ∀ u : World, u.cell? ⟨w.heap.size, 0, none⟩ = some (.int .u8 (IntKind.u8.wrap x)) → (convert 91 9 (.slice (some ⟨w.heap.size, 0, none⟩) 1 1)).run Tryd.prog u = .ok (.string ⟨#[byteOf x]⟩) u := fun u h => conv1 w.heap.size x u h
    have hnl : ¬ 9223372036854775807 < l.length + 1 := by omega
    have cA : ∀ X, ((w.setCell ⟨b, 1, none⟩ (.bool true)).alloc X).cell? ⟨b, 0, none⟩ = some (.string ⟨l.toArray⟩) := fun X => (World.cell?_alloc_past _ _ _ (by simpa using hbl)).trans ((World.cell?_setCell_other _ _ _ _ (by simp)).trans c0)
    have fA : ∀ X, ((w.setCell ⟨b, 1, none⟩ (.bool true)).alloc X).frozen? ⟨b, 0, none⟩ = false := fun X => (World.frozen?_alloc_past _ _ _ (by simpa using hbl)).trans (by rw [World.frozen?_setCell]; exact f0)
    go_region
    refine bodyPost_end (results_none (fn := Tryd.f14) rfl _ _ _) rfl ?_
    exact ⟨rfl, pn_after h true (byteOf x) _⟩
  | false =>
    have HIN := hideE (in_c x lo hi w)
    cases hd : decide (lo ≤ x ∧ x ≤ hi) with
    | true =>
      rw [hd] at HIN
      go_enter Tryd.func14, Tryd.ntmps14
      go_wp2_with fail
      refine (unhideE HIN).mono ?_
      rintro e wx ⟨rfl, hwx⟩
      subst wx
      go_wp2_with fail
      have HCV := hideE (fun u h => conv1 w.heap.size x u h)
      have hcv := unhideE HCV
      have hcw : ∀ u : World, u.cell? ⟨w.heap.size, 0, none⟩ = some (.int .u8 (IntKind.u8.wrap x)) → (convert 91 9 (.slice (some ⟨w.heap.size, 0, none⟩) 1 1)).run Tryd.prog u = .ok (.string ⟨#[byteOf x]⟩) u := fun u h => conv1 w.heap.size x u h
      have hnl : ¬ 9223372036854775807 < l.length + 1 := by omega
      have cA : ∀ X, ((w.setCell ⟨b, 1, none⟩ (.bool false)).alloc X).cell? ⟨b, 0, none⟩ = some (.string ⟨l.toArray⟩) := fun X => (World.cell?_alloc_past _ _ _ (by simpa using hbl)).trans ((World.cell?_setCell_other _ _ _ _ (by simp)).trans c0)
      have fA : ∀ X, ((w.setCell ⟨b, 1, none⟩ (.bool false)).alloc X).frozen? ⟨b, 0, none⟩ = false := fun X => (World.frozen?_alloc_past _ _ _ (by simpa using hbl)).trans (by rw [World.frozen?_setCell]; exact f0)
      go_region
      refine bodyPost_end (results_none (fn := Tryd.f14) rfl _ _ _) rfl ?_
      exact ⟨rfl, pn_after h false (byteOf x) _⟩
    | false =>
      rw [hd] at HIN
      go_enter Tryd.func14, Tryd.ntmps14
      go_wp2_with fail
      refine (unhideE HIN).mono ?_
      rintro e wx ⟨rfl, hwx⟩
      subst wx
      go_wp2_with fail
      have HCV := hideE (fun u h => conv1 w.heap.size x u h)
      have hcv := unhideE HCV
      have hcw : ∀ u : World, u.cell? ⟨w.heap.size, 0, none⟩ = some (.int .u8 (IntKind.u8.wrap x)) → (convert 91 9 (.slice (some ⟨w.heap.size, 0, none⟩) 1 1)).run Tryd.prog u = .ok (.string ⟨#[byteOf x]⟩) u := fun u h => conv1 w.heap.size x u h
      have hnl : ¬ 9223372036854775807 < l.length + 1 := by omega
      have cA : ∀ X, ((w.setCell ⟨b, 1, none⟩ (.bool true)).alloc X).cell? ⟨b, 0, none⟩ = some (.string ⟨l.toArray⟩) := fun X => (World.cell?_alloc_past _ _ _ (by simpa using hbl)).trans ((World.cell?_setCell_other _ _ _ _ (by simp)).trans c0)
      have fA : ∀ X, ((w.setCell ⟨b, 1, none⟩ (.bool true)).alloc X).frozen? ⟨b, 0, none⟩ = false := fun X => (World.frozen?_alloc_past _ _ _ (by simpa using hbl)).trans (by rw [World.frozen?_setCell]; exact f0)
      go_region
      refine bodyPost_end (results_none (fn := Tryd.f14) rfl _ _ _) rfl ?_
      exact ⟨rfl, pn_after h true (byteOf x) _⟩
end Go.Proofs.YthnmdbddfmgdlaaDoor
