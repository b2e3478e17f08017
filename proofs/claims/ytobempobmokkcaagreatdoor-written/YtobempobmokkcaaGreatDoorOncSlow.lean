/-
  Tables: (*sync.Once).doSlow and Do, not yet done, the lock free, whatever is done in them. Own work of the verifier, after the guide's worked text.
-/
import Derived.Test.YtobempobmokkcaaGreatDoorOncParts
namespace Go.Proofs.YtobempobmokkcaaGreatDoor

set_option maxRecDepth 100000 in
theorem onc_load (a : Addr) (w : World) (hc : w.cell? a = some (.int .u32 0)) : Calls Tryz.prog 143 #[.pointer (some a)] w fun e w' => e = .returned (.bool false) ∧ w' = w := by
  have hl := run_call_load (P := Tryz.prog) Tryz.func217 (by kernel_rfl) (by kernel_rfl) (by kernel_rfl) .u32 (by kernel_rfl) hc
  go_enter Tryz.func143, Tryz.ntmps143
  go_wp2
  refine bodyPost_ret (v := .bool false) (by simp [results, Tryz.results143]) rfl ?_
  exact ⟨rfl, rfl⟩
set_option maxRecDepth 100000 in
set_option maxHeartbeats 4000000 in
theorem doSlow_any (b : Nat) (pl : Addr) (w : World) (R : World → Prop) (c1 : w.cell? ⟨b, 1, none⟩ = some (.int .u32 0)) (c2 : w.cell? ⟨b, 2, none⟩ = some (.int .i32 0)) (f2 : w.frozen? ⟨b, 2, none⟩ = false)
    (hcl : Calls Tryz.prog 102 #[.pointer (some pl)] (w.setCell ⟨b, 2, none⟩ (.int .i32 1)) fun e u => e = .returned (.tuple #[]) ∧ u.cell? ⟨b, 1, none⟩ = some (.int .u32 0) ∧ u.cell? ⟨b, 2, none⟩ = some (.int .i32 1) ∧ u.frozen? ⟨b, 1, none⟩ = false ∧ u.frozen? ⟨b, 2, none⟩ = false ∧ R u) :
    Calls Tryz.prog 144 #[.pointer (some ⟨b, 1, none⟩), .func (.func 102) #[] #[.pointer (some pl)]] w fun e w' => e = .returned (.tuple #[]) ∧ ∃ u, R u ∧ w' = (u.drew.setCell ⟨b, 1, none⟩ (.int .u32 1)).setCell ⟨b, 2, none⟩ (.int .i32 0) := by
  have hc1 : (w.setCell ⟨b, 2, none⟩ (.int .i32 1)).cell? ⟨b, 1, none⟩ = some (.int .u32 0) := (World.cell?_setCell_other _ ⟨b, 2, none⟩ ⟨b, 1, none⟩ _ (by simp)).trans c1
  have hnot : ∀ (x : Bool) (w : World), (Op.unary .not (.bool x)).run Tryz.prog w = .ok (.bool (!x)) w := fun _ _ => rfl
  go_enter_defers Tryz.func144, Tryz.ntmps144
  go_wp2_with (go_at_call 218; refine (onc_lock ⟨b, 2, none⟩ _ (by go_simp) (by go_simp)).mono ?_; rintro e w' ⟨rfl, rfl⟩)
  go_wp2_with (go_at_call 143; refine (onc_load ⟨b, 1, none⟩ _ hc1).mono ?_; rintro e w' ⟨rfl, rfl⟩)
  go_wp2_with fail
  refine hcl.mono ?_
  rintro e u ⟨rfl, u1, u2, g1, g2, hR⟩
  go_wp2
  refine leaves_cons (f := 220) (args := #[.pointer (some ⟨b, 1, none⟩), .bool true]) (by simp) (by simp [go_sem]) ?_
  refine (onc_store ⟨b, 1, none⟩ (.int .u32 0) .returning _ u1 g1).mono ?_
  rintro e u' w'' ⟨rfl, rfl, rfl⟩
  refine leaves_cons (f := 219) (args := #[.pointer (some ⟨b, 2, none⟩)]) (by simp [settle]) (by simp [go_sem]) ?_
  refine (onc_unlock ⟨b, 2, none⟩ _ _ ?_ (by simp [g2])).mono ?_
  · refine (World.cell?_setCell_other _ ⟨b, 1, none⟩ ⟨b, 2, none⟩ _ (by simp)).trans ?_
    rw [World.cell?_drew]
    exact u2
  rintro e u' w'' ⟨rfl, rfl, rfl⟩
  simp [Leaves, settle, results, Tryz.results144]
  exact ⟨u, hR, rfl⟩
set_option maxRecDepth 100000 in
set_option maxHeartbeats 4000000 in
theorem do_any (b : Nat) (pl : Addr) (w : World) (R : World → Prop) (c1 : w.cell? ⟨b, 1, none⟩ = some (.int .u32 0)) (c2 : w.cell? ⟨b, 2, none⟩ = some (.int .i32 0)) (f2 : w.frozen? ⟨b, 2, none⟩ = false)
    (hcl : Calls Tryz.prog 102 #[.pointer (some pl)] (w.setCell ⟨b, 2, none⟩ (.int .i32 1)) fun e u => e = .returned (.tuple #[]) ∧ u.cell? ⟨b, 1, none⟩ = some (.int .u32 0) ∧ u.cell? ⟨b, 2, none⟩ = some (.int .i32 1) ∧ u.frozen? ⟨b, 1, none⟩ = false ∧ u.frozen? ⟨b, 2, none⟩ = false ∧ R u) :
    Calls Tryz.prog 101 #[.pointer (some ⟨b, 1, none⟩), .func (.func 102) #[] #[.pointer (some pl)]] w fun e w' => e = .returned (.tuple #[]) ∧ ∃ u, R u ∧ w' = (u.drew.setCell ⟨b, 1, none⟩ (.int .u32 1)).setCell ⟨b, 2, none⟩ (.int .i32 0) := by
  have hnot : ∀ (x : Bool) (w : World), (Op.unary .not (.bool x)).run Tryz.prog w = .ok (.bool (!x)) w := fun _ _ => rfl
  go_enter Tryz.func101, Tryz.ntmps101
  go_wp2_with (go_at_call 143; refine (onc_load ⟨b, 1, none⟩ _ c1).mono ?_; rintro e w' ⟨rfl, hw⟩; subst w')
  go_wp2_with fail
  refine (doSlow_any b pl w R c1 c2 f2 hcl).mono ?_
  rintro e w' ⟨rfl, hu⟩
  go_wp2
  go_end0
  exact ⟨rfl, hu⟩
end Go.Proofs.YtobempobmokkcaaGreatDoor
