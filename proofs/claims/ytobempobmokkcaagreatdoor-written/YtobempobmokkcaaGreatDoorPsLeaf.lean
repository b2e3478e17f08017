/-
  Parses: the leaves: kindOf, isBroken, scalar, small, digit. Own work of the verifier.
-/
import Derived.Test.YtobempobmokkcaaGreatDoorPsPlain
import Derived.Test.YtobempobmokkcaaGreatDoorShelf
import Derived.WalkKit
import Derived.Handy
import Derived.Shelf.Unicode.DecodeAny
namespace Go.Proofs.YtobempobmokkcaaGreatDoor
open Go.RowKit

set_option maxHeartbeats 1000000 in
theorem kindOf_c (r : Nat) (w : World) (hr : r < 2147483648) :
    Calls Tryz.prog 95 #[.int .i32 r] w fun e w' => e = .returned (.int .i64 (kindN r)) ∧ w' = w := by
  by_cases h1 : r = 32 ∨ r = 9 ∨ r = 10
  · rcases h1 with rfl | rfl | rfl
    all_goals
      go_enter Tryz.func95, Tryz.ntmps95
      go_wp2
      go_ret
      exact ⟨rfl, rfl⟩
  · go_enter Tryz.func95, Tryz.ntmps95
    go_wp2
    all_goals go_ret
    all_goals refine ⟨?_, rfl⟩
    all_goals simp only [kindN]
    all_goals repeat' split
    all_goals first | rfl | (exfalso; omega) | (exfalso; simp only [beq_iff_eq] at *; omega) | (exfalso; simp at *; omega)

theorem and192_all : ∀ n : Fin 256, (bits BinOp.and IntKind.u8 ((n.val : Nat) : Int) 192 != 128) = decide (¬ n.val / 64 = 2) := by decide +kernel
theorem and63_all : ∀ n : Fin 256, bits BinOp.and IntKind.u8 ((n.val : Nat) : Int) 63 = ((n.val % 64 : Nat) : Int) := by decide +kernel
theorem and192 (x : UInt8) : (bits BinOp.and IntKind.u8 (x.toNat : Int) 192 != 128) = decide (¬ x.toNat / 64 = 2) := and192_all ⟨x.toNat, x.toNat_lt⟩
theorem and63 (x : UInt8) : bits BinOp.and IntKind.u8 (x.toNat : Int) 63 = ((x.toNat % 64 : Nat) : Int) := and63_all ⟨x.toNat, x.toNat_lt⟩
end Go.Proofs.YtobempobmokkcaaGreatDoor
