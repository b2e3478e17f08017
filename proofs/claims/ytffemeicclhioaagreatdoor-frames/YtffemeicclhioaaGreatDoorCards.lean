/-
  DERIVED. GIVEN WITH THE SEED: THE CARDS: each row of YtffemeicclhioaaGreatDoorRows.lean that lists a variable, with what it lists TIED to the program's text (the seventh form; the later family's looks); each row that meets fmt, with fmt's text TOLD by the authors' own Lean function (tested against real Go, not proved from fmt's source: count such statements apart). THE CARD IS WHAT COUNTS. Prove the row's statement (the work); the ties are given (YtffemeicclhioaaGreatDoorTie.lean); close each card by the builder's one call (the guide's Derived/Test/ToyasCard.lean, 'card_holds'). Laid BY PROGRAM, IN A SANDBOX (cutbox-door.mjs). By AI agents, Wed Nov 11 2026. No macro, syntax, notation, axiom, sorry.
-/
import Derived.Test.YtffemeicclhioaaGreatDoorRows
import GoSem.ClaimSeven
namespace Go.Proofs.YtffemeicclhioaaGreatDoor
namespace Rows

/-- THE TIED CARD OF 'prologuelaw.Frames'. -/
def framesCard : Claim7 := { stood := { row := framesRow, standIns := [], harness := (true, "6071c4a58e3d73ba117f2842ba1415ff7b955d6b5610da076cba4bd9182b885a"), looks := true }, kinds := [], alts := [], laidByText := true, laidKinds := [.handle, .data], laidTests := true, laidLooks := .later }
def FramesCardSaid : Prop := Claim7.holds Tryz.pinned (.plain (OpenSpec.ofChange framesSpec)) framesCard

/-- THE SECOND FORM's CARD OF 'prologuelaw.Frames'. -/
def framesUptoCard : Claim7 := { stood := { row := framesUptoRow, standIns := [], harness := (true, "6071c4a58e3d73ba117f2842ba1415ff7b955d6b5610da076cba4bd9182b885a"), looks := true }, kinds := [], alts := [], laidByText := true, laidKinds := [.handle, .data], laidTests := true, laidLooks := .later }
def FramesUptoCardSaid : Prop := Claim7.holds Tryz.pinned (.plain (OpenSpec.upto framesSpec)) framesUptoCard
end Rows
end Go.Proofs.YtffemeicclhioaaGreatDoor
