/-
  DERIVED. GIVEN WITH THE SEED: THE CARDS: each row of YtnlcfnjeagmemaaGreatDoorRows.lean that lists a variable, with what it lists TIED to the program's text (the seventh form; the later family's looks); each row that meets fmt, with fmt's text TOLD by the authors' own Lean function (tested against real Go, not proved from fmt's source: count such statements apart). THE CARD IS WHAT COUNTS. Prove the row's statement (the work); the ties are given (YtnlcfnjeagmemaaGreatDoorTie.lean); close each card by the builder's one call (the guide's Derived/Test/ToyasCard.lean, 'card_holds'). Laid BY PROGRAM, IN A SANDBOX (cutbox-door.mjs). By AI agents, Wed Nov 11 2026. No macro, syntax, notation, axiom, sorry.
-/
import Derived.Test.YtnlcfnjeagmemaaGreatDoorRows
import GoSem.ClaimSeven
namespace Go.Proofs.YtnlcfnjeagmemaaGreatDoor
namespace Rows

/-- THE TIED CARD OF 'prologuelaw.Executes'. -/
def executesCard : Claim7 := { stood := { row := executesRow, standIns := [], harness := (true, "85c66b0ba3febfeb1dfdaec72d254822d45e43d7771f37e81d77402e63d974c4"), looks := true }, kinds := [], alts := [], laidByText := true, laidKinds := [.handle, .data], laidTests := true, laidLooks := .later }
def ExecutesCardSaid : Prop := Claim7.holds Tryz.pinned (.plain (OpenSpec.ofChange executesSpec)) executesCard

/-- THE SECOND FORM's CARD OF 'prologuelaw.Executes'. -/
def executesUptoCard : Claim7 := { stood := { row := executesUptoRow, standIns := [], harness := (true, "85c66b0ba3febfeb1dfdaec72d254822d45e43d7771f37e81d77402e63d974c4"), looks := true }, kinds := [], alts := [], laidByText := true, laidKinds := [.handle, .data], laidTests := true, laidLooks := .later }
def ExecutesUptoCardSaid : Prop := Claim7.holds Tryz.pinned (.plain (OpenSpec.upto executesSpec)) executesUptoCard
end Rows
end Go.Proofs.YtnlcfnjeagmemaaGreatDoor
