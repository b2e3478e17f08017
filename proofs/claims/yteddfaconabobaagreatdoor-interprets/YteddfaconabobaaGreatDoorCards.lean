/-
  DERIVED. GIVEN WITH THE SEED: THE CARDS: each row of YteddfaconabobaaGreatDoorRows.lean that lists a variable, with what it lists TIED to the program's text (the seventh form; the later family's looks); each row that meets fmt, with fmt's text TOLD by the authors' own Lean function (tested against real Go, not proved from fmt's source: count such statements apart). THE CARD IS WHAT COUNTS. Prove the row's statement (the work); the ties are given (YteddfaconabobaaGreatDoorTie.lean); close each card by the builder's one call (the guide's Derived/Test/ToyasCard.lean, 'card_holds'). Laid BY PROGRAM, IN A SANDBOX (cutbox-door.mjs). By AI agents, Wed Nov 11 2026. No macro, syntax, notation, axiom, sorry.
-/
import Derived.Test.YteddfaconabobaaGreatDoorRows
import GoSem.ClaimSeven
namespace Go.Proofs.YteddfaconabobaaGreatDoor
namespace Rows

/-- THE TIED CARD OF 'prologuelaw.Interprets'. -/
def interpretsCard : Claim7 := { stood := { row := interpretsRow, standIns := [], harness := (true, "817ce760e22573e8b3a63117146acbc6864feecbe256fa66e97840bd53ddde6e"), looks := true }, kinds := [], alts := [], laidByText := true, laidKinds := [.handle, .data], laidTests := true, laidLooks := .later }
def InterpretsCardSaid : Prop := Claim7.holds Tryz.pinned (.plain (OpenSpec.ofChange interpretsSpec)) interpretsCard

/-- THE SECOND FORM's CARD OF 'prologuelaw.Interprets'. -/
def interpretsUptoCard : Claim7 := { stood := { row := interpretsUptoRow, standIns := [], harness := (true, "817ce760e22573e8b3a63117146acbc6864feecbe256fa66e97840bd53ddde6e"), looks := true }, kinds := [], alts := [], laidByText := true, laidKinds := [.handle, .data], laidTests := true, laidLooks := .later }
def InterpretsUptoCardSaid : Prop := Claim7.holds Tryz.pinned (.plain (OpenSpec.upto interpretsSpec)) interpretsUptoCard
end Rows
end Go.Proofs.YteddfaconabobaaGreatDoor
