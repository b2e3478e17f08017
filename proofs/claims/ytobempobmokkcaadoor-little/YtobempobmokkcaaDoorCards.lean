/-
  DERIVED. GIVEN WITH THE SEED: THE CARDS: each row of YtobempobmokkcaaDoorRows.lean that lists a variable, with what it lists TIED to the program's text (the seventh form; the later family's looks); each row that meets fmt, with fmt's text TOLD by the authors' own Lean function (tested against real Go, not proved from fmt's source: count such statements apart). THE CARD IS WHAT COUNTS. Prove the row's statement (the work); the ties are given (YtobempobmokkcaaDoorTie.lean); close each card by the builder's one call (the guide's Derived/Test/ToyasCard.lean, 'card_holds'). Laid BY PROGRAM, IN A SANDBOX (cutbox-door.mjs). By AI agents, Wed Nov 11 2026. No macro, syntax, notation, axiom, sorry.
-/
import Derived.Test.YtobempobmokkcaaDoorRows
import GoSem.ClaimSeven
namespace Go.Proofs.YtobempobmokkcaaDoor
namespace Rows

/-- THE TIED CARD OF 'prologuekeep.Little'. -/
def littleCard : Claim7 := { stood := { row := littleRow, standIns := [], harness := (true, "26a2693729981e25cd2f41179ab94d64b4e52cebe2f2b86e8368fe0682ea6819"), looks := true }, kinds := [], alts := [], laidByText := true, laidKinds := [.handle], laidTests := true, laidLooks := .later }
def LittleCardSaid : Prop := Claim7.holds Tryd.pinned (.plain (OpenSpec.ofChange littleSpec)) littleCard

/-- THE SECOND FORM's CARD OF 'prologuekeep.Little'. -/
def littleUptoCard : Claim7 := { stood := { row := littleUptoRow, standIns := [], harness := (true, "26a2693729981e25cd2f41179ab94d64b4e52cebe2f2b86e8368fe0682ea6819"), looks := true }, kinds := [], alts := [], laidByText := true, laidKinds := [.handle], laidTests := true, laidLooks := .later }
def LittleUptoCardSaid : Prop := Claim7.holds Tryd.pinned (.plain (OpenSpec.upto littleSpec)) littleUptoCard
end Rows
end Go.Proofs.YtobempobmokkcaaDoor
