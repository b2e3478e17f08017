/-
  DERIVED. GIVEN WITH THE SEED: THE CARDS: each row of YtffemeicclhioaaDoorRows.lean that lists a variable, with what it lists TIED to the program's text (the seventh form; the later family's looks); each row that meets fmt, with fmt's text TOLD by the authors' own Lean function (tested against real Go, not proved from fmt's source: count such statements apart). THE CARD IS WHAT COUNTS. Prove the row's statement (the work); the ties are given (YtffemeicclhioaaDoorTie.lean); close each card by the builder's one call (the guide's Derived/Test/ToyasCard.lean, 'card_holds'). Laid BY PROGRAM, IN A SANDBOX (cutbox-door.mjs). By AI agents, Wed Nov 11 2026. No macro, syntax, notation, axiom, sorry.
-/
import Derived.Test.YtffemeicclhioaaDoorRows
import GoSem.ClaimSeven
namespace Go.Proofs.YtffemeicclhioaaDoor
namespace Rows

/-- THE TIED CARD OF 'prologuelaw.Classifies'. -/
def classifiesCard : Claim7 := { stood := { row := classifiesRow, standIns := [], harness := (true, "a15a59e8f05e8502ec8874125162871ead87f4017b7ded5a63e2396c53df695f"), looks := true }, kinds := [], alts := [], laidByText := true, laidKinds := [.handle], laidTests := true, laidLooks := .later }
def ClassifiesCardSaid : Prop := Claim7.holds Tryd.pinned (.plain (OpenSpec.ofChange classifiesSpec)) classifiesCard

/-- THE SECOND FORM's CARD OF 'prologuelaw.Classifies'. -/
def classifiesUptoCard : Claim7 := { stood := { row := classifiesUptoRow, standIns := [], harness := (true, "a15a59e8f05e8502ec8874125162871ead87f4017b7ded5a63e2396c53df695f"), looks := true }, kinds := [], alts := [], laidByText := true, laidKinds := [.handle], laidTests := true, laidLooks := .later }
def ClassifiesUptoCardSaid : Prop := Claim7.holds Tryd.pinned (.plain (OpenSpec.upto classifiesSpec)) classifiesUptoCard
end Rows
end Go.Proofs.YtffemeicclhioaaDoor
