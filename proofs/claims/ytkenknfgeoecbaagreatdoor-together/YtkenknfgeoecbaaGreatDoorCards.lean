/-
  DERIVED. GIVEN WITH THE SEED: THE CARDS: each row of YtkenknfgeoecbaaGreatDoorRows.lean that lists a variable, with what it lists TIED to the program's text (the seventh form; the later family's looks); each row that meets fmt, with fmt's text TOLD by the authors' own Lean function (tested against real Go, not proved from fmt's source: count such statements apart). THE CARD IS WHAT COUNTS. Prove the row's statement (the work); the ties are given (YtkenknfgeoecbaaGreatDoorTie.lean); close each card by the builder's one call (the guide's Derived/Test/ToyasCard.lean, 'card_holds'). Laid BY PROGRAM, IN A SANDBOX (cutbox-door.mjs). By AI agents, Wed Nov 11 2026. No macro, syntax, notation, axiom, sorry.
-/
import Derived.Test.YtkenknfgeoecbaaGreatDoorRows
import GoSem.ClaimSeven
namespace Go.Proofs.YtkenknfgeoecbaaGreatDoor
namespace Rows

/-- THE TIED CARD OF 'prologuekeep.Together'. -/
def togetherCard : Claim7 := { stood := { row := togetherRow, standIns := [], harness := (true, "658cdecdf517c587ef76da2d8be1f8537fb886844f5c27b607550ea66d30d351"), looks := true }, kinds := [], alts := [], laidByText := true, laidKinds := [.data, .data, .data, .data, .handle, .data, .data, .data, .pinned], laidTests := true, laidLooks := .later }
def TogetherCardSaid : Prop := Claim7.holds Tryz.pinned (.plain (OpenSpec.ofChange togetherSpec)) togetherCard

/-- THE TIED CARD OF 'prologuekeep.Placed'. -/
def placedCard : Claim7 := { stood := { row := placedRow, standIns := [], harness := (true, "658cdecdf517c587ef76da2d8be1f8537fb886844f5c27b607550ea66d30d351"), looks := true }, kinds := [], alts := [], laidByText := true, laidKinds := [.data, .data, .data, .data, .handle, .data, .data, .data, .pinned], laidTests := true, laidLooks := .later }
def PlacedCardSaid : Prop := Claim7.holds Tryz.pinned (.plain (OpenSpec.ofChange placedSpec)) placedCard

/-- THE TIED CARD OF 'prologuekeep.Fits'. -/
def fitsCard : Claim7 := { stood := { row := fitsRow, standIns := [], harness := (true, "658cdecdf517c587ef76da2d8be1f8537fb886844f5c27b607550ea66d30d351"), looks := true }, kinds := [], alts := [], laidByText := true, laidKinds := [.data, .data, .data, .data, .handle, .data, .data, .data, .pinned], laidTests := true, laidLooks := .later }
def FitsCardSaid : Prop := Claim7.holds Tryz.pinned (.plain (OpenSpec.ofChange fitsSpec)) fitsCard

/-- THE SECOND FORM's CARD OF 'prologuekeep.Together'. -/
def togetherUptoCard : Claim7 := { stood := { row := togetherUptoRow, standIns := [], harness := (true, "658cdecdf517c587ef76da2d8be1f8537fb886844f5c27b607550ea66d30d351"), looks := true }, kinds := [], alts := [], laidByText := true, laidKinds := [.data, .data, .data, .data, .handle, .data, .data, .data, .pinned], laidTests := true, laidLooks := .later }
def TogetherUptoCardSaid : Prop := Claim7.holds Tryz.pinned (.plain (OpenSpec.upto togetherSpec)) togetherUptoCard

/-- THE SECOND FORM's CARD OF 'prologuekeep.Placed'. -/
def placedUptoCard : Claim7 := { stood := { row := placedUptoRow, standIns := [], harness := (true, "658cdecdf517c587ef76da2d8be1f8537fb886844f5c27b607550ea66d30d351"), looks := true }, kinds := [], alts := [], laidByText := true, laidKinds := [.data, .data, .data, .data, .handle, .data, .data, .data, .pinned], laidTests := true, laidLooks := .later }
def PlacedUptoCardSaid : Prop := Claim7.holds Tryz.pinned (.plain (OpenSpec.upto placedSpec)) placedUptoCard

/-- THE SECOND FORM's CARD OF 'prologuekeep.Fits'. -/
def fitsUptoCard : Claim7 := { stood := { row := fitsUptoRow, standIns := [], harness := (true, "658cdecdf517c587ef76da2d8be1f8537fb886844f5c27b607550ea66d30d351"), looks := true }, kinds := [], alts := [], laidByText := true, laidKinds := [.data, .data, .data, .data, .handle, .data, .data, .data, .pinned], laidTests := true, laidLooks := .later }
def FitsUptoCardSaid : Prop := Claim7.holds Tryz.pinned (.plain (OpenSpec.upto fitsSpec)) fitsUptoCard
end Rows
end Go.Proofs.YtkenknfgeoecbaaGreatDoor
