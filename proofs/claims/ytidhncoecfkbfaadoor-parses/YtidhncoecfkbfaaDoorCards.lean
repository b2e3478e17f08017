/-
  DERIVED. GIVEN WITH THE SEED: THE CARDS: each row of YtidhncoecfkbfaaDoorRows.lean that lists a variable, with what it lists TIED to the program's text (the seventh form; the later family's looks); each row that meets fmt, with fmt's text TOLD by the authors' own Lean function (tested against real Go, not proved from fmt's source: count such statements apart). THE CARD IS WHAT COUNTS. Prove the row's statement (the work); the ties are given (YtidhncoecfkbfaaDoorTie.lean); close each card by the builder's one call (the guide's Derived/Test/ToyasCard.lean, 'card_holds'). Laid BY PROGRAM, IN A SANDBOX (cutbox-door.mjs). By AI agents, Wed Nov 11 2026. No macro, syntax, notation, axiom, sorry.
-/
import Derived.Test.YtidhncoecfkbfaaDoorRows
import GoSem.ClaimSeven
namespace Go.Proofs.YtidhncoecfkbfaaDoor
namespace Rows

/-- THE TIED CARD OF 'prologuelaw.Stacks'. -/
def stacksCard : Claim7 := { stood := { row := stacksRow, standIns := [], harness := (true, "ba2e24bd2d80cf34768839eaa7abd48f155c09d3962a004e1a8c328ef8ef5e3f"), looks := true }, kinds := [], alts := [], laidByText := true, laidKinds := [.handle], laidTests := true, laidLooks := .later }
def StacksCardSaid : Prop := Claim7.holds Tryd.pinned (.plain (OpenSpec.ofChange stacksSpec)) stacksCard

/-- THE TIED CARD OF 'prologuelaw.Parses'. -/
def parsesCard : Claim7 := { stood := { row := parsesRow, standIns := [], harness := (true, "ba2e24bd2d80cf34768839eaa7abd48f155c09d3962a004e1a8c328ef8ef5e3f"), looks := true }, kinds := [], alts := [], laidByText := true, laidKinds := [.data, .data, .data, .data, .handle, .sentinel, .sentinel, .data, .pinned], laidTests := true, laidLooks := .later }
def ParsesCardSaid : Prop := Claim7.holds Tryd.pinned (.plain (OpenSpec.ofChange parsesSpec)) parsesCard

/-- THE TIED CARD OF 'prologuelaw.Prints'. -/
def printsCard : Claim7 := { stood := { row := printsRow, standIns := [], harness := (true, "ba2e24bd2d80cf34768839eaa7abd48f155c09d3962a004e1a8c328ef8ef5e3f"), looks := true }, kinds := [], alts := [], laidByText := true, laidKinds := [.data, .data, .data, .data], laidTests := true, laidLooks := .later }
def PrintsCardSaid : Prop := Claim7.holds Tryd.pinned (.plain (OpenSpec.ofChange printsSpec)) printsCard

/-- THE TIED CARD OF 'prologuelaw.Tables'. -/
def tablesCard : Claim7 := { stood := { row := tablesRow, standIns := [], harness := (true, "ba2e24bd2d80cf34768839eaa7abd48f155c09d3962a004e1a8c328ef8ef5e3f"), looks := true }, kinds := [], alts := [], laidByText := true, laidKinds := [.data, .handle, .data, .pinned], laidTests := true, laidLooks := .later }
def TablesCardSaid : Prop := Claim7.holds Tryd.pinned (.plain (OpenSpec.ofChange tablesSpec)) tablesCard

/-- THE SECOND FORM's CARD OF 'prologuelaw.Stacks'. -/
def stacksUptoCard : Claim7 := { stood := { row := stacksUptoRow, standIns := [], harness := (true, "ba2e24bd2d80cf34768839eaa7abd48f155c09d3962a004e1a8c328ef8ef5e3f"), looks := true }, kinds := [], alts := [], laidByText := true, laidKinds := [.handle], laidTests := true, laidLooks := .later }
def StacksUptoCardSaid : Prop := Claim7.holds Tryd.pinned (.plain (OpenSpec.upto stacksSpec)) stacksUptoCard

/-- THE SECOND FORM's CARD OF 'prologuelaw.Parses'. -/
def parsesUptoCard : Claim7 := { stood := { row := parsesUptoRow, standIns := [], harness := (true, "ba2e24bd2d80cf34768839eaa7abd48f155c09d3962a004e1a8c328ef8ef5e3f"), looks := true }, kinds := [], alts := [], laidByText := true, laidKinds := [.data, .data, .data, .data, .handle, .sentinel, .sentinel, .data, .pinned], laidTests := true, laidLooks := .later }
def ParsesUptoCardSaid : Prop := Claim7.holds Tryd.pinned (.plain (OpenSpec.upto parsesSpec)) parsesUptoCard

/-- THE SECOND FORM's CARD OF 'prologuelaw.Prints'. -/
def printsUptoCard : Claim7 := { stood := { row := printsUptoRow, standIns := [], harness := (true, "ba2e24bd2d80cf34768839eaa7abd48f155c09d3962a004e1a8c328ef8ef5e3f"), looks := true }, kinds := [], alts := [], laidByText := true, laidKinds := [.data, .data, .data, .data], laidTests := true, laidLooks := .later }
def PrintsUptoCardSaid : Prop := Claim7.holds Tryd.pinned (.plain (OpenSpec.upto printsSpec)) printsUptoCard

/-- THE SECOND FORM's CARD OF 'prologuelaw.Tables'. -/
def tablesUptoCard : Claim7 := { stood := { row := tablesUptoRow, standIns := [], harness := (true, "ba2e24bd2d80cf34768839eaa7abd48f155c09d3962a004e1a8c328ef8ef5e3f"), looks := true }, kinds := [], alts := [], laidByText := true, laidKinds := [.data, .handle, .data, .pinned], laidTests := true, laidLooks := .later }
def TablesUptoCardSaid : Prop := Claim7.holds Tryd.pinned (.plain (OpenSpec.upto tablesSpec)) tablesUptoCard
end Rows
end Go.Proofs.YtidhncoecfkbfaaDoor
