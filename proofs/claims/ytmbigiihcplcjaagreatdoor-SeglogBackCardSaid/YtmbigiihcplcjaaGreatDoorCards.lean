/-
  DERIVED. GIVEN WITH THE SEED: THE CARDS: each row of YtmbigiihcplcjaaGreatDoorRows.lean that lists a variable, with what it lists TIED to the program's text (the seventh form; the later family's looks); each row that meets fmt, with fmt's text TOLD by the authors' own Lean function (tested against real Go, not proved from fmt's source: count such statements apart). THE CARD IS WHAT COUNTS. Prove the row's statement (the work); the ties are given (YtmbigiihcplcjaaGreatDoorTie.lean); close each card by the builder's one call (the guide's Derived/Test/ToyasCard.lean, 'card_holds'). Laid BY PROGRAM, IN A SANDBOX (cutbox-door.mjs). By AI agents, Wed Nov 11 2026. No macro, syntax, notation, axiom, sorry.
-/
import Derived.Test.YtmbigiihcplcjaaGreatDoorRows
import GoSem.ClaimSeven
namespace Go.Proofs.YtmbigiihcplcjaaGreatDoor
namespace Rows

/-- THE TIED CARD OF 'tumbrellaw15.SeglogDoes'. -/
def seglogDoesCard : Claim7 := { stood := { row := seglogDoesRow, standIns := [], harness := (true, "12d888c07da596316282f2597307ba1de4d36be273ce30e102787f2c1ceec78b"), looks := true }, kinds := [], alts := [], laidByText := true, laidKinds := [.data, .data, .data, .data], laidTests := true, laidLooks := .later }
def SeglogDoesCardSaid : Prop := Claim7.holds Tryz.pinned (.plain (OpenSpec.ofChange seglogDoesSpec)) seglogDoesCard

/-- THE TIED CARD OF 'tumbrellaw15.SeglogBack'. -/
def seglogBackCard : Claim7 := { stood := { row := seglogBackRow, standIns := [], harness := (true, "12d888c07da596316282f2597307ba1de4d36be273ce30e102787f2c1ceec78b"), looks := true }, kinds := [], alts := [], laidByText := true, laidKinds := [.data, .data, .data, .data], laidTests := true, laidLooks := .later }
def SeglogBackCardSaid : Prop := Claim7.holds Tryz.pinned (.plain (OpenSpec.ofChange seglogBackSpec)) seglogBackCard

/-- THE TIED CARD OF 'tumbrellaw15.SeglogSure'. -/
def seglogSureCard : Claim7 := { stood := { row := seglogSureRow, standIns := [], harness := (true, "12d888c07da596316282f2597307ba1de4d36be273ce30e102787f2c1ceec78b"), looks := true }, kinds := [], alts := [], laidByText := true, laidKinds := [.data, .data, .data, .data], laidTests := true, laidLooks := .later }
def SeglogSureCardSaid : Prop := Claim7.holds Tryz.pinned (.plain (OpenSpec.ofChange seglogSureSpec)) seglogSureCard

/-- THE SECOND FORM's CARD OF 'tumbrellaw15.SeglogDoes'. -/
def seglogDoesUptoCard : Claim7 := { stood := { row := seglogDoesUptoRow, standIns := [], harness := (true, "12d888c07da596316282f2597307ba1de4d36be273ce30e102787f2c1ceec78b"), looks := true }, kinds := [], alts := [], laidByText := true, laidKinds := [.data, .data, .data, .data], laidTests := true, laidLooks := .later }
def SeglogDoesUptoCardSaid : Prop := Claim7.holds Tryz.pinned (.plain (OpenSpec.upto seglogDoesSpec)) seglogDoesUptoCard

/-- THE SECOND FORM's CARD OF 'tumbrellaw15.SeglogBack'. -/
def seglogBackUptoCard : Claim7 := { stood := { row := seglogBackUptoRow, standIns := [], harness := (true, "12d888c07da596316282f2597307ba1de4d36be273ce30e102787f2c1ceec78b"), looks := true }, kinds := [], alts := [], laidByText := true, laidKinds := [.data, .data, .data, .data], laidTests := true, laidLooks := .later }
def SeglogBackUptoCardSaid : Prop := Claim7.holds Tryz.pinned (.plain (OpenSpec.upto seglogBackSpec)) seglogBackUptoCard

/-- THE SECOND FORM's CARD OF 'tumbrellaw15.SeglogSure'. -/
def seglogSureUptoCard : Claim7 := { stood := { row := seglogSureUptoRow, standIns := [], harness := (true, "12d888c07da596316282f2597307ba1de4d36be273ce30e102787f2c1ceec78b"), looks := true }, kinds := [], alts := [], laidByText := true, laidKinds := [.data, .data, .data, .data], laidTests := true, laidLooks := .later }
def SeglogSureUptoCardSaid : Prop := Claim7.holds Tryz.pinned (.plain (OpenSpec.upto seglogSureSpec)) seglogSureUptoCard
end Rows
end Go.Proofs.YtmbigiihcplcjaaGreatDoor
