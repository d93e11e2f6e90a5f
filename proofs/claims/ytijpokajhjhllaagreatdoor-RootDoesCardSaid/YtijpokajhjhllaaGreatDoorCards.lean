/-
  DERIVED. GIVEN WITH THE SEED: THE CARDS: each row of YtijpokajhjhllaaGreatDoorRows.lean that lists a variable, with what it lists TIED to the program's text (the seventh form; the later family's looks); each row that meets fmt, with fmt's text TOLD by the authors' own Lean function (tested against real Go, not proved from fmt's source: count such statements apart). THE CARD IS WHAT COUNTS. Prove the row's statement (the work); the ties are given (YtijpokajhjhllaaGreatDoorTie.lean); close each card by the builder's one call (the guide's Derived/Test/ToyasCard.lean, 'card_holds'). Laid BY PROGRAM, IN A SANDBOX (cutbox-door.mjs). By AI agents, Wed Nov 11 2026. No macro, syntax, notation, axiom, sorry.
-/
import Derived.Test.YtijpokajhjhllaaGreatDoorRows
import GoSem.ClaimSeven
namespace Go.Proofs.YtijpokajhjhllaaGreatDoor
namespace Rows

/-- THE TIED CARD OF 'tumbrellaw16.RootDoes'. -/
def rootDoesCard : Claim7 := { stood := { row := rootDoesRow, standIns := [], harness := (true, "097c6df8e49cd3ca42e3510d142811ce929a8c6fb224a463fdf948419dbc0a17"), looks := true }, kinds := [], alts := [], laidByText := true, laidKinds := [.data], laidTests := true, laidLooks := .later }
def RootDoesCardSaid : Prop := Claim7.holds Tryz.pinned (.plain (OpenSpec.ofChange rootDoesSpec)) rootDoesCard

/-- THE SECOND FORM's CARD OF 'tumbrellaw16.RootDoes'. -/
def rootDoesUptoCard : Claim7 := { stood := { row := rootDoesUptoRow, standIns := [], harness := (true, "097c6df8e49cd3ca42e3510d142811ce929a8c6fb224a463fdf948419dbc0a17"), looks := true }, kinds := [], alts := [], laidByText := true, laidKinds := [.data], laidTests := true, laidLooks := .later }
def RootDoesUptoCardSaid : Prop := Claim7.holds Tryz.pinned (.plain (OpenSpec.upto rootDoesSpec)) rootDoesUptoCard
end Rows
end Go.Proofs.YtijpokajhjhllaaGreatDoor
