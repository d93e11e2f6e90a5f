/-
  DERIVED. GIVEN WITH THE SEED: THE CARDS: each row of YtfpljeblehieiaaDoorRows.lean that lists a variable, with what it lists TIED to the program's text (the seventh form; the later family's looks); each row that meets fmt, with fmt's text TOLD by the authors' own Lean function (tested against real Go, not proved from fmt's source: count such statements apart). THE CARD IS WHAT COUNTS. Prove the row's statement (the work); the ties are given (YtfpljeblehieiaaDoorTie.lean); close each card by the builder's one call (the guide's Derived/Test/ToyasCard.lean, 'card_holds'). Laid BY PROGRAM, IN A SANDBOX (cutbox-door.mjs). By AI agents, Wed Nov 11 2026. No macro, syntax, notation, axiom, sorry.
-/
import Derived.Test.YtfpljeblehieiaaDoorRows
import GoSem.ClaimSeven
namespace Go.Proofs.YtfpljeblehieiaaDoor
namespace Rows

/-- THE TIED CARD OF 'tumbrellaw10.DeadDoes'. -/
def deadDoesCard : Claim7 := { stood := { row := deadDoesRow, standIns := [], harness := (true, "fcad4f1f08d69fea2b6a49b22d17dbc84622d1b9ff06310f8f36fcf7408631e7"), looks := false }, kinds := [], alts := [], laidByText := true, laidKinds := [.data, .pinned], laidTests := true, laidLooks := .later }
def DeadDoesCardSaid : Prop := Claim7.holds Tryd.pinned (.plain (OpenSpec.ofChange deadDoesSpec)) deadDoesCard

/-- THE TIED CARD OF 'tumbrellaw10.DeadMade'. -/
def deadMadeCard : Claim7 := { stood := { row := deadMadeRow, standIns := [], harness := (true, "fcad4f1f08d69fea2b6a49b22d17dbc84622d1b9ff06310f8f36fcf7408631e7"), looks := false }, kinds := [], alts := [], laidByText := true, laidKinds := [.data, .pinned], laidTests := true, laidLooks := .later }
def DeadMadeCardSaid : Prop := Claim7.holds Tryd.pinned (.plain (OpenSpec.ofChange deadMadeSpec)) deadMadeCard

/-- THE TIED CARD OF 'tumbrellaw10.DeadAgain'. -/
def deadAgainCard : Claim7 := { stood := { row := deadAgainRow, standIns := [], harness := (true, "fcad4f1f08d69fea2b6a49b22d17dbc84622d1b9ff06310f8f36fcf7408631e7"), looks := false }, kinds := [], alts := [], laidByText := true, laidKinds := [.data, .pinned], laidTests := true, laidLooks := .later }
def DeadAgainCardSaid : Prop := Claim7.holds Tryd.pinned (.plain (OpenSpec.ofChange deadAgainSpec)) deadAgainCard

/-- THE TIED CARD OF 'tumbrellaw10.DeadOnce'. -/
def deadOnceCard : Claim7 := { stood := { row := deadOnceRow, standIns := [], harness := (true, "fcad4f1f08d69fea2b6a49b22d17dbc84622d1b9ff06310f8f36fcf7408631e7"), looks := false }, kinds := [], alts := [], laidByText := true, laidKinds := [.data, .pinned], laidTests := true, laidLooks := .later }
def DeadOnceCardSaid : Prop := Claim7.holds Tryd.pinned (.plain (OpenSpec.ofChange deadOnceSpec)) deadOnceCard

/-- THE SECOND FORM's CARD OF 'tumbrellaw10.DeadDoes'. -/
def deadDoesUptoCard : Claim7 := { stood := { row := deadDoesUptoRow, standIns := [], harness := (true, "fcad4f1f08d69fea2b6a49b22d17dbc84622d1b9ff06310f8f36fcf7408631e7"), looks := false }, kinds := [], alts := [], laidByText := true, laidKinds := [.data, .pinned], laidTests := true, laidLooks := .later }
def DeadDoesUptoCardSaid : Prop := Claim7.holds Tryd.pinned (.plain (OpenSpec.upto deadDoesSpec)) deadDoesUptoCard

/-- THE SECOND FORM's CARD OF 'tumbrellaw10.DeadMade'. -/
def deadMadeUptoCard : Claim7 := { stood := { row := deadMadeUptoRow, standIns := [], harness := (true, "fcad4f1f08d69fea2b6a49b22d17dbc84622d1b9ff06310f8f36fcf7408631e7"), looks := false }, kinds := [], alts := [], laidByText := true, laidKinds := [.data, .pinned], laidTests := true, laidLooks := .later }
def DeadMadeUptoCardSaid : Prop := Claim7.holds Tryd.pinned (.plain (OpenSpec.upto deadMadeSpec)) deadMadeUptoCard

/-- THE SECOND FORM's CARD OF 'tumbrellaw10.DeadAgain'. -/
def deadAgainUptoCard : Claim7 := { stood := { row := deadAgainUptoRow, standIns := [], harness := (true, "fcad4f1f08d69fea2b6a49b22d17dbc84622d1b9ff06310f8f36fcf7408631e7"), looks := false }, kinds := [], alts := [], laidByText := true, laidKinds := [.data, .pinned], laidTests := true, laidLooks := .later }
def DeadAgainUptoCardSaid : Prop := Claim7.holds Tryd.pinned (.plain (OpenSpec.upto deadAgainSpec)) deadAgainUptoCard

/-- THE SECOND FORM's CARD OF 'tumbrellaw10.DeadOnce'. -/
def deadOnceUptoCard : Claim7 := { stood := { row := deadOnceUptoRow, standIns := [], harness := (true, "fcad4f1f08d69fea2b6a49b22d17dbc84622d1b9ff06310f8f36fcf7408631e7"), looks := false }, kinds := [], alts := [], laidByText := true, laidKinds := [.data, .pinned], laidTests := true, laidLooks := .later }
def DeadOnceUptoCardSaid : Prop := Claim7.holds Tryd.pinned (.plain (OpenSpec.upto deadOnceSpec)) deadOnceUptoCard
end Rows
end Go.Proofs.YtfpljeblehieiaaDoor
