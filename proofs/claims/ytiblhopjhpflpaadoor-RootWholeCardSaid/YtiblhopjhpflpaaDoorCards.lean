/-
  DERIVED. GIVEN WITH THE SEED: THE CARDS: each row of YtiblhopjhpflpaaDoorRows.lean that lists a variable, with what it lists TIED to the program's text (the seventh form; the later family's looks); each row that meets fmt, with fmt's text TOLD by the authors' own Lean function (tested against real Go, not proved from fmt's source: count such statements apart). THE CARD IS WHAT COUNTS. Prove the row's statement (the work); the ties are given (YtiblhopjhpflpaaDoorTie.lean); close each card by the builder's one call (the guide's Derived/Test/ToyasCard.lean, 'card_holds'). Laid BY PROGRAM, IN A SANDBOX (cutbox-door.mjs). By AI agents, Wed Nov 11 2026. No macro, syntax, notation, axiom, sorry.
-/
import Derived.Test.YtiblhopjhpflpaaDoorRows
import GoSem.ClaimSeven
namespace Go.Proofs.YtiblhopjhpflpaaDoor
namespace Rows

/-- THE TIED CARD OF 'tumbrellaw16.RootWhole'. -/
def rootWholeCard : Claim7 := { stood := { row := rootWholeRow, standIns := [], harness := (true, "a4595e9160edffcf139f3f048f0833a207721f8eca62fee39eec4b5a2bb02c6c"), looks := true }, kinds := [], alts := [], laidByText := true, laidKinds := [.data], laidTests := true, laidLooks := .later }
def RootWholeCardSaid : Prop := Claim7.holds Tryd.pinned (.plain (OpenSpec.ofChange rootWholeSpec)) rootWholeCard

/-- THE TIED CARD OF 'tumbrellaw16.RootBack'. -/
def rootBackCard : Claim7 := { stood := { row := rootBackRow, standIns := [], harness := (true, "a4595e9160edffcf139f3f048f0833a207721f8eca62fee39eec4b5a2bb02c6c"), looks := true }, kinds := [], alts := [], laidByText := true, laidKinds := [.data], laidTests := true, laidLooks := .later }
def RootBackCardSaid : Prop := Claim7.holds Tryd.pinned (.plain (OpenSpec.ofChange rootBackSpec)) rootBackCard

/-- THE TIED CARD OF 'tumbrellaw16.RootTurned'. -/
def rootTurnedCard : Claim7 := { stood := { row := rootTurnedRow, standIns := [], harness := (true, "a4595e9160edffcf139f3f048f0833a207721f8eca62fee39eec4b5a2bb02c6c"), looks := true }, kinds := [], alts := [], laidByText := true, laidKinds := [.data], laidTests := true, laidLooks := .later }
def RootTurnedCardSaid : Prop := Claim7.holds Tryd.pinned (.plain (OpenSpec.ofChange rootTurnedSpec)) rootTurnedCard

/-- THE SECOND FORM's CARD OF 'tumbrellaw16.RootWhole'. -/
def rootWholeUptoCard : Claim7 := { stood := { row := rootWholeUptoRow, standIns := [], harness := (true, "a4595e9160edffcf139f3f048f0833a207721f8eca62fee39eec4b5a2bb02c6c"), looks := true }, kinds := [], alts := [], laidByText := true, laidKinds := [.data], laidTests := true, laidLooks := .later }
def RootWholeUptoCardSaid : Prop := Claim7.holds Tryd.pinned (.plain (OpenSpec.upto rootWholeSpec)) rootWholeUptoCard

/-- THE SECOND FORM's CARD OF 'tumbrellaw16.RootBack'. -/
def rootBackUptoCard : Claim7 := { stood := { row := rootBackUptoRow, standIns := [], harness := (true, "a4595e9160edffcf139f3f048f0833a207721f8eca62fee39eec4b5a2bb02c6c"), looks := true }, kinds := [], alts := [], laidByText := true, laidKinds := [.data], laidTests := true, laidLooks := .later }
def RootBackUptoCardSaid : Prop := Claim7.holds Tryd.pinned (.plain (OpenSpec.upto rootBackSpec)) rootBackUptoCard

/-- THE SECOND FORM's CARD OF 'tumbrellaw16.RootTurned'. -/
def rootTurnedUptoCard : Claim7 := { stood := { row := rootTurnedUptoRow, standIns := [], harness := (true, "a4595e9160edffcf139f3f048f0833a207721f8eca62fee39eec4b5a2bb02c6c"), looks := true }, kinds := [], alts := [], laidByText := true, laidKinds := [.data], laidTests := true, laidLooks := .later }
def RootTurnedUptoCardSaid : Prop := Claim7.holds Tryd.pinned (.plain (OpenSpec.upto rootTurnedSpec)) rootTurnedUptoCard
end Rows
end Go.Proofs.YtiblhopjhpflpaaDoor
