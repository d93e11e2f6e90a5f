/-
  DERIVED. GIVEN WITH THE SEED: THE CARDS: each row of YtakhanlnfoajcaaDoorRows.lean that lists a variable, with what it lists TIED to the program's text (the seventh form; the later family's looks); each row that meets fmt, with fmt's text TOLD by the authors' own Lean function (tested against real Go, not proved from fmt's source: count such statements apart). THE CARD IS WHAT COUNTS. Prove the row's statement (the work); the ties are given (YtakhanlnfoajcaaDoorTie.lean); close each card by the builder's one call (the guide's Derived/Test/ToyasCard.lean, 'card_holds'). Laid BY PROGRAM, IN A SANDBOX (cutbox-door.mjs). By AI agents, Wed Nov 11 2026. No macro, syntax, notation, axiom, sorry.
-/
import Derived.Test.YtakhanlnfoajcaaDoorRows
import GoSem.ClaimSeven
namespace Go.Proofs.YtakhanlnfoajcaaDoor
namespace Rows

/-- THE TIED CARD OF 'tumbrellaw03.LabelTells'. -/
def labelTellsCard : Claim7 := { stood := { row := labelTellsRow, standIns := [], harness := (true, "50a68ea25de11eb98117a5ef4bcad4c98192b1f2dbedeb48948a1a90d6e20ae6"), looks := false }, kinds := [], alts := [], laidByText := true, laidKinds := [.data, .pinned], laidTests := true, laidLooks := .later }
def LabelTellsCardSaid : Prop := Claim7.holds Tryd.pinned (.plain (OpenSpec.ofChange labelTellsSpec)) labelTellsCard

/-- THE TIED CARD OF 'tumbrellaw03.LabelFolds'. -/
def labelFoldsCard : Claim7 := { stood := { row := labelFoldsRow, standIns := [], harness := (true, "50a68ea25de11eb98117a5ef4bcad4c98192b1f2dbedeb48948a1a90d6e20ae6"), looks := false }, kinds := [], alts := [], laidByText := true, laidKinds := [.data, .pinned], laidTests := true, laidLooks := .later }
def LabelFoldsCardSaid : Prop := Claim7.holds Tryd.pinned (.plain (OpenSpec.ofChange labelFoldsSpec)) labelFoldsCard

/-- THE TIED CARD OF 'tumbrellaw03.LabelCuts'. -/
def labelCutsCard : Claim7 := { stood := { row := labelCutsRow, standIns := [], harness := (true, "50a68ea25de11eb98117a5ef4bcad4c98192b1f2dbedeb48948a1a90d6e20ae6"), looks := false }, kinds := [], alts := [], laidByText := true, laidKinds := [.data, .pinned], laidTests := true, laidLooks := .later }
def LabelCutsCardSaid : Prop := Claim7.holds Tryd.pinned (.plain (OpenSpec.ofChange labelCutsSpec)) labelCutsCard

/-- THE TIED CARD OF 'tumbrellaw03.LabelOrders'. -/
def labelOrdersCard : Claim7 := { stood := { row := labelOrdersRow, standIns := [], harness := (true, "50a68ea25de11eb98117a5ef4bcad4c98192b1f2dbedeb48948a1a90d6e20ae6"), looks := false }, kinds := [], alts := [], laidByText := true, laidKinds := [.data, .pinned], laidTests := true, laidLooks := .later }
def LabelOrdersCardSaid : Prop := Claim7.holds Tryd.pinned (.plain (OpenSpec.ofChange labelOrdersSpec)) labelOrdersCard

/-- THE SECOND FORM's CARD OF 'tumbrellaw03.LabelTells'. -/
def labelTellsUptoCard : Claim7 := { stood := { row := labelTellsUptoRow, standIns := [], harness := (true, "50a68ea25de11eb98117a5ef4bcad4c98192b1f2dbedeb48948a1a90d6e20ae6"), looks := false }, kinds := [], alts := [], laidByText := true, laidKinds := [.data, .pinned], laidTests := true, laidLooks := .later }
def LabelTellsUptoCardSaid : Prop := Claim7.holds Tryd.pinned (.plain (OpenSpec.upto labelTellsSpec)) labelTellsUptoCard

/-- THE SECOND FORM's CARD OF 'tumbrellaw03.LabelFolds'. -/
def labelFoldsUptoCard : Claim7 := { stood := { row := labelFoldsUptoRow, standIns := [], harness := (true, "50a68ea25de11eb98117a5ef4bcad4c98192b1f2dbedeb48948a1a90d6e20ae6"), looks := false }, kinds := [], alts := [], laidByText := true, laidKinds := [.data, .pinned], laidTests := true, laidLooks := .later }
def LabelFoldsUptoCardSaid : Prop := Claim7.holds Tryd.pinned (.plain (OpenSpec.upto labelFoldsSpec)) labelFoldsUptoCard

/-- THE SECOND FORM's CARD OF 'tumbrellaw03.LabelCuts'. -/
def labelCutsUptoCard : Claim7 := { stood := { row := labelCutsUptoRow, standIns := [], harness := (true, "50a68ea25de11eb98117a5ef4bcad4c98192b1f2dbedeb48948a1a90d6e20ae6"), looks := false }, kinds := [], alts := [], laidByText := true, laidKinds := [.data, .pinned], laidTests := true, laidLooks := .later }
def LabelCutsUptoCardSaid : Prop := Claim7.holds Tryd.pinned (.plain (OpenSpec.upto labelCutsSpec)) labelCutsUptoCard

/-- THE SECOND FORM's CARD OF 'tumbrellaw03.LabelOrders'. -/
def labelOrdersUptoCard : Claim7 := { stood := { row := labelOrdersUptoRow, standIns := [], harness := (true, "50a68ea25de11eb98117a5ef4bcad4c98192b1f2dbedeb48948a1a90d6e20ae6"), looks := false }, kinds := [], alts := [], laidByText := true, laidKinds := [.data, .pinned], laidTests := true, laidLooks := .later }
def LabelOrdersUptoCardSaid : Prop := Claim7.holds Tryd.pinned (.plain (OpenSpec.upto labelOrdersSpec)) labelOrdersUptoCard
end Rows
end Go.Proofs.YtakhanlnfoajcaaDoor
