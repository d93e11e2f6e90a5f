/-
  DERIVED. GIVEN WITH THE SEED: THE CARDS: each row of YtcfgafododiioaaGreatDoorRows.lean that lists a variable, with what it lists TIED to the program's text (the seventh form; the later family's looks); each row that meets fmt, with fmt's text TOLD by the authors' own Lean function (tested against real Go, not proved from fmt's source: count such statements apart). THE CARD IS WHAT COUNTS. Prove the row's statement (the work); the ties are given (YtcfgafododiioaaGreatDoorTie.lean); close each card by the builder's one call (the guide's Derived/Test/ToyasCard.lean, 'card_holds'). Laid BY PROGRAM, IN A SANDBOX (cutbox-door.mjs). By AI agents, Wed Nov 11 2026. No macro, syntax, notation, axiom, sorry.
-/
import Derived.Test.YtcfgafododiioaaGreatDoorRows
import GoSem.ClaimSeven
namespace Go.Proofs.YtcfgafododiioaaGreatDoor
namespace Rows

/-- THE TIED CARD OF 'tumbrellaw11.IndexDoes'. -/
def indexDoesCard : Claim7 := { stood := { row := indexDoesRow, standIns := [], harness := (true, "b75a0a2029df31947168175256bc4ee905fb898616d184a97e24bc6a373c662c"), looks := false }, kinds := [], alts := [], laidByText := true, laidKinds := [.data, .pinned], laidTests := true, laidLooks := .later }
def IndexDoesCardSaid : Prop := Claim7.holds Tryz.pinned (.plain (OpenSpec.ofChange indexDoesSpec)) indexDoesCard

/-- THE TIED CARD OF 'tumbrellaw11.IndexMade'. -/
def indexMadeCard : Claim7 := { stood := { row := indexMadeRow, standIns := [], harness := (true, "b75a0a2029df31947168175256bc4ee905fb898616d184a97e24bc6a373c662c"), looks := false }, kinds := [], alts := [], laidByText := true, laidKinds := [.data, .pinned], laidTests := true, laidLooks := .later }
def IndexMadeCardSaid : Prop := Claim7.holds Tryz.pinned (.plain (OpenSpec.ofChange indexMadeSpec)) indexMadeCard

/-- THE TIED CARD OF 'tumbrellaw11.IndexAgain'. -/
def indexAgainCard : Claim7 := { stood := { row := indexAgainRow, standIns := [], harness := (true, "b75a0a2029df31947168175256bc4ee905fb898616d184a97e24bc6a373c662c"), looks := false }, kinds := [], alts := [], laidByText := true, laidKinds := [.data, .pinned], laidTests := true, laidLooks := .later }
def IndexAgainCardSaid : Prop := Claim7.holds Tryz.pinned (.plain (OpenSpec.ofChange indexAgainSpec)) indexAgainCard

/-- THE TIED CARD OF 'tumbrellaw11.IndexKeeps'. -/
def indexKeepsCard : Claim7 := { stood := { row := indexKeepsRow, standIns := [], harness := (true, "b75a0a2029df31947168175256bc4ee905fb898616d184a97e24bc6a373c662c"), looks := false }, kinds := [], alts := [], laidByText := true, laidKinds := [.data, .pinned], laidTests := true, laidLooks := .later }
def IndexKeepsCardSaid : Prop := Claim7.holds Tryz.pinned (.plain (OpenSpec.ofChange indexKeepsSpec)) indexKeepsCard

/-- THE TIED CARD OF 'tumbrellaw11.IndexRow'. -/
def indexRowCard : Claim7 := { stood := { row := indexRowRow, standIns := [], harness := (true, "b75a0a2029df31947168175256bc4ee905fb898616d184a97e24bc6a373c662c"), looks := false }, kinds := [], alts := [], laidByText := true, laidKinds := [.data, .pinned], laidTests := true, laidLooks := .later }
def IndexRowCardSaid : Prop := Claim7.holds Tryz.pinned (.plain (OpenSpec.ofChange indexRowSpec)) indexRowCard

/-- THE TIED CARD OF 'tumbrellaw11.IndexDies'. -/
def indexDiesCard : Claim7 := { stood := { row := indexDiesRow, standIns := [], harness := (true, "b75a0a2029df31947168175256bc4ee905fb898616d184a97e24bc6a373c662c"), looks := false }, kinds := [], alts := [], laidByText := true, laidKinds := [.data, .pinned], laidTests := true, laidLooks := .later }
def IndexDiesCardSaid : Prop := Claim7.holds Tryz.pinned (.plain (OpenSpec.ofChange indexDiesSpec)) indexDiesCard

/-- THE TIED CARD OF 'tumbrellaw11.IndexSees'. -/
def indexSeesCard : Claim7 := { stood := { row := indexSeesRow, standIns := [], harness := (true, "b75a0a2029df31947168175256bc4ee905fb898616d184a97e24bc6a373c662c"), looks := false }, kinds := [], alts := [], laidByText := true, laidKinds := [.data, .pinned], laidTests := true, laidLooks := .later }
def IndexSeesCardSaid : Prop := Claim7.holds Tryz.pinned (.plain (OpenSpec.ofChange indexSeesSpec)) indexSeesCard

/-- THE TIED CARD OF 'tumbrellaw11.IndexTicks'. -/
def indexTicksCard : Claim7 := { stood := { row := indexTicksRow, standIns := [], harness := (true, "b75a0a2029df31947168175256bc4ee905fb898616d184a97e24bc6a373c662c"), looks := false }, kinds := [], alts := [], laidByText := true, laidKinds := [.data, .pinned], laidTests := true, laidLooks := .later }
def IndexTicksCardSaid : Prop := Claim7.holds Tryz.pinned (.plain (OpenSpec.ofChange indexTicksSpec)) indexTicksCard

/-- THE TIED CARD OF 'tumbrellaw11.IndexErrors'. -/
def indexErrorsCard : Claim7 := { stood := { row := indexErrorsRow, standIns := [], harness := (true, "b75a0a2029df31947168175256bc4ee905fb898616d184a97e24bc6a373c662c"), looks := false }, kinds := [], alts := [], laidByText := true, laidKinds := [.data, .pinned], laidTests := true, laidLooks := .later }
def IndexErrorsCardSaid : Prop := Claim7.holds Tryz.pinned (.plain (OpenSpec.ofChange indexErrorsSpec)) indexErrorsCard

/-- THE TIED CARD OF 'tumbrellaw11.IndexCopies'. -/
def indexCopiesCard : Claim7 := { stood := { row := indexCopiesRow, standIns := [], harness := (true, "b75a0a2029df31947168175256bc4ee905fb898616d184a97e24bc6a373c662c"), looks := false }, kinds := [], alts := [], laidByText := true, laidKinds := [.data, .pinned], laidTests := true, laidLooks := .later }
def IndexCopiesCardSaid : Prop := Claim7.holds Tryz.pinned (.plain (OpenSpec.ofChange indexCopiesSpec)) indexCopiesCard

/-- THE SECOND FORM's CARD OF 'tumbrellaw11.IndexDoes'. -/
def indexDoesUptoCard : Claim7 := { stood := { row := indexDoesUptoRow, standIns := [], harness := (true, "b75a0a2029df31947168175256bc4ee905fb898616d184a97e24bc6a373c662c"), looks := false }, kinds := [], alts := [], laidByText := true, laidKinds := [.data, .pinned], laidTests := true, laidLooks := .later }
def IndexDoesUptoCardSaid : Prop := Claim7.holds Tryz.pinned (.plain (OpenSpec.upto indexDoesSpec)) indexDoesUptoCard

/-- THE SECOND FORM's CARD OF 'tumbrellaw11.IndexMade'. -/
def indexMadeUptoCard : Claim7 := { stood := { row := indexMadeUptoRow, standIns := [], harness := (true, "b75a0a2029df31947168175256bc4ee905fb898616d184a97e24bc6a373c662c"), looks := false }, kinds := [], alts := [], laidByText := true, laidKinds := [.data, .pinned], laidTests := true, laidLooks := .later }
def IndexMadeUptoCardSaid : Prop := Claim7.holds Tryz.pinned (.plain (OpenSpec.upto indexMadeSpec)) indexMadeUptoCard

/-- THE SECOND FORM's CARD OF 'tumbrellaw11.IndexAgain'. -/
def indexAgainUptoCard : Claim7 := { stood := { row := indexAgainUptoRow, standIns := [], harness := (true, "b75a0a2029df31947168175256bc4ee905fb898616d184a97e24bc6a373c662c"), looks := false }, kinds := [], alts := [], laidByText := true, laidKinds := [.data, .pinned], laidTests := true, laidLooks := .later }
def IndexAgainUptoCardSaid : Prop := Claim7.holds Tryz.pinned (.plain (OpenSpec.upto indexAgainSpec)) indexAgainUptoCard

/-- THE SECOND FORM's CARD OF 'tumbrellaw11.IndexKeeps'. -/
def indexKeepsUptoCard : Claim7 := { stood := { row := indexKeepsUptoRow, standIns := [], harness := (true, "b75a0a2029df31947168175256bc4ee905fb898616d184a97e24bc6a373c662c"), looks := false }, kinds := [], alts := [], laidByText := true, laidKinds := [.data, .pinned], laidTests := true, laidLooks := .later }
def IndexKeepsUptoCardSaid : Prop := Claim7.holds Tryz.pinned (.plain (OpenSpec.upto indexKeepsSpec)) indexKeepsUptoCard

/-- THE SECOND FORM's CARD OF 'tumbrellaw11.IndexRow'. -/
def indexRowUptoCard : Claim7 := { stood := { row := indexRowUptoRow, standIns := [], harness := (true, "b75a0a2029df31947168175256bc4ee905fb898616d184a97e24bc6a373c662c"), looks := false }, kinds := [], alts := [], laidByText := true, laidKinds := [.data, .pinned], laidTests := true, laidLooks := .later }
def IndexRowUptoCardSaid : Prop := Claim7.holds Tryz.pinned (.plain (OpenSpec.upto indexRowSpec)) indexRowUptoCard

/-- THE SECOND FORM's CARD OF 'tumbrellaw11.IndexDies'. -/
def indexDiesUptoCard : Claim7 := { stood := { row := indexDiesUptoRow, standIns := [], harness := (true, "b75a0a2029df31947168175256bc4ee905fb898616d184a97e24bc6a373c662c"), looks := false }, kinds := [], alts := [], laidByText := true, laidKinds := [.data, .pinned], laidTests := true, laidLooks := .later }
def IndexDiesUptoCardSaid : Prop := Claim7.holds Tryz.pinned (.plain (OpenSpec.upto indexDiesSpec)) indexDiesUptoCard

/-- THE SECOND FORM's CARD OF 'tumbrellaw11.IndexSees'. -/
def indexSeesUptoCard : Claim7 := { stood := { row := indexSeesUptoRow, standIns := [], harness := (true, "b75a0a2029df31947168175256bc4ee905fb898616d184a97e24bc6a373c662c"), looks := false }, kinds := [], alts := [], laidByText := true, laidKinds := [.data, .pinned], laidTests := true, laidLooks := .later }
def IndexSeesUptoCardSaid : Prop := Claim7.holds Tryz.pinned (.plain (OpenSpec.upto indexSeesSpec)) indexSeesUptoCard

/-- THE SECOND FORM's CARD OF 'tumbrellaw11.IndexTicks'. -/
def indexTicksUptoCard : Claim7 := { stood := { row := indexTicksUptoRow, standIns := [], harness := (true, "b75a0a2029df31947168175256bc4ee905fb898616d184a97e24bc6a373c662c"), looks := false }, kinds := [], alts := [], laidByText := true, laidKinds := [.data, .pinned], laidTests := true, laidLooks := .later }
def IndexTicksUptoCardSaid : Prop := Claim7.holds Tryz.pinned (.plain (OpenSpec.upto indexTicksSpec)) indexTicksUptoCard

/-- THE SECOND FORM's CARD OF 'tumbrellaw11.IndexErrors'. -/
def indexErrorsUptoCard : Claim7 := { stood := { row := indexErrorsUptoRow, standIns := [], harness := (true, "b75a0a2029df31947168175256bc4ee905fb898616d184a97e24bc6a373c662c"), looks := false }, kinds := [], alts := [], laidByText := true, laidKinds := [.data, .pinned], laidTests := true, laidLooks := .later }
def IndexErrorsUptoCardSaid : Prop := Claim7.holds Tryz.pinned (.plain (OpenSpec.upto indexErrorsSpec)) indexErrorsUptoCard

/-- THE SECOND FORM's CARD OF 'tumbrellaw11.IndexCopies'. -/
def indexCopiesUptoCard : Claim7 := { stood := { row := indexCopiesUptoRow, standIns := [], harness := (true, "b75a0a2029df31947168175256bc4ee905fb898616d184a97e24bc6a373c662c"), looks := false }, kinds := [], alts := [], laidByText := true, laidKinds := [.data, .pinned], laidTests := true, laidLooks := .later }
def IndexCopiesUptoCardSaid : Prop := Claim7.holds Tryz.pinned (.plain (OpenSpec.upto indexCopiesSpec)) indexCopiesUptoCard
end Rows
end Go.Proofs.YtcfgafododiioaaGreatDoor
