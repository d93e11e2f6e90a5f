/-
  DERIVED. GIVEN WITH THE SEED: THE CARDS: each row of YtpbmbjdiilnaeaaDoorRows.lean that lists a variable, with what it lists TIED to the program's text (the seventh form; the later family's looks); each row that meets fmt, with fmt's text TOLD by the authors' own Lean function (tested against real Go, not proved from fmt's source: count such statements apart). THE CARD IS WHAT COUNTS. Prove the row's statement (the work); the ties are given (YtpbmbjdiilnaeaaDoorTie.lean); close each card by the builder's one call (the guide's Derived/Test/ToyasCard.lean, 'card_holds'). Laid BY PROGRAM, IN A SANDBOX (cutbox-door.mjs). By AI agents, Wed Nov 11 2026. No macro, syntax, notation, axiom, sorry.
-/
import Derived.Test.YtpbmbjdiilnaeaaDoorRows
import GoSem.ClaimSeven
namespace Go.Proofs.YtpbmbjdiilnaeaaDoor
namespace Rows

/-- THE TIED CARD OF 'tumbrellaw13.SnapTells'. -/
def snapTellsCard : Claim7 := { stood := { row := snapTellsRow, standIns := [], harness := (true, "5b5119f3694babb511badda4bec50f0e749f4285dfdf1d27b8ffef4a04d2f3e8"), looks := false }, kinds := [], alts := [], laidByText := true, laidKinds := [.data], laidTests := true, laidLooks := .later }
def SnapTellsCardSaid : Prop := Claim7.holds Tryd.pinned (.plain (OpenSpec.ofChange snapTellsSpec)) snapTellsCard

/-- THE TIED CARD OF 'tumbrellaw13.SnapBack'. -/
def snapBackCard : Claim7 := { stood := { row := snapBackRow, standIns := [], harness := (true, "5b5119f3694babb511badda4bec50f0e749f4285dfdf1d27b8ffef4a04d2f3e8"), looks := false }, kinds := [], alts := [], laidByText := true, laidKinds := [.data], laidTests := true, laidLooks := .later }
def SnapBackCardSaid : Prop := Claim7.holds Tryd.pinned (.plain (OpenSpec.ofChange snapBackSpec)) snapBackCard

/-- THE TIED CARD OF 'tumbrellaw13.SnapSegs'. -/
def snapSegsCard : Claim7 := { stood := { row := snapSegsRow, standIns := [], harness := (true, "5b5119f3694babb511badda4bec50f0e749f4285dfdf1d27b8ffef4a04d2f3e8"), looks := false }, kinds := [], alts := [], laidByText := true, laidKinds := [.data], laidTests := true, laidLooks := .later }
def SnapSegsCardSaid : Prop := Claim7.holds Tryd.pinned (.plain (OpenSpec.ofChange snapSegsSpec)) snapSegsCard

/-- THE SECOND FORM's CARD OF 'tumbrellaw13.SnapTells'. -/
def snapTellsUptoCard : Claim7 := { stood := { row := snapTellsUptoRow, standIns := [], harness := (true, "5b5119f3694babb511badda4bec50f0e749f4285dfdf1d27b8ffef4a04d2f3e8"), looks := false }, kinds := [], alts := [], laidByText := true, laidKinds := [.data], laidTests := true, laidLooks := .later }
def SnapTellsUptoCardSaid : Prop := Claim7.holds Tryd.pinned (.plain (OpenSpec.upto snapTellsSpec)) snapTellsUptoCard

/-- THE SECOND FORM's CARD OF 'tumbrellaw13.SnapBack'. -/
def snapBackUptoCard : Claim7 := { stood := { row := snapBackUptoRow, standIns := [], harness := (true, "5b5119f3694babb511badda4bec50f0e749f4285dfdf1d27b8ffef4a04d2f3e8"), looks := false }, kinds := [], alts := [], laidByText := true, laidKinds := [.data], laidTests := true, laidLooks := .later }
def SnapBackUptoCardSaid : Prop := Claim7.holds Tryd.pinned (.plain (OpenSpec.upto snapBackSpec)) snapBackUptoCard

/-- THE SECOND FORM's CARD OF 'tumbrellaw13.SnapSegs'. -/
def snapSegsUptoCard : Claim7 := { stood := { row := snapSegsUptoRow, standIns := [], harness := (true, "5b5119f3694babb511badda4bec50f0e749f4285dfdf1d27b8ffef4a04d2f3e8"), looks := false }, kinds := [], alts := [], laidByText := true, laidKinds := [.data], laidTests := true, laidLooks := .later }
def SnapSegsUptoCardSaid : Prop := Claim7.holds Tryd.pinned (.plain (OpenSpec.upto snapSegsSpec)) snapSegsUptoCard
end Rows
end Go.Proofs.YtpbmbjdiilnaeaaDoor
