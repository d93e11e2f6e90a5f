/-
  NARROWER THAN 'FOR EVERY INPUT', by the rows' own cells (each row's printed sentence says how): RootWhole: laid · RootBack: laid · RootTurned: laid.
  DERIVED. THE GIVEN ROWS OF THIS SEAT. 3 by the template 'for every input the law returns true; each argument reads behind the call as it read before'; 0 by the template 'total and deterministic' (their statements: YtiblhopjhpflpaaDoorTotals.lean).
  GIVEN WITH THE SEED: the statements are not yours to turn. If you find one false, say at which input.
  Laid BY PROGRAM, IN A SANDBOX (cutbox-rows.mjs): the forced cells as the released guide's own fill.sh prints them over the translation 1177b27f8d92897a… (all of the seat's roots in one cut). By AI agents, Wed Nov 11 2026. No macro, syntax, notation, axiom, sorry.
-/
import Derived.Test.YtiblhopjhpflpaaDoorChecked
import GoSem.Claim
import GoSem.ClaimJoined
import GoSem.ClaimMapViews
import Derived.JoinedTies
import Derived.KernelRfl
namespace Go.Proofs.YtiblhopjhpflpaaDoor
/- THE CELL 'sum', in the pinned program and in every row, IS THE sha256 OF THE DUMP (.gsa) THAT YtiblhopjhpflpaaDoorProg.lean LOADS. Nothing in Lean hashes anything: it is a label: what it is worth is what the hold of that sum in a sandbox is worth. -/
noncomputable def Tryd.pinned : Pinned := { name := "ytiblhopjhpflpaadoor", sum := "1177b27f8d92897a1ad1994123670514ebcaf5dff222783fa08684a16fdabc44", checked := Tryd.checked }
namespace Rows
def none {H : Type} : Left H := { results := [], args := [] }

/- WHAT THE LISTED PACKAGE-LEVEL VARIABLES READ AS WHEN THE CALL BEGINS. Each datum BY PROGRAM (the guide's laid-datum.mjs) off the statement by which the dump's own 'gosem.cut.vars' lays the variable. In a bare row this is a premise. The card (YtiblhopjhpflpaaDoorCards.lean) ties it to the program's text. -/
def laid_tumbrel_record_numbers {H : Type} : DataW H := .agg [.lit (.int .i64 0), .lit (.int .i64 0), .lit (.int .i64 5), .lit (.int .i64 2), .lit (.int .i64 1), .lit (.int .i64 2), .lit (.int .i64 2), .lit (.int .i64 1), .lit (.int .i64 1), .lit (.int .i64 1), .lit (.int .i64 1), .lit (.int .i64 1), .lit (.int .i64 5), .lit (.int .i64 7), .lit (.int .i64 10), .lit (.int .i64 2), .lit (.int .i64 1), .lit (.int .i64 1)]

/-- 'tumbrellaw16.RootWhole': WHATEVER THE INPUT: true; the input reads as it did. -/
def rootWholeSpec : ChangeSpec := { name := "rootWhole", fn := fun _ => fun
  | [d] => { results := [.lit (.bool true)], args := [d] }
  | _ => none }
def rootWholeRow : OpenClaim := { program := "ytiblhopjhpflpaadoor", sum := "1177b27f8d92897a1ad1994123670514ebcaf5dff222783fa08684a16fdabc44", func := "tumbrel/tumbrellaw16.RootWhole", spec := "rootWhole", inPlace := ["maps.clone"], unfollowed := true, recurses := true, named := ["tumbrel/record.numbers"], apart := false, laid := [("tumbrel/record.numbers", laid_tumbrel_record_numbers)] }
def RootWholeSaid : Prop := rootWholeRow.holds Tryd.pinned (OpenSpec.ofChange rootWholeSpec)

/-- ITS FALSE NEIGHBOUR: 'it returns false'. Refute it at one input. -/
def rootWholeWrong : ChangeSpec := { name := "rootWhole", fn := fun _ => fun
  | [d] => { results := [.lit (.bool false)], args := [d] }
  | _ => none }
def RootWholeWrongFalsely : Prop := rootWholeRow.holds Tryd.pinned (OpenSpec.ofChange rootWholeWrong)

/-- 'tumbrellaw16.RootBack': WHATEVER THE INPUT: true; the input reads as it did. -/
def rootBackSpec : ChangeSpec := { name := "rootBack", fn := fun _ => fun
  | [d1, d2] => { results := [.lit (.bool true)], args := [d1, d2] }
  | _ => none }
def rootBackRow : OpenClaim := { program := "ytiblhopjhpflpaadoor", sum := "1177b27f8d92897a1ad1994123670514ebcaf5dff222783fa08684a16fdabc44", func := "tumbrel/tumbrellaw16.RootBack", spec := "rootBack", inPlace := ["maps.clone"], unfollowed := true, recurses := true, named := ["tumbrel/record.numbers"], apart := false, laid := [("tumbrel/record.numbers", laid_tumbrel_record_numbers)] }
def RootBackSaid : Prop := rootBackRow.holds Tryd.pinned (OpenSpec.ofChange rootBackSpec)

/-- ITS FALSE NEIGHBOUR: 'it returns false'. Refute it at one input. -/
def rootBackWrong : ChangeSpec := { name := "rootBack", fn := fun _ => fun
  | [d1, d2] => { results := [.lit (.bool false)], args := [d1, d2] }
  | _ => none }
def RootBackWrongFalsely : Prop := rootBackRow.holds Tryd.pinned (OpenSpec.ofChange rootBackWrong)

/-- 'tumbrellaw16.RootTurned': WHATEVER THE INPUT: true; the input reads as it did. -/
def rootTurnedSpec : ChangeSpec := { name := "rootTurned", fn := fun _ => fun
  | [d1, d2, d3, d4] => { results := [.lit (.bool true)], args := [d1, d2, d3, d4] }
  | _ => none }
def rootTurnedRow : OpenClaim := { program := "ytiblhopjhpflpaadoor", sum := "1177b27f8d92897a1ad1994123670514ebcaf5dff222783fa08684a16fdabc44", func := "tumbrel/tumbrellaw16.RootTurned", spec := "rootTurned", inPlace := ["maps.clone"], unfollowed := true, recurses := true, named := ["tumbrel/record.numbers"], apart := false, laid := [("tumbrel/record.numbers", laid_tumbrel_record_numbers)] }
def RootTurnedSaid : Prop := rootTurnedRow.holds Tryd.pinned (OpenSpec.ofChange rootTurnedSpec)

/-- ITS FALSE NEIGHBOUR: 'it returns false'. Refute it at one input. -/
def rootTurnedWrong : ChangeSpec := { name := "rootTurned", fn := fun _ => fun
  | [d1, d2, d3, d4] => { results := [.lit (.bool false)], args := [d1, d2, d3, d4] }
  | _ => none }
def RootTurnedWrongFalsely : Prop := rootTurnedRow.holds Tryd.pinned (OpenSpec.ofChange rootTurnedWrong)

/- THE SECOND FORM. 'bulk': how many values and letters a reading holds, each counted each time it is reached (what is shared counts as often as it is met; a slice's spare places count too). A statement '..UptoSaid' is the law's where the arguments, and the package variables that the reading takes, are together of bulk at most 1048576: NARROWER than '..Said'. Prove '..Said' where nothing that the law and all that it calls make is longer than what came in: it says more and counts as full. Else prove '..UptoSaid'. A law counts once. -/
mutual
def uptoBulk {H : Type} : DataW H → Nat
  | .lit (.string bytes) => bytes.length + 1
  | .lit _ => 1
  | .nil => 1
  | .ptr d => uptoBulk d + 1
  | .slice elems spare => uptoBulkAll elems + uptoBulkAll spare + 1
  | .agg parts => uptoBulkAll parts + 1
  | .iface _ d => uptoBulk d + 1
  | .map entries => uptoBulkEntries entries + 1
  | .held _ => 1
def uptoBulkAll {H : Type} : List (DataW H) → Nat
  | [] => 0
  | d :: r => uptoBulk d + uptoBulkAll r
def uptoBulkEntries {H : Type} : List (Lit × DataW H) → Nat
  | [] => 0
  | x :: r => uptoBulkEntry x + uptoBulkEntries r
def uptoBulkEntry {H : Type} : Lit × DataW H → Nat
  | (.string bytes, d) => bytes.length + uptoBulk d + 1
  | (_, d) => uptoBulk d + 1
 end
def uptoSmall : (H : Type) → List (DataW H) → Bool := fun _ ds => decide (uptoBulkAll ds ≤ 1048576)
def OpenSpec.upto (s : _root_.Go.ChangeSpec) : _root_.Go.OpenSpec := { _root_.Go.OpenSpec.ofChange s with cond := some uptoSmall }

/-- 'tumbrellaw16.RootWhole', WHERE WHAT IT READS IS OF BULK AT MOST 1048576: true; the input reads as it did. -/
def rootWholeUptoRow : OpenClaim := { program := "ytiblhopjhpflpaadoor", sum := "1177b27f8d92897a1ad1994123670514ebcaf5dff222783fa08684a16fdabc44", func := "tumbrel/tumbrellaw16.RootWhole", spec := "rootWhole", inPlace := ["maps.clone"], unfollowed := true, recurses := true, named := ["tumbrel/record.numbers"], apart := false, laid := [("tumbrel/record.numbers", laid_tumbrel_record_numbers)], narrowed := true }
def RootWholeUptoSaid : Prop := rootWholeUptoRow.holds Tryd.pinned (OpenSpec.upto rootWholeSpec)

/-- 'tumbrellaw16.RootBack', WHERE WHAT IT READS IS OF BULK AT MOST 1048576: true; the input reads as it did. -/
def rootBackUptoRow : OpenClaim := { program := "ytiblhopjhpflpaadoor", sum := "1177b27f8d92897a1ad1994123670514ebcaf5dff222783fa08684a16fdabc44", func := "tumbrel/tumbrellaw16.RootBack", spec := "rootBack", inPlace := ["maps.clone"], unfollowed := true, recurses := true, named := ["tumbrel/record.numbers"], apart := false, laid := [("tumbrel/record.numbers", laid_tumbrel_record_numbers)], narrowed := true }
def RootBackUptoSaid : Prop := rootBackUptoRow.holds Tryd.pinned (OpenSpec.upto rootBackSpec)

/-- 'tumbrellaw16.RootTurned', WHERE WHAT IT READS IS OF BULK AT MOST 1048576: true; the input reads as it did. -/
def rootTurnedUptoRow : OpenClaim := { program := "ytiblhopjhpflpaadoor", sum := "1177b27f8d92897a1ad1994123670514ebcaf5dff222783fa08684a16fdabc44", func := "tumbrel/tumbrellaw16.RootTurned", spec := "rootTurned", inPlace := ["maps.clone"], unfollowed := true, recurses := true, named := ["tumbrel/record.numbers"], apart := false, laid := [("tumbrel/record.numbers", laid_tumbrel_record_numbers)], narrowed := true }
def RootTurnedUptoSaid : Prop := rootTurnedUptoRow.holds Tryd.pinned (OpenSpec.upto rootTurnedSpec)

end Rows
end Go.Proofs.YtiblhopjhpflpaaDoor
