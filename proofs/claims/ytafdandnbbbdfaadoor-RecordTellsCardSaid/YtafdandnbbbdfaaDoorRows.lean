/-
  NARROWER THAN 'FOR EVERY INPUT', by the rows' own cells (each row's printed sentence says how): RecordTells: laid · RecordLists: laid · RecordBack: laid · RecordTorn: laid.
  DERIVED. THE GIVEN ROWS OF THIS SEAT. 4 by the template 'for every input the law returns true; each argument reads behind the call as it read before'; 0 by the template 'total and deterministic' (their statements: YtafdandnbbbdfaaDoorTotals.lean).
  GIVEN WITH THE SEED: the statements are not yours to turn. If you find one false, say at which input.
  Laid BY PROGRAM, IN A SANDBOX (cutbox-rows.mjs): the forced cells as the released guide's own fill.sh prints them over the translation 74525668e37cbc38… (all of the seat's roots in one cut). By AI agents, Wed Nov 11 2026. No macro, syntax, notation, axiom, sorry.
-/
import Derived.Test.YtafdandnbbbdfaaDoorChecked
import GoSem.Claim
import GoSem.ClaimJoined
import GoSem.ClaimMapViews
import Derived.JoinedTies
import Derived.KernelRfl
namespace Go.Proofs.YtafdandnbbbdfaaDoor
/- THE CELL 'sum', in the pinned program and in every row, IS THE sha256 OF THE DUMP (.gsa) THAT YtafdandnbbbdfaaDoorProg.lean LOADS. Nothing in Lean hashes anything: it is a label: what it is worth is what the hold of that sum in a sandbox is worth. -/
noncomputable def Tryd.pinned : Pinned := { name := "ytafdandnbbbdfaadoor", sum := "74525668e37cbc386a5478034e4f55bb611b7e11fd8bed6a8ad26fc8c9837f2a", checked := Tryd.checked }
namespace Rows
def none {H : Type} : Left H := { results := [], args := [] }

/- WHAT THE LISTED PACKAGE-LEVEL VARIABLES READ AS WHEN THE CALL BEGINS. Each datum BY PROGRAM (the guide's laid-datum.mjs) off the statement by which the dump's own 'gosem.cut.vars' lays the variable. In a bare row this is a premise. The card (YtafdandnbbbdfaaDoorCards.lean) ties it to the program's text. -/
def laid_tumbrel_record_numbers {H : Type} : DataW H := .agg [.lit (.int .i64 0), .lit (.int .i64 0), .lit (.int .i64 5), .lit (.int .i64 2), .lit (.int .i64 1), .lit (.int .i64 2), .lit (.int .i64 2), .lit (.int .i64 1), .lit (.int .i64 1), .lit (.int .i64 1), .lit (.int .i64 1), .lit (.int .i64 1), .lit (.int .i64 5), .lit (.int .i64 7), .lit (.int .i64 10), .lit (.int .i64 2), .lit (.int .i64 1), .lit (.int .i64 1)]

/-- 'tumbrellaw05.RecordTells': WHATEVER THE INPUT: true; the input reads as it did. -/
def recordTellsSpec : ChangeSpec := { name := "recordTells", fn := fun _ => fun
  | [d1, d2, d3] => { results := [.lit (.bool true)], args := [d1, d2, d3] }
  | _ => none }
def recordTellsRow : OpenClaim := { program := "ytafdandnbbbdfaadoor", sum := "74525668e37cbc386a5478034e4f55bb611b7e11fd8bed6a8ad26fc8c9837f2a", func := "tumbrel/tumbrellaw05.RecordTells", spec := "recordTells", recurses := true, named := ["tumbrel/record.numbers"], apart := false, laid := [("tumbrel/record.numbers", laid_tumbrel_record_numbers)] }
def RecordTellsSaid : Prop := recordTellsRow.holds Tryd.pinned (OpenSpec.ofChange recordTellsSpec)

/-- ITS FALSE NEIGHBOUR: 'it returns false'. Refute it at one input. -/
def recordTellsWrong : ChangeSpec := { name := "recordTells", fn := fun _ => fun
  | [d1, d2, d3] => { results := [.lit (.bool false)], args := [d1, d2, d3] }
  | _ => none }
def RecordTellsWrongFalsely : Prop := recordTellsRow.holds Tryd.pinned (OpenSpec.ofChange recordTellsWrong)

/-- 'tumbrellaw05.RecordLists': WHATEVER THE INPUT: true; the input reads as it did. -/
def recordListsSpec : ChangeSpec := { name := "recordLists", fn := fun _ => fun
  | [d] => { results := [.lit (.bool true)], args := [d] }
  | _ => none }
def recordListsRow : OpenClaim := { program := "ytafdandnbbbdfaadoor", sum := "74525668e37cbc386a5478034e4f55bb611b7e11fd8bed6a8ad26fc8c9837f2a", func := "tumbrel/tumbrellaw05.RecordLists", spec := "recordLists", named := ["tumbrel/record.numbers"], apart := false, laid := [("tumbrel/record.numbers", laid_tumbrel_record_numbers)] }
def RecordListsSaid : Prop := recordListsRow.holds Tryd.pinned (OpenSpec.ofChange recordListsSpec)

/-- ITS FALSE NEIGHBOUR: 'it returns false'. Refute it at one input. -/
def recordListsWrong : ChangeSpec := { name := "recordLists", fn := fun _ => fun
  | [d] => { results := [.lit (.bool false)], args := [d] }
  | _ => none }
def RecordListsWrongFalsely : Prop := recordListsRow.holds Tryd.pinned (OpenSpec.ofChange recordListsWrong)

/-- 'tumbrellaw05.RecordBack': WHATEVER THE INPUT: true; the input reads as it did. -/
def recordBackSpec : ChangeSpec := { name := "recordBack", fn := fun _ => fun
  | [d1, d2] => { results := [.lit (.bool true)], args := [d1, d2] }
  | _ => none }
def recordBackRow : OpenClaim := { program := "ytafdandnbbbdfaadoor", sum := "74525668e37cbc386a5478034e4f55bb611b7e11fd8bed6a8ad26fc8c9837f2a", func := "tumbrel/tumbrellaw05.RecordBack", spec := "recordBack", named := ["tumbrel/record.numbers"], apart := false, laid := [("tumbrel/record.numbers", laid_tumbrel_record_numbers)] }
def RecordBackSaid : Prop := recordBackRow.holds Tryd.pinned (OpenSpec.ofChange recordBackSpec)

/-- ITS FALSE NEIGHBOUR: 'it returns false'. Refute it at one input. -/
def recordBackWrong : ChangeSpec := { name := "recordBack", fn := fun _ => fun
  | [d1, d2] => { results := [.lit (.bool false)], args := [d1, d2] }
  | _ => none }
def RecordBackWrongFalsely : Prop := recordBackRow.holds Tryd.pinned (OpenSpec.ofChange recordBackWrong)

/-- 'tumbrellaw05.RecordTorn': WHATEVER THE INPUT: true; the input reads as it did. -/
def recordTornSpec : ChangeSpec := { name := "recordTorn", fn := fun _ => fun
  | [d1, d2] => { results := [.lit (.bool true)], args := [d1, d2] }
  | _ => none }
def recordTornRow : OpenClaim := { program := "ytafdandnbbbdfaadoor", sum := "74525668e37cbc386a5478034e4f55bb611b7e11fd8bed6a8ad26fc8c9837f2a", func := "tumbrel/tumbrellaw05.RecordTorn", spec := "recordTorn", named := ["tumbrel/record.numbers"], apart := false, laid := [("tumbrel/record.numbers", laid_tumbrel_record_numbers)] }
def RecordTornSaid : Prop := recordTornRow.holds Tryd.pinned (OpenSpec.ofChange recordTornSpec)

/-- ITS FALSE NEIGHBOUR: 'it returns false'. Refute it at one input. -/
def recordTornWrong : ChangeSpec := { name := "recordTorn", fn := fun _ => fun
  | [d1, d2] => { results := [.lit (.bool false)], args := [d1, d2] }
  | _ => none }
def RecordTornWrongFalsely : Prop := recordTornRow.holds Tryd.pinned (OpenSpec.ofChange recordTornWrong)

/- THE SECOND FORM. 'bulk': how many values and letters a reading holds, each counted each time it is reached (what is shared counts as often as it is met; a slice's spare places count too). A statement '..UptoSaid' is the law's where the arguments, and the package variables that the reading takes, are together of bulk at most 1048576: NARROWER than '..Said'. Prove '..Said' where nothing that the law and all that it calls make is longer than what came in: it says more and counts as full. Else prove '..UptoSaid'. A law counts once. -/
mutual
def uptoBulk {H : Type} : DataW H → Nat
  | .lit (.string bytes) => bytes.length + 1
  | .lit _ => 1
  | .nil => 1
  | .ptr d => uptoBulk d + 1
  | .slice elems spare => uptoBulkAll elems + uptoBulkAll spare + 1
  | .agg parts => uptoBulkAll parts + 1
  | .iface _ d => uptoBulk d + 1
  | .map entries => uptoBulkEntries entries + 1
  | .held _ => 1
def uptoBulkAll {H : Type} : List (DataW H) → Nat
  | [] => 0
  | d :: r => uptoBulk d + uptoBulkAll r
def uptoBulkEntries {H : Type} : List (Lit × DataW H) → Nat
  | [] => 0
  | x :: r => uptoBulkEntry x + uptoBulkEntries r
def uptoBulkEntry {H : Type} : Lit × DataW H → Nat
  | (.string bytes, d) => bytes.length + uptoBulk d + 1
  | (_, d) => uptoBulk d + 1
 end
def uptoSmall : (H : Type) → List (DataW H) → Bool := fun _ ds => decide (uptoBulkAll ds ≤ 1048576)
def OpenSpec.upto (s : _root_.Go.ChangeSpec) : _root_.Go.OpenSpec := { _root_.Go.OpenSpec.ofChange s with cond := some uptoSmall }

/-- 'tumbrellaw05.RecordTells', WHERE WHAT IT READS IS OF BULK AT MOST 1048576: true; the input reads as it did. -/
def recordTellsUptoRow : OpenClaim := { program := "ytafdandnbbbdfaadoor", sum := "74525668e37cbc386a5478034e4f55bb611b7e11fd8bed6a8ad26fc8c9837f2a", func := "tumbrel/tumbrellaw05.RecordTells", spec := "recordTells", recurses := true, named := ["tumbrel/record.numbers"], apart := false, laid := [("tumbrel/record.numbers", laid_tumbrel_record_numbers)], narrowed := true }
def RecordTellsUptoSaid : Prop := recordTellsUptoRow.holds Tryd.pinned (OpenSpec.upto recordTellsSpec)

/-- 'tumbrellaw05.RecordLists', WHERE WHAT IT READS IS OF BULK AT MOST 1048576: true; the input reads as it did. -/
def recordListsUptoRow : OpenClaim := { program := "ytafdandnbbbdfaadoor", sum := "74525668e37cbc386a5478034e4f55bb611b7e11fd8bed6a8ad26fc8c9837f2a", func := "tumbrel/tumbrellaw05.RecordLists", spec := "recordLists", named := ["tumbrel/record.numbers"], apart := false, laid := [("tumbrel/record.numbers", laid_tumbrel_record_numbers)], narrowed := true }
def RecordListsUptoSaid : Prop := recordListsUptoRow.holds Tryd.pinned (OpenSpec.upto recordListsSpec)

/-- 'tumbrellaw05.RecordBack', WHERE WHAT IT READS IS OF BULK AT MOST 1048576: true; the input reads as it did. -/
def recordBackUptoRow : OpenClaim := { program := "ytafdandnbbbdfaadoor", sum := "74525668e37cbc386a5478034e4f55bb611b7e11fd8bed6a8ad26fc8c9837f2a", func := "tumbrel/tumbrellaw05.RecordBack", spec := "recordBack", named := ["tumbrel/record.numbers"], apart := false, laid := [("tumbrel/record.numbers", laid_tumbrel_record_numbers)], narrowed := true }
def RecordBackUptoSaid : Prop := recordBackUptoRow.holds Tryd.pinned (OpenSpec.upto recordBackSpec)

/-- 'tumbrellaw05.RecordTorn', WHERE WHAT IT READS IS OF BULK AT MOST 1048576: true; the input reads as it did. -/
def recordTornUptoRow : OpenClaim := { program := "ytafdandnbbbdfaadoor", sum := "74525668e37cbc386a5478034e4f55bb611b7e11fd8bed6a8ad26fc8c9837f2a", func := "tumbrel/tumbrellaw05.RecordTorn", spec := "recordTorn", named := ["tumbrel/record.numbers"], apart := false, laid := [("tumbrel/record.numbers", laid_tumbrel_record_numbers)], narrowed := true }
def RecordTornUptoSaid : Prop := recordTornUptoRow.holds Tryd.pinned (OpenSpec.upto recordTornSpec)

end Rows
end Go.Proofs.YtafdandnbbbdfaaDoor
