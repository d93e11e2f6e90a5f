/-
  NARROWER THAN 'FOR EVERY INPUT', by the rows' own cells (each row's printed sentence says how): IndexDoes: laid · IndexMade: laid · IndexAgain: laid · IndexKeeps: laid · IndexRow: laid · IndexDies: laid · IndexSees: laid · IndexTicks: laid · IndexErrors: laid · IndexCopies: laid.
  DERIVED. THE GIVEN ROWS OF THIS SEAT. 10 by the template 'for every input the law returns true; each argument reads behind the call as it read before'; 0 by the template 'total and deterministic' (their statements: YtcfgafododiioaaGreatDoorTotals.lean).
  GIVEN WITH THE SEED: the statements are not yours to turn. If you find one false, say at which input.
  Laid BY PROGRAM, IN A SANDBOX (cutbox-rows.mjs): the forced cells as the released guide's own fill.sh prints them over the translation 26d685a19a1c84d9… (all of the seat's roots in one cut). By AI agents, Wed Nov 11 2026. No macro, syntax, notation, axiom, sorry.
-/
import Derived.Test.YtcfgafododiioaaGreatDoorChecked
import GoSem.PinnedTables
import GoSem.Claim
import GoSem.ClaimJoined
import GoSem.ClaimMapViews
import Derived.JoinedTies
import Derived.KernelRfl
namespace Go.Proofs.YtcfgafododiioaaGreatDoor
/- THE CELL 'sum', in the pinned program and in every row, IS THE sha256 OF THE DUMP (.gsa) THAT YtcfgafododiioaaGreatDoorProg.lean LOADS. Nothing in Lean hashes anything: it is a label: what it is worth is what the hold of that sum in a sandbox is worth. -/
noncomputable def Tryz.pinned : Pinned := { name := "ytcfgafododiioaagreatdoor", sum := "26d685a19a1c84d9042bb293bbd3436bd332783d963757760e9c2b2399290e82", checked := Tryz.checked }
namespace Rows
def none {H : Type} : Left H := { results := [], args := [] }

/- WHAT THE LISTED PACKAGE-LEVEL VARIABLES READ AS WHEN THE CALL BEGINS. Each datum BY PROGRAM (the guide's laid-datum.mjs) off the statement by which the dump's own 'gosem.cut.vars' lays the variable. In a bare row this is a premise. The card (YtcfgafododiioaaGreatDoorCards.lean) ties it to the program's text. -/
def laid_unicode_utf8_acceptRanges {H : Type} : DataW H := .agg [.agg [.lit (.int .u8 128), .lit (.int .u8 191)], .agg [.lit (.int .u8 160), .lit (.int .u8 191)], .agg [.lit (.int .u8 128), .lit (.int .u8 159)], .agg [.lit (.int .u8 144), .lit (.int .u8 191)], .agg [.lit (.int .u8 128), .lit (.int .u8 143)], .agg [.lit (.int .u8 0), .lit (.int .u8 0)], .agg [.lit (.int .u8 0), .lit (.int .u8 0)], .agg [.lit (.int .u8 0), .lit (.int .u8 0)], .agg [.lit (.int .u8 0), .lit (.int .u8 0)], .agg [.lit (.int .u8 0), .lit (.int .u8 0)], .agg [.lit (.int .u8 0), .lit (.int .u8 0)], .agg [.lit (.int .u8 0), .lit (.int .u8 0)], .agg [.lit (.int .u8 0), .lit (.int .u8 0)], .agg [.lit (.int .u8 0), .lit (.int .u8 0)], .agg [.lit (.int .u8 0), .lit (.int .u8 0)], .agg [.lit (.int .u8 0), .lit (.int .u8 0)]]
/-- One of Go's own tables, pinned by name: the form's constant. -/
def laid_unicode_utf8_first : DataW Unit := Go.Pinned.utf8First

/-- 'tumbrellaw11.IndexDoes': WHATEVER THE INPUT: true; the input reads as it did. -/
def indexDoesSpec : ChangeSpec := { name := "indexDoes", fn := fun _ => fun
  | [d1, d2] => { results := [.lit (.bool true)], args := [d1, d2] }
  | _ => none }
def indexDoesRow : OpenClaim := { program := "ytcfgafododiioaagreatdoor", sum := "26d685a19a1c84d9042bb293bbd3436bd332783d963757760e9c2b2399290e82", func := "tumbrel/tumbrellaw11.IndexDoes", spec := "indexDoes", inPlace := ["internal/abi.NoEscape", "internal/bytealg.MakeNoZero"], unfollowed := true, recurses := true, named := ["unicode/utf8.first", "unicode/utf8.acceptRanges"], apart := false, laid := [("unicode/utf8.acceptRanges", laid_unicode_utf8_acceptRanges), ("unicode/utf8.first", laid_unicode_utf8_first)] }
def IndexDoesSaid : Prop := indexDoesRow.holds Tryz.pinned (OpenSpec.ofChange indexDoesSpec)

/-- ITS FALSE NEIGHBOUR: 'it returns false'. Refute it at one input. -/
def indexDoesWrong : ChangeSpec := { name := "indexDoes", fn := fun _ => fun
  | [d1, d2] => { results := [.lit (.bool false)], args := [d1, d2] }
  | _ => none }
def IndexDoesWrongFalsely : Prop := indexDoesRow.holds Tryz.pinned (OpenSpec.ofChange indexDoesWrong)

/-- 'tumbrellaw11.IndexMade': WHATEVER THE INPUT: true; the input reads as it did. -/
def indexMadeSpec : ChangeSpec := { name := "indexMade", fn := fun _ => fun
  | [d1, d2, d3] => { results := [.lit (.bool true)], args := [d1, d2, d3] }
  | _ => none }
def indexMadeRow : OpenClaim := { program := "ytcfgafododiioaagreatdoor", sum := "26d685a19a1c84d9042bb293bbd3436bd332783d963757760e9c2b2399290e82", func := "tumbrel/tumbrellaw11.IndexMade", spec := "indexMade", inPlace := ["internal/abi.NoEscape", "internal/bytealg.MakeNoZero"], unfollowed := true, recurses := true, named := ["unicode/utf8.first", "unicode/utf8.acceptRanges"], apart := false, laid := [("unicode/utf8.acceptRanges", laid_unicode_utf8_acceptRanges), ("unicode/utf8.first", laid_unicode_utf8_first)] }
def IndexMadeSaid : Prop := indexMadeRow.holds Tryz.pinned (OpenSpec.ofChange indexMadeSpec)

/-- ITS FALSE NEIGHBOUR: 'it returns false'. Refute it at one input. -/
def indexMadeWrong : ChangeSpec := { name := "indexMade", fn := fun _ => fun
  | [d1, d2, d3] => { results := [.lit (.bool false)], args := [d1, d2, d3] }
  | _ => none }
def IndexMadeWrongFalsely : Prop := indexMadeRow.holds Tryz.pinned (OpenSpec.ofChange indexMadeWrong)

/-- 'tumbrellaw11.IndexAgain': WHATEVER THE INPUT: true; the input reads as it did. -/
def indexAgainSpec : ChangeSpec := { name := "indexAgain", fn := fun _ => fun
  | [d1, d2, d3] => { results := [.lit (.bool true)], args := [d1, d2, d3] }
  | _ => none }
def indexAgainRow : OpenClaim := { program := "ytcfgafododiioaagreatdoor", sum := "26d685a19a1c84d9042bb293bbd3436bd332783d963757760e9c2b2399290e82", func := "tumbrel/tumbrellaw11.IndexAgain", spec := "indexAgain", inPlace := ["internal/abi.NoEscape", "internal/bytealg.MakeNoZero"], unfollowed := true, recurses := true, named := ["unicode/utf8.first", "unicode/utf8.acceptRanges"], apart := false, laid := [("unicode/utf8.acceptRanges", laid_unicode_utf8_acceptRanges), ("unicode/utf8.first", laid_unicode_utf8_first)] }
def IndexAgainSaid : Prop := indexAgainRow.holds Tryz.pinned (OpenSpec.ofChange indexAgainSpec)

/-- ITS FALSE NEIGHBOUR: 'it returns false'. Refute it at one input. -/
def indexAgainWrong : ChangeSpec := { name := "indexAgain", fn := fun _ => fun
  | [d1, d2, d3] => { results := [.lit (.bool false)], args := [d1, d2, d3] }
  | _ => none }
def IndexAgainWrongFalsely : Prop := indexAgainRow.holds Tryz.pinned (OpenSpec.ofChange indexAgainWrong)

/-- 'tumbrellaw11.IndexKeeps': WHATEVER THE INPUT: true; the input reads as it did. -/
def indexKeepsSpec : ChangeSpec := { name := "indexKeeps", fn := fun _ => fun
  | [d1, d2] => { results := [.lit (.bool true)], args := [d1, d2] }
  | _ => none }
def indexKeepsRow : OpenClaim := { program := "ytcfgafododiioaagreatdoor", sum := "26d685a19a1c84d9042bb293bbd3436bd332783d963757760e9c2b2399290e82", func := "tumbrel/tumbrellaw11.IndexKeeps", spec := "indexKeeps", inPlace := ["internal/abi.NoEscape", "internal/bytealg.MakeNoZero"], unfollowed := true, recurses := true, named := ["unicode/utf8.first", "unicode/utf8.acceptRanges"], apart := false, laid := [("unicode/utf8.acceptRanges", laid_unicode_utf8_acceptRanges), ("unicode/utf8.first", laid_unicode_utf8_first)] }
def IndexKeepsSaid : Prop := indexKeepsRow.holds Tryz.pinned (OpenSpec.ofChange indexKeepsSpec)

/-- ITS FALSE NEIGHBOUR: 'it returns false'. Refute it at one input. -/
def indexKeepsWrong : ChangeSpec := { name := "indexKeeps", fn := fun _ => fun
  | [d1, d2] => { results := [.lit (.bool false)], args := [d1, d2] }
  | _ => none }
def IndexKeepsWrongFalsely : Prop := indexKeepsRow.holds Tryz.pinned (OpenSpec.ofChange indexKeepsWrong)

/-- 'tumbrellaw11.IndexRow': WHATEVER THE INPUT: true; the input reads as it did. -/
def indexRowSpec : ChangeSpec := { name := "indexRow", fn := fun _ => fun
  | [d1, d2, d3] => { results := [.lit (.bool true)], args := [d1, d2, d3] }
  | _ => none }
def indexRowRow : OpenClaim := { program := "ytcfgafododiioaagreatdoor", sum := "26d685a19a1c84d9042bb293bbd3436bd332783d963757760e9c2b2399290e82", func := "tumbrel/tumbrellaw11.IndexRow", spec := "indexRow", inPlace := ["internal/abi.NoEscape", "internal/bytealg.MakeNoZero"], unfollowed := true, recurses := true, named := ["unicode/utf8.first", "unicode/utf8.acceptRanges"], apart := false, laid := [("unicode/utf8.acceptRanges", laid_unicode_utf8_acceptRanges), ("unicode/utf8.first", laid_unicode_utf8_first)] }
def IndexRowSaid : Prop := indexRowRow.holds Tryz.pinned (OpenSpec.ofChange indexRowSpec)

/-- ITS FALSE NEIGHBOUR: 'it returns false'. Refute it at one input. -/
def indexRowWrong : ChangeSpec := { name := "indexRow", fn := fun _ => fun
  | [d1, d2, d3] => { results := [.lit (.bool false)], args := [d1, d2, d3] }
  | _ => none }
def IndexRowWrongFalsely : Prop := indexRowRow.holds Tryz.pinned (OpenSpec.ofChange indexRowWrong)

/-- 'tumbrellaw11.IndexDies': WHATEVER THE INPUT: true; the input reads as it did. -/
def indexDiesSpec : ChangeSpec := { name := "indexDies", fn := fun _ => fun
  | [d1, d2, d3, d4] => { results := [.lit (.bool true)], args := [d1, d2, d3, d4] }
  | _ => none }
def indexDiesRow : OpenClaim := { program := "ytcfgafododiioaagreatdoor", sum := "26d685a19a1c84d9042bb293bbd3436bd332783d963757760e9c2b2399290e82", func := "tumbrel/tumbrellaw11.IndexDies", spec := "indexDies", inPlace := ["internal/abi.NoEscape", "internal/bytealg.MakeNoZero"], unfollowed := true, recurses := true, named := ["unicode/utf8.first", "unicode/utf8.acceptRanges"], apart := false, laid := [("unicode/utf8.acceptRanges", laid_unicode_utf8_acceptRanges), ("unicode/utf8.first", laid_unicode_utf8_first)] }
def IndexDiesSaid : Prop := indexDiesRow.holds Tryz.pinned (OpenSpec.ofChange indexDiesSpec)

/-- ITS FALSE NEIGHBOUR: 'it returns false'. Refute it at one input. -/
def indexDiesWrong : ChangeSpec := { name := "indexDies", fn := fun _ => fun
  | [d1, d2, d3, d4] => { results := [.lit (.bool false)], args := [d1, d2, d3, d4] }
  | _ => none }
def IndexDiesWrongFalsely : Prop := indexDiesRow.holds Tryz.pinned (OpenSpec.ofChange indexDiesWrong)

/-- 'tumbrellaw11.IndexSees': WHATEVER THE INPUT: true; the input reads as it did. -/
def indexSeesSpec : ChangeSpec := { name := "indexSees", fn := fun _ => fun
  | [d1, d2] => { results := [.lit (.bool true)], args := [d1, d2] }
  | _ => none }
def indexSeesRow : OpenClaim := { program := "ytcfgafododiioaagreatdoor", sum := "26d685a19a1c84d9042bb293bbd3436bd332783d963757760e9c2b2399290e82", func := "tumbrel/tumbrellaw11.IndexSees", spec := "indexSees", inPlace := ["internal/abi.NoEscape", "internal/bytealg.MakeNoZero"], unfollowed := true, recurses := true, named := ["unicode/utf8.first", "unicode/utf8.acceptRanges"], apart := false, laid := [("unicode/utf8.acceptRanges", laid_unicode_utf8_acceptRanges), ("unicode/utf8.first", laid_unicode_utf8_first)] }
def IndexSeesSaid : Prop := indexSeesRow.holds Tryz.pinned (OpenSpec.ofChange indexSeesSpec)

/-- ITS FALSE NEIGHBOUR: 'it returns false'. Refute it at one input. -/
def indexSeesWrong : ChangeSpec := { name := "indexSees", fn := fun _ => fun
  | [d1, d2] => { results := [.lit (.bool false)], args := [d1, d2] }
  | _ => none }
def IndexSeesWrongFalsely : Prop := indexSeesRow.holds Tryz.pinned (OpenSpec.ofChange indexSeesWrong)

/-- 'tumbrellaw11.IndexTicks': WHATEVER THE INPUT: true; the input reads as it did. -/
def indexTicksSpec : ChangeSpec := { name := "indexTicks", fn := fun _ => fun
  | [d1, d2, d3, d4] => { results := [.lit (.bool true)], args := [d1, d2, d3, d4] }
  | _ => none }
def indexTicksRow : OpenClaim := { program := "ytcfgafododiioaagreatdoor", sum := "26d685a19a1c84d9042bb293bbd3436bd332783d963757760e9c2b2399290e82", func := "tumbrel/tumbrellaw11.IndexTicks", spec := "indexTicks", inPlace := ["internal/abi.NoEscape", "internal/bytealg.MakeNoZero"], unfollowed := true, recurses := true, named := ["unicode/utf8.first", "unicode/utf8.acceptRanges"], apart := false, laid := [("unicode/utf8.acceptRanges", laid_unicode_utf8_acceptRanges), ("unicode/utf8.first", laid_unicode_utf8_first)] }
def IndexTicksSaid : Prop := indexTicksRow.holds Tryz.pinned (OpenSpec.ofChange indexTicksSpec)

/-- ITS FALSE NEIGHBOUR: 'it returns false'. Refute it at one input. -/
def indexTicksWrong : ChangeSpec := { name := "indexTicks", fn := fun _ => fun
  | [d1, d2, d3, d4] => { results := [.lit (.bool false)], args := [d1, d2, d3, d4] }
  | _ => none }
def IndexTicksWrongFalsely : Prop := indexTicksRow.holds Tryz.pinned (OpenSpec.ofChange indexTicksWrong)

/-- 'tumbrellaw11.IndexErrors': WHATEVER THE INPUT: true; the input reads as it did. -/
def indexErrorsSpec : ChangeSpec := { name := "indexErrors", fn := fun _ => fun
  | [d1, d2] => { results := [.lit (.bool true)], args := [d1, d2] }
  | _ => none }
def indexErrorsRow : OpenClaim := { program := "ytcfgafododiioaagreatdoor", sum := "26d685a19a1c84d9042bb293bbd3436bd332783d963757760e9c2b2399290e82", func := "tumbrel/tumbrellaw11.IndexErrors", spec := "indexErrors", inPlace := ["internal/abi.NoEscape", "internal/bytealg.MakeNoZero"], unfollowed := true, recurses := true, named := ["unicode/utf8.first", "unicode/utf8.acceptRanges"], apart := false, laid := [("unicode/utf8.acceptRanges", laid_unicode_utf8_acceptRanges), ("unicode/utf8.first", laid_unicode_utf8_first)] }
def IndexErrorsSaid : Prop := indexErrorsRow.holds Tryz.pinned (OpenSpec.ofChange indexErrorsSpec)

/-- ITS FALSE NEIGHBOUR: 'it returns false'. Refute it at one input. -/
def indexErrorsWrong : ChangeSpec := { name := "indexErrors", fn := fun _ => fun
  | [d1, d2] => { results := [.lit (.bool false)], args := [d1, d2] }
  | _ => none }
def IndexErrorsWrongFalsely : Prop := indexErrorsRow.holds Tryz.pinned (OpenSpec.ofChange indexErrorsWrong)

/-- 'tumbrellaw11.IndexCopies': WHATEVER THE INPUT: true; the input reads as it did. -/
def indexCopiesSpec : ChangeSpec := { name := "indexCopies", fn := fun _ => fun
  | [d1, d2, d3] => { results := [.lit (.bool true)], args := [d1, d2, d3] }
  | _ => none }
def indexCopiesRow : OpenClaim := { program := "ytcfgafododiioaagreatdoor", sum := "26d685a19a1c84d9042bb293bbd3436bd332783d963757760e9c2b2399290e82", func := "tumbrel/tumbrellaw11.IndexCopies", spec := "indexCopies", inPlace := ["internal/abi.NoEscape", "internal/bytealg.MakeNoZero"], unfollowed := true, recurses := true, named := ["unicode/utf8.first", "unicode/utf8.acceptRanges"], apart := false, laid := [("unicode/utf8.acceptRanges", laid_unicode_utf8_acceptRanges), ("unicode/utf8.first", laid_unicode_utf8_first)] }
def IndexCopiesSaid : Prop := indexCopiesRow.holds Tryz.pinned (OpenSpec.ofChange indexCopiesSpec)

/-- ITS FALSE NEIGHBOUR: 'it returns false'. Refute it at one input. -/
def indexCopiesWrong : ChangeSpec := { name := "indexCopies", fn := fun _ => fun
  | [d1, d2, d3] => { results := [.lit (.bool false)], args := [d1, d2, d3] }
  | _ => none }
def IndexCopiesWrongFalsely : Prop := indexCopiesRow.holds Tryz.pinned (OpenSpec.ofChange indexCopiesWrong)

/- THE SECOND FORM. 'bulk': how many values and letters a reading holds, each counted each time it is reached (what is shared counts as often as it is met; a slice's spare places count too). A statement '..UptoSaid' is the law's where the arguments, and the package variables that the reading takes, are together of bulk at most 1048576: NARROWER than '..Said'. Prove '..Said' where nothing that the law and all that it calls make is longer than what came in: it says more and counts as full. Else prove '..UptoSaid'. A law counts once. -/
mutual
def uptoBulk {H : Type} : DataW H → Nat
  | .lit (.string bytes) => bytes.length + 1
  | .lit _ => 1
  | .nil => 1
  | .ptr d => uptoBulk d + 1
  | .slice elems spare => uptoBulkAll elems + uptoBulkAll spare + 1
  | .agg parts => uptoBulkAll parts + 1
  | .iface _ d => uptoBulk d + 1
  | .map entries => uptoBulkEntries entries + 1
  | .held _ => 1
def uptoBulkAll {H : Type} : List (DataW H) → Nat
  | [] => 0
  | d :: r => uptoBulk d + uptoBulkAll r
def uptoBulkEntries {H : Type} : List (Lit × DataW H) → Nat
  | [] => 0
  | x :: r => uptoBulkEntry x + uptoBulkEntries r
def uptoBulkEntry {H : Type} : Lit × DataW H → Nat
  | (.string bytes, d) => bytes.length + uptoBulk d + 1
  | (_, d) => uptoBulk d + 1
 end
def uptoSmall : (H : Type) → List (DataW H) → Bool := fun _ ds => decide (uptoBulkAll ds ≤ 1048576)
def OpenSpec.upto (s : _root_.Go.ChangeSpec) : _root_.Go.OpenSpec := { _root_.Go.OpenSpec.ofChange s with cond := some uptoSmall }

/-- 'tumbrellaw11.IndexDoes', WHERE WHAT IT READS IS OF BULK AT MOST 1048576: true; the input reads as it did. -/
def indexDoesUptoRow : OpenClaim := { program := "ytcfgafododiioaagreatdoor", sum := "26d685a19a1c84d9042bb293bbd3436bd332783d963757760e9c2b2399290e82", func := "tumbrel/tumbrellaw11.IndexDoes", spec := "indexDoes", inPlace := ["internal/abi.NoEscape", "internal/bytealg.MakeNoZero"], unfollowed := true, recurses := true, named := ["unicode/utf8.first", "unicode/utf8.acceptRanges"], apart := false, laid := [("unicode/utf8.acceptRanges", laid_unicode_utf8_acceptRanges), ("unicode/utf8.first", laid_unicode_utf8_first)], narrowed := true }
def IndexDoesUptoSaid : Prop := indexDoesUptoRow.holds Tryz.pinned (OpenSpec.upto indexDoesSpec)

/-- 'tumbrellaw11.IndexMade', WHERE WHAT IT READS IS OF BULK AT MOST 1048576: true; the input reads as it did. -/
def indexMadeUptoRow : OpenClaim := { program := "ytcfgafododiioaagreatdoor", sum := "26d685a19a1c84d9042bb293bbd3436bd332783d963757760e9c2b2399290e82", func := "tumbrel/tumbrellaw11.IndexMade", spec := "indexMade", inPlace := ["internal/abi.NoEscape", "internal/bytealg.MakeNoZero"], unfollowed := true, recurses := true, named := ["unicode/utf8.first", "unicode/utf8.acceptRanges"], apart := false, laid := [("unicode/utf8.acceptRanges", laid_unicode_utf8_acceptRanges), ("unicode/utf8.first", laid_unicode_utf8_first)], narrowed := true }
def IndexMadeUptoSaid : Prop := indexMadeUptoRow.holds Tryz.pinned (OpenSpec.upto indexMadeSpec)

/-- 'tumbrellaw11.IndexAgain', WHERE WHAT IT READS IS OF BULK AT MOST 1048576: true; the input reads as it did. -/
def indexAgainUptoRow : OpenClaim := { program := "ytcfgafododiioaagreatdoor", sum := "26d685a19a1c84d9042bb293bbd3436bd332783d963757760e9c2b2399290e82", func := "tumbrel/tumbrellaw11.IndexAgain", spec := "indexAgain", inPlace := ["internal/abi.NoEscape", "internal/bytealg.MakeNoZero"], unfollowed := true, recurses := true, named := ["unicode/utf8.first", "unicode/utf8.acceptRanges"], apart := false, laid := [("unicode/utf8.acceptRanges", laid_unicode_utf8_acceptRanges), ("unicode/utf8.first", laid_unicode_utf8_first)], narrowed := true }
def IndexAgainUptoSaid : Prop := indexAgainUptoRow.holds Tryz.pinned (OpenSpec.upto indexAgainSpec)

/-- 'tumbrellaw11.IndexKeeps', WHERE WHAT IT READS IS OF BULK AT MOST 1048576: true; the input reads as it did. -/
def indexKeepsUptoRow : OpenClaim := { program := "ytcfgafododiioaagreatdoor", sum := "26d685a19a1c84d9042bb293bbd3436bd332783d963757760e9c2b2399290e82", func := "tumbrel/tumbrellaw11.IndexKeeps", spec := "indexKeeps", inPlace := ["internal/abi.NoEscape", "internal/bytealg.MakeNoZero"], unfollowed := true, recurses := true, named := ["unicode/utf8.first", "unicode/utf8.acceptRanges"], apart := false, laid := [("unicode/utf8.acceptRanges", laid_unicode_utf8_acceptRanges), ("unicode/utf8.first", laid_unicode_utf8_first)], narrowed := true }
def IndexKeepsUptoSaid : Prop := indexKeepsUptoRow.holds Tryz.pinned (OpenSpec.upto indexKeepsSpec)

/-- 'tumbrellaw11.IndexRow', WHERE WHAT IT READS IS OF BULK AT MOST 1048576: true; the input reads as it did. -/
def indexRowUptoRow : OpenClaim := { program := "ytcfgafododiioaagreatdoor", sum := "26d685a19a1c84d9042bb293bbd3436bd332783d963757760e9c2b2399290e82", func := "tumbrel/tumbrellaw11.IndexRow", spec := "indexRow", inPlace := ["internal/abi.NoEscape", "internal/bytealg.MakeNoZero"], unfollowed := true, recurses := true, named := ["unicode/utf8.first", "unicode/utf8.acceptRanges"], apart := false, laid := [("unicode/utf8.acceptRanges", laid_unicode_utf8_acceptRanges), ("unicode/utf8.first", laid_unicode_utf8_first)], narrowed := true }
def IndexRowUptoSaid : Prop := indexRowUptoRow.holds Tryz.pinned (OpenSpec.upto indexRowSpec)

/-- 'tumbrellaw11.IndexDies', WHERE WHAT IT READS IS OF BULK AT MOST 1048576: true; the input reads as it did. -/
def indexDiesUptoRow : OpenClaim := { program := "ytcfgafododiioaagreatdoor", sum := "26d685a19a1c84d9042bb293bbd3436bd332783d963757760e9c2b2399290e82", func := "tumbrel/tumbrellaw11.IndexDies", spec := "indexDies", inPlace := ["internal/abi.NoEscape", "internal/bytealg.MakeNoZero"], unfollowed := true, recurses := true, named := ["unicode/utf8.first", "unicode/utf8.acceptRanges"], apart := false, laid := [("unicode/utf8.acceptRanges", laid_unicode_utf8_acceptRanges), ("unicode/utf8.first", laid_unicode_utf8_first)], narrowed := true }
def IndexDiesUptoSaid : Prop := indexDiesUptoRow.holds Tryz.pinned (OpenSpec.upto indexDiesSpec)

/-- 'tumbrellaw11.IndexSees', WHERE WHAT IT READS IS OF BULK AT MOST 1048576: true; the input reads as it did. -/
def indexSeesUptoRow : OpenClaim := { program := "ytcfgafododiioaagreatdoor", sum := "26d685a19a1c84d9042bb293bbd3436bd332783d963757760e9c2b2399290e82", func := "tumbrel/tumbrellaw11.IndexSees", spec := "indexSees", inPlace := ["internal/abi.NoEscape", "internal/bytealg.MakeNoZero"], unfollowed := true, recurses := true, named := ["unicode/utf8.first", "unicode/utf8.acceptRanges"], apart := false, laid := [("unicode/utf8.acceptRanges", laid_unicode_utf8_acceptRanges), ("unicode/utf8.first", laid_unicode_utf8_first)], narrowed := true }
def IndexSeesUptoSaid : Prop := indexSeesUptoRow.holds Tryz.pinned (OpenSpec.upto indexSeesSpec)

/-- 'tumbrellaw11.IndexTicks', WHERE WHAT IT READS IS OF BULK AT MOST 1048576: true; the input reads as it did. -/
def indexTicksUptoRow : OpenClaim := { program := "ytcfgafododiioaagreatdoor", sum := "26d685a19a1c84d9042bb293bbd3436bd332783d963757760e9c2b2399290e82", func := "tumbrel/tumbrellaw11.IndexTicks", spec := "indexTicks", inPlace := ["internal/abi.NoEscape", "internal/bytealg.MakeNoZero"], unfollowed := true, recurses := true, named := ["unicode/utf8.first", "unicode/utf8.acceptRanges"], apart := false, laid := [("unicode/utf8.acceptRanges", laid_unicode_utf8_acceptRanges), ("unicode/utf8.first", laid_unicode_utf8_first)], narrowed := true }
def IndexTicksUptoSaid : Prop := indexTicksUptoRow.holds Tryz.pinned (OpenSpec.upto indexTicksSpec)

/-- 'tumbrellaw11.IndexErrors', WHERE WHAT IT READS IS OF BULK AT MOST 1048576: true; the input reads as it did. -/
def indexErrorsUptoRow : OpenClaim := { program := "ytcfgafododiioaagreatdoor", sum := "26d685a19a1c84d9042bb293bbd3436bd332783d963757760e9c2b2399290e82", func := "tumbrel/tumbrellaw11.IndexErrors", spec := "indexErrors", inPlace := ["internal/abi.NoEscape", "internal/bytealg.MakeNoZero"], unfollowed := true, recurses := true, named := ["unicode/utf8.first", "unicode/utf8.acceptRanges"], apart := false, laid := [("unicode/utf8.acceptRanges", laid_unicode_utf8_acceptRanges), ("unicode/utf8.first", laid_unicode_utf8_first)], narrowed := true }
def IndexErrorsUptoSaid : Prop := indexErrorsUptoRow.holds Tryz.pinned (OpenSpec.upto indexErrorsSpec)

/-- 'tumbrellaw11.IndexCopies', WHERE WHAT IT READS IS OF BULK AT MOST 1048576: true; the input reads as it did. -/
def indexCopiesUptoRow : OpenClaim := { program := "ytcfgafododiioaagreatdoor", sum := "26d685a19a1c84d9042bb293bbd3436bd332783d963757760e9c2b2399290e82", func := "tumbrel/tumbrellaw11.IndexCopies", spec := "indexCopies", inPlace := ["internal/abi.NoEscape", "internal/bytealg.MakeNoZero"], unfollowed := true, recurses := true, named := ["unicode/utf8.first", "unicode/utf8.acceptRanges"], apart := false, laid := [("unicode/utf8.acceptRanges", laid_unicode_utf8_acceptRanges), ("unicode/utf8.first", laid_unicode_utf8_first)], narrowed := true }
def IndexCopiesUptoSaid : Prop := indexCopiesUptoRow.holds Tryz.pinned (OpenSpec.upto indexCopiesSpec)

end Rows
end Go.Proofs.YtcfgafododiioaaGreatDoor
