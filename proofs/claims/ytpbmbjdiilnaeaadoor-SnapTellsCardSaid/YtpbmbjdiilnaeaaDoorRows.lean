/-
  NARROWER THAN 'FOR EVERY INPUT', by the rows' own cells (each row's printed sentence says how): SnapTells: laid · SnapBack: laid · SnapSegs: laid.
  DERIVED. THE GIVEN ROWS OF THIS SEAT. 3 by the template 'for every input the law returns true; each argument reads behind the call as it read before'; 0 by the template 'total and deterministic' (their statements: YtpbmbjdiilnaeaaDoorTotals.lean).
  GIVEN WITH THE SEED: the statements are not yours to turn. If you find one false, say at which input.
  Laid BY PROGRAM, IN A SANDBOX (cutbox-rows.mjs): the forced cells as the released guide's own fill.sh prints them over the translation 583624022cba9ea1… (all of the seat's roots in one cut). By AI agents, Wed Nov 11 2026. No macro, syntax, notation, axiom, sorry.
-/
import Derived.Test.YtpbmbjdiilnaeaaDoorChecked
import GoSem.Claim
import GoSem.ClaimJoined
import GoSem.ClaimMapViews
import Derived.JoinedTies
import Derived.KernelRfl
namespace Go.Proofs.YtpbmbjdiilnaeaaDoor
/- THE CELL 'sum', in the pinned program and in every row, IS THE sha256 OF THE DUMP (.gsa) THAT YtpbmbjdiilnaeaaDoorProg.lean LOADS. Nothing in Lean hashes anything: it is a label: what it is worth is what the hold of that sum in a sandbox is worth. -/
noncomputable def Tryd.pinned : Pinned := { name := "ytpbmbjdiilnaeaadoor", sum := "583624022cba9ea177de9cb4a7ffce736f1e909d8522ee280091246134438242", checked := Tryd.checked }
namespace Rows
def none {H : Type} : Left H := { results := [], args := [] }

/- WHAT THE LISTED PACKAGE-LEVEL VARIABLES READ AS WHEN THE CALL BEGINS. Each datum BY PROGRAM (the guide's laid-datum.mjs) off the statement by which the dump's own 'gosem.cut.vars' lays the variable. In a bare row this is a premise. The card (YtpbmbjdiilnaeaaDoorCards.lean) ties it to the program's text. -/
def laid_tumbrel_record_numbers {H : Type} : DataW H := .agg [.lit (.int .i64 0), .lit (.int .i64 0), .lit (.int .i64 5), .lit (.int .i64 2), .lit (.int .i64 1), .lit (.int .i64 2), .lit (.int .i64 2), .lit (.int .i64 1), .lit (.int .i64 1), .lit (.int .i64 1), .lit (.int .i64 1), .lit (.int .i64 1), .lit (.int .i64 5), .lit (.int .i64 7), .lit (.int .i64 10), .lit (.int .i64 2), .lit (.int .i64 1), .lit (.int .i64 1)]

/-- 'tumbrellaw13.SnapTells': WHATEVER THE INPUT: true; the input reads as it did. -/
def snapTellsSpec : ChangeSpec := { name := "snapTells", fn := fun _ => fun
  | [d1, d2] => { results := [.lit (.bool true)], args := [d1, d2] }
  | _ => none }
def snapTellsRow : OpenClaim := { program := "ytpbmbjdiilnaeaadoor", sum := "583624022cba9ea177de9cb4a7ffce736f1e909d8522ee280091246134438242", func := "tumbrel/tumbrellaw13.SnapTells", spec := "snapTells", unfollowed := true, recurses := true, named := ["tumbrel/record.numbers"], apart := false, laid := [("tumbrel/record.numbers", laid_tumbrel_record_numbers)] }
def SnapTellsSaid : Prop := snapTellsRow.holds Tryd.pinned (OpenSpec.ofChange snapTellsSpec)

/-- ITS FALSE NEIGHBOUR: 'it returns false'. Refute it at one input. -/
def snapTellsWrong : ChangeSpec := { name := "snapTells", fn := fun _ => fun
  | [d1, d2] => { results := [.lit (.bool false)], args := [d1, d2] }
  | _ => none }
def SnapTellsWrongFalsely : Prop := snapTellsRow.holds Tryd.pinned (OpenSpec.ofChange snapTellsWrong)

/-- 'tumbrellaw13.SnapBack': WHATEVER THE INPUT: true; the input reads as it did. -/
def snapBackSpec : ChangeSpec := { name := "snapBack", fn := fun _ => fun
  | [d1, d2, d3] => { results := [.lit (.bool true)], args := [d1, d2, d3] }
  | _ => none }
def snapBackRow : OpenClaim := { program := "ytpbmbjdiilnaeaadoor", sum := "583624022cba9ea177de9cb4a7ffce736f1e909d8522ee280091246134438242", func := "tumbrel/tumbrellaw13.SnapBack", spec := "snapBack", unfollowed := true, recurses := true, named := ["tumbrel/record.numbers"], apart := false, laid := [("tumbrel/record.numbers", laid_tumbrel_record_numbers)] }
def SnapBackSaid : Prop := snapBackRow.holds Tryd.pinned (OpenSpec.ofChange snapBackSpec)

/-- ITS FALSE NEIGHBOUR: 'it returns false'. Refute it at one input. -/
def snapBackWrong : ChangeSpec := { name := "snapBack", fn := fun _ => fun
  | [d1, d2, d3] => { results := [.lit (.bool false)], args := [d1, d2, d3] }
  | _ => none }
def SnapBackWrongFalsely : Prop := snapBackRow.holds Tryd.pinned (OpenSpec.ofChange snapBackWrong)

/-- 'tumbrellaw13.SnapSegs': WHATEVER THE INPUT: true; the input reads as it did. -/
def snapSegsSpec : ChangeSpec := { name := "snapSegs", fn := fun _ => fun
  | [d1, d2] => { results := [.lit (.bool true)], args := [d1, d2] }
  | _ => none }
def snapSegsRow : OpenClaim := { program := "ytpbmbjdiilnaeaadoor", sum := "583624022cba9ea177de9cb4a7ffce736f1e909d8522ee280091246134438242", func := "tumbrel/tumbrellaw13.SnapSegs", spec := "snapSegs", unfollowed := true, recurses := true, named := ["tumbrel/record.numbers"], apart := false, laid := [("tumbrel/record.numbers", laid_tumbrel_record_numbers)] }
def SnapSegsSaid : Prop := snapSegsRow.holds Tryd.pinned (OpenSpec.ofChange snapSegsSpec)

/-- ITS FALSE NEIGHBOUR: 'it returns false'. Refute it at one input. -/
def snapSegsWrong : ChangeSpec := { name := "snapSegs", fn := fun _ => fun
  | [d1, d2] => { results := [.lit (.bool false)], args := [d1, d2] }
  | _ => none }
def SnapSegsWrongFalsely : Prop := snapSegsRow.holds Tryd.pinned (OpenSpec.ofChange snapSegsWrong)

/- THE SECOND FORM. 'bulk': how many values and letters a reading holds, each counted each time it is reached (what is shared counts as often as it is met; a slice's spare places count too). A statement '..UptoSaid' is the law's where the arguments, and the package variables that the reading takes, are together of bulk at most 1048576: NARROWER than '..Said'. Prove '..Said' where nothing that the law and all that it calls make is longer than what came in: it says more and counts as full. Else prove '..UptoSaid'. A law counts once. -/
mutual
def uptoBulk {H : Type} : DataW H → Nat
  | .lit (.string bytes) => bytes.length + 1
  | .lit _ => 1
  | .nil => 1
  | .ptr d => uptoBulk d + 1
  | .slice elems spare => uptoBulkAll elems + uptoBulkAll spare + 1
  | .agg parts => uptoBulkAll parts + 1
  | .iface _ d => uptoBulk d + 1
  | .map entries => uptoBulkEntries entries + 1
  | .held _ => 1
def uptoBulkAll {H : Type} : List (DataW H) → Nat
  | [] => 0
  | d :: r => uptoBulk d + uptoBulkAll r
def uptoBulkEntries {H : Type} : List (Lit × DataW H) → Nat
  | [] => 0
  | x :: r => uptoBulkEntry x + uptoBulkEntries r
def uptoBulkEntry {H : Type} : Lit × DataW H → Nat
  | (.string bytes, d) => bytes.length + uptoBulk d + 1
  | (_, d) => uptoBulk d + 1
 end
def uptoSmall : (H : Type) → List (DataW H) → Bool := fun _ ds => decide (uptoBulkAll ds ≤ 1048576)
def OpenSpec.upto (s : _root_.Go.ChangeSpec) : _root_.Go.OpenSpec := { _root_.Go.OpenSpec.ofChange s with cond := some uptoSmall }

/-- 'tumbrellaw13.SnapTells', WHERE WHAT IT READS IS OF BULK AT MOST 1048576: true; the input reads as it did. -/
def snapTellsUptoRow : OpenClaim := { program := "ytpbmbjdiilnaeaadoor", sum := "583624022cba9ea177de9cb4a7ffce736f1e909d8522ee280091246134438242", func := "tumbrel/tumbrellaw13.SnapTells", spec := "snapTells", unfollowed := true, recurses := true, named := ["tumbrel/record.numbers"], apart := false, laid := [("tumbrel/record.numbers", laid_tumbrel_record_numbers)], narrowed := true }
def SnapTellsUptoSaid : Prop := snapTellsUptoRow.holds Tryd.pinned (OpenSpec.upto snapTellsSpec)

/-- 'tumbrellaw13.SnapBack', WHERE WHAT IT READS IS OF BULK AT MOST 1048576: true; the input reads as it did. -/
def snapBackUptoRow : OpenClaim := { program := "ytpbmbjdiilnaeaadoor", sum := "583624022cba9ea177de9cb4a7ffce736f1e909d8522ee280091246134438242", func := "tumbrel/tumbrellaw13.SnapBack", spec := "snapBack", unfollowed := true, recurses := true, named := ["tumbrel/record.numbers"], apart := false, laid := [("tumbrel/record.numbers", laid_tumbrel_record_numbers)], narrowed := true }
def SnapBackUptoSaid : Prop := snapBackUptoRow.holds Tryd.pinned (OpenSpec.upto snapBackSpec)

/-- 'tumbrellaw13.SnapSegs', WHERE WHAT IT READS IS OF BULK AT MOST 1048576: true; the input reads as it did. -/
def snapSegsUptoRow : OpenClaim := { program := "ytpbmbjdiilnaeaadoor", sum := "583624022cba9ea177de9cb4a7ffce736f1e909d8522ee280091246134438242", func := "tumbrel/tumbrellaw13.SnapSegs", spec := "snapSegs", unfollowed := true, recurses := true, named := ["tumbrel/record.numbers"], apart := false, laid := [("tumbrel/record.numbers", laid_tumbrel_record_numbers)], narrowed := true }
def SnapSegsUptoSaid : Prop := snapSegsUptoRow.holds Tryd.pinned (OpenSpec.upto snapSegsSpec)

end Rows
end Go.Proofs.YtpbmbjdiilnaeaaDoor
