/-
  No cell of these rows narrows 'for every input' (looked for: loops, veiled, ifaces, maps, wideKeys, modest, calm, conditions, laid).
  DERIVED. THE GIVEN ROWS OF THIS SEAT. 3 by the template 'for every input the law returns true; each argument reads behind the call as it read before'; 0 by the template 'total and deterministic' (their statements: YtlnghgalmhmegaaTotals.lean).
  GIVEN WITH THE SEED: the statements are not yours to turn. If you find one false, say at which input.
  Laid BY PROGRAM, IN A SANDBOX (cutbox-rows.mjs): the forced cells as the released guide's own fill.sh prints them over the translation 9bfe8c1d57d72b39… (all of the seat's roots in one cut). By AI agents, Wed Nov 11 2026. No macro, syntax, notation, axiom, sorry.
-/
import Derived.Test.YtlnghgalmhmegaaChecked
import GoSem.Claim
import GoSem.ClaimJoined
import GoSem.ClaimMapViews
import Derived.JoinedTies
import Derived.KernelRfl
namespace Go.Proofs.Ytlnghgalmhmegaa
/- THE CELL 'sum', in the pinned program and in every row, IS THE sha256 OF THE DUMP (.gsa) THAT YtlnghgalmhmegaaProg.lean LOADS. Nothing in Lean hashes anything: it is a label: what it is worth is what the hold of that sum in a sandbox is worth. -/
noncomputable def Try.pinned : Pinned := { name := "ytlnghgalmhmegaa", sum := "9bfe8c1d57d72b39816c282348c92bd2824c53d3f357288606958dffad74d186", checked := Try.checked }
namespace Rows
def none {H : Type} : Left H := { results := [], args := [] }

/-- 'tumbrellaw08.LaneDoes': WHATEVER THE INPUT: true; the input reads as it did. -/
def laneDoesSpec : ChangeSpec := { name := "laneDoes", fn := fun _ => fun
  | [d1, d2] => { results := [.lit (.bool true)], args := [d1, d2] }
  | _ => none }
def laneDoesRow : OpenClaim := { program := "ytlnghgalmhmegaa", sum := "9bfe8c1d57d72b39816c282348c92bd2824c53d3f357288606958dffad74d186", func := "tumbrel/tumbrellaw08.LaneDoes", spec := "laneDoes", unfollowed := true, recurses := true, apart := false }
def LaneDoesSaid : Prop := laneDoesRow.holds Try.pinned (OpenSpec.ofChange laneDoesSpec)

/-- ITS FALSE NEIGHBOUR: 'it returns false'. Refute it at one input. -/
def laneDoesWrong : ChangeSpec := { name := "laneDoes", fn := fun _ => fun
  | [d1, d2] => { results := [.lit (.bool false)], args := [d1, d2] }
  | _ => none }
def LaneDoesWrongFalsely : Prop := laneDoesRow.holds Try.pinned (OpenSpec.ofChange laneDoesWrong)

/-- 'tumbrellaw08.LaneRow': WHATEVER THE INPUT: true; the input reads as it did. -/
def laneRowSpec : ChangeSpec := { name := "laneRow", fn := fun _ => fun
  | [d] => { results := [.lit (.bool true)], args := [d] }
  | _ => none }
def laneRowRow : OpenClaim := { program := "ytlnghgalmhmegaa", sum := "9bfe8c1d57d72b39816c282348c92bd2824c53d3f357288606958dffad74d186", func := "tumbrel/tumbrellaw08.LaneRow", spec := "laneRow", unfollowed := true, recurses := true, apart := false }
def LaneRowSaid : Prop := laneRowRow.holds Try.pinned (OpenSpec.ofChange laneRowSpec)

/-- ITS FALSE NEIGHBOUR: 'it returns false'. Refute it at one input. -/
def laneRowWrong : ChangeSpec := { name := "laneRow", fn := fun _ => fun
  | [d] => { results := [.lit (.bool false)], args := [d] }
  | _ => none }
def LaneRowWrongFalsely : Prop := laneRowRow.holds Try.pinned (OpenSpec.ofChange laneRowWrong)

/-- 'tumbrellaw08.LaneDropped': WHATEVER THE INPUT: true; the input reads as it did. -/
def laneDroppedSpec : ChangeSpec := { name := "laneDropped", fn := fun _ => fun
  | [d1, d2] => { results := [.lit (.bool true)], args := [d1, d2] }
  | _ => none }
def laneDroppedRow : OpenClaim := { program := "ytlnghgalmhmegaa", sum := "9bfe8c1d57d72b39816c282348c92bd2824c53d3f357288606958dffad74d186", func := "tumbrel/tumbrellaw08.LaneDropped", spec := "laneDropped", unfollowed := true, recurses := true, apart := false }
def LaneDroppedSaid : Prop := laneDroppedRow.holds Try.pinned (OpenSpec.ofChange laneDroppedSpec)

/-- ITS FALSE NEIGHBOUR: 'it returns false'. Refute it at one input. -/
def laneDroppedWrong : ChangeSpec := { name := "laneDropped", fn := fun _ => fun
  | [d1, d2] => { results := [.lit (.bool false)], args := [d1, d2] }
  | _ => none }
def LaneDroppedWrongFalsely : Prop := laneDroppedRow.holds Try.pinned (OpenSpec.ofChange laneDroppedWrong)

/- THE SECOND FORM. 'bulk': how many values and letters a reading holds, each counted each time it is reached (what is shared counts as often as it is met; a slice's spare places count too). A statement '..UptoSaid' is the law's where the arguments, and the package variables that the reading takes, are together of bulk at most 1048576: NARROWER than '..Said'. Prove '..Said' where nothing that the law and all that it calls make is longer than what came in: it says more and counts as full. Else prove '..UptoSaid'. A law counts once. -/
mutual
def uptoBulk {H : Type} : DataW H → Nat
  | .lit (.string bytes) => bytes.length + 1
  | .lit _ => 1
  | .nil => 1
  | .ptr d => uptoBulk d + 1
  | .slice elems spare => uptoBulkAll elems + uptoBulkAll spare + 1
  | .agg parts => uptoBulkAll parts + 1
  | .iface _ d => uptoBulk d + 1
  | .map entries => uptoBulkEntries entries + 1
  | .held _ => 1
def uptoBulkAll {H : Type} : List (DataW H) → Nat
  | [] => 0
  | d :: r => uptoBulk d + uptoBulkAll r
def uptoBulkEntries {H : Type} : List (Lit × DataW H) → Nat
  | [] => 0
  | x :: r => uptoBulkEntry x + uptoBulkEntries r
def uptoBulkEntry {H : Type} : Lit × DataW H → Nat
  | (.string bytes, d) => bytes.length + uptoBulk d + 1
  | (_, d) => uptoBulk d + 1
 end
def uptoSmall : (H : Type) → List (DataW H) → Bool := fun _ ds => decide (uptoBulkAll ds ≤ 1048576)
def OpenSpec.upto (s : _root_.Go.ChangeSpec) : _root_.Go.OpenSpec := { _root_.Go.OpenSpec.ofChange s with cond := some uptoSmall }

/-- 'tumbrellaw08.LaneDoes', WHERE WHAT IT READS IS OF BULK AT MOST 1048576: true; the input reads as it did. -/
def laneDoesUptoRow : OpenClaim := { program := "ytlnghgalmhmegaa", sum := "9bfe8c1d57d72b39816c282348c92bd2824c53d3f357288606958dffad74d186", func := "tumbrel/tumbrellaw08.LaneDoes", spec := "laneDoes", unfollowed := true, recurses := true, apart := false, narrowed := true }
def LaneDoesUptoSaid : Prop := laneDoesUptoRow.holds Try.pinned (OpenSpec.upto laneDoesSpec)

/-- 'tumbrellaw08.LaneRow', WHERE WHAT IT READS IS OF BULK AT MOST 1048576: true; the input reads as it did. -/
def laneRowUptoRow : OpenClaim := { program := "ytlnghgalmhmegaa", sum := "9bfe8c1d57d72b39816c282348c92bd2824c53d3f357288606958dffad74d186", func := "tumbrel/tumbrellaw08.LaneRow", spec := "laneRow", unfollowed := true, recurses := true, apart := false, narrowed := true }
def LaneRowUptoSaid : Prop := laneRowUptoRow.holds Try.pinned (OpenSpec.upto laneRowSpec)

/-- 'tumbrellaw08.LaneDropped', WHERE WHAT IT READS IS OF BULK AT MOST 1048576: true; the input reads as it did. -/
def laneDroppedUptoRow : OpenClaim := { program := "ytlnghgalmhmegaa", sum := "9bfe8c1d57d72b39816c282348c92bd2824c53d3f357288606958dffad74d186", func := "tumbrel/tumbrellaw08.LaneDropped", spec := "laneDropped", unfollowed := true, recurses := true, apart := false, narrowed := true }
def LaneDroppedUptoSaid : Prop := laneDroppedUptoRow.holds Try.pinned (OpenSpec.upto laneDroppedSpec)

end Rows
end Go.Proofs.Ytlnghgalmhmegaa
