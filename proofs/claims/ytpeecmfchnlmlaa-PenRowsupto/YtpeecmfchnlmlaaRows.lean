/-
  No cell of these rows narrows 'for every input' (looked for: loops, veiled, ifaces, maps, wideKeys, modest, calm, conditions, laid).
  DERIVED. THE GIVEN ROWS OF THIS SEAT. 5 by the template 'for every input the law returns true; each argument reads behind the call as it read before'; 0 by the template 'total and deterministic' (their statements: YtpeecmfchnlmlaaTotals.lean).
  GIVEN WITH THE SEED: the statements are not yours to turn. If you find one false, say at which input.
  Laid BY PROGRAM, IN A SANDBOX (cutbox-rows.mjs): the forced cells as the released guide's own fill.sh prints them over the translation 64ae40a859ba9bd8… (all of the seat's roots in one cut). By AI agents, Wed Nov 11 2026. No macro, syntax, notation, axiom, sorry.
-/
import Derived.Test.YtpeecmfchnlmlaaChecked
import GoSem.Claim
import GoSem.ClaimJoined
import GoSem.ClaimMapViews
import Derived.JoinedTies
import Derived.KernelRfl
namespace Go.Proofs.Ytpeecmfchnlmlaa
/- THE CELL 'sum', in the pinned program and in every row, IS THE sha256 OF THE DUMP (.gsa) THAT YtpeecmfchnlmlaaProg.lean LOADS. Nothing in Lean hashes anything: it is a label: what it is worth is what the hold of that sum in a sandbox is worth. -/
noncomputable def Try.pinned : Pinned := { name := "ytpeecmfchnlmlaa", sum := "64ae40a859ba9bd838de45659ba494981035f0796fe64e6516214b19c7ee5014", checked := Try.checked }
namespace Rows
def none {H : Type} : Left H := { results := [], args := [] }

/-- 'treeringlaw2.PenTurns': WHATEVER THE INPUT: true; the input reads as it did. -/
def penTurnsSpec : ChangeSpec := { name := "penTurns", fn := fun _ => fun
  | [d1, d2, d3] => { results := [.lit (.bool true)], args := [d1, d2, d3] }
  | _ => none }
def penTurnsRow : OpenClaim := { program := "ytpeecmfchnlmlaa", sum := "64ae40a859ba9bd838de45659ba494981035f0796fe64e6516214b19c7ee5014", func := "treering/treeringlaw2.PenTurns", spec := "penTurns", inPlace := ["math.Float64bits", "math.Float64frombits"], apart := false }
def PenTurnsSaid : Prop := penTurnsRow.holds Try.pinned (OpenSpec.ofChange penTurnsSpec)

/-- ITS FALSE NEIGHBOUR: 'it returns false'. Refute it at one input. -/
def penTurnsWrong : ChangeSpec := { name := "penTurns", fn := fun _ => fun
  | [d1, d2, d3] => { results := [.lit (.bool false)], args := [d1, d2, d3] }
  | _ => none }
def PenTurnsWrongFalsely : Prop := penTurnsRow.holds Try.pinned (OpenSpec.ofChange penTurnsWrong)

/-- 'treeringlaw2.PenReads': WHATEVER THE INPUT: true; the input reads as it did. -/
def penReadsSpec : ChangeSpec := { name := "penReads", fn := fun _ => fun
  | [d1, d2] => { results := [.lit (.bool true)], args := [d1, d2] }
  | _ => none }
def penReadsRow : OpenClaim := { program := "ytpeecmfchnlmlaa", sum := "64ae40a859ba9bd838de45659ba494981035f0796fe64e6516214b19c7ee5014", func := "treering/treeringlaw2.PenReads", spec := "penReads", inPlace := ["math.Float64frombits", "math.Float64bits"], apart := false }
def PenReadsSaid : Prop := penReadsRow.holds Try.pinned (OpenSpec.ofChange penReadsSpec)

/-- ITS FALSE NEIGHBOUR: 'it returns false'. Refute it at one input. -/
def penReadsWrong : ChangeSpec := { name := "penReads", fn := fun _ => fun
  | [d1, d2] => { results := [.lit (.bool false)], args := [d1, d2] }
  | _ => none }
def PenReadsWrongFalsely : Prop := penReadsRow.holds Try.pinned (OpenSpec.ofChange penReadsWrong)

/-- 'treeringlaw2.PenNums': WHATEVER THE INPUT: true; the input reads as it did. -/
def penNumsSpec : ChangeSpec := { name := "penNums", fn := fun _ => fun
  | [d1, d2] => { results := [.lit (.bool true)], args := [d1, d2] }
  | _ => none }
def penNumsRow : OpenClaim := { program := "ytpeecmfchnlmlaa", sum := "64ae40a859ba9bd838de45659ba494981035f0796fe64e6516214b19c7ee5014", func := "treering/treeringlaw2.PenNums", spec := "penNums", apart := false }
def PenNumsSaid : Prop := penNumsRow.holds Try.pinned (OpenSpec.ofChange penNumsSpec)

/-- ITS FALSE NEIGHBOUR: 'it returns false'. Refute it at one input. -/
def penNumsWrong : ChangeSpec := { name := "penNums", fn := fun _ => fun
  | [d1, d2] => { results := [.lit (.bool false)], args := [d1, d2] }
  | _ => none }
def PenNumsWrongFalsely : Prop := penNumsRow.holds Try.pinned (OpenSpec.ofChange penNumsWrong)

/-- 'treeringlaw2.PenKnown': WHATEVER THE INPUT: true; the input reads as it did. -/
def penKnownSpec : ChangeSpec := { name := "penKnown", fn := fun _ => fun
  | [] => { results := [.lit (.bool true)], args := [] }
  | _ => none }
def penKnownRow : OpenClaim := { program := "ytpeecmfchnlmlaa", sum := "64ae40a859ba9bd838de45659ba494981035f0796fe64e6516214b19c7ee5014", func := "treering/treeringlaw2.PenKnown", spec := "penKnown", inPlace := ["math.Float64frombits", "math.Float64bits"], apart := false }
def PenKnownSaid : Prop := penKnownRow.holds Try.pinned (OpenSpec.ofChange penKnownSpec)

/-- ITS FALSE NEIGHBOUR: 'it returns false'. Refute it at one input. -/
def penKnownWrong : ChangeSpec := { name := "penKnown", fn := fun _ => fun
  | [] => { results := [.lit (.bool false)], args := [] }
  | _ => none }
def PenKnownWrongFalsely : Prop := penKnownRow.holds Try.pinned (OpenSpec.ofChange penKnownWrong)

/-- 'treeringlaw2.PenRows': WHATEVER THE INPUT: true; the input reads as it did. -/
def penRowsSpec : ChangeSpec := { name := "penRows", fn := fun _ => fun
  | [d1, d2, d3] => { results := [.lit (.bool true)], args := [d1, d2, d3] }
  | _ => none }
def penRowsRow : OpenClaim := { program := "ytpeecmfchnlmlaa", sum := "64ae40a859ba9bd838de45659ba494981035f0796fe64e6516214b19c7ee5014", func := "treering/treeringlaw2.PenRows", spec := "penRows", apart := false }
def PenRowsSaid : Prop := penRowsRow.holds Try.pinned (OpenSpec.ofChange penRowsSpec)

/-- ITS FALSE NEIGHBOUR: 'it returns false'. Refute it at one input. -/
def penRowsWrong : ChangeSpec := { name := "penRows", fn := fun _ => fun
  | [d1, d2, d3] => { results := [.lit (.bool false)], args := [d1, d2, d3] }
  | _ => none }
def PenRowsWrongFalsely : Prop := penRowsRow.holds Try.pinned (OpenSpec.ofChange penRowsWrong)

/- THE SECOND FORM. 'bulk': how many values and letters a reading holds, each counted each time it is reached (what is shared counts as often as it is met; a slice's spare places count too). A statement '..UptoSaid' is the law's where the arguments, and the package variables that the reading takes, are together of bulk at most 1048576: NARROWER than '..Said'. Prove '..Said' where nothing that the law and all that it calls make is longer than what came in: it says more and counts as full. Else prove '..UptoSaid'. A law counts once. -/
mutual
def uptoBulk {H : Type} : DataW H → Nat
  | .lit (.string bytes) => bytes.length + 1
  | .lit _ => 1
  | .nil => 1
  | .ptr d => uptoBulk d + 1
  | .slice elems spare => uptoBulkAll elems + uptoBulkAll spare + 1
  | .agg parts => uptoBulkAll parts + 1
  | .iface _ d => uptoBulk d + 1
  | .map entries => uptoBulkEntries entries + 1
  | .held _ => 1
def uptoBulkAll {H : Type} : List (DataW H) → Nat
  | [] => 0
  | d :: r => uptoBulk d + uptoBulkAll r
def uptoBulkEntries {H : Type} : List (Lit × DataW H) → Nat
  | [] => 0
  | x :: r => uptoBulkEntry x + uptoBulkEntries r
def uptoBulkEntry {H : Type} : Lit × DataW H → Nat
  | (.string bytes, d) => bytes.length + uptoBulk d + 1
  | (_, d) => uptoBulk d + 1
 end
def uptoSmall : (H : Type) → List (DataW H) → Bool := fun _ ds => decide (uptoBulkAll ds ≤ 1048576)
def OpenSpec.upto (s : _root_.Go.ChangeSpec) : _root_.Go.OpenSpec := { _root_.Go.OpenSpec.ofChange s with cond := some uptoSmall }

/-- 'treeringlaw2.PenTurns', WHERE WHAT IT READS IS OF BULK AT MOST 1048576: true; the input reads as it did. -/
def penTurnsUptoRow : OpenClaim := { program := "ytpeecmfchnlmlaa", sum := "64ae40a859ba9bd838de45659ba494981035f0796fe64e6516214b19c7ee5014", func := "treering/treeringlaw2.PenTurns", spec := "penTurns", inPlace := ["math.Float64bits", "math.Float64frombits"], apart := false, narrowed := true }
def PenTurnsUptoSaid : Prop := penTurnsUptoRow.holds Try.pinned (OpenSpec.upto penTurnsSpec)

/-- 'treeringlaw2.PenReads', WHERE WHAT IT READS IS OF BULK AT MOST 1048576: true; the input reads as it did. -/
def penReadsUptoRow : OpenClaim := { program := "ytpeecmfchnlmlaa", sum := "64ae40a859ba9bd838de45659ba494981035f0796fe64e6516214b19c7ee5014", func := "treering/treeringlaw2.PenReads", spec := "penReads", inPlace := ["math.Float64frombits", "math.Float64bits"], apart := false, narrowed := true }
def PenReadsUptoSaid : Prop := penReadsUptoRow.holds Try.pinned (OpenSpec.upto penReadsSpec)

/-- 'treeringlaw2.PenNums', WHERE WHAT IT READS IS OF BULK AT MOST 1048576: true; the input reads as it did. -/
def penNumsUptoRow : OpenClaim := { program := "ytpeecmfchnlmlaa", sum := "64ae40a859ba9bd838de45659ba494981035f0796fe64e6516214b19c7ee5014", func := "treering/treeringlaw2.PenNums", spec := "penNums", apart := false, narrowed := true }
def PenNumsUptoSaid : Prop := penNumsUptoRow.holds Try.pinned (OpenSpec.upto penNumsSpec)

/-- 'treeringlaw2.PenKnown', WHERE WHAT IT READS IS OF BULK AT MOST 1048576: true; the input reads as it did. -/
def penKnownUptoRow : OpenClaim := { program := "ytpeecmfchnlmlaa", sum := "64ae40a859ba9bd838de45659ba494981035f0796fe64e6516214b19c7ee5014", func := "treering/treeringlaw2.PenKnown", spec := "penKnown", inPlace := ["math.Float64frombits", "math.Float64bits"], apart := false, narrowed := true }
def PenKnownUptoSaid : Prop := penKnownUptoRow.holds Try.pinned (OpenSpec.upto penKnownSpec)

/-- 'treeringlaw2.PenRows', WHERE WHAT IT READS IS OF BULK AT MOST 1048576: true; the input reads as it did. -/
def penRowsUptoRow : OpenClaim := { program := "ytpeecmfchnlmlaa", sum := "64ae40a859ba9bd838de45659ba494981035f0796fe64e6516214b19c7ee5014", func := "treering/treeringlaw2.PenRows", spec := "penRows", apart := false, narrowed := true }
def PenRowsUptoSaid : Prop := penRowsUptoRow.holds Try.pinned (OpenSpec.upto penRowsSpec)

end Rows
end Go.Proofs.Ytpeecmfchnlmlaa
