/-
  No cell of these rows narrows 'for every input' (looked for: loops, veiled, ifaces, maps, wideKeys, modest, calm, conditions, laid).
  DERIVED. THE GIVEN ROWS OF THIS SEAT. 6 by the template 'for every input the law returns true; each argument reads behind the call as it read before'; 0 by the template 'total and deterministic' (their statements: YteohjfhflodklaaTotals.lean).
  GIVEN WITH THE SEED: the statements are not yours to turn. If you find one false, say at which input.
  Laid BY PROGRAM, IN A SANDBOX (cutbox-rows.mjs): the forced cells as the released guide's own fill.sh prints them over the translation e6a8928787a37ff7… (all of the seat's roots in one cut). By AI agents, Wed Nov 11 2026. No macro, syntax, notation, axiom, sorry.
-/
import Derived.Test.YteohjfhflodklaaChecked
import GoSem.Claim
import GoSem.ClaimJoined
import GoSem.ClaimMapViews
import Derived.JoinedTies
import Derived.KernelRfl
namespace Go.Proofs.Yteohjfhflodklaa
/- THE CELL 'sum', in the pinned program and in every row, IS THE sha256 OF THE DUMP (.gsa) THAT YteohjfhflodklaaProg.lean LOADS. Nothing in Lean hashes anything: it is a label: what it is worth is what the hold of that sum in a sandbox is worth. -/
noncomputable def Try.pinned : Pinned := { name := "yteohjfhflodklaa", sum := "e6a8928787a37ff79857060813d4e704a14939953417ba06b36b848f27862b99", checked := Try.checked }
namespace Rows
def none {H : Type} : Left H := { results := [], args := [] }

/-- 'treeringlaw8.LogPlays': WHATEVER THE INPUT: true; the input reads as it did. -/
def logPlaysSpec : ChangeSpec := { name := "logPlays", fn := fun _ => fun
  | [d1, d2, d3] => { results := [.lit (.bool true)], args := [d1, d2, d3] }
  | _ => none }
def logPlaysRow : OpenClaim := { program := "yteohjfhflodklaa", sum := "e6a8928787a37ff79857060813d4e704a14939953417ba06b36b848f27862b99", func := "treering/treeringlaw8.LogPlays", spec := "logPlays", unfollowed := true, recurses := true, apart := false }
def LogPlaysSaid : Prop := logPlaysRow.holds Try.pinned (OpenSpec.ofChange logPlaysSpec)

/-- ITS FALSE NEIGHBOUR: 'it returns false'. Refute it at one input. -/
def logPlaysWrong : ChangeSpec := { name := "logPlays", fn := fun _ => fun
  | [d1, d2, d3] => { results := [.lit (.bool false)], args := [d1, d2, d3] }
  | _ => none }
def LogPlaysWrongFalsely : Prop := logPlaysRow.holds Try.pinned (OpenSpec.ofChange logPlaysWrong)

/-- 'treeringlaw8.LogMore': WHATEVER THE INPUT: true; the input reads as it did. -/
def logMoreSpec : ChangeSpec := { name := "logMore", fn := fun _ => fun
  | [d1, d2, d3] => { results := [.lit (.bool true)], args := [d1, d2, d3] }
  | _ => none }
def logMoreRow : OpenClaim := { program := "yteohjfhflodklaa", sum := "e6a8928787a37ff79857060813d4e704a14939953417ba06b36b848f27862b99", func := "treering/treeringlaw8.LogMore", spec := "logMore", unfollowed := true, recurses := true, apart := false }
def LogMoreSaid : Prop := logMoreRow.holds Try.pinned (OpenSpec.ofChange logMoreSpec)

/-- ITS FALSE NEIGHBOUR: 'it returns false'. Refute it at one input. -/
def logMoreWrong : ChangeSpec := { name := "logMore", fn := fun _ => fun
  | [d1, d2, d3] => { results := [.lit (.bool false)], args := [d1, d2, d3] }
  | _ => none }
def LogMoreWrongFalsely : Prop := logMoreRow.holds Try.pinned (OpenSpec.ofChange logMoreWrong)

/-- 'treeringlaw8.LogSees': WHATEVER THE INPUT: true; the input reads as it did. -/
def logSeesSpec : ChangeSpec := { name := "logSees", fn := fun _ => fun
  | [d1, d2, d3] => { results := [.lit (.bool true)], args := [d1, d2, d3] }
  | _ => none }
def logSeesRow : OpenClaim := { program := "yteohjfhflodklaa", sum := "e6a8928787a37ff79857060813d4e704a14939953417ba06b36b848f27862b99", func := "treering/treeringlaw8.LogSees", spec := "logSees", unfollowed := true, recurses := true, apart := false }
def LogSeesSaid : Prop := logSeesRow.holds Try.pinned (OpenSpec.ofChange logSeesSpec)

/-- ITS FALSE NEIGHBOUR: 'it returns false'. Refute it at one input. -/
def logSeesWrong : ChangeSpec := { name := "logSees", fn := fun _ => fun
  | [d1, d2, d3] => { results := [.lit (.bool false)], args := [d1, d2, d3] }
  | _ => none }
def LogSeesWrongFalsely : Prop := logSeesRow.holds Try.pinned (OpenSpec.ofChange logSeesWrong)

/-- 'treeringlaw8.LogBoth': WHATEVER THE INPUT: true; the input reads as it did. -/
def logBothSpec : ChangeSpec := { name := "logBoth", fn := fun _ => fun
  | [d1, d2] => { results := [.lit (.bool true)], args := [d1, d2] }
  | _ => none }
def logBothRow : OpenClaim := { program := "yteohjfhflodklaa", sum := "e6a8928787a37ff79857060813d4e704a14939953417ba06b36b848f27862b99", func := "treering/treeringlaw8.LogBoth", spec := "logBoth", unfollowed := true, recurses := true, apart := false }
def LogBothSaid : Prop := logBothRow.holds Try.pinned (OpenSpec.ofChange logBothSpec)

/-- ITS FALSE NEIGHBOUR: 'it returns false'. Refute it at one input. -/
def logBothWrong : ChangeSpec := { name := "logBoth", fn := fun _ => fun
  | [d1, d2] => { results := [.lit (.bool false)], args := [d1, d2] }
  | _ => none }
def LogBothWrongFalsely : Prop := logBothRow.holds Try.pinned (OpenSpec.ofChange logBothWrong)

/-- 'treeringlaw8.LogTorn': WHATEVER THE INPUT: true; the input reads as it did. -/
def logTornSpec : ChangeSpec := { name := "logTorn", fn := fun _ => fun
  | [d1, d2, d3] => { results := [.lit (.bool true)], args := [d1, d2, d3] }
  | _ => none }
def logTornRow : OpenClaim := { program := "yteohjfhflodklaa", sum := "e6a8928787a37ff79857060813d4e704a14939953417ba06b36b848f27862b99", func := "treering/treeringlaw8.LogTorn", spec := "logTorn", unfollowed := true, recurses := true, apart := false }
def LogTornSaid : Prop := logTornRow.holds Try.pinned (OpenSpec.ofChange logTornSpec)

/-- ITS FALSE NEIGHBOUR: 'it returns false'. Refute it at one input. -/
def logTornWrong : ChangeSpec := { name := "logTorn", fn := fun _ => fun
  | [d1, d2, d3] => { results := [.lit (.bool false)], args := [d1, d2, d3] }
  | _ => none }
def LogTornWrongFalsely : Prop := logTornRow.holds Try.pinned (OpenSpec.ofChange logTornWrong)

/-- 'treeringlaw8.LogKnown': WHATEVER THE INPUT: true; the input reads as it did. -/
def logKnownSpec : ChangeSpec := { name := "logKnown", fn := fun _ => fun
  | [] => { results := [.lit (.bool true)], args := [] }
  | _ => none }
def logKnownRow : OpenClaim := { program := "yteohjfhflodklaa", sum := "e6a8928787a37ff79857060813d4e704a14939953417ba06b36b848f27862b99", func := "treering/treeringlaw8.LogKnown", spec := "logKnown", unfollowed := true, recurses := true, apart := false }
def LogKnownSaid : Prop := logKnownRow.holds Try.pinned (OpenSpec.ofChange logKnownSpec)

/-- ITS FALSE NEIGHBOUR: 'it returns false'. Refute it at one input. -/
def logKnownWrong : ChangeSpec := { name := "logKnown", fn := fun _ => fun
  | [] => { results := [.lit (.bool false)], args := [] }
  | _ => none }
def LogKnownWrongFalsely : Prop := logKnownRow.holds Try.pinned (OpenSpec.ofChange logKnownWrong)

/- THE SECOND FORM. 'bulk': how many values and letters a reading holds, each counted each time it is reached (what is shared counts as often as it is met; a slice's spare places count too). A statement '..UptoSaid' is the law's where the arguments, and the package variables that the reading takes, are together of bulk at most 1048576: NARROWER than '..Said'. Prove '..Said' where nothing that the law and all that it calls make is longer than what came in: it says more and counts as full. Else prove '..UptoSaid'. A law counts once. -/
mutual
def uptoBulk {H : Type} : DataW H → Nat
  | .lit (.string bytes) => bytes.length + 1
  | .lit _ => 1
  | .nil => 1
  | .ptr d => uptoBulk d + 1
  | .slice elems spare => uptoBulkAll elems + uptoBulkAll spare + 1
  | .agg parts => uptoBulkAll parts + 1
  | .iface _ d => uptoBulk d + 1
  | .map entries => uptoBulkEntries entries + 1
  | .held _ => 1
def uptoBulkAll {H : Type} : List (DataW H) → Nat
  | [] => 0
  | d :: r => uptoBulk d + uptoBulkAll r
def uptoBulkEntries {H : Type} : List (Lit × DataW H) → Nat
  | [] => 0
  | x :: r => uptoBulkEntry x + uptoBulkEntries r
def uptoBulkEntry {H : Type} : Lit × DataW H → Nat
  | (.string bytes, d) => bytes.length + uptoBulk d + 1
  | (_, d) => uptoBulk d + 1
 end
def uptoSmall : (H : Type) → List (DataW H) → Bool := fun _ ds => decide (uptoBulkAll ds ≤ 1048576)
def OpenSpec.upto (s : _root_.Go.ChangeSpec) : _root_.Go.OpenSpec := { _root_.Go.OpenSpec.ofChange s with cond := some uptoSmall }

/-- 'treeringlaw8.LogPlays', WHERE WHAT IT READS IS OF BULK AT MOST 1048576: true; the input reads as it did. -/
def logPlaysUptoRow : OpenClaim := { program := "yteohjfhflodklaa", sum := "e6a8928787a37ff79857060813d4e704a14939953417ba06b36b848f27862b99", func := "treering/treeringlaw8.LogPlays", spec := "logPlays", unfollowed := true, recurses := true, apart := false, narrowed := true }
def LogPlaysUptoSaid : Prop := logPlaysUptoRow.holds Try.pinned (OpenSpec.upto logPlaysSpec)

/-- 'treeringlaw8.LogMore', WHERE WHAT IT READS IS OF BULK AT MOST 1048576: true; the input reads as it did. -/
def logMoreUptoRow : OpenClaim := { program := "yteohjfhflodklaa", sum := "e6a8928787a37ff79857060813d4e704a14939953417ba06b36b848f27862b99", func := "treering/treeringlaw8.LogMore", spec := "logMore", unfollowed := true, recurses := true, apart := false, narrowed := true }
def LogMoreUptoSaid : Prop := logMoreUptoRow.holds Try.pinned (OpenSpec.upto logMoreSpec)

/-- 'treeringlaw8.LogSees', WHERE WHAT IT READS IS OF BULK AT MOST 1048576: true; the input reads as it did. -/
def logSeesUptoRow : OpenClaim := { program := "yteohjfhflodklaa", sum := "e6a8928787a37ff79857060813d4e704a14939953417ba06b36b848f27862b99", func := "treering/treeringlaw8.LogSees", spec := "logSees", unfollowed := true, recurses := true, apart := false, narrowed := true }
def LogSeesUptoSaid : Prop := logSeesUptoRow.holds Try.pinned (OpenSpec.upto logSeesSpec)

/-- 'treeringlaw8.LogBoth', WHERE WHAT IT READS IS OF BULK AT MOST 1048576: true; the input reads as it did. -/
def logBothUptoRow : OpenClaim := { program := "yteohjfhflodklaa", sum := "e6a8928787a37ff79857060813d4e704a14939953417ba06b36b848f27862b99", func := "treering/treeringlaw8.LogBoth", spec := "logBoth", unfollowed := true, recurses := true, apart := false, narrowed := true }
def LogBothUptoSaid : Prop := logBothUptoRow.holds Try.pinned (OpenSpec.upto logBothSpec)

/-- 'treeringlaw8.LogTorn', WHERE WHAT IT READS IS OF BULK AT MOST 1048576: true; the input reads as it did. -/
def logTornUptoRow : OpenClaim := { program := "yteohjfhflodklaa", sum := "e6a8928787a37ff79857060813d4e704a14939953417ba06b36b848f27862b99", func := "treering/treeringlaw8.LogTorn", spec := "logTorn", unfollowed := true, recurses := true, apart := false, narrowed := true }
def LogTornUptoSaid : Prop := logTornUptoRow.holds Try.pinned (OpenSpec.upto logTornSpec)

/-- 'treeringlaw8.LogKnown', WHERE WHAT IT READS IS OF BULK AT MOST 1048576: true; the input reads as it did. -/
def logKnownUptoRow : OpenClaim := { program := "yteohjfhflodklaa", sum := "e6a8928787a37ff79857060813d4e704a14939953417ba06b36b848f27862b99", func := "treering/treeringlaw8.LogKnown", spec := "logKnown", unfollowed := true, recurses := true, apart := false, narrowed := true }
def LogKnownUptoSaid : Prop := logKnownUptoRow.holds Try.pinned (OpenSpec.upto logKnownSpec)

end Rows
end Go.Proofs.Yteohjfhflodklaa
