/-
  No cell of these rows narrows 'for every input' (looked for: loops, veiled, ifaces, maps, wideKeys, modest, calm, conditions, laid).
  DERIVED. THE GIVEN ROWS OF THIS SEAT. 4 by the template 'for every input the law returns true; each argument reads behind the call as it read before'; 0 by the template 'total and deterministic' (their statements: YtjkkojeamkpodaaTotals.lean).
  GIVEN WITH THE SEED: the statements are not yours to turn. If you find one false, say at which input.
  Laid BY PROGRAM, IN A SANDBOX (cutbox-rows.mjs): the forced cells as the released guide's own fill.sh prints them over the translation e6579fd548e066be… (all of the seat's roots in one cut). By AI agents, Wed Nov 11 2026. No macro, syntax, notation, axiom, sorry.
-/
import Derived.Test.YtjkkojeamkpodaaChecked
import GoSem.Claim
import GoSem.ClaimJoined
import GoSem.ClaimMapViews
import Derived.JoinedTies
import Derived.KernelRfl
namespace Go.Proofs.Ytjkkojeamkpodaa
/- THE CELL 'sum', in the pinned program and in every row, IS THE sha256 OF THE DUMP (.gsa) THAT YtjkkojeamkpodaaProg.lean LOADS. Nothing in Lean hashes anything: it is a label: what it is worth is what the hold of that sum in a sandbox is worth. -/
noncomputable def Try.pinned : Pinned := { name := "ytjkkojeamkpodaa", sum := "e6579fd548e066beae611ae753065796272c7edbac122895819f9727540effd3", checked := Try.checked }
namespace Rows
def none {H : Type} : Left H := { results := [], args := [] }

/-- 'treeringlaw3.AgeKnown': WHATEVER THE INPUT: true; the input reads as it did. -/
def ageKnownSpec : ChangeSpec := { name := "ageKnown", fn := fun _ => fun
  | [] => { results := [.lit (.bool true)], args := [] }
  | _ => none }
def ageKnownRow : OpenClaim := { program := "ytjkkojeamkpodaa", sum := "e6579fd548e066beae611ae753065796272c7edbac122895819f9727540effd3", func := "treering/treeringlaw3.AgeKnown", spec := "ageKnown", inPlace := ["math.Float64bits", "math.Float64frombits", "math.archFloor", "math.archTrunc"], apart := false }
def AgeKnownSaid : Prop := ageKnownRow.holds Try.pinned (OpenSpec.ofChange ageKnownSpec)

/-- ITS FALSE NEIGHBOUR: 'it returns false'. Refute it at one input. -/
def ageKnownWrong : ChangeSpec := { name := "ageKnown", fn := fun _ => fun
  | [] => { results := [.lit (.bool false)], args := [] }
  | _ => none }
def AgeKnownWrongFalsely : Prop := ageKnownRow.holds Try.pinned (OpenSpec.ofChange ageKnownWrong)

/-- 'treeringlaw3.AgeBuckets': WHATEVER THE INPUT: true; the input reads as it did. -/
def ageBucketsSpec : ChangeSpec := { name := "ageBuckets", fn := fun _ => fun
  | [d1, d2, d3] => { results := [.lit (.bool true)], args := [d1, d2, d3] }
  | _ => none }
def ageBucketsRow : OpenClaim := { program := "ytjkkojeamkpodaa", sum := "e6579fd548e066beae611ae753065796272c7edbac122895819f9727540effd3", func := "treering/treeringlaw3.AgeBuckets", spec := "ageBuckets", inPlace := ["math.Float64bits", "math.Float64frombits", "math.archFloor", "math.archTrunc"], apart := false }
def AgeBucketsSaid : Prop := ageBucketsRow.holds Try.pinned (OpenSpec.ofChange ageBucketsSpec)

/-- ITS FALSE NEIGHBOUR: 'it returns false'. Refute it at one input. -/
def ageBucketsWrong : ChangeSpec := { name := "ageBuckets", fn := fun _ => fun
  | [d1, d2, d3] => { results := [.lit (.bool false)], args := [d1, d2, d3] }
  | _ => none }
def AgeBucketsWrongFalsely : Prop := ageBucketsRow.holds Try.pinned (OpenSpec.ofChange ageBucketsWrong)

/-- 'treeringlaw3.AgeSums': WHATEVER THE INPUT: true; the input reads as it did. -/
def ageSumsSpec : ChangeSpec := { name := "ageSums", fn := fun _ => fun
  | [d1, d2, d3] => { results := [.lit (.bool true)], args := [d1, d2, d3] }
  | _ => none }
def ageSumsRow : OpenClaim := { program := "ytjkkojeamkpodaa", sum := "e6579fd548e066beae611ae753065796272c7edbac122895819f9727540effd3", func := "treering/treeringlaw3.AgeSums", spec := "ageSums", inPlace := ["math.Float64bits", "math.Float64frombits", "math.archFloor", "math.archTrunc"], apart := false }
def AgeSumsSaid : Prop := ageSumsRow.holds Try.pinned (OpenSpec.ofChange ageSumsSpec)

/-- ITS FALSE NEIGHBOUR: 'it returns false'. Refute it at one input. -/
def ageSumsWrong : ChangeSpec := { name := "ageSums", fn := fun _ => fun
  | [d1, d2, d3] => { results := [.lit (.bool false)], args := [d1, d2, d3] }
  | _ => none }
def AgeSumsWrongFalsely : Prop := ageSumsRow.holds Try.pinned (OpenSpec.ofChange ageSumsWrong)

/-- 'treeringlaw3.AgeOrder': WHATEVER THE INPUT: true; the input reads as it did. -/
def ageOrderSpec : ChangeSpec := { name := "ageOrder", fn := fun _ => fun
  | [d1, d2, d3] => { results := [.lit (.bool true)], args := [d1, d2, d3] }
  | _ => none }
def ageOrderRow : OpenClaim := { program := "ytjkkojeamkpodaa", sum := "e6579fd548e066beae611ae753065796272c7edbac122895819f9727540effd3", func := "treering/treeringlaw3.AgeOrder", spec := "ageOrder", inPlace := ["math.Float64bits", "math.Float64frombits", "math.archFloor", "math.archTrunc"], apart := false }
def AgeOrderSaid : Prop := ageOrderRow.holds Try.pinned (OpenSpec.ofChange ageOrderSpec)

/-- ITS FALSE NEIGHBOUR: 'it returns false'. Refute it at one input. -/
def ageOrderWrong : ChangeSpec := { name := "ageOrder", fn := fun _ => fun
  | [d1, d2, d3] => { results := [.lit (.bool false)], args := [d1, d2, d3] }
  | _ => none }
def AgeOrderWrongFalsely : Prop := ageOrderRow.holds Try.pinned (OpenSpec.ofChange ageOrderWrong)

/- THE SECOND FORM. 'bulk': how many values and letters a reading holds, each counted each time it is reached (what is shared counts as often as it is met; a slice's spare places count too). A statement '..UptoSaid' is the law's where the arguments, and the package variables that the reading takes, are together of bulk at most 1048576: NARROWER than '..Said'. Prove '..Said' where nothing that the law and all that it calls make is longer than what came in: it says more and counts as full. Else prove '..UptoSaid'. A law counts once. -/
mutual
def uptoBulk {H : Type} : DataW H → Nat
  | .lit (.string bytes) => bytes.length + 1
  | .lit _ => 1
  | .nil => 1
  | .ptr d => uptoBulk d + 1
  | .slice elems spare => uptoBulkAll elems + uptoBulkAll spare + 1
  | .agg parts => uptoBulkAll parts + 1
  | .iface _ d => uptoBulk d + 1
  | .map entries => uptoBulkEntries entries + 1
  | .held _ => 1
def uptoBulkAll {H : Type} : List (DataW H) → Nat
  | [] => 0
  | d :: r => uptoBulk d + uptoBulkAll r
def uptoBulkEntries {H : Type} : List (Lit × DataW H) → Nat
  | [] => 0
  | x :: r => uptoBulkEntry x + uptoBulkEntries r
def uptoBulkEntry {H : Type} : Lit × DataW H → Nat
  | (.string bytes, d) => bytes.length + uptoBulk d + 1
  | (_, d) => uptoBulk d + 1
 end
def uptoSmall : (H : Type) → List (DataW H) → Bool := fun _ ds => decide (uptoBulkAll ds ≤ 1048576)
def OpenSpec.upto (s : _root_.Go.ChangeSpec) : _root_.Go.OpenSpec := { _root_.Go.OpenSpec.ofChange s with cond := some uptoSmall }

/-- 'treeringlaw3.AgeKnown', WHERE WHAT IT READS IS OF BULK AT MOST 1048576: true; the input reads as it did. -/
def ageKnownUptoRow : OpenClaim := { program := "ytjkkojeamkpodaa", sum := "e6579fd548e066beae611ae753065796272c7edbac122895819f9727540effd3", func := "treering/treeringlaw3.AgeKnown", spec := "ageKnown", inPlace := ["math.Float64bits", "math.Float64frombits", "math.archFloor", "math.archTrunc"], apart := false, narrowed := true }
def AgeKnownUptoSaid : Prop := ageKnownUptoRow.holds Try.pinned (OpenSpec.upto ageKnownSpec)

/-- 'treeringlaw3.AgeBuckets', WHERE WHAT IT READS IS OF BULK AT MOST 1048576: true; the input reads as it did. -/
def ageBucketsUptoRow : OpenClaim := { program := "ytjkkojeamkpodaa", sum := "e6579fd548e066beae611ae753065796272c7edbac122895819f9727540effd3", func := "treering/treeringlaw3.AgeBuckets", spec := "ageBuckets", inPlace := ["math.Float64bits", "math.Float64frombits", "math.archFloor", "math.archTrunc"], apart := false, narrowed := true }
def AgeBucketsUptoSaid : Prop := ageBucketsUptoRow.holds Try.pinned (OpenSpec.upto ageBucketsSpec)

/-- 'treeringlaw3.AgeSums', WHERE WHAT IT READS IS OF BULK AT MOST 1048576: true; the input reads as it did. -/
def ageSumsUptoRow : OpenClaim := { program := "ytjkkojeamkpodaa", sum := "e6579fd548e066beae611ae753065796272c7edbac122895819f9727540effd3", func := "treering/treeringlaw3.AgeSums", spec := "ageSums", inPlace := ["math.Float64bits", "math.Float64frombits", "math.archFloor", "math.archTrunc"], apart := false, narrowed := true }
def AgeSumsUptoSaid : Prop := ageSumsUptoRow.holds Try.pinned (OpenSpec.upto ageSumsSpec)

/-- 'treeringlaw3.AgeOrder', WHERE WHAT IT READS IS OF BULK AT MOST 1048576: true; the input reads as it did. -/
def ageOrderUptoRow : OpenClaim := { program := "ytjkkojeamkpodaa", sum := "e6579fd548e066beae611ae753065796272c7edbac122895819f9727540effd3", func := "treering/treeringlaw3.AgeOrder", spec := "ageOrder", inPlace := ["math.Float64bits", "math.Float64frombits", "math.archFloor", "math.archTrunc"], apart := false, narrowed := true }
def AgeOrderUptoSaid : Prop := ageOrderUptoRow.holds Try.pinned (OpenSpec.upto ageOrderSpec)

end Rows
end Go.Proofs.Ytjkkojeamkpodaa
