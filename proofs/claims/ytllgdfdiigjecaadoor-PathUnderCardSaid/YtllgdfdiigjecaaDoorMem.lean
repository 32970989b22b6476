/- What lies in memory where this program writes and reads: texts, rows of texts; and what stays as it was. No condition. -/
import Derived.Test.YtllgdfdiigjecaaDoorRows
import Derived.Test.YtllgdfdiigjecaaDoorPathM
import Derived.WalkKit
import Derived.WalkSpells
import Derived.WalkLawsBesides
import Derived.Below
import Derived.Outline
import Derived.Laws.Rows
import Derived.Laws.BitsAllLaws
import Derived.Deep.LoopGhost
import Derived.Laws.BytesString
import Derived.Laws.Strings2
import Derived.Deep.AppendLies
import Derived.Deep.OwnRows
import Derived.Lib.AppendStr
import Derived.Lib.ConvBytes
import Derived.ProofKit
import Derived.OpenShut
import Derived.ShutString
import Derived.ChangeOld
import Derived.Deep.MidRow
import Derived.Deep.WholeRow
import Derived.Deep.RegionHeld
import Derived.Deep.DrawnRows
import Derived.Deep.QuietTactic
import Derived.BigQuiet
import Derived.WalkMore
namespace Go.Proofs.YtllgdfdiigjecaaDoor
open Go.RowKit
set_option maxRecDepth 4000
theorem hid {p : Prop} (h : p) : Hid p := h
theorem own : ownKnob Tryd.prog.godebug = none := by kernel_rfl
theorem laidOut : laidOutB Tryd.prog = true := by kernel_rfl
theorem below_tr {b : Nat} {w w1 w2 : World} (h : Below b w w1) (h1 : Below w1.heap.size w1 w2) (hb : b ≤ w1.heap.size) : Below b w w2 := h.trans (h1.mono hb)
/-- A text as a Go string. -/
def mk (l : Str) : ByteArray := ⟨l.toArray⟩
theorem mk_data (s : ByteArray) : mk s.data.toList = s := by cases s; simp [mk]
theorem mk_list (l : Str) : (mk l).data.toList = l := by simp [mk]
theorem mk_size (l : Str) : (mk l).size = l.length := by simp [mk, ByteArray.size]
theorem mk_inj {a b : Str} : mk a = mk b ↔ a = b := ⟨fun h => by have := congrArg (fun s : ByteArray => s.data.toList) h; simpa [mk_list] using this, fun h => by rw [h]⟩
theorem mk_app (a b : Str) : mk a ++ mk b = mk (a ++ b) := by
  apply ByteArray.ext
  simp [mk]
/-- The texts l lie where the slice that begins at a leads. -/
def Texts (w : World) (a : Option Addr) (l : List Str) : Prop :=
  l = [] ∨ ∃ b off, a = some ⟨b, off, none⟩ ∧ b < w.heap.size ∧ ∀ i, i < l.length → w.cell? ⟨b, off + i, none⟩ = some (.string (mk (l.getD i [])))
theorem Texts.below {w w' : World} {a : Option Addr} {l : List Str} (h : Texts w a l) (hb : Below w.heap.size w w') : Texts w' a l := by
  rcases h with h2 | ⟨b, off, ha, hlt, hc⟩
  · exact .inl h2
  · exact .inr ⟨b, off, ha, Nat.lt_of_lt_of_le hlt hb.size, fun i hi => (hb.cell (p := ⟨b, off + i, none⟩) hlt).trans (hc i hi)⟩
theorem Texts.at_ {w : World} {a : Option Addr} {l : List Str} (h : Texts w a l) (hl : l ≠ []) : ∃ b off, a = some ⟨b, off, none⟩ ∧ b < w.heap.size ∧ ∀ i, i < l.length → w.cell? ⟨b, off + i, none⟩ = some (.string (mk (l.getD i []))) := by
  rcases h with h | h
  · exact absurd h hl
  · exact h
end Go.Proofs.YtllgdfdiigjecaaDoor
