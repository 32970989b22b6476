/- What lies in memory where this program writes and reads: what stays as it was, and steps of many cells at once. No condition. -/
import Derived.Test.YtgnjhakakgkbaaaRows
import Derived.WalkKit
import Derived.WalkSpells
import Derived.WalkLawsBesides
import Derived.Below
import Derived.Outline
import Derived.Laws.Rows
import Derived.Laws.BitsAllLaws
import Derived.Deep.LoopGhost
import Derived.Laws.BytesString
import Derived.Laws.Strings2
import Derived.Deep.AppendLies
import Derived.Deep.OwnRows
import Derived.Lib.AppendStr
import Derived.RangeFuncBox
import Derived.ProofKit
import Derived.OpenShut
import Derived.ShutString
import Derived.ChangeOld
import Derived.Deep.MidRow
import Derived.Laws.CopyOwn
import Derived.Laws.CopyRow
import Derived.Deep.WholeRow
namespace Go.Proofs.Ytgnjhakakgkbaaa
open Go.RowKit

/-- But for the block q and the block o all that was there lies as it lay. -/
structure Only (q : Nat) (o : Option Nat) (w w' : World) : Prop where
  os : w'.os = w.os
  tape : w'.tape = w.tape
  output : w'.output = w.output
  size : w.heap.size ≤ w'.heap.size
  block : ∀ k, k < w.heap.size → k ≠ q → some k ≠ o → w'.heap[k]? = w.heap[k]?
theorem Only.refl (q : Nat) (o : Option Nat) (w : World) : Only q o w w := ⟨rfl, rfl, rfl, Nat.le_refl _, fun _ _ _ _ => rfl⟩
theorem Only.trans {q : Nat} {o o1 : Option Nat} {w w1 w2 : World} (h : Only q o w w1) (h1 : Only q o1 w1 w2) (ho : o1 = o ∨ ∃ g, o1 = some g ∧ w.heap.size ≤ g) : Only q o w w2 where
  os := h1.os.trans h.os
  tape := h1.tape.trans h.tape
  output := h1.output.trans h.output
  size := Nat.le_trans h.size h1.size
  block := fun k hk hq ho1 => by
    refine (h1.block k (Nat.lt_of_lt_of_le hk h.size) hq ?_).trans (h.block k hk hq ho1)
    rcases ho with rfl | ⟨g, rfl, hg⟩
    · exact ho1
    · intro e; simp at e; omega
theorem Only.below {q : Nat} {o : Option Nat} {w w' : World} {base : Nat} (h : Only q o w w') (hq : base ≤ q) (ho : ∀ k, o = some k → base ≤ k) (hb : base ≤ w.heap.size) : Below base w w' :=
  ⟨h.os, h.tape, h.output, h.size, fun k hk => h.block k (by omega) (by omega) (fun e => by have := ho k e.symm; omega)⟩
theorem Only.of_below {q : Nat} {o : Option Nat} {w w' : World} (h : Below w.heap.size w w') : Only q o w w' := ⟨h.os, h.tape, h.output, h.size, fun k hk _ _ => h.block k hk⟩
theorem Only.drew {q : Nat} {o : Option Nat} {w w' : World} (h : Only q o w w') : Only q o w w'.drew := ⟨h.os, h.tape, h.output, h.size, h.block⟩
theorem Only.drewN {q : Nat} {o : Option Nat} {w w' : World} (h : Only q o w w') (n : Nat) : Only q o w (w'.drewN n) := ⟨h.os, h.tape, h.output, h.size, h.block⟩

theorem hid {p : Prop} (h : p) : Hid p := h
section
variable {P : Program} {ops : Array Oper} {rest : List Oper} {op : Oper} {a : Act} {w w' : World} {Q : Exit → Act → World → Prop}
theorem step_load (ty : TypeId) (hgd : op.guard = none) (x : Operand) (ho : op.op = .load ty x) (v : Value) (hrun : (Instr.loadAt ty (a.eval x)).run P w = .ok v w)
    (h : wpList P ops Q rest (a.put op.dst v) w) : wpList P ops Q (op :: rest) a w :=
  wpList_plain hgd fun _ hK => by
    unfold Oper.wp execOp
    simp only [ho, Sem.run_bind, Sem.run_pure, Result.andThen_ok, hrun]
    exact hK _ _ h
theorem step_store (ty : TypeId) (hgd : op.guard = none) (x y : Operand) (ho : op.op = .store ty x y) (w' : World) (hrun : (Instr.storeAt ty (a.eval x) (a.eval y)).run P w = .ok () w')
    (h : wpList P ops Q rest (a.put op.dst undef) w') : wpList P ops Q (op :: rest) a w :=
  wpList_plain hgd fun _ hK => by
    unfold Oper.wp execOp
    simp only [ho, Sem.run_bind, Sem.run_pure, Result.andThen_ok, hrun]
    exact hK _ _ h
theorem step_alloc (ty : TypeId) (hgd : op.guard = none) (ho : op.op = .alloc ty) (v : Value) (w' : World) (hrun : (Instr.alloc ty true (.tuple #[])).run P w = .ok v w')
    (h : wpList P ops Q rest (a.put op.dst v) w') : wpList P ops Q (op :: rest) a w :=
  wpList_plain hgd fun _ hK => by
    unfold Oper.wp execOp
    simp only [ho, Sem.run_bind, Sem.run_pure, Result.andThen_ok, hrun]
    exact hK _ _ h
end
theorem setRow_new (w : World) (c c' : Array Value) (t : TypeId) : (w.alloc (.cells c t)).setRow w.heap.size c' = w.alloc (.cells c' t) := World.setRow_alloc_new w c c' t
theorem only_setCell (w : World) (q i : Nat) (o : Option Nat) (v : Value) : Only q o w (w.setCell ⟨q, i, none⟩ v) :=
  ⟨rfl, rfl, rfl, by simp [World.setCell], fun k _ h _ => by
    have : (w.setCell ⟨q, i, none⟩ v).heap[k]? = w.heap[k]? := by
      simp only [World.setCell, Array.getElem?_modify]
      rw [if_neg (fun e => h e.symm)]
    exact this⟩
theorem Only.tr {q : Nat} {o : Option Nat} {w w1 w2 : World} (h : Only q o w w1) (h1 : Only q o w1 w2) : Only q o w w2 := h.trans h1 (.inl rfl)

/-! ### How many are free -/
def nfree (t : List Bool) : Nat → Nat
  | 0 => 0
  | k + 1 => nfree t k + if t.getD k false then 0 else 1
theorem nfree_le (t : List Bool) : ∀ k, nfree t k ≤ k
  | 0 => Nat.le_refl _
  | k + 1 => by have := nfree_le t k; simp only [nfree]; split <;> omega
theorem nfree_mono (t : List Bool) (a b : Nat) (h : a ≤ b) : nfree t a ≤ nfree t b := by
  induction b with
  | zero => simp at h; subst h; exact Nat.le_refl _
  | succ b ih =>
    by_cases hb : a = b + 1
    · subst hb; exact Nat.le_refl _
    · have := ih (by omega); simp only [nfree]; omega
theorem getD_set (t : List Bool) (i j : Nat) (b : Bool) (hi : i < t.length) : (t.set i b).getD j false = if i = j then b else t.getD j false := by
  simp only [List.getD_eq_getElem?_getD, List.getElem?_set]
  by_cases h : i = j
  · subst h; simp [hi]
  · simp [h]
theorem nfree_set_out (t : List Bool) (i : Nat) (b : Bool) (hi : i < t.length) : ∀ k, k ≤ i → nfree (t.set i b) k = nfree t k
  | 0, _ => rfl
  | k + 1, h => by
    have := nfree_set_out t i b hi k (by omega)
    simp only [nfree, this, getD_set t i k b hi]
    rw [if_neg (show ¬ i = k by omega)]
theorem nfree_take (t : List Bool) (i : Nat) (hi : i < t.length) (hf : t.getD i false = false) : ∀ k, i < k → nfree (t.set i true) k + 1 = nfree t k
  | 0, h => by omega
  | k + 1, h => by
    by_cases hk : i = k
    · subst hk
      simp only [nfree, nfree_set_out t i true hi i (Nat.le_refl _), getD_set t i i true hi, hf]
      simp
    · have := nfree_take t i hi hf k (by omega)
      simp only [nfree, getD_set t i k true hi]
      rw [if_neg hk]
      omega
theorem nfree_give (t : List Bool) (i : Nat) (hi : i < t.length) (hf : t.getD i false = true) : ∀ k, i < k → nfree (t.set i false) k = nfree t k + 1
  | 0, h => by omega
  | k + 1, h => by
    by_cases hk : i = k
    · subst hk
      simp only [nfree, nfree_set_out t i false hi i (Nat.le_refl _), getD_set t i i false hi, hf]
      simp
    · have := nfree_give t i hi hf k (by omega)
      simp only [nfree, getD_set t i k false hi]
      rw [if_neg hk]
      omega
theorem nfree_full (t : List Bool) : ∀ k, (∀ j, j < k → t.getD j false = true) → nfree t k = 0
  | 0, _ => rfl
  | k + 1, h => by
    have := nfree_full t k (fun j hj => h j (by omega))
    simp only [nfree, this, h k (by omega)]
    simp
theorem nfree_pos (t : List Bool) (k i : Nat) (hi : i < k) (hf : t.getD i false = false) : 0 < nfree t k := by
  have h1 := nfree_mono t (i + 1) k (by omega)
  have : nfree t (i + 1) = nfree t i + 1 := by simp only [nfree, hf]; simp
  omega
def z96 : List Bool := List.replicate 96 false
theorem z96_len : z96.length = 96 := by simp [z96]
theorem z96_get (j : Nat) : z96.getD j false = false := by simp only [z96, List.getD_eq_getElem?_getD, List.getElem?_replicate]; split <;> rfl
theorem nfree_z96 : ∀ k, nfree z96 k = k
  | 0 => rfl
  | k + 1 => by simp only [nfree, nfree_z96 k, z96_get]; simp

/-! ### A Space in memory -/
def spCells (k : Nat) (t : List Bool) : List Value := .int .i64 (k : Int) :: t.map Value.bool
structure SpAt (w : World) (q k : Nat) (t : List Bool) : Prop where
  blk : w.heap[q]? = some (.cells (spCells k t).toArray 44 (0, 0))
  len : t.length = 96
  le : k ≤ 96
theorem SpAt.lt {w : World} {q k : Nat} {t : List Bool} (h : SpAt w q k t) : q < w.heap.size := (Array.getElem?_eq_some_iff.1 h.blk).1
theorem SpAt.below {w w' : World} {q k : Nat} {t : List Bool} (h : SpAt w q k t) (hb : Below w.heap.size w w') : SpAt w' q k t := ⟨(hb.block q h.lt).trans h.blk, h.len, h.le⟩
theorem SpAt.other {w w' : World} {q q' k : Nat} {t : List Bool} (h : SpAt w q k t) (ho : Only q' none w w') (hne : q ≠ q') : SpAt w' q k t := ⟨(ho.block q h.lt hne (by simp)).trans h.blk, h.len, h.le⟩
theorem SpAt.c0 {w : World} {q k : Nat} {t : List Bool} (h : SpAt w q k t) : w.cell? ⟨q, 0, none⟩ = some (.int .i64 (k : Int)) := by
  rw [cell_of_row w q _ _ 44 (0, 0) h.blk]; rfl
theorem SpAt.c {w : World} {q k : Nat} {t : List Bool} (h : SpAt w q k t) (i : Nat) (hi : i < 96) : w.cell? ⟨q, 1 + i, none⟩ = some (.bool (t.getD i false)) := by
  have hl := h.len
  rw [cell_of_row w q _ _ 44 (0, 0) h.blk, spCells, List.getElem?_toArray, Nat.add_comm, List.getElem?_cons_succ, List.getElem?_map]
  simp [hl, hi]
theorem SpAt.fr {w : World} {q k : Nat} {t : List Bool} (h : SpAt w q k t) (i : Nat) : w.frozen? ⟨q, i, none⟩ = false := frozen_of_row w q i _ 44 h.blk
theorem SpAt.set {w : World} {q k : Nat} {t : List Bool} (h : SpAt w q k t) (i : Nat) (b : Bool) : SpAt (w.setCell ⟨q, 1 + i, none⟩ (.bool b)) q k (t.set i b) := by
  refine ⟨?_, by rw [List.length_set, h.len], h.le⟩
  rw [heap_setCell_same _ _ _ _ _ _ h.blk]
  congr 2
  rw [spCells, spCells, Nat.add_comm, List.setIfInBounds_toArray, List.set_cons_succ, List.map_set]
theorem info44 : (Try.prog.info? 44).map (fun i => (i.zero, i.size)) = some (some (.agg (spCells 0 z96).toArray), 97) := by kernel_rfl
theorem size44 : (Try.prog.info? 44).map (·.size) = some 97 := by kernel_rfl
theorem spCells_len {k : Nat} {t : List Bool} (h : t.length = 96) : (spCells k t).length = 97 := by simp [spCells, h]
theorem spCells_one (k : Nat) (t : List Bool) : ∀ u ∈ spCells k t, u.oneCell' = true := by
  intro u hu
  simp only [spCells, List.mem_cons, List.mem_map] at hu
  rcases hu with rfl | ⟨b, _, rfl⟩ <;> rfl
theorem at_new (w : World) (k : Nat) (hk : k ≤ 96) (t : List Bool) (ht : t.length = 96) : SpAt (w.alloc (.cells (spCells k t).toArray 44)) w.heap.size k t := ⟨heap_alloc_new w _, ht, hk⟩
end Go.Proofs.Ytgnjhakakgkbaaa
