/- A Space in memory, and how many of its segments are free. No condition. -/
import Derived.Test.YteohjfhflodklaaMore
namespace Go.Proofs.Yteohjfhflodklaa.Sp
open Go.RowKit
set_option maxRecDepth 4000
/-! ### How many are free -/
def nfree (t : List Bool) : Nat → Nat
  | 0 => 0
  | k + 1 => nfree t k + if t.getD k false then 0 else 1
theorem nfree_le (t : List Bool) : ∀ k, nfree t k ≤ k
  | 0 => Nat.le_refl _
  | k + 1 => by have := nfree_le t k; simp only [nfree]; split <;> omega
theorem nfree_mono (t : List Bool) (a b : Nat) (h : a ≤ b) : nfree t a ≤ nfree t b := by
  induction b with
  | zero => simp at h; subst h; exact Nat.le_refl _
  | succ b ih =>
    by_cases hb : a = b + 1
    · subst hb; exact Nat.le_refl _
    · have := ih (by omega); simp only [nfree]; omega
theorem getD_set (t : List Bool) (i j : Nat) (b : Bool) (hi : i < t.length) : (t.set i b).getD j false = if i = j then b else t.getD j false := by
  simp only [List.getD_eq_getElem?_getD, List.getElem?_set]
  by_cases h : i = j
  · subst h; simp [hi]
  · simp [h]
theorem nfree_set_out (t : List Bool) (i : Nat) (b : Bool) (hi : i < t.length) : ∀ k, k ≤ i → nfree (t.set i b) k = nfree t k
  | 0, _ => rfl
  | k + 1, h => by
    have := nfree_set_out t i b hi k (by omega)
    simp only [nfree, this, getD_set t i k b hi]
    rw [if_neg (show ¬ i = k by omega)]
theorem nfree_take (t : List Bool) (i : Nat) (hi : i < t.length) (hf : t.getD i false = false) : ∀ k, i < k → nfree (t.set i true) k + 1 = nfree t k
  | 0, h => by omega
  | k + 1, h => by
    by_cases hk : i = k
    · subst hk
      simp only [nfree, nfree_set_out t i true hi i (Nat.le_refl _), getD_set t i i true hi, hf]
      simp
    · have := nfree_take t i hi hf k (by omega)
      simp only [nfree, getD_set t i k true hi]
      rw [if_neg hk]
      omega
theorem nfree_give (t : List Bool) (i : Nat) (hi : i < t.length) (hf : t.getD i false = true) : ∀ k, i < k → nfree (t.set i false) k = nfree t k + 1
  | 0, h => by omega
  | k + 1, h => by
    by_cases hk : i = k
    · subst hk
      simp only [nfree, nfree_set_out t i false hi i (Nat.le_refl _), getD_set t i i false hi, hf]
      simp
    · have := nfree_give t i hi hf k (by omega)
      simp only [nfree, getD_set t i k false hi]
      rw [if_neg hk]
      omega
theorem nfree_full (t : List Bool) : ∀ k, (∀ j, j < k → t.getD j false = true) → nfree t k = 0
  | 0, _ => rfl
  | k + 1, h => by
    have := nfree_full t k (fun j hj => h j (by omega))
    simp only [nfree, this, h k (by omega)]
    simp
theorem nfree_pos (t : List Bool) (k i : Nat) (hi : i < k) (hf : t.getD i false = false) : 0 < nfree t k := by
  have h1 := nfree_mono t (i + 1) k (by omega)
  have : nfree t (i + 1) = nfree t i + 1 := by simp only [nfree, hf]; simp
  omega
def z96 : List Bool := List.replicate 96 false
theorem z96_len : z96.length = 96 := by simp [z96]
theorem z96_get (j : Nat) : z96.getD j false = false := by simp only [z96, List.getD_eq_getElem?_getD, List.getElem?_replicate]; split <;> rfl
theorem nfree_z96 : ∀ k, nfree z96 k = k
  | 0 => rfl
  | k + 1 => by simp only [nfree, nfree_z96 k, z96_get]; simp

/-! ### A Space in memory -/
def spCells (k : Nat) (t : List Bool) : List Value := .int .i64 (k : Int) :: t.map Value.bool
structure SpAt (w : World) (q k : Nat) (t : List Bool) : Prop where
  blk : w.heap[q]? = some (.cells (spCells k t).toArray 69 (0, 0))
  len : t.length = 96
  le : k ≤ 96
theorem SpAt.lt {w : World} {q k : Nat} {t : List Bool} (h : SpAt w q k t) : q < w.heap.size := (Array.getElem?_eq_some_iff.1 h.blk).1
theorem SpAt.below {w w' : World} {q k : Nat} {t : List Bool} (h : SpAt w q k t) (hb : Below w.heap.size w w') : SpAt w' q k t := ⟨(hb.block q h.lt).trans h.blk, h.len, h.le⟩
theorem SpAt.other {w w' : World} {q q' k : Nat} {t : List Bool} (h : SpAt w q k t) (ho : Only q' none w w') (hne : q ≠ q') : SpAt w' q k t := ⟨(ho.block q h.lt hne (by simp)).trans h.blk, h.len, h.le⟩
theorem SpAt.c0 {w : World} {q k : Nat} {t : List Bool} (h : SpAt w q k t) : w.cell? ⟨q, 0, none⟩ = some (.int .i64 (k : Int)) := by
  rw [cell_of_row w q _ _ 69 (0, 0) h.blk]; rfl
theorem SpAt.c {w : World} {q k : Nat} {t : List Bool} (h : SpAt w q k t) (i : Nat) (hi : i < 96) : w.cell? ⟨q, 1 + i, none⟩ = some (.bool (t.getD i false)) := by
  have hl := h.len
  rw [cell_of_row w q _ _ 69 (0, 0) h.blk, spCells, List.getElem?_toArray, Nat.add_comm, List.getElem?_cons_succ, List.getElem?_map]
  simp [hl, hi]
theorem SpAt.fr {w : World} {q k : Nat} {t : List Bool} (h : SpAt w q k t) (i : Nat) : w.frozen? ⟨q, i, none⟩ = false := frozen_of_row w q i _ 69 h.blk
theorem SpAt.set {w : World} {q k : Nat} {t : List Bool} (h : SpAt w q k t) (i : Nat) (b : Bool) : SpAt (w.setCell ⟨q, 1 + i, none⟩ (.bool b)) q k (t.set i b) := by
  refine ⟨?_, by rw [List.length_set, h.len], h.le⟩
  rw [heap_setCell_same _ _ _ _ _ _ h.blk]
  congr 2
  rw [spCells, spCells, Nat.add_comm, List.setIfInBounds_toArray, List.set_cons_succ, List.map_set]
theorem info44 : (Try.prog.info? 69).map (fun i => (i.zero, i.size)) = some (some (.agg (spCells 0 z96).toArray), 97) := by kernel_rfl
theorem size44 : (Try.prog.info? 69).map (·.size) = some 97 := by kernel_rfl
theorem spCells_len {k : Nat} {t : List Bool} (h : t.length = 96) : (spCells k t).length = 97 := by simp [spCells, h]
theorem spCells_one (k : Nat) (t : List Bool) : ∀ u ∈ spCells k t, u.oneCell' = true := by
  intro u hu
  simp only [spCells, List.mem_cons, List.mem_map] at hu
  rcases hu with rfl | ⟨b, _, rfl⟩ <;> rfl
theorem at_new (w : World) (k : Nat) (hk : k ≤ 96) (t : List Bool) (ht : t.length = 96) : SpAt (w.alloc (.cells (spCells k t).toArray 69)) w.heap.size k t := ⟨heap_alloc_new w _, ht, hk⟩
end Go.Proofs.Yteohjfhflodklaa.Sp
