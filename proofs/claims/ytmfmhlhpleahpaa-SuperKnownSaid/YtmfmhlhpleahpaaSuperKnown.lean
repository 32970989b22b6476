/- SuperKnown: slots by hand: what may not be, none that can be read. No condition. -/
import Derived.Test.YtmfmhlhpleahpaaSupY
namespace Go.Proofs.Ytmfmhlhpleahpaa
open Go.ChangeShapes Go.WideShapes Go.ChangeAt Go.RowKit Pen
open Crc (four nx)
open scoped Classical
/-- The statement's own nine slots that may not be, as they lie. -/
def kw (w : World) : World := ((((((w.alloc (.cells #[.int .i64 1, .int .i64 1] 3)).alloc (.cells #[.int .i64 1] 3)).alloc (.cells #[.int .i64 1] 3)).alloc (.cells #[.int .i64 96] 3)).alloc (.cells #[.int .i64 (-1)] 3)).alloc (.cells #[.int .i64 1] 3)).alloc (.cells #[.int .i64 (-1), .int .i64 0, .slice none 0 0, .int .i64 0, .int .u32 0, .slice none 0 0, .int .i64 0, .int .u32 0, .int .i64 0, .int .i64 (-1), .slice none 0 0, .int .i64 0, .int .u32 0, .slice none 0 0, .int .i64 0, .int .u32 0, .int .i64 2147483648, .int .i64 0, .slice none 0 0, .int .i64 0, .int .u32 0, .slice none 0 0, .int .i64 0, .int .u32 0, .int .i64 0, .int .i64 0, .slice none 0 0, .int .i64 1, .int .u32 0, .slice none 0 0, .int .i64 0, .int .u32 0, .int .i64 0, .int .i64 0, .slice (some ⟨w.heap.size, 0, none⟩) 2 2, .int .i64 0, .int .u32 0, .slice none 0 0, .int .i64 0, .int .u32 0, .int .i64 0, .int .i64 0, .slice (some ⟨w.heap.size + 1, 0, none⟩) 1 1, .int .i64 0, .int .u32 0, .slice (some ⟨w.heap.size + 1 + 1, 0, none⟩) 1 1, .int .i64 0, .int .u32 0, .int .i64 0, .int .i64 0, .slice none 0 0, .int .i64 0, .int .u32 0, .slice (some ⟨w.heap.size + 1 + 1 + 1, 0, none⟩) 1 1, .int .i64 0, .int .u32 0, .int .i64 0, .int .i64 0, .slice none 0 0, .int .i64 0, .int .u32 0, .slice (some ⟨w.heap.size + 1 + 1 + 1 + 1, 0, none⟩) 1 1, .int .i64 0, .int .u32 0, .int .i64 0, .int .i64 0, .slice none 0 0, .int .i64 0, .int .u32 0, .slice (some ⟨w.heap.size + 1 + 1 + 1 + 1 + 1, 0, none⟩) 1 1, .int .i64 9, .int .u32 0] 32)
theorem kw_low (w : World) : Below w.heap.size w (kw w) := ((((((((Below.refl _ w).alloc (Nat.le_refl _) _).alloc (by simp) _).alloc (by simp; omega) _).alloc (by simp; omega) _).alloc (by simp; omega) _).alloc (by simp; omega) _).alloc (by simp; omega) _)
theorem kw_big (w : World) : (kw w).heap[w.heap.size + 1 + 1 + 1 + 1 + 1 + 1]? = some (.cells #[.int .i64 (-1), .int .i64 0, .slice none 0 0, .int .i64 0, .int .u32 0, .slice none 0 0, .int .i64 0, .int .u32 0, .int .i64 0, .int .i64 (-1), .slice none 0 0, .int .i64 0, .int .u32 0, .slice none 0 0, .int .i64 0, .int .u32 0, .int .i64 2147483648, .int .i64 0, .slice none 0 0, .int .i64 0, .int .u32 0, .slice none 0 0, .int .i64 0, .int .u32 0, .int .i64 0, .int .i64 0, .slice none 0 0, .int .i64 1, .int .u32 0, .slice none 0 0, .int .i64 0, .int .u32 0, .int .i64 0, .int .i64 0, .slice (some ⟨w.heap.size, 0, none⟩) 2 2, .int .i64 0, .int .u32 0, .slice none 0 0, .int .i64 0, .int .u32 0, .int .i64 0, .int .i64 0, .slice (some ⟨w.heap.size + 1, 0, none⟩) 1 1, .int .i64 0, .int .u32 0, .slice (some ⟨w.heap.size + 1 + 1, 0, none⟩) 1 1, .int .i64 0, .int .u32 0, .int .i64 0, .int .i64 0, .slice none 0 0, .int .i64 0, .int .u32 0, .slice (some ⟨w.heap.size + 1 + 1 + 1, 0, none⟩) 1 1, .int .i64 0, .int .u32 0, .int .i64 0, .int .i64 0, .slice none 0 0, .int .i64 0, .int .u32 0, .slice (some ⟨w.heap.size + 1 + 1 + 1 + 1, 0, none⟩) 1 1, .int .i64 0, .int .u32 0, .int .i64 0, .int .i64 0, .slice none 0 0, .int .i64 0, .int .u32 0, .slice (some ⟨w.heap.size + 1 + 1 + 1 + 1 + 1, 0, none⟩) 1 1, .int .i64 9, .int .u32 0] 32 (0, 0)) := by
  have h := heap_alloc_new ((((((w.alloc (.cells #[.int .i64 1, .int .i64 1] 3)).alloc (.cells #[.int .i64 1] 3)).alloc (.cells #[.int .i64 1] 3)).alloc (.cells #[.int .i64 96] 3)).alloc (.cells #[.int .i64 (-1)] 3)).alloc (.cells #[.int .i64 1] 3)) (.cells #[.int .i64 (-1), .int .i64 0, .slice none 0 0, .int .i64 0, .int .u32 0, .slice none 0 0, .int .i64 0, .int .u32 0, .int .i64 0, .int .i64 (-1), .slice none 0 0, .int .i64 0, .int .u32 0, .slice none 0 0, .int .i64 0, .int .u32 0, .int .i64 2147483648, .int .i64 0, .slice none 0 0, .int .i64 0, .int .u32 0, .slice none 0 0, .int .i64 0, .int .u32 0, .int .i64 0, .int .i64 0, .slice none 0 0, .int .i64 1, .int .u32 0, .slice none 0 0, .int .i64 0, .int .u32 0, .int .i64 0, .int .i64 0, .slice (some ⟨w.heap.size, 0, none⟩) 2 2, .int .i64 0, .int .u32 0, .slice none 0 0, .int .i64 0, .int .u32 0, .int .i64 0, .int .i64 0, .slice (some ⟨w.heap.size + 1, 0, none⟩) 1 1, .int .i64 0, .int .u32 0, .slice (some ⟨w.heap.size + 1 + 1, 0, none⟩) 1 1, .int .i64 0, .int .u32 0, .int .i64 0, .int .i64 0, .slice none 0 0, .int .i64 0, .int .u32 0, .slice (some ⟨w.heap.size + 1 + 1 + 1, 0, none⟩) 1 1, .int .i64 0, .int .u32 0, .int .i64 0, .int .i64 0, .slice none 0 0, .int .i64 0, .int .u32 0, .slice (some ⟨w.heap.size + 1 + 1 + 1 + 1, 0, none⟩) 1 1, .int .i64 0, .int .u32 0, .int .i64 0, .int .i64 0, .slice none 0 0, .int .i64 0, .int .u32 0, .slice (some ⟨w.heap.size + 1 + 1 + 1 + 1 + 1, 0, none⟩) 1 1, .int .i64 9, .int .u32 0] 32)
  simpa [kw] using h
theorem kw_size (w : World) : (kw w).heap.size = w.heap.size + 7 := by simp [kw]
theorem kw_row0 (w W : World) (hW : Below (kw w).heap.size (kw w) W) : IRow W (some ⟨w.heap.size, 0, none⟩) [1, 1] := by
  have h : (kw w).heap[w.heap.size]? = some (.cells #[.int .i64 1, .int .i64 1] 3 (0, 0)) := by
    have e : (kw w).heap = ((((((w.heap.push (.cells #[.int .i64 1, .int .i64 1] 3)).push (.cells #[.int .i64 1] 3)).push (.cells #[.int .i64 1] 3)).push (.cells #[.int .i64 96] 3)).push (.cells #[.int .i64 (-1)] 3)).push (.cells #[.int .i64 1] 3)).push (.cells #[.int .i64 (-1), .int .i64 0, .slice none 0 0, .int .i64 0, .int .u32 0, .slice none 0 0, .int .i64 0, .int .u32 0, .int .i64 0, .int .i64 (-1), .slice none 0 0, .int .i64 0, .int .u32 0, .slice none 0 0, .int .i64 0, .int .u32 0, .int .i64 2147483648, .int .i64 0, .slice none 0 0, .int .i64 0, .int .u32 0, .slice none 0 0, .int .i64 0, .int .u32 0, .int .i64 0, .int .i64 0, .slice none 0 0, .int .i64 1, .int .u32 0, .slice none 0 0, .int .i64 0, .int .u32 0, .int .i64 0, .int .i64 0, .slice (some ⟨w.heap.size, 0, none⟩) 2 2, .int .i64 0, .int .u32 0, .slice none 0 0, .int .i64 0, .int .u32 0, .int .i64 0, .int .i64 0, .slice (some ⟨w.heap.size + 1, 0, none⟩) 1 1, .int .i64 0, .int .u32 0, .slice (some ⟨w.heap.size + 1 + 1, 0, none⟩) 1 1, .int .i64 0, .int .u32 0, .int .i64 0, .int .i64 0, .slice none 0 0, .int .i64 0, .int .u32 0, .slice (some ⟨w.heap.size + 1 + 1 + 1, 0, none⟩) 1 1, .int .i64 0, .int .u32 0, .int .i64 0, .int .i64 0, .slice none 0 0, .int .i64 0, .int .u32 0, .slice (some ⟨w.heap.size + 1 + 1 + 1 + 1, 0, none⟩) 1 1, .int .i64 0, .int .u32 0, .int .i64 0, .int .i64 0, .slice none 0 0, .int .i64 0, .int .u32 0, .slice (some ⟨w.heap.size + 1 + 1 + 1 + 1 + 1, 0, none⟩) 1 1, .int .i64 9, .int .u32 0] 32) := rfl
    rw [e]
    simp only [Array.getElem?_push, Array.size_push]
    rw [if_neg (by omega)]
    rw [if_neg (by omega)]
    rw [if_neg (by omega)]
    rw [if_neg (by omega)]
    rw [if_neg (by omega)]
    rw [if_neg (by omega)]
    first | rw [if_pos trivial] | rw [if_pos rfl] | rfl
  have hlt : w.heap.size < (kw w).heap.size := by rw [kw_size]; omega
  have h2 := (hW.block _ hlt).trans h
  refine .inr ⟨_, 0, rfl, Nat.lt_of_lt_of_le hlt hW.size, fun i hi => ?_⟩
  rw [Nat.zero_add, cell_of_row W _ i _ 3 (0, 0) h2]
  rcases (by simp at hi; omega : i = 0 ∨ i = 1) with rfl | rfl <;> rfl
theorem kw_row1 (w W : World) (hW : Below (kw w).heap.size (kw w) W) : IRow W (some ⟨w.heap.size + 1, 0, none⟩) [1] := by
  have h : (kw w).heap[w.heap.size + 1]? = some (.cells #[.int .i64 1] 3 (0, 0)) := by
    have e : (kw w).heap = ((((((w.heap.push (.cells #[.int .i64 1, .int .i64 1] 3)).push (.cells #[.int .i64 1] 3)).push (.cells #[.int .i64 1] 3)).push (.cells #[.int .i64 96] 3)).push (.cells #[.int .i64 (-1)] 3)).push (.cells #[.int .i64 1] 3)).push (.cells #[.int .i64 (-1), .int .i64 0, .slice none 0 0, .int .i64 0, .int .u32 0, .slice none 0 0, .int .i64 0, .int .u32 0, .int .i64 0, .int .i64 (-1), .slice none 0 0, .int .i64 0, .int .u32 0, .slice none 0 0, .int .i64 0, .int .u32 0, .int .i64 2147483648, .int .i64 0, .slice none 0 0, .int .i64 0, .int .u32 0, .slice none 0 0, .int .i64 0, .int .u32 0, .int .i64 0, .int .i64 0, .slice none 0 0, .int .i64 1, .int .u32 0, .slice none 0 0, .int .i64 0, .int .u32 0, .int .i64 0, .int .i64 0, .slice (some ⟨w.heap.size, 0, none⟩) 2 2, .int .i64 0, .int .u32 0, .slice none 0 0, .int .i64 0, .int .u32 0, .int .i64 0, .int .i64 0, .slice (some ⟨w.heap.size + 1, 0, none⟩) 1 1, .int .i64 0, .int .u32 0, .slice (some ⟨w.heap.size + 1 + 1, 0, none⟩) 1 1, .int .i64 0, .int .u32 0, .int .i64 0, .int .i64 0, .slice none 0 0, .int .i64 0, .int .u32 0, .slice (some ⟨w.heap.size + 1 + 1 + 1, 0, none⟩) 1 1, .int .i64 0, .int .u32 0, .int .i64 0, .int .i64 0, .slice none 0 0, .int .i64 0, .int .u32 0, .slice (some ⟨w.heap.size + 1 + 1 + 1 + 1, 0, none⟩) 1 1, .int .i64 0, .int .u32 0, .int .i64 0, .int .i64 0, .slice none 0 0, .int .i64 0, .int .u32 0, .slice (some ⟨w.heap.size + 1 + 1 + 1 + 1 + 1, 0, none⟩) 1 1, .int .i64 9, .int .u32 0] 32) := rfl
    rw [e]
    simp only [Array.getElem?_push, Array.size_push]
    rw [if_neg (by omega)]
    rw [if_neg (by omega)]
    rw [if_neg (by omega)]
    rw [if_neg (by omega)]
    rw [if_neg (by omega)]
    first | rw [if_pos trivial] | rw [if_pos rfl] | rfl
  have hlt : w.heap.size + 1 < (kw w).heap.size := by rw [kw_size]; omega
  have h2 := (hW.block _ hlt).trans h
  refine .inr ⟨_, 0, rfl, Nat.lt_of_lt_of_le hlt hW.size, fun i hi => ?_⟩
  rw [Nat.zero_add, cell_of_row W _ i _ 3 (0, 0) h2]
  obtain rfl : i = 0 := by simp at hi; omega
  rfl
theorem kw_row2 (w W : World) (hW : Below (kw w).heap.size (kw w) W) : IRow W (some ⟨w.heap.size + 1 + 1, 0, none⟩) [1] := by
  have h : (kw w).heap[w.heap.size + 1 + 1]? = some (.cells #[.int .i64 1] 3 (0, 0)) := by
    have e : (kw w).heap = ((((((w.heap.push (.cells #[.int .i64 1, .int .i64 1] 3)).push (.cells #[.int .i64 1] 3)).push (.cells #[.int .i64 1] 3)).push (.cells #[.int .i64 96] 3)).push (.cells #[.int .i64 (-1)] 3)).push (.cells #[.int .i64 1] 3)).push (.cells #[.int .i64 (-1), .int .i64 0, .slice none 0 0, .int .i64 0, .int .u32 0, .slice none 0 0, .int .i64 0, .int .u32 0, .int .i64 0, .int .i64 (-1), .slice none 0 0, .int .i64 0, .int .u32 0, .slice none 0 0, .int .i64 0, .int .u32 0, .int .i64 2147483648, .int .i64 0, .slice none 0 0, .int .i64 0, .int .u32 0, .slice none 0 0, .int .i64 0, .int .u32 0, .int .i64 0, .int .i64 0, .slice none 0 0, .int .i64 1, .int .u32 0, .slice none 0 0, .int .i64 0, .int .u32 0, .int .i64 0, .int .i64 0, .slice (some ⟨w.heap.size, 0, none⟩) 2 2, .int .i64 0, .int .u32 0, .slice none 0 0, .int .i64 0, .int .u32 0, .int .i64 0, .int .i64 0, .slice (some ⟨w.heap.size + 1, 0, none⟩) 1 1, .int .i64 0, .int .u32 0, .slice (some ⟨w.heap.size + 1 + 1, 0, none⟩) 1 1, .int .i64 0, .int .u32 0, .int .i64 0, .int .i64 0, .slice none 0 0, .int .i64 0, .int .u32 0, .slice (some ⟨w.heap.size + 1 + 1 + 1, 0, none⟩) 1 1, .int .i64 0, .int .u32 0, .int .i64 0, .int .i64 0, .slice none 0 0, .int .i64 0, .int .u32 0, .slice (some ⟨w.heap.size + 1 + 1 + 1 + 1, 0, none⟩) 1 1, .int .i64 0, .int .u32 0, .int .i64 0, .int .i64 0, .slice none 0 0, .int .i64 0, .int .u32 0, .slice (some ⟨w.heap.size + 1 + 1 + 1 + 1 + 1, 0, none⟩) 1 1, .int .i64 9, .int .u32 0] 32) := rfl
    rw [e]
    simp only [Array.getElem?_push, Array.size_push]
    rw [if_neg (by omega)]
    rw [if_neg (by omega)]
    rw [if_neg (by omega)]
    rw [if_neg (by omega)]
    first | rw [if_pos trivial] | rw [if_pos rfl] | rfl
  have hlt : w.heap.size + 1 + 1 < (kw w).heap.size := by rw [kw_size]; omega
  have h2 := (hW.block _ hlt).trans h
  refine .inr ⟨_, 0, rfl, Nat.lt_of_lt_of_le hlt hW.size, fun i hi => ?_⟩
  rw [Nat.zero_add, cell_of_row W _ i _ 3 (0, 0) h2]
  obtain rfl : i = 0 := by simp at hi; omega
  rfl
theorem kw_row3 (w W : World) (hW : Below (kw w).heap.size (kw w) W) : IRow W (some ⟨w.heap.size + 1 + 1 + 1, 0, none⟩) [96] := by
  have h : (kw w).heap[w.heap.size + 1 + 1 + 1]? = some (.cells #[.int .i64 96] 3 (0, 0)) := by
    have e : (kw w).heap = ((((((w.heap.push (.cells #[.int .i64 1, .int .i64 1] 3)).push (.cells #[.int .i64 1] 3)).push (.cells #[.int .i64 1] 3)).push (.cells #[.int .i64 96] 3)).push (.cells #[.int .i64 (-1)] 3)).push (.cells #[.int .i64 1] 3)).push (.cells #[.int .i64 (-1), .int .i64 0, .slice none 0 0, .int .i64 0, .int .u32 0, .slice none 0 0, .int .i64 0, .int .u32 0, .int .i64 0, .int .i64 (-1), .slice none 0 0, .int .i64 0, .int .u32 0, .slice none 0 0, .int .i64 0, .int .u32 0, .int .i64 2147483648, .int .i64 0, .slice none 0 0, .int .i64 0, .int .u32 0, .slice none 0 0, .int .i64 0, .int .u32 0, .int .i64 0, .int .i64 0, .slice none 0 0, .int .i64 1, .int .u32 0, .slice none 0 0, .int .i64 0, .int .u32 0, .int .i64 0, .int .i64 0, .slice (some ⟨w.heap.size, 0, none⟩) 2 2, .int .i64 0, .int .u32 0, .slice none 0 0, .int .i64 0, .int .u32 0, .int .i64 0, .int .i64 0, .slice (some ⟨w.heap.size + 1, 0, none⟩) 1 1, .int .i64 0, .int .u32 0, .slice (some ⟨w.heap.size + 1 + 1, 0, none⟩) 1 1, .int .i64 0, .int .u32 0, .int .i64 0, .int .i64 0, .slice none 0 0, .int .i64 0, .int .u32 0, .slice (some ⟨w.heap.size + 1 + 1 + 1, 0, none⟩) 1 1, .int .i64 0, .int .u32 0, .int .i64 0, .int .i64 0, .slice none 0 0, .int .i64 0, .int .u32 0, .slice (some ⟨w.heap.size + 1 + 1 + 1 + 1, 0, none⟩) 1 1, .int .i64 0, .int .u32 0, .int .i64 0, .int .i64 0, .slice none 0 0, .int .i64 0, .int .u32 0, .slice (some ⟨w.heap.size + 1 + 1 + 1 + 1 + 1, 0, none⟩) 1 1, .int .i64 9, .int .u32 0] 32) := rfl
    rw [e]
    simp only [Array.getElem?_push, Array.size_push]
    rw [if_neg (by omega)]
    rw [if_neg (by omega)]
    rw [if_neg (by omega)]
    first | rw [if_pos trivial] | rw [if_pos rfl] | rfl
  have hlt : w.heap.size + 1 + 1 + 1 < (kw w).heap.size := by rw [kw_size]; omega
  have h2 := (hW.block _ hlt).trans h
  refine .inr ⟨_, 0, rfl, Nat.lt_of_lt_of_le hlt hW.size, fun i hi => ?_⟩
  rw [Nat.zero_add, cell_of_row W _ i _ 3 (0, 0) h2]
  obtain rfl : i = 0 := by simp at hi; omega
  rfl
theorem kw_row4 (w W : World) (hW : Below (kw w).heap.size (kw w) W) : IRow W (some ⟨w.heap.size + 1 + 1 + 1 + 1, 0, none⟩) [-1] := by
  have h : (kw w).heap[w.heap.size + 1 + 1 + 1 + 1]? = some (.cells #[.int .i64 (-1)] 3 (0, 0)) := by
    have e : (kw w).heap = ((((((w.heap.push (.cells #[.int .i64 1, .int .i64 1] 3)).push (.cells #[.int .i64 1] 3)).push (.cells #[.int .i64 1] 3)).push (.cells #[.int .i64 96] 3)).push (.cells #[.int .i64 (-1)] 3)).push (.cells #[.int .i64 1] 3)).push (.cells #[.int .i64 (-1), .int .i64 0, .slice none 0 0, .int .i64 0, .int .u32 0, .slice none 0 0, .int .i64 0, .int .u32 0, .int .i64 0, .int .i64 (-1), .slice none 0 0, .int .i64 0, .int .u32 0, .slice none 0 0, .int .i64 0, .int .u32 0, .int .i64 2147483648, .int .i64 0, .slice none 0 0, .int .i64 0, .int .u32 0, .slice none 0 0, .int .i64 0, .int .u32 0, .int .i64 0, .int .i64 0, .slice none 0 0, .int .i64 1, .int .u32 0, .slice none 0 0, .int .i64 0, .int .u32 0, .int .i64 0, .int .i64 0, .slice (some ⟨w.heap.size, 0, none⟩) 2 2, .int .i64 0, .int .u32 0, .slice none 0 0, .int .i64 0, .int .u32 0, .int .i64 0, .int .i64 0, .slice (some ⟨w.heap.size + 1, 0, none⟩) 1 1, .int .i64 0, .int .u32 0, .slice (some ⟨w.heap.size + 1 + 1, 0, none⟩) 1 1, .int .i64 0, .int .u32 0, .int .i64 0, .int .i64 0, .slice none 0 0, .int .i64 0, .int .u32 0, .slice (some ⟨w.heap.size + 1 + 1 + 1, 0, none⟩) 1 1, .int .i64 0, .int .u32 0, .int .i64 0, .int .i64 0, .slice none 0 0, .int .i64 0, .int .u32 0, .slice (some ⟨w.heap.size + 1 + 1 + 1 + 1, 0, none⟩) 1 1, .int .i64 0, .int .u32 0, .int .i64 0, .int .i64 0, .slice none 0 0, .int .i64 0, .int .u32 0, .slice (some ⟨w.heap.size + 1 + 1 + 1 + 1 + 1, 0, none⟩) 1 1, .int .i64 9, .int .u32 0] 32) := rfl
    rw [e]
    simp only [Array.getElem?_push, Array.size_push]
    rw [if_neg (by omega)]
    rw [if_neg (by omega)]
    first | rw [if_pos trivial] | rw [if_pos rfl] | rfl
  have hlt : w.heap.size + 1 + 1 + 1 + 1 < (kw w).heap.size := by rw [kw_size]; omega
  have h2 := (hW.block _ hlt).trans h
  refine .inr ⟨_, 0, rfl, Nat.lt_of_lt_of_le hlt hW.size, fun i hi => ?_⟩
  rw [Nat.zero_add, cell_of_row W _ i _ 3 (0, 0) h2]
  obtain rfl : i = 0 := by simp at hi; omega
  rfl
theorem kw_row5 (w W : World) (hW : Below (kw w).heap.size (kw w) W) : IRow W (some ⟨w.heap.size + 1 + 1 + 1 + 1 + 1, 0, none⟩) [1] := by
  have h : (kw w).heap[w.heap.size + 1 + 1 + 1 + 1 + 1]? = some (.cells #[.int .i64 1] 3 (0, 0)) := by
    have e : (kw w).heap = ((((((w.heap.push (.cells #[.int .i64 1, .int .i64 1] 3)).push (.cells #[.int .i64 1] 3)).push (.cells #[.int .i64 1] 3)).push (.cells #[.int .i64 96] 3)).push (.cells #[.int .i64 (-1)] 3)).push (.cells #[.int .i64 1] 3)).push (.cells #[.int .i64 (-1), .int .i64 0, .slice none 0 0, .int .i64 0, .int .u32 0, .slice none 0 0, .int .i64 0, .int .u32 0, .int .i64 0, .int .i64 (-1), .slice none 0 0, .int .i64 0, .int .u32 0, .slice none 0 0, .int .i64 0, .int .u32 0, .int .i64 2147483648, .int .i64 0, .slice none 0 0, .int .i64 0, .int .u32 0, .slice none 0 0, .int .i64 0, .int .u32 0, .int .i64 0, .int .i64 0, .slice none 0 0, .int .i64 1, .int .u32 0, .slice none 0 0, .int .i64 0, .int .u32 0, .int .i64 0, .int .i64 0, .slice (some ⟨w.heap.size, 0, none⟩) 2 2, .int .i64 0, .int .u32 0, .slice none 0 0, .int .i64 0, .int .u32 0, .int .i64 0, .int .i64 0, .slice (some ⟨w.heap.size + 1, 0, none⟩) 1 1, .int .i64 0, .int .u32 0, .slice (some ⟨w.heap.size + 1 + 1, 0, none⟩) 1 1, .int .i64 0, .int .u32 0, .int .i64 0, .int .i64 0, .slice none 0 0, .int .i64 0, .int .u32 0, .slice (some ⟨w.heap.size + 1 + 1 + 1, 0, none⟩) 1 1, .int .i64 0, .int .u32 0, .int .i64 0, .int .i64 0, .slice none 0 0, .int .i64 0, .int .u32 0, .slice (some ⟨w.heap.size + 1 + 1 + 1 + 1, 0, none⟩) 1 1, .int .i64 0, .int .u32 0, .int .i64 0, .int .i64 0, .slice none 0 0, .int .i64 0, .int .u32 0, .slice (some ⟨w.heap.size + 1 + 1 + 1 + 1 + 1, 0, none⟩) 1 1, .int .i64 9, .int .u32 0] 32) := rfl
    rw [e]
    simp only [Array.getElem?_push, Array.size_push]
    rw [if_neg (by omega)]
    first | rw [if_pos trivial] | rw [if_pos rfl] | rfl
  have hlt : w.heap.size + 1 + 1 + 1 + 1 + 1 < (kw w).heap.size := by rw [kw_size]; omega
  have h2 := (hW.block _ hlt).trans h
  refine .inr ⟨_, 0, rfl, Nat.lt_of_lt_of_le hlt hW.size, fun i hi => ?_⟩
  rw [Nat.zero_add, cell_of_row W _ i _ 3 (0, 0) h2]
  obtain rfl : i = 0 := by simp at hi; omega
  rfl
structure KnownAt (W : World) (B i : Nat) : Prop where
  ex : ∃ (nb bt : Int) (aj : Option Addr) (nj : Nat) (lj : Int) (ac : Option Addr) (nc : Nat) (lc : Int) (sj sc : List Int),
    (W.cell? ⟨B, i * 8, none⟩ = some (.int .i64 nb) ∧ W.cell? ⟨B, i * 8 + 1, none⟩ = some (.int .i64 bt) ∧ W.cell? ⟨B, i * 8 + 2, none⟩ = some (.slice aj nj nj) ∧ W.cell? ⟨B, i * 8 + 3, none⟩ = some (.int .i64 lj) ∧ W.cell? ⟨B, i * 8 + 4, none⟩ = some (.int .u32 0) ∧
      W.cell? ⟨B, i * 8 + 5, none⟩ = some (.slice ac nc nc) ∧ W.cell? ⟨B, i * 8 + 6, none⟩ = some (.int .i64 lc) ∧ W.cell? ⟨B, i * 8 + 7, none⟩ = some (.int .u32 0)) ∧
    IRow W aj sj ∧ sj.length = nj ∧ nj ≤ 1000 ∧ IRow W ac sc ∧ sc.length = nc ∧ nc ≤ 1000 ∧ Sp.may ⟨nb, bt, ⟨sj, lj, 0⟩, ⟨sc, lc, 0⟩⟩ 96 = false
theorem known_at (w W : World) (hW : Below (kw w).heap.size (kw w) W) (i : Nat) (hi : i < 9) : KnownAt W (w.heap.size + 1 + 1 + 1 + 1 + 1 + 1) i := by
  have hB := (hW.block _ (by rw [kw_size]; omega)).trans (kw_big w)
  have hc := fun j => cell_of_row W _ j _ 32 (0, 0) hB
  rcases (by omega : i = 0 ∨ i = 1 ∨ i = 2 ∨ i = 3 ∨ i = 4 ∨ i = 5 ∨ i = 6 ∨ i = 7 ∨ i = 8) with rfl | rfl | rfl | rfl | rfl | rfl | rfl | rfl | rfl
  · exact ⟨(-1), 0, none, 0, 0, none, 0, 0, [], [], ⟨by rw [hc]; rfl, by rw [hc]; rfl, by rw [hc]; rfl, by rw [hc]; rfl, by rw [hc]; rfl, by rw [hc]; rfl, by rw [hc]; rfl, by rw [hc]; rfl⟩, IRow.nil _ _, rfl, by decide, IRow.nil _ _, rfl, by decide, by decide⟩
  · exact ⟨0, (-1), none, 0, 0, none, 0, 0, [], [], ⟨by rw [hc]; rfl, by rw [hc]; rfl, by rw [hc]; rfl, by rw [hc]; rfl, by rw [hc]; rfl, by rw [hc]; rfl, by rw [hc]; rfl, by rw [hc]; rfl⟩, IRow.nil _ _, rfl, by decide, IRow.nil _ _, rfl, by decide, by decide⟩
  · exact ⟨2147483648, 0, none, 0, 0, none, 0, 0, [], [], ⟨by rw [hc]; rfl, by rw [hc]; rfl, by rw [hc]; rfl, by rw [hc]; rfl, by rw [hc]; rfl, by rw [hc]; rfl, by rw [hc]; rfl, by rw [hc]; rfl⟩, IRow.nil _ _, rfl, by decide, IRow.nil _ _, rfl, by decide, by decide⟩
  · exact ⟨0, 0, none, 0, 1, none, 0, 0, [], [], ⟨by rw [hc]; rfl, by rw [hc]; rfl, by rw [hc]; rfl, by rw [hc]; rfl, by rw [hc]; rfl, by rw [hc]; rfl, by rw [hc]; rfl, by rw [hc]; rfl⟩, IRow.nil _ _, rfl, by decide, IRow.nil _ _, rfl, by decide, by decide⟩
  · exact ⟨0, 0, (some ⟨w.heap.size, 0, none⟩), 2, 0, none, 0, 0, [1, 1], [], ⟨by rw [hc]; rfl, by rw [hc]; rfl, by rw [hc]; rfl, by rw [hc]; rfl, by rw [hc]; rfl, by rw [hc]; rfl, by rw [hc]; rfl, by rw [hc]; rfl⟩, kw_row0 w W hW, rfl, by decide, IRow.nil _ _, rfl, by decide, by decide⟩
  · exact ⟨0, 0, (some ⟨w.heap.size + 1, 0, none⟩), 1, 0, (some ⟨w.heap.size + 1 + 1, 0, none⟩), 1, 0, [1], [1], ⟨by rw [hc]; rfl, by rw [hc]; rfl, by rw [hc]; rfl, by rw [hc]; rfl, by rw [hc]; rfl, by rw [hc]; rfl, by rw [hc]; rfl, by rw [hc]; rfl⟩, kw_row1 w W hW, rfl, by decide, kw_row2 w W hW, rfl, by decide, by decide⟩
  · exact ⟨0, 0, none, 0, 0, (some ⟨w.heap.size + 1 + 1 + 1, 0, none⟩), 1, 0, [], [96], ⟨by rw [hc]; rfl, by rw [hc]; rfl, by rw [hc]; rfl, by rw [hc]; rfl, by rw [hc]; rfl, by rw [hc]; rfl, by rw [hc]; rfl, by rw [hc]; rfl⟩, IRow.nil _ _, rfl, by decide, kw_row3 w W hW, rfl, by decide, by decide⟩
  · exact ⟨0, 0, none, 0, 0, (some ⟨w.heap.size + 1 + 1 + 1 + 1, 0, none⟩), 1, 0, [], [-1], ⟨by rw [hc]; rfl, by rw [hc]; rfl, by rw [hc]; rfl, by rw [hc]; rfl, by rw [hc]; rfl, by rw [hc]; rfl, by rw [hc]; rfl, by rw [hc]; rfl⟩, IRow.nil _ _, rfl, by decide, kw_row4 w W hW, rfl, by decide, by decide⟩
  · exact ⟨0, 0, none, 0, 0, (some ⟨w.heap.size + 1 + 1 + 1 + 1 + 1, 0, none⟩), 1, 9, [], [1], ⟨by rw [hc]; rfl, by rw [hc]; rfl, by rw [hc]; rfl, by rw [hc]; rfl, by rw [hc]; rfl, by rw [hc]; rfl, by rw [hc]; rfl, by rw [hc]; rfl⟩, IRow.nil _ _, rfl, by decide, kw_row5 w W hW, rfl, by decide, by decide⟩
set_option maxRecDepth 40000 in
set_option maxHeartbeats 16000000 in
theorem superKnown_walk (w : World) : Calls Try.prog 5 #[] w fun e w' => e = .returned (.bool true) ∧ Below w.heap.size w w' := by
  go_enter Try.func5, Try.ntmps5
  go_wp2_with fail
  refine (awake_any _).mono ?_
  rintro e w2 ⟨rfl, hb2⟩
  have HB2 := hid (hb2.trans ((kw_low w2).mono hb2.size))
  clear hb2
  go_wp2_with fail
  have HKA := hid (known_at w2)
  obtain ⟨W4, hW4⟩ : ∃ W4, kw w2 = W4 := ⟨_, rfl⟩
  rw [hW4] at HB2 HKA
  have HW4 := hid hW4
  clear hW4
  generalize w2.heap.size + 1 + 1 + 1 + 1 + 1 + 1 = B at HKA ⊢
  go_loopg [2] 9 (fun gk v2 wr => ∃ i : Nat, i + gk = 9 ∧ v2 = .int .i64 (i : Int) ∧ Below W4.heap.size W4 wr)
  case atStart => exact ⟨0, rfl, rfl, by rw [← HW4.out]; exact Below.refl _ _⟩
  case round =>
    obtain ⟨i, hi, rfl, hbr⟩ := hrel
    have HBR := hid hbr
    clear hbr
    by_cases hi9 : i < 9
    · have hii : (i : Int) < 9 := by omega
      obtain ⟨nb, bt, aj, nj, lj, ac, nc, lc, sj, sc, ⟨e0, e1, e2, e3, e4, e5, e6, e7⟩, hj, hnj, hmj, hc, hnc, hmc, hmay⟩ := (HKA.out wr HBR.out i hi9).ex
      have kb := bytesS_no wr nb bt aj nj nj lj 0 ac nc nc lc 0 sj sc hj hnj (by omega) hc hnc (by omega) hmay
      have HKB := hid kb
      have HMY := hid hmay
      have HMM := hid (And.intro hmj hmc)
      have HNN := hid (And.intro hnj hnc)
      clear kb hmay hj hnj hmj hc hnc hmc
      go_wp2_with fail
      refine HKB.out.mono ?_
      rintro e w5 ⟨rfl, hb5⟩
      have HB5 := hid (HBR.out.trans (hb5.mono HBR.out.size))
      clear hb5 e0 e1 e2 e3 e4 e5 e6 e7 HKB HMY HMM HNN
      obtain ⟨nb, bt, aj, nj, lj, ac, nc, lc, sj, sc, ⟨e0, e1, e2, e3, e4, e5, e6, e7⟩, hj, hnj, hmj, hc, hnc, hmc, hmay⟩ := (HKA.out w5 HB5.out i hi9).ex
      have kb := may_any w5 nb bt aj nj nj lj 0 ac nc nc lc 0 sj sc hj hnj (by omega) hc hnc (by omega) 96
      rw [hmay] at kb
      have HKB := hid kb
      clear kb hmay hj hnj hmj hc hnc hmc
      go_wp2_with fail
      refine HKB.out.mono ?_
      rintro e w6 ⟨rfl, hb6⟩
      have HB6 := hid (HB5.out.trans (hb6.mono HB5.out.size))
      clear hb6 e0 e1 e2 e3 e4 e5 e6 e7 HKB
      go_wp2_with fail
      go_roundg (gk - 1)
      case measure => omega
      case rel => exact ⟨i + 1, by omega, by go_num, HB6.out⟩
    · have hii : ¬ (i : Int) < 9 := by omega
      have HL := hid (HB2.out.trans (HBR.out.mono HB2.out.size))
      clear HKA HBR HB2
      go_wp2_with fail
      refine (new8 _).mono ?_
      rintro e w7 ⟨q, rfl, p, hd7, hb7, hq7, hp7⟩
      have HL7 := hid (HL.out.trans (hb7.mono HL.out.size))
      have HQP : Hid (w.heap.size ≤ q ∧ w.heap.size ≤ p) := by have := HL.out.size; show _ ∧ _; omega
      have HD7 := hid hd7
      clear hd7 hb7 hq7 hp7 HL
      go_wp2_with fail
      refine (bestS_ok HD7.out rfl (by rw [(fresh_rest 8).1]; decide) 96).mono ?_
      rintro e w8 ⟨hbst, hb8⟩
      rw [zeros_none _ (fresh_slot 8 0), zeros_none _ (fresh_slot 8 1)] at hbst
      change Bested _ _ _ none at hbst
      obtain rfl : e = _ := hbst
      have hba : Below w8.heap.size w8 (w8.alloc (.cells #[.int .i64 0, .int .i64 0, .slice none 0 0, .int .i64 0, .int .u32 0, .slice none 0 0, .int .i64 0, .int .u32 0] 32)) := (Below.refl _ _).alloc (Nat.le_refl _) _
      have hb9 := hb8.trans (hba.mono hb8.size)
      have HL9 := hid (HL7.out.trans (hb9.mono HL7.out.size))
      have HD9 := hid (HD7.out.below hb9)
      clear hb8 hba hb9 HL7 HD7
      go_wp2_with fail
      generalize w8.alloc (.cells #[.int .i64 0, .int .i64 0, .slice none 0 0, .int .i64 0, .int .u32 0, .slice none 0 0, .int .i64 0, .int .u32 0] 32) = w9 at HL9 HD9 ⊢
      refine (write0 HD9.out rfl rfl (by decide) 0 (by decide) (by rw [(fresh_rest 8).1]; decide) 7 0 (by decide) (by decide)).mono ?_
      rintro e w10 ⟨rfl, hd10, ho10⟩
      have HL10 := hid (HL9.out.trans (ho10.low2 HQP.out.1 HQP.out.2 HL9.out.size))
      have HD10 := hid hd10
      clear hd10 ho10 HL9 HD9
      go_wp2_with fail
      refine (write0 HD10.out rfl rfl (by show 4 ≤ 1000000; decide) 1 (by decide) (by rw [layFrom_len, (fresh_rest 8).1]; decide) 7 3 (by decide) (by decide)).mono ?_
      rintro e w11 ⟨rfl, hd11, ho11⟩
      have HL11 := hid (HL10.out.trans (ho11.low2 HQP.out.1 HQP.out.2 HL10.out.size))
      have HD11 := hid hd11
      clear hd11 ho11 HL10 HD10
      have hbb : best (parse ((layFrom 1 (sp0 7 3).bytes 4 (layFrom 0 (sp0 7 0).bytes 4 (fresh 8))).slot 0) 96) (parse ((layFrom 1 (sp0 7 3).bytes 4 (layFrom 0 (sp0 7 0).bytes 4 (fresh 8))).slot 1) 96) = some (sp0 7 0) := by
        rw [slot_other 1 0 _ _ (by decide), slot_same 0 _ _ (by rw [(fresh_rest 8).1]; decide) (bytes_len (sp0_ok 7 0 (by decide) (by decide) 96)), slot_same 1 _ _ (by rw [layFrom_len, (fresh_rest 8).1]; decide) (bytes_len (sp0_ok 7 3 (by decide) (by decide) 96)), sp0_parse 7 0 (by decide) (by decide), sp0_parse 7 3 (by decide) (by decide)]
        rfl
      go_wp2_with fail
      refine (bestS_ok HD11.out rfl (by rw [layFrom_len, layFrom_len, (fresh_rest 8).1]; decide) 96).mono ?_
      rintro e w12 ⟨hbst, hb12⟩
      rw [hbb] at hbst
      obtain ⟨xj, yj, zj, xc, yc, zc, rfl, -, -, -, -, -, -⟩ := hbst
      simp only [sp0]
      have hba : Below w12.heap.size w12 (w12.alloc (.cells #[.int .i64 7, .int .i64 0, .slice xj yj zj, .int .i64 0, .int .u32 0, .slice xc yc zc, .int .i64 0, .int .u32 0] 32)) := (Below.refl _ _).alloc (Nat.le_refl _) _
      have hb13 := hb12.trans (hba.mono hb12.size)
      have HL13 := hid (HL11.out.trans (hb13.mono HL11.out.size))
      have HX13 : Hid ((w12.alloc (.cells #[.int .i64 7, .int .i64 0, .slice xj yj zj, .int .i64 0, .int .u32 0, .slice xc yc zc, .int .i64 0, .int .u32 0] 32)).heap[w12.heap.size]? = some (.cells #[.int .i64 7, .int .i64 0, .slice xj yj zj, .int .i64 0, .int .u32 0, .slice xc yc zc, .int .i64 0, .int .u32 0] 32 (0, 0))) := heap_alloc_new _ _
      clear hb12 hba hb13 HL11 HD11 hbb
      go_wp2_with fail
      generalize w12.alloc (.cells #[.int .i64 7, .int .i64 0, .slice xj yj zj, .int .i64 0, .int .u32 0, .slice xc yc zc, .int .i64 0, .int .u32 0] 32) = w13 at HL13 HX13 ⊢
      generalize w12.heap.size = xb at HX13 ⊢
      refine (writeS_no w13 q (-1) rfl 0 0 none 0 0 0 0 none 0 0 0 0 [] [] (IRow.nil _ _) rfl (by decide) (IRow.nil _ _) rfl (by decide) (by decide) (by decide) (sp0 0 0) rfl (sp0_ok 0 0 (by decide) (by decide) 96)).mono ?_
      rintro e w14 ⟨rfl, hb14⟩
      have HL14 := hid (HL13.out.trans (hb14.mono HL13.out.size))
      have HX14 := hid ((hb14.block _ (Array.getElem?_eq_some_iff.1 HX13.out).1).trans HX13.out)
      clear hb14 HL13 HX13
      go_wp2_with fail
      refine (show Calls Try.prog 17 #[.int .i64 5] w14 _ from new_any w14 5 (by decide)).mono ?_
      rintro e w15 ⟨q2, rfl, p2, hd15, hb15, -, -⟩
      have HL15 := hid (HL14.out.trans (hb15.mono HL14.out.size))
      have HX15 := hid ((hb15.block _ (Array.getElem?_eq_some_iff.1 HX14.out).1).trans HX14.out)
      have HD15 := hid hd15
      clear hb15 hd15 HL14 HX14
      go_wp2_with fail
      refine (writeS_small HD15.out rfl 1 (by decide) (by rw [(fresh_rest 5).1]; decide) 0 0 none 0 0 0 0 none 0 0 0 0 [] [] (IRow.nil _ _) rfl (by decide) (IRow.nil _ _) rfl (by decide) (by decide) (by decide) (sp0 0 0) rfl (sp0_ok 0 0 (by decide) (by decide) 96)).mono ?_
      rintro e w16 ⟨rfl, hb16⟩
      have HL16 := hid (HL15.out.trans (hb16.mono HL15.out.size))
      have HX16 := hid ((hb16.block _ (Array.getElem?_eq_some_iff.1 HX15.out).1).trans HX15.out)
      have HD16 := hid (HD15.out.below hb16)
      clear hb16 HL15 HX15 HD15
      go_wp2_with fail
      refine (readS_small HD16.out rfl 1 (by decide) (by rw [(fresh_rest 5).1]; decide) (by rw [(fresh_rest 5).1]; decide) 96).mono ?_
      rintro e w17 ⟨rfl, hb17⟩
      have hba : Below w17.heap.size w17 (w17.alloc (.cells #[.int .i64 0, .int .i64 0, .slice none 0 0, .int .i64 0, .int .u32 0, .slice none 0 0, .int .i64 0, .int .u32 0] 32)) := (Below.refl _ _).alloc (Nat.le_refl _) _
      have hb18 := hb17.trans (hba.mono hb17.size)
      have HL18 := hid (HL16.out.trans (hb18.mono HL16.out.size))
      have HX18 := hid ((hb18.block _ (Array.getElem?_eq_some_iff.1 HX16.out).1).trans HX16.out)
      clear hb17 hba hb18 HL16 HX16 HD16
      go_wp2_with fail
      generalize w17.alloc (.cells #[.int .i64 0, .int .i64 0, .slice none 0 0, .int .i64 0, .int .u32 0, .slice none 0 0, .int .i64 0, .int .u32 0] 32) = w18 at HL18 HX18 ⊢
      generalize w17.heap.size = xq at *
      refine (bytesS_any w18 0 0 none 0 0 0 0 none 0 0 0 0 [] [] (IRow.nil _ _) rfl (by decide) (IRow.nil _ _) rfl (by decide) (by decide) (by decide) (sp0 0 0) rfl (sp0_ok 0 0 (by decide) (by decide) 96)).mono ?_
      rintro e w19 ⟨g, cap, rfl, ho19, hb19⟩
      obtain ⟨hcp, hr19⟩ := row_of_owns' (bytes_len (sp0_ok 0 0 (by decide) (by decide) 96)) ho19 (bytes_lt (sp0_ok 0 0 (by decide) (by decide) 96) (show (0 : Nat) < 4294967296 by decide) (show (0 : Nat) < 4294967296 by decide))
      have HL19 := hid (HL18.out.trans (hb19.mono HL18.out.size))
      have HX19 := hid ((hb19.block _ (Array.getElem?_eq_some_iff.1 HX18.out).1).trans HX18.out)
      have hsl : ∀ w, (Instr.slice 35 (.slice (some ⟨g, 0, none⟩) 256 cap) (some (.int .i64 1)) none none).run Try.prog w = .ok (.slice (fromA (some ⟨g, 0, none⟩) 1 cap) 255 (cap - 1)) w := fun w => slice_from w (some ⟨g, 0, none⟩) 256 cap 1 (by decide)
      have hrd := row_drop hr19 1 cap (by rw [bytes_len (sp0_ok 0 0 (by decide) (by decide) 96)]; exact hcp)
      have hpl : ((sp0 0 0).bytes.drop 1).length = 255 := by rw [List.length_drop, bytes_len (sp0_ok 0 0 (by decide) (by decide) 96)]
      have kp := parse_any w19 (fromA (some ⟨g, 0, none⟩) 1 cap) ((sp0 0 0).bytes.drop 1) 255 (cap - 1) hrd hpl (by omega) 96
      rw [show parse ((sp0 0 0).bytes.drop 1) 96 = none from by unfold parse; rw [if_neg (fun h => by rw [hpl] at h; exact absurd h.1 (by decide))]] at kp
      have HKP := hid kp
      generalize fromA (some ⟨g, 0, none⟩) 1 cap = fa at *
      clear ho19 hb19 hcp hr19 hrd hpl kp HL18 HX18
      go_wp2_with fail
      refine HKP.out.mono ?_
      rintro e w20 ⟨hpar, hb20⟩
      obtain rfl : e = _ := hpar
      have hba : Below w20.heap.size w20 (w20.alloc (.cells #[.int .i64 0, .int .i64 0, .slice none 0 0, .int .i64 0, .int .u32 0, .slice none 0 0, .int .i64 0, .int .u32 0] 32)) := (Below.refl _ _).alloc (Nat.le_refl _) _
      have hb21 := hb20.trans (hba.mono hb20.size)
      have HL21 := hid (HL19.out.trans (hb21.mono HL19.out.size))
      have hX21 := (hb21.block _ (Array.getElem?_eq_some_iff.1 HX19.out).1).trans HX19.out
      have hx1 := (cells8 hX21).2.1
      clear hb20 hba hb21 HL19 HX19 hX21 HKP hsl
      go_wp2_with fail
      go_ret
      exact ⟨rfl, HL21.out⟩
set_option linter.unusedVariables false
set_option maxRecDepth 100000 in
theorem superKnown_lifted (os : Os) (started : os.Started) (H : Type) (enc : TypeId × Value → H) :
    ReturnsInHanded {} Try.checked os 5 .any (Rows.superKnownSpec.pre6 enc Try.prog Try.f5 Rows.superKnownRow.domain false) (Rows.superKnownSpec.post enc Try.prog Try.f5 false true false false) := by
  refine returnsInHanded_of_change (C := Try.checked) laws_own started (by kernel_rfl) Try.func5
    (ChangeSpec.witness6 (enc := enc) (C := Try.checked) false ⟨#[], #[], []⟩ 8 (by kernel_rfl) (by kernel_rfl) (by kernel_rfl) (by kernel_rfl)) ?_
  intro W base args ds gs before hval0 hW hcnd _
  have hval : ∀ (j : Nat) t v, Try.f5.params[j]? = some t → args[j]? = some v → Value.okWide Try.prog W .any base t v := hval0
  have hW' := hW
  obtain ⟨p, q, hA0, hV, rfl, hfz, hnd⟩ := hW
  have hA : DataW.TrodAll enc Try.prog W 0 (fun _ => true) true Try.f5.params.toList args.toList ds p := hA0
  rw [Try.params5] at hA hval
  obtain ⟨rfl, rfl, rfl⟩ := trodAll_none hA
  obtain ⟨rfl, rfl⟩ := trodVars_none hV
  clear hA0 hval0
  simp only [List.append_nil] at hW'
  refine (superKnown_walk W).mono fun e W' ⟨he, bel⟩ => ?_
  subst he
  exact ⟨_, rfl, _, _, _, [], _, [], hW', trodAll_mk1 (shut_bool Try.underlying4 _), trodAll_mk0, rfl, bel.frame _, fun h => by cases h⟩
theorem superKnown_over : Rows.superKnownRow.holds Try.pinned (OpenSpec.ofChange Rows.superKnownSpec) :=
  OpenClaim.holds_of_wide 5 Try.f5 rfl rfl rfl rfl rfl rfl rfl ⟨rfl, rfl, rfl, rfl, rfl⟩ rfl rfl rfl rfl rfl (by kernel_rfl) Try.func5 (by kernel_rfl)
    (of_decide_eq_true (by kernel_rfl)) (by unfold Func.isWrapper; first | (rw [if_pos (by decide +kernel)]; kernel_rfl) | (rw [if_neg (by decide +kernel)]; exact ⟨rfl, rfl⟩))
    (fun os started H enc _ => superKnown_lifted os started H enc)
theorem superKnown_holds : Rows.SuperKnownSaid := superKnown_over
#print axioms superKnown_holds
end Go.Proofs.Ytmfmhlhpleahpaa
