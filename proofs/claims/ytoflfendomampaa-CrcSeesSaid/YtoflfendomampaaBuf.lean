/- A row of bytes that the law itself has made: what lies in it, what a store turns, and that nothing older turns. No condition. -/
import Derived.Test.YtoflfendomampaaFrame
import Derived.Deep.OwnRows
namespace Go.Proofs.Ytoflfendomampaa
open Go.RowKit Crc
structure Buf (w wr : World) (g : Nat) (m : List Nat) : Prop where
  at_ : wr.heap[g]? = some (.cells (row8 m) 5 (0, 0))
  new : w.heap.size ≤ g
  low : Below w.heap.size w wr
  lt : ∀ x ∈ m, x < 256
theorem Buf.cell {w wr : World} {g : Nat} {m : List Nat} (h : Buf w wr g m) (i : Nat) (hi : i < m.length) : wr.cell? ⟨g, i, none⟩ = some (.int .u8 (m.getD i 0 : Nat)) := by
  rw [cell_of_row wr _ i _ 5 (0, 0) h.at_, row8_get m i hi]
theorem Buf.frozen {w wr : World} {g : Nat} {m : List Nat} (h : Buf w wr g m) (i : Nat) : wr.frozen? ⟨g, i, none⟩ = false := frozen_of_row wr _ i _ 5 h.at_
theorem row8_set (l : List Nat) (i n : Nat) : (row8 l).setIfInBounds i (.int .u8 (n : Int)) = row8 (l.set i n) := by
  simp [row8, List.map_set]
theorem Buf.set {w wr : World} {g : Nat} {m : List Nat} (h : Buf w wr g m) (i n : Nat) (hn : n < 256) : Buf w (wr.setCell ⟨g, i, none⟩ (.int .u8 (n : Int))) g (m.set i n) where
  at_ := by rw [heap_setCell_same _ _ _ _ _ _ h.at_, row8_set]
  new := h.new
  low := h.low.setCell h.new _
  lt := by
    intro x hx
    rcases List.mem_or_eq_of_mem_set hx with h1 | h1
    · exact h.lt x h1
    · omega
theorem Buf.drew {w wr : World} {g : Nat} {m : List Nat} (h : Buf w wr g m) : Buf w wr.drew g m := ⟨h.at_, h.new, h.low.drew, h.lt⟩
theorem Buf.row {w wr : World} {g : Nat} {m : List Nat} (h : Buf w wr g m) : Row wr (some ⟨g, 0, none⟩) m := by
  refine ⟨h.lt, .inr ⟨g, 0, rfl, ?_, fun i hi => by rw [Nat.zero_add]; exact h.cell i hi⟩⟩
  exact (Array.getElem?_eq_some_iff.1 h.at_).1
theorem made_row8 (n : Nat) : madeCells #[.int .u8 0] n = row8 (List.replicate n 0) := by
  apply Array.ext
  · simp [row8, size_madeCells]
  · intro i h1 h2
    simp [madeCells, row8, Nat.mod_one]
theorem info5 : (Try.prog.info? 5).map (fun i => (i.zero, i.size, i.bytes)) = some (some (.int .u8 0), 1, 1) := by kernel_rfl
theorem make_any (n : Nat) (hn : n ≤ 1000000) (w : World) : (Instr.makeSlice 22 (.int .i64 (n : Int)) (.int .i64 (n : Int))).run Try.prog w = .ok (.slice (some ⟨w.heap.size, 0, none⟩) n n) (w.alloc (.cells (row8 (List.replicate n 0)) 5)) := by
  rw [← made_row8]
  exact run_make_row' 22 5 (.int .u8 0) 1 Try.underlying22 info5 rfl .i64 .i64 n (by omega) (by omega) w
theorem Buf.made {w W : World} (h : Below w.heap.size w W) (m : List Nat) (hm : ∀ x ∈ m, x < 256) : Buf w (W.alloc (.cells (row8 m) 5)) W.heap.size m :=
  ⟨heap_alloc_new _ _, h.size, h.alloc h.size _, hm⟩
end Go.Proofs.Ytoflfendomampaa
