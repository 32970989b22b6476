/- What LogKnown asks besides: a fuse, a Load on a dead disk, of a length that is not a record's end, of segments that are too few. No condition. -/
import Derived.Test.YteohjfhflodklaaLogW
namespace Go.Proofs.Yteohjfhflodklaa
open Go.ChangeShapes Go.WideShapes Go.ChangeAt Go.RowKit Pen
open Crc (four nx run)
set_option maxRecDepth 4000
set_option linter.unusedVariables false
theorem fuse_any {w : World} {q p : Nat} {d : Dk} (h : DiskAt w q p d) (z : Int) (hz : z < 9223372036854775808) : Calls Try.prog 27 #[.pointer (some ⟨q, 0, none⟩), .int .i64 z] w fun e w' => e = .returned (.tuple #[]) ∧ DiskAt w' q p (d.fused z) ∧ Only q none w w' := by
  have hne := h.ne
  obtain ⟨y, h1, h2, h3, h4, h5⟩ := h
  obtain ⟨c0, c1, c2, c3, c4, cf⟩ := DiskAt.cells h1
  have HF : Hid (DiskAt ((w.setCell ⟨q, 2, none⟩ (.bool (decide (0 ≤ z)))).setCell ⟨q, 3, none⟩ (.int .i64 z)) q p (d.fused z) ∧ Only q none w ((w.setCell ⟨q, 2, none⟩ (.bool (decide (0 ≤ z)))).setCell ⟨q, 3, none⟩ (.int .i64 z))) := by
    have ho := (only_setCell w q 2 none (.bool (decide (0 ≤ z)))).tr (only_setCell _ q 3 none (.int .i64 z))
    refine ⟨⟨z, ?_, (ho.block p (Array.getElem?_eq_some_iff.1 h2).1 hne.symm (by simp)).trans h2, h3, fun m hm => ?_, h5⟩, ho⟩
    · rw [heap_setCell_same _ _ _ _ _ _ (heap_setCell_same _ _ _ _ _ _ h1)]
      by_cases h0 : 0 ≤ z <;> simp [Dk.fused, h0]
    · by_cases h0 : 0 ≤ z
      · simp [Dk.fused, h0] at hm
        omega
      · simp [Dk.fused, h0] at hm
  have cf2 := cf 2
  have cf3 := cf 3
  clear h1 h2 h3 h4 h5 cf hz
  go_enter Try.func27, Try.ntmps27
  by_cases h0 : 0 ≤ z
  · rw [decide_eq_true h0] at HF
    go_wp2_with fail
    go_end0
    exact ⟨rfl, HF.out⟩
  · rw [decide_eq_false h0] at HF
    go_wp2_with fail
    go_end0
    exact ⟨rfl, HF.out⟩

/-- Load on a dead disk. -/
theorem load_dead {w : World} {q p : Nat} {d : Dk} (h : DiskAt w q p d) (hdead : d.dead = true) (v0 v1 v2 : Value) :
    Calls Try.prog 18 #[.pointer (some ⟨q, 0, none⟩), .agg #[v0, v1, v2]] w fun e w' => e = .returned (.tuple #[.pointer none, .slice none 0 0, .int .i64 15]) ∧ Below w.heap.size w w' := by
  have HW0 : Hid (Below w.heap.size w (w.alloc (.cells #[v0, v1, v2] 36))) := (Below.refl _ w).alloc (Nat.le_refl _) _
  have HD := hid (dead_any (h.below HW0.out))
  rw [hdead] at HD
  clear h hdead
  go_enter Try.func18, Try.ntmps18
  go_wp2_with fail
  refine HD.out.mono ?_
  rintro e w1 ⟨rfl, rfl⟩
  go_wp2_with fail
  go_ret3
  exact ⟨rfl, HW0.out⟩
/-- What begins with a record of which the end is missing holds none. -/
theorem scan_short {fits : Nat → Nat → Bool} {D : Nat → List Nat} {last lb n m k b : Nat} {r : List Nat} (hr : r.length ≤ 16384) (h : At D n (secsOf n b (mk last b r))) (hm : 54 * m < r.length + 16) : scan fits D k last lb n m = [] := by
  refine scan_none k ?_
  have ht := at_txt h
  rw [mk_len] at ht
  have hmc : m ≤ cnt (r.length + 16) := by unfold cnt; omega
  have h64 : ∀ i, i < cnt (r.length + 16) → (D (n + i)).length = 64 := fun i hi => by
    rw [h i (by rw [secsOf_len, mk_len]; exact hi), secsOf_get _ _ _ _ (by rw [mk_len]; exact hi)]
    exact sect_len _ _ _ (prt_len _ _)
  rw [← txt_take hmc h64, ht, List.take_append_of_le_length (by rw [mk_len]; omega)]
  exact rd_cut hr _ (by omega)
end Go.Proofs.Yteohjfhflodklaa
