/- The document's example: 'awake' answers true in every world. No condition. -/
import Derived.Test.YtjjhaohgbhekhaaCutC
namespace Go.Proofs.Ytjjhaohgbhekhaa
open Go.RowKit
set_option maxRecDepth 4000
theorem cuts5 : cuts [1, 2, 3, 4, 5] = [[1, 2, 3, 4, 5]] := by decide +kernel
/-- Where the pieces lie, one by one. -/
theorem Recs.at_ {R : Nat → Prop} {base : Nat} {w : World} {v : Value} {rs : List (List Nat)} (h : Recs R base w v rs) : ∃ a c, v = .slice a rs.length c ∧ (rs ≠ [] → ∃ g, a = some ⟨g, 0, none⟩ ∧ ∀ i, i < rs.length → ∃ b off k, w.cell? ⟨g, 0 + i, none⟩ = some (.slice (some ⟨b, off, none⟩) (rs.getD i []).length k) ∧ Row w (some ⟨b, off, none⟩) (rs.getD i [])) := by
  obtain ⟨xs, ho, hx⟩ := h
  rcases ho.2 with ⟨e, h0⟩ | ⟨g, cap, cur, e, hb, hg, hc, hm, hs, ht⟩
  · rw [e, h0]
    exact ⟨_, _, rfl, fun h => absurd (List.length_eq_zero_iff.1 h0) h⟩
  · rw [e]
    refine ⟨_, _, rfl, fun _ => ⟨g, rfl, fun i hi => ?_⟩⟩
    obtain ⟨b, off, c', e1, e2, _⟩ := hx i hi
    refine ⟨b, off, c', ?_, e2⟩
    rw [Nat.zero_add, cell_of_row w g i cur 22 (0, 0) hg]
    rw [← ht, Nat.mul_one, List.getElem?_take, if_pos hi] at e1
    simpa using e1
set_option maxHeartbeats 2000000 in
theorem awake_any (w : World) : Calls Try.prog 8 #[] w fun e w' => e = .returned (.bool true) ∧ Below w.heap.size w w' := by
  obtain ⟨w1, hw1⟩ : ∃ w1, w1 = w.alloc (.cells #[.int .u8 1, .int .u8 2, .int .u8 3, .int .u8 4, .int .u8 5] 5) := ⟨_, rfl⟩
  have HB1 : Hid (Below w.heap.size w w1) := by rw [hw1]; exact (Below.refl _ _).alloc (Nat.le_refl _) _
  have HR1 : Hid (Row w1 (some ⟨w.heap.size, 0, none⟩) [1, 2, 3, 4, 5]) := by rw [hw1]; exact row_new w [1, 2, 3, 4, 5] (by simp) 5 (0, 0)
  have HW1 := hid hw1
  clear hw1
  go_enter Try.func8, Try.ntmps8
  go_wp2_with fail
  rw [← HW1.out]
  refine (cut_any _ [1, 2, 3, 4, 5] 5 5 w1 rfl (by decide) (by decide) HR1.out).mono ?_
  rintro e w2 ⟨v, rfl, hv, hb2⟩
  rw [cuts5] at hv
  obtain ⟨a2, c2, rfl, hv2⟩ := hv.at_
  obtain ⟨g, rfl, hv3⟩ := hv2 (by simp)
  obtain ⟨b, off, k, hc0, _⟩ := hv3 0 (by simp)
  have hc : w2.cell? ⟨g, 0, none⟩ = some (.slice (some ⟨b, off, none⟩) 5 k) := hc0
  have HB2 := hid (HB1.out.trans (hb2.mono HB1.out.size))
  clear hv hv2 hv3 hc0 hb2 HB1 HR1 HW1
  have HS : Hid (([[1, 2, 3, 4, 5]] : List (List Nat)).length = 1) := rfl
  rw [HS.out]
  go_wp2_with fail
  obtain ⟨w3, hw3⟩ : ∃ w3, w3 = w2.alloc (.cells #[.int .u8 4] 5) := ⟨_, rfl⟩
  have HB3 : Hid (Below w.heap.size w w3) := by rw [hw3]; exact HB2.out.alloc HB2.out.size _
  have HR3 : Hid (Row w3 (some ⟨w2.heap.size, 0, none⟩) [4]) := by rw [hw3]; exact row_new w2 [4] (by simp) 5 (0, 0)
  rw [← hw3]
  have h11 : Calls Try.prog 11 #[.slice (some ⟨w2.heap.size, 0, none⟩) 1 1, .int .i64 0] w3 fun e w' => e = .returned (.int .u32 5) ∧ w' = w3 := hash_any _ [4] 1 1 0 w3 rfl (by decide) (by decide) HR3.out (by decide)
  clear hw3
  refine h11.mono ?_
  rintro e w4 ⟨rfl, hw4⟩
  subst hw4
  clear h11 HR3
  go_wp2_with fail
  obtain ⟨w5, hw5⟩ : ∃ w5, w5 = w4.alloc (.cells #[.int .u8 1] 5) := ⟨_, rfl⟩
  have HB5 : Hid (Below w.heap.size w w5) := by rw [hw5]; exact HB3.out.alloc HB3.out.size _
  have HR5 : Hid (Row w5 (some ⟨w4.heap.size, 0, none⟩) [1]) := by rw [hw5]; exact row_new w4 [1] (by simp) 5 (0, 0)
  rw [← hw5]
  have h13 : Calls Try.prog 13 #[.slice (some ⟨w4.heap.size, 0, none⟩) 1 1, .int .i64 0] w5 fun e w' => e = .returned (.int .i64 1) ∧ w' = w5 := ends_any _ [1] 1 1 0 w5 rfl (by decide) (by decide) HR5.out (by decide)
  clear hw5
  refine h13.mono ?_
  rintro e w6 ⟨rfl, hw6⟩
  subst hw6
  clear h13 HR5
  go_wp2_with fail
  go_ret
  exact ⟨rfl, HB5.out⟩
end Go.Proofs.Ytjjhaohgbhekhaa
