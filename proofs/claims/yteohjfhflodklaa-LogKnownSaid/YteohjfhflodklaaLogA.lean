/- The small functions of log: count, number, lowest. No condition but sizes. -/
import Derived.Test.YteohjfhflodklaaLogI
namespace Go.Proofs.Yteohjfhflodklaa
open Go.RowKit Pen
open Crc (four nx run)
set_option maxRecDepth 4000
theorem count54 (w : World) (n : Nat) (hn : n ≤ 1000000000) : Calls Try.prog 30 #[.int .i64 (n : Int), .int .i64 54] w fun e w' => e = .returned (.int .i64 (cnt n : Nat)) ∧ w' = w := by
  have HC : Hid (((n : Int) + 54 - 1) / 54 = (cnt n : Nat)) := by show _ = _; unfold cnt; omega
  go_enter Try.func30, Try.ntmps30
  go_wp2_with fail
  go_ret
  exact ⟨by rw [← HC.out]; rfl, rfl⟩
theorem count8 (w : World) (n : Nat) (hn : n ≤ 1000000000) : Calls Try.prog 30 #[.int .i64 (n : Int), .int .i64 8] w fun e w' => e = .returned (.int .i64 ((n + 7) / 8 : Nat)) ∧ w' = w := by
  have HC : Hid (((n : Int) + 8 - 1) / 8 = ((n + 7) / 8 : Nat)) := by show _ = _; omega
  go_enter Try.func30, Try.ntmps30
  go_wp2_with fail
  go_ret
  exact ⟨by rw [← HC.out]; rfl, rfl⟩
theorem LogAt.c0 {w : World} {g q : Nat} {segs : List Nat} {n last boot : Nat} (h : LogAt w g q segs n last boot) : w.cell? ⟨g, 0, none⟩ = some (.pointer (some ⟨q, 0, none⟩)) := by
  obtain ⟨a, c, h1, _⟩ := h.blk
  rw [cell_of_row w g _ _ 71 (0, 0) h1]; rfl
theorem LogAt.c2 {w : World} {g q : Nat} {segs : List Nat} {n last boot : Nat} (h : LogAt w g q segs n last boot) : w.cell? ⟨g, 2, none⟩ = some (.int .i64 (n : Int)) := by
  obtain ⟨a, c, h1, _⟩ := h.blk
  rw [cell_of_row w g _ _ 71 (0, 0) h1]; rfl
theorem LogAt.c3 {w : World} {g q : Nat} {segs : List Nat} {n last boot : Nat} (h : LogAt w g q segs n last boot) : w.cell? ⟨g, 3, none⟩ = some (.int .u32 (last : Int)) := by
  obtain ⟨a, c, h1, _⟩ := h.blk
  rw [cell_of_row w g _ _ 71 (0, 0) h1]; rfl
theorem LogAt.c4 {w : World} {g q : Nat} {segs : List Nat} {n last boot : Nat} (h : LogAt w g q segs n last boot) : w.cell? ⟨g, 4, none⟩ = some (.int .i64 (boot : Int)) := by
  obtain ⟨a, c, h1, _⟩ := h.blk
  rw [cell_of_row w g _ _ 71 (0, 0) h1]; rfl
theorem LogAt.c1 {w : World} {g q : Nat} {segs : List Nat} {n last boot : Nat} (h : LogAt w g q segs n last boot) : ∃ a c, w.cell? ⟨g, 1, none⟩ = some (.slice a segs.length c) ∧ SRow w a (iv segs) ∧ segs.length ≤ c ∧ c ≤ maxLen ∧ (a = none → c = 0) := by
  obtain ⟨a, c, h1, h2⟩ := h.blk
  refine ⟨a, c, ?_, h2⟩
  rw [cell_of_row w g _ _ 71 (0, 0) h1]; rfl
theorem LogAt.fr {w : World} {g q : Nat} {segs : List Nat} {n last boot : Nat} (h : LogAt w g q segs n last boot) (i : Nat) : w.frozen? ⟨g, i, none⟩ = false := by
  obtain ⟨a, c, h1, _⟩ := h.blk
  exact frozen_of_row w g i _ 71 h1
theorem getD_mem_lt {l : List Nat} {i : Nat} (hi : i < l.length) {b : Nat} (h : ∀ s ∈ l, s < b) : l.getD i 0 < b := by
  have : l.getD i 0 ∈ l := by simp [hi]
  exact h _ this
set_option maxHeartbeats 1000000 in
theorem number_at {w : World} {g q : Nat} {segs : List Nat} {n last boot : Nat} (h : LogAt w g q segs n last boot) (i : Nat) (hi : i / 8 < segs.length) : Calls Try.prog 49 #[.pointer (some ⟨g, 0, none⟩), .int .i64 (i : Int)] w fun e w' => e = .returned (.int .i64 (num segs i : Nat)) ∧ w' = w := by
  obtain ⟨a, c, h1, h2, _⟩ := h.c1
  have hs : segs.getD (i / 8) 0 < 96 := getD_mem_lt hi h.lt
  have hne : iv segs ≠ [] := by intro e; have := iv_len segs; rw [e] at this; simp at this; omega
  obtain ⟨b, off, rfl, _, hc⟩ := h2.irow.cell hne
  have hc1 := hc (i / 8) (by rw [iv_len]; exact hi)
  rw [iv_get] at hc1
  have hl := h.len
  have HN : Hid (num segs i = 8 + 8 * segs.getD (i / 8) 0 + i % 8) := rfl
  clear h h2 hc hne
  generalize segs.getD (i / 8) 0 = s at *
  generalize hk : i / 8 = k at *
  have hk' : (i : Int) / 8 = (k : Int) := by omega
  have HK := hid hk
  clear hk
  go_enter Try.func49, Try.ntmps49
  go_wp2_with fail
  refine (Sp.first_any _ (s : Int)).mono ?_
  rintro e w1 ⟨rfl, rfl⟩
  rw [if_pos ⟨by omega, by omega⟩]
  go_wp2_with fail
  go_ret
  exact ⟨by rw [HN.out]; go_num, rfl⟩
end Go.Proofs.Yteohjfhflodklaa
