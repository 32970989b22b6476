/- What the small functions of space do: New, has, Claim, Give, Copy, Segs, First. No condition. -/
import Derived.Test.YteohjfhflodklaaSpM
namespace Go.Proofs.Yteohjfhflodklaa.Sp
open Go.RowKit
theorem ret_int {k : IntKind} {a b : Int} (h : a = b) : Ending.returned (.int k a) = .returned (.int k b) := by rw [h]
theorem ret_bool {a b : Bool} (h : a = b) : Ending.returned (.bool a) = .returned (.bool b) := by rw [h]
def spInt (z : Int) : Array Value := (.int .i64 z :: z96.map Value.bool).toArray
theorem spInt_nat (k : Nat) : spInt (k : Int) = (spCells k z96).toArray := rfl
set_option maxHeartbeats 1000000 in
theorem has_any {w : World} {q k : Nat} {t : List Bool} (h : SpAt w q k t) (z : Int) : Calls Try.prog 62 #[.pointer (some ⟨q, 0, none⟩), .int .i64 z] w fun e w' => e = .returned (.bool (decide (0 ≤ z) && decide (z < (k : Int)))) ∧ w' = w := by
  have c0 := h.c0
  have cf := h.fr 0
  clear h
  go_enter Try.func62, Try.ntmps62
  by_cases h0 : 0 ≤ z
  · by_cases h1 : z < (k : Int)
    · go_wp2_with fail
      go_ret
      exact ⟨ret_bool (by rw [decide_eq_true h0, decide_eq_true h1]; rfl), rfl⟩
    · go_wp2_with fail
      go_ret
      exact ⟨ret_bool (by rw [decide_eq_false (show ¬ z < (k : Int) by omega)]), rfl⟩
  · go_wp2_with fail
    go_ret
    exact ⟨ret_bool (by rw [decide_eq_false (show ¬ 0 ≤ z by omega), Bool.false_and]), rfl⟩
set_option maxHeartbeats 1000000 in
theorem segs_any (w : World) (z : Int) (hz : z < 9223372036854775808) : Calls Try.prog 54 #[.int .i64 z] w fun e w' => e = .returned (.int .i64 (if z < 8 then 0 else min ((z - 8) / 8) 96)) ∧ w' = w := by
  by_cases h0 : z < 8
  · rw [if_pos h0]
    go_enter Try.func54, Try.ntmps54
    go_wp2_with fail
    go_ret
    exact ⟨rfl, rfl⟩
  · rw [if_neg h0]
    generalize hm : min ((z - 8) / 8) 96 = m
    have HM := hid hm
    clear hm
    go_enter Try.func54, Try.ntmps54
    go_wp2_with fail
    all_goals
      go_ret
      exact ⟨ret_int (by have := HM.out; omega), rfl⟩
set_option maxHeartbeats 1000000 in
theorem first_any (w : World) (z : Int) : Calls Try.prog 22 #[.int .i64 z] w fun e w' => e = .returned (.int .i64 (if 0 ≤ z ∧ z < 96 then 8 + z * 8 else -1)) ∧ w' = w := by
  by_cases h0 : 0 ≤ z
  · by_cases h1 : z < 96
    · rw [if_pos ⟨h0, h1⟩]
      go_enter Try.func22, Try.ntmps22
      go_wp2_with fail
      go_ret
      exact ⟨rfl, rfl⟩
    · rw [if_neg (fun h => h1 h.2)]
      go_enter Try.func22, Try.ntmps22
      go_wp2_with fail
      go_ret
      exact ⟨rfl, rfl⟩
  · rw [if_neg (fun h => h0 h.1)]
    go_enter Try.func22, Try.ntmps22
    go_wp2_with fail
    go_ret
    exact ⟨rfl, rfl⟩
theorem zero44 : ∃ Z : Array Value, Z ≠ #[] ∧ (∀ w, Sem.run Try.prog (zeroValue 69) w = .ok (.agg Z) w) ∧ ∀ z, Z.setIfInBounds 0 (.int .i64 z) = spInt z :=
  ⟨(spCells 0 z96).toArray, by simp [spCells], fun w => by have h := (zero_of_info info44).1; simp [h], fun z => by rw [List.setIfInBounds_toArray]; rfl⟩
theorem new_at (w : World) (z : Int) (k : Nat) (hk : k ≤ 96) (hz : z = (k : Int)) : SpAt (w.alloc (.cells (spInt z) 69)) w.heap.size k z96 ∧ Below w.heap.size w (w.alloc (.cells (spInt z) 69)) ∧ w.heap.size ≤ w.heap.size := by
  subst hz
  exact ⟨at_new w k hk z96 z96_len, (Below.refl _ w).alloc (Nat.le_refl _) _, Nat.le_refl _⟩
set_option maxHeartbeats 1000000 in
theorem new_any (w : World) (z : Int) (k : Nat) (hk : (k : Int) = max 0 (min z 96)) : Calls Try.prog 12 #[.int .i64 z] w fun e w' => ∃ q, e = .returned (.pointer (some ⟨q, 0, none⟩)) ∧ SpAt w' q k z96 ∧ Below w.heap.size w w' ∧ w.heap.size ≤ q := by
  have HK := hid hk
  obtain ⟨Z, hZ, hz, hs⟩ := zero44
  clear hk
  go_enter Try.func12, Try.ntmps12
  go_wp2_with fail
  all_goals
    go_ret
    refine ⟨_, rfl, new_at w _ k ?_ ?_⟩
    · have := HK.out; omega
    · have := HK.out; omega
set_option maxHeartbeats 1000000 in
theorem claim_no {w : World} {q k : Nat} {t : List Bool} (h : SpAt w q k t) (z : Int) (hz : ¬ (0 ≤ z ∧ z < (k : Int))) : Calls Try.prog 59 #[.pointer (some ⟨q, 0, none⟩), .int .i64 z] w fun e w' => e = .returned (.bool false) ∧ w' = w := by
  have H := hid h
  have hd : (decide (0 ≤ z) && decide (z < (k : Int))) = false := by
    by_cases h0 : 0 ≤ z
    · rw [decide_eq_false (fun h1 => hz ⟨h0, h1⟩), Bool.and_false]
    · rw [decide_eq_false h0, Bool.false_and]
  clear h hz
  go_enter Try.func59, Try.ntmps59
  go_wp2_with fail
  refine (has_any H.out z).mono ?_
  rintro e w1 ⟨rfl, rfl⟩
  rw [hd]
  clear hd
  go_wp2_with fail
  go_ret
  exact ⟨rfl, rfl⟩
set_option maxHeartbeats 1000000 in
theorem claim_in {w : World} {q k : Nat} {t : List Bool} (h : SpAt w q k t) (i : Nat) (hi : i < k) : Calls Try.prog 59 #[.pointer (some ⟨q, 0, none⟩), .int .i64 (i : Int)] w fun e w' => e = .returned (.bool (!t.getD i false)) ∧ SpAt w' q k (if t.getD i false then t else t.set i true) ∧ Only q none w w' := by
  have H := hid h
  have hk := h.le
  have hd : (decide (0 ≤ (i : Int)) && decide ((i : Int) < (k : Int))) = true := by
    rw [decide_eq_true (by omega), decide_eq_true (by omega)]; rfl
  have hc := h.c i (by omega)
  have hf := h.fr (1 + i)
  have HS := hid (h.set i true)
  have HO := hid (only_setCell w q (1 + i) none (.bool true))
  have h96 : i < 96 := by omega
  clear h hi
  generalize hb : t.getD i false = b at *
  go_enter Try.func59, Try.ntmps59
  go_wp2_with fail
  refine (has_any H.out i).mono ?_
  rintro e w1 ⟨rfl, rfl⟩
  rw [hd]
  clear hd
  cases b
  · go_wp2_with fail
    go_ret
    exact ⟨rfl, HS.out, HO.out⟩
  · go_wp2_with fail
    go_ret
    exact ⟨rfl, H.out, Only.refl _ _ _⟩
set_option maxHeartbeats 1000000 in
theorem give_no {w : World} {q k : Nat} {t : List Bool} (h : SpAt w q k t) (z : Int) (hz : ¬ (0 ≤ z ∧ z < (k : Int))) : Calls Try.prog 53 #[.pointer (some ⟨q, 0, none⟩), .int .i64 z] w fun e w' => e = .returned (.bool false) ∧ w' = w := by
  have H := hid h
  have hd : (decide (0 ≤ z) && decide (z < (k : Int))) = false := by
    by_cases h0 : 0 ≤ z
    · rw [decide_eq_false (fun h1 => hz ⟨h0, h1⟩), Bool.and_false]
    · rw [decide_eq_false h0, Bool.false_and]
  clear h hz
  go_enter Try.func53, Try.ntmps53
  go_wp2_with fail
  refine (has_any H.out z).mono ?_
  rintro e w1 ⟨rfl, rfl⟩
  rw [hd]
  clear hd
  go_wp2_with fail
  go_ret
  exact ⟨rfl, rfl⟩
set_option maxHeartbeats 1000000 in
theorem give_in {w : World} {q k : Nat} {t : List Bool} (h : SpAt w q k t) (i : Nat) (hi : i < k) : Calls Try.prog 53 #[.pointer (some ⟨q, 0, none⟩), .int .i64 (i : Int)] w fun e w' => e = .returned (.bool (t.getD i false)) ∧ SpAt w' q k (if t.getD i false then t.set i false else t) ∧ Only q none w w' := by
  have H := hid h
  have hk := h.le
  have hd : (decide (0 ≤ (i : Int)) && decide ((i : Int) < (k : Int))) = true := by
    rw [decide_eq_true (by omega), decide_eq_true (by omega)]; rfl
  have hc := h.c i (by omega)
  have hf := h.fr (1 + i)
  have HS := hid (h.set i false)
  have HO := hid (only_setCell w q (1 + i) none (.bool false))
  have h96 : i < 96 := by omega
  clear h hi
  generalize hb : t.getD i false = b at *
  go_enter Try.func53, Try.ntmps53
  go_wp2_with fail
  refine (has_any H.out i).mono ?_
  rintro e w1 ⟨rfl, rfl⟩
  rw [hd]
  clear hd
  cases b
  · go_wp2_with fail
    go_ret
    exact ⟨rfl, H.out, Only.refl _ _ _⟩
  · go_wp2_with fail
    go_ret
    exact ⟨rfl, HS.out, HO.out⟩
end Go.Proofs.Yteohjfhflodklaa.Sp
