/- Where the first so many segments are taken. No condition. -/
import Derived.Test.YteohjfhflodklaaSpB
namespace Go.Proofs.Yteohjfhflodklaa.Sp
open Go.ChangeShapes Go.WideShapes Go.ChangeAt Go.RowKit
/-- The first i are taken. -/
def upTo (i : Nat) : List Bool := (List.range 96).map fun j => decide (j < i)
theorem upTo_zero : upTo 0 = z96 := by decide
theorem upTo_len (i : Nat) : (upTo i).length = 96 := by simp [upTo]
theorem upTo_get (i j : Nat) (hj : j < 96) : (upTo i).getD j false = decide (j < i) := by simp [upTo, hj]
theorem upTo_set (i : Nat) : (upTo i).set i true = upTo (i + 1) := by
  apply List.ext_getElem?
  intro j
  by_cases hj : j < 96
  · rw [List.getElem?_set]
    by_cases h : i = j
    · subst h; simp [upTo, hj]
    · simp [upTo, hj, h]; omega
  · rw [List.getElem?_eq_none (by simp [upTo]; omega), List.getElem?_eq_none (by simp [upTo]; omega)]
theorem upTo_least {i k m : Nat} (hk : k ≤ 96) (hi : i < k) (h : Least (upTo i) k m) : m = i := by
  obtain ⟨h1, h2, h3⟩ := h
  rw [upTo_get i m (by omega)] at h2
  have h2' : ¬ m < i := by simpa using h2
  rcases Nat.lt_or_eq_of_le (Nat.le_of_not_lt h2') with h4 | h4
  · have := h3 i h4
    rw [upTo_get i i (by omega)] at this
    simp at this
  · exact h4.symm
theorem upTo_not_full {i k : Nat} (hk : k ≤ 96) (hi : i < k) (h : Full (upTo i) k) : False := by
  have := h i hi
  rw [upTo_get i i (by omega)] at this
  simp at this
theorem upTo_full (k : Nat) (hk : k ≤ 96) : Full (upTo k) k := fun j hj => by rw [upTo_get k j (by omega)]; simpa using hj
theorem full_not_least {t : List Bool} {k i : Nat} (h : Full t k) (hl : Least t k i) : False := by
  have := h i hl.1
  rw [hl.2.1] at this
  cases this
end Go.Proofs.Yteohjfhflodklaa.Sp
