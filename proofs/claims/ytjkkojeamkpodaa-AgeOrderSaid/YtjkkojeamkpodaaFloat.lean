/- Plain mathematics of float64 by exact whole numbers: each finite magnitude is a number of units of 2^-1074; to round is monotone, and exact where at most 53 digits are asked; order, sum, difference of numbers by their units. No condition on the program. -/
import Derived.Laws.FloatBits
namespace Go.Proofs.Ytjkkojeamkpodaa
namespace Fl
set_option linter.unusedVariables false
open Ieee
/-- The units of a rung. -/
def val (r : Nat) : Nat := if r < 2 ^ 52 then r else (2 ^ 52 + r % 2 ^ 52) * 2 ^ (r / 2 ^ 52 - 1)
/-- The whole number nearest to V / 2^d, between two the even one. -/
def rhe (V d : Nat) : Nat := V / 2 ^ d + (decide (2 ^ d < 2 * (V % 2 ^ d)) || (2 ^ d == 2 * (V % 2 ^ d) && V / 2 ^ d % 2 == 1)).toNat
/-- The rung nearest to V units, with no end above. -/
def rnd (V : Nat) : Nat := (V.log2 - 52) * 2 ^ 52 + rhe V (V.log2 - 52)
def INF : Nat := 2047 * 2 ^ 52

theorem rhe_zero (V : Nat) : rhe V 0 = V := by simp [rhe, Nat.mod_one]
theorem rhe_exact (q d : Nat) : rhe (q * 2 ^ d) d = q := by
  have : 0 < 2 ^ d := Nat.two_pow_pos d
  simp [rhe, Nat.mul_div_cancel _ this]
theorem rhe_ge (V d : Nat) : V / 2 ^ d ≤ rhe V d := Nat.le_add_right ..
theorem rhe_le (V d : Nat) : rhe V d ≤ V / 2 ^ d + 1 := by
  unfold rhe
  have := Bool.toNat_le (decide (2 ^ d < 2 * (V % 2 ^ d)) || (2 ^ d == 2 * (V % 2 ^ d) && V / 2 ^ d % 2 == 1))
  omega
theorem rhe_mono {V W : Nat} (d : Nat) (h : V ≤ W) : rhe V d ≤ rhe W d := by
  have hd : V / 2 ^ d ≤ W / 2 ^ d := Nat.div_le_div_right h
  by_cases e : V / 2 ^ d = W / 2 ^ d
  · unfold rhe
    rw [e]
    have hV := Nat.div_add_mod V (2 ^ d)
    have hW := Nat.div_add_mod W (2 ^ d)
    rw [e] at hV
    have hm : V % 2 ^ d ≤ W % 2 ^ d := by omega
    generalize V % 2 ^ d = a at *
    generalize W % 2 ^ d = b at *
    generalize W / 2 ^ d = q at *
    generalize 2 ^ d = p at *
    apply Nat.add_le_add_left
    by_cases h1 : p < 2 * a
    · have h2 : p < 2 * b := by omega
      simp [h1, h2]
    · by_cases h3 : p = 2 * a
      · by_cases h4 : p < 2 * b
        · simp [h4]; exact Bool.toNat_le _
        · have h5 : p = 2 * b := by omega
          have h6 : a = b := by omega
          subst h6; exact Nat.le_refl _
      · have h5 : (p == 2 * a) = false := by simp; exact h3
        simp [h1, h5]
  · have := rhe_le V d
    have := rhe_ge W d
    omega
theorem rhe_lt {V d k : Nat} (h : V < 2 ^ (k + d)) : rhe V d ≤ 2 ^ k := by
  have h1 : V / 2 ^ d < 2 ^ k := by
    rw [Nat.div_lt_iff_lt_mul (Nat.two_pow_pos d), ← Nat.pow_add]; exact h
  have := rhe_le V d
  omega
theorem rhe_lb {V d k : Nat} (h : 2 ^ (k + d) ≤ V) : 2 ^ k ≤ rhe V d := by
  refine Nat.le_trans ?_ (rhe_ge V d)
  rw [Nat.le_div_iff_mul_le (Nat.two_pow_pos d), ← Nat.pow_add]; exact h
theorem log2_mono {V W : Nat} (h : V ≤ W) : V.log2 ≤ W.log2 := by
  by_cases hV : V = 0
  · subst hV; simp
  · exact (Nat.le_log2 (by omega)).2 (Nat.le_trans (Nat.log2_self_le hV) h)
theorem rnd_small {V : Nat} (h : V < 2 ^ 53) : rnd V = V := by
  have : V.log2 - 52 = 0 := by
    by_cases hV : V = 0
    · subst hV; simp
    · have := (Nat.log2_lt hV).2 h; omega
  simp [rnd, this, rhe_zero]
theorem rnd_mono {V W : Nat} (h : V ≤ W) : rnd V ≤ rnd W := by
  have hl := log2_mono h
  by_cases e : V.log2 - 52 = W.log2 - 52
  · unfold rnd; rw [e]; exact Nat.add_le_add_left (rhe_mono _ h) _
  · have hW0 : W ≠ 0 := by rintro rfl; simp at hl; simp [hl] at e
    have h1 : 2 ^ 52 ≤ rhe W (W.log2 - 52) := by
      refine rhe_lb (Nat.le_trans ?_ (Nat.log2_self_le hW0))
      exact Nat.pow_le_pow_right (by decide) (by omega)
    have h2 : rhe V (V.log2 - 52) ≤ 2 ^ 53 := by
      refine rhe_lt (Nat.lt_of_lt_of_le Nat.lt_log2_self ?_)
      exact Nat.pow_le_pow_right (by decide) (by omega)
    unfold rnd
    have h3 : V.log2 - 52 + 1 ≤ W.log2 - 52 := by omega
    have h4 := Nat.mul_le_mul_right (2 ^ 52) h3
    rw [Nat.add_mul] at h4
    omega
theorem val_small {r : Nat} (h : r < 2 ^ 52) : val r = r := by simp [val]; omega
theorem val_mk (d k : Nat) (h1 : 2 ^ 52 ≤ k) (h2 : k < 2 ^ 53) : val (d * 2 ^ 52 + k) = k * 2 ^ d := by
  have hq : (d * 2 ^ 52 + k) / 2 ^ 52 = d + 1 := by omega
  have hm : (d * 2 ^ 52 + k) % 2 ^ 52 = k - 2 ^ 52 := by omega
  unfold val
  rw [if_neg (by omega), hq, hm]
  have : 2 ^ 52 + (k - 2 ^ 52) = k := by omega
  rw [this]; rfl
theorem val_form (r : Nat) : ∃ d k, val r = k * 2 ^ d ∧ k < 2 ^ 53 ∧ (r < 2 ^ 52 → d = 0 ∧ k = r) ∧ (2 ^ 52 ≤ r → 2 ^ 52 ≤ k ∧ r = d * 2 ^ 52 + k) := by
  by_cases h : r < 2 ^ 52
  · exact ⟨0, r, by rw [val_small h]; simp, by omega, fun _ => ⟨rfl, rfl⟩, fun h2 => by omega⟩
  · refine ⟨r / 2 ^ 52 - 1, 2 ^ 52 + r % 2 ^ 52, by rw [val, if_neg h], ?_, fun h2 => by omega, fun _ => ⟨by omega, ?_⟩⟩
    · have := Nat.mod_lt r (show 0 < 2 ^ 52 by decide); omega
    · have := Nat.div_add_mod r (2 ^ 52)
      have : 1 ≤ r / 2 ^ 52 := by omega
      have : (r / 2 ^ 52 - 1) * 2 ^ 52 = 2 ^ 52 * (r / 2 ^ 52) - 2 ^ 52 := by rw [Nat.sub_mul]; omega
      omega
theorem val_succ (r : Nat) : val r < val (r + 1) := by
  by_cases h : r + 1 < 2 ^ 52
  · rw [val_small h, val_small (by omega)]; omega
  · by_cases h0 : r < 2 ^ 52
    · have : r = 2 ^ 52 - 1 := by omega
      subst this; decide +kernel
    · obtain ⟨d, k, e, h1, _, h2⟩ := val_form r
      obtain ⟨h3, h4⟩ := h2 (by omega)
      rw [e]
      by_cases h5 : k + 1 < 2 ^ 53
      · rw [h4, Nat.add_assoc, val_mk d (k + 1) (by omega) h5]
        exact Nat.mul_lt_mul_of_pos_right (by omega) (Nat.two_pow_pos d)
      · have h6 : r + 1 = (d + 1) * 2 ^ 52 + 2 ^ 52 := by rw [Nat.add_mul]; omega
        rw [h6, val_mk (d + 1) (2 ^ 52) (by omega) (by decide), Nat.pow_succ]
        have := Nat.two_pow_pos d
        have h7 : k = 2 ^ 53 - 1 := by omega
        subst h7
        omega
theorem val_lt {r s : Nat} (h : r < s) : val r < val s := by
  induction s with
  | zero => omega
  | succ n ih =>
    by_cases e : r = n
    · subst e; exact val_succ r
    · exact Nat.lt_trans (ih (by omega)) (val_succ n)
theorem val_le {r s : Nat} (h : r ≤ s) : val r ≤ val s := by
  rcases Nat.lt_or_eq_of_le h with h | rfl
  · exact Nat.le_of_lt (val_lt h)
  · exact Nat.le_refl _
theorem val_inj {r s : Nat} (h : val r = val s) : r = s := by
  rcases Nat.lt_trichotomy r s with h1 | h1 | h1
  · have := val_lt h1; omega
  · exact h1
  · have := val_lt h1; omega
theorem val_zero : val 0 = 0 := rfl
theorem val_eq_zero {r : Nat} : val r = 0 ↔ r = 0 := ⟨fun h => val_inj (h.trans val_zero.symm), fun h => by rw [h]; rfl⟩
/-- What needs at most 53 digits is kept as it is. -/
theorem rnd_exact {m k : Nat} (h : m < 2 ^ 53) : val (rnd (m * 2 ^ k)) = m * 2 ^ k := by
  by_cases hs : m * 2 ^ k < 2 ^ 52
  · rw [rnd_small (by omega), val_small hs]
  · by_cases hs2 : m * 2 ^ k < 2 ^ 53
    · rw [rnd_small hs2]
      have := val_mk 0 (m * 2 ^ k) (by omega) hs2
      simpa using this
    · have hm : m ≠ 0 := by rintro rfl; simp at hs
      have hV : m * 2 ^ k ≠ 0 := by omega
      have hL : (m * 2 ^ k).log2 = m.log2 + k := by
        rw [Nat.log2_eq_iff hV]
        have h1 := Nat.log2_self_le hm
        have h2 := Nat.lt_log2_self (n := m)
        constructor
        · rw [Nat.pow_add]; exact Nat.mul_le_mul_right _ h1
        · rw [show m.log2 + k + 1 = m.log2 + 1 + k by omega, Nat.pow_add]; exact Nat.mul_lt_mul_of_pos_right h2 (Nat.two_pow_pos k)
      have hl : m.log2 < 53 := (Nat.log2_lt hm).2 h
      have hge : 53 ≤ (m * 2 ^ k).log2 := (Nat.le_log2 hV).2 (by omega)
      obtain ⟨c, hc⟩ : ∃ c, k = (m.log2 + k - 52) + c := ⟨k - (m.log2 + k - 52), by omega⟩
      unfold rnd
      rw [hL]
      generalize hd : m.log2 + k - 52 = d at hc ⊢
      subst hc
      rw [Nat.add_comm d c, Nat.pow_add, ← Nat.mul_assoc, rhe_exact]
      have h1 := Nat.log2_self_le hm
      have h2 := Nat.lt_log2_self (n := m)
      have hcc : m.log2 + c = 52 := by omega
      refine val_mk d (m * 2 ^ c) ?_ ?_
      · rw [show (52 : Nat) = m.log2 + c by omega, Nat.pow_add]; exact Nat.mul_le_mul_right _ h1
      · rw [show (53 : Nat) = m.log2 + 1 + c by omega, Nat.pow_add]; exact Nat.mul_lt_mul_of_pos_right h2 (Nat.two_pow_pos c)
theorem rnd_val (r : Nat) : rnd (val r) = r := by
  obtain ⟨d, k, e, h1, _⟩ := val_form r
  apply val_inj
  rw [e, rnd_exact h1]
theorem rnd_le_iff {V r : Nat} (h : V ≤ val r) : rnd V ≤ r := by rw [← rnd_val r]; exact rnd_mono h
theorem le_rnd {V r : Nat} (h : val r ≤ V) : r ≤ rnd V := by rw [← rnd_val r]; exact rnd_mono h
end Fl
end Go.Proofs.Ytjkkojeamkpodaa
