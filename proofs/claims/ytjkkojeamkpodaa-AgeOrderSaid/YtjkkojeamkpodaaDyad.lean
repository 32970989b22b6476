/- Small dyadic numbers of float64: whole numbers, their eighths and quarters are kept as they are; products and quotients of them; the floor of a quotient. No condition on the program. -/
import Derived.Test.YtjkkojeamkpodaaIeee
namespace Go.Proofs.Ytjkkojeamkpodaa
namespace Fl
set_option linter.unusedVariables false
open Ieee
theorem place_ge {m P V k : Nat} (hm : m < 2 ^ 53) (h : m * 2 ^ P = V) (hV : 2 ^ (53 + k) ≤ V) : k ≤ P := by
  refine Decidable.byContradiction fun hn => ?_
  have h1 : 2 ^ P ≤ 2 ^ k := Nat.pow_le_pow_right (by decide) (by omega)
  have h2 : m * 2 ^ P ≤ m * 2 ^ k := Nat.mul_le_mul_left _ h1
  have h3 : m * 2 ^ k < 2 ^ 53 * 2 ^ k := Nat.mul_lt_mul_of_pos_right hm (Nat.two_pow_pos k)
  rw [← Nat.pow_add] at h3
  omega
theorem place_le {m P V k : Nat} (hm : 2 ^ 52 ≤ m) (h : m * 2 ^ P = V) (hV : V < 2 ^ (52 + k + 1)) : P ≤ k := by
  refine Decidable.byContradiction fun hn => ?_
  have h1 : 2 ^ (k + 1) ≤ 2 ^ P := Nat.pow_le_pow_right (by decide) (by omega)
  have h2 : 2 ^ 52 * 2 ^ (k + 1) ≤ m * 2 ^ P := Nat.mul_le_mul hm h1
  rw [← Nat.pow_add, show 52 + (k + 1) = 52 + k + 1 by omega] at h2
  omega
theorem nearest_zero (p : Int) : D.nearest false 0 p = 0 := rfl
theorem mul_exact {u v Z K : Nat} (hK : K = 1074) (hu : u < INF) (hv : v < INF) (h : val u * val v = Z * 2 ^ K) (hb : val u = 0 ∨ val v = 0 ∨ (2 ^ (53 + 600) ≤ val u ∧ 2 ^ (53 + 600) ≤ val v)) :
    D.mul u v = some (min (rnd Z) INF) := by
  obtain ⟨a1, a2, a3, _⟩ := nn hu
  obtain ⟨b1, b2, b3, _⟩ := nn hv
  obtain ⟨m, P, e1, e2, e3, _⟩ := read_fin a3
  obtain ⟨n, Q, f1, f2, f3, _⟩ := read_fin b3
  rw [a1] at e2
  rw [b1] at f2
  rw [a2] at e1
  rw [b2] at f1
  unfold Format.mul
  rw [e1, f1]
  simp only [Datum.product, Option.map_some, Format.write, Bool.xor_false, Option.some.injEq]
  by_cases h0 : m * n = 0
  · have hz : Z * 2 ^ K = 0 := by
      rw [← h, ← e2, ← f2, show m * 2 ^ P * (n * 2 ^ Q) = m * n * (2 ^ P * 2 ^ Q) by ac_rfl, h0, Nat.zero_mul]
    have hz2 : Z = 0 := by
      rcases Nat.mul_eq_zero.1 hz with h | h
      · exact h
      · exact absurd h (Nat.ne_of_gt (Nat.two_pow_pos _))
    rw [h0, hz2, nearest_zero, rnd_small (by decide), Nat.zero_min]
  · have hm : m ≠ 0 := by rintro rfl; simp at h0
    have hn : n ≠ 0 := by rintro rfl; simp at h0
    have hP : 600 ≤ P ∧ 600 ≤ Q := by
      rcases hb with hb | hb | ⟨hb1, hb2⟩
      · rw [← e2] at hb; rcases Nat.mul_eq_zero.1 hb with h | h
        · exact absurd h hm
        · exact absurd h (Nat.ne_of_gt (Nat.two_pow_pos _))
      · rw [← f2] at hb; rcases Nat.mul_eq_zero.1 hb with h | h
        · exact absurd h hn
        · exact absurd h (Nat.ne_of_gt (Nat.two_pow_pos _))
      · exact ⟨place_ge e3 e2 hb1, place_ge f3 f2 hb2⟩
    have hp : (P : Int) - 1074 + ((Q : Int) - 1074) = ((P + Q - K : Nat) : Int) - 1074 := by omega
    rw [hp, nearest_eq, word_false]
    refine congrArg (fun x => min (rnd x) INF) ?_
    refine Nat.eq_of_mul_eq_mul_right (Nat.two_pow_pos K) ?_
    rw [← h, ← e2, ← f2, Nat.mul_assoc, ← Nat.pow_add, show P + Q - K + K = P + Q by omega, Nat.pow_add]
    ac_rfl
theorem div_zero {v : Nat} (hv : v < INF) (h0 : v ≠ 0) : D.div 0 v = some 0 := by
  obtain ⟨b1, b2, b3, _⟩ := nn hv
  obtain ⟨n, Q, f1, f2, f3, _⟩ := read_fin b3
  rw [b1] at f2
  rw [b2] at f1
  have hn : n ≠ 0 := by
    rintro rfl
    rw [Nat.zero_mul] at f2
    exact h0 (val_eq_zero.1 f2.symm)
  have e1 : D.read 0 = .number false 0 (-1074) := by decide +kernel
  unfold Format.div
  rw [e1, f1]
  simp only [Datum.quotient, if_neg hn, Option.map_some, Format.write, Nat.zero_shiftLeft, Nat.zero_div, Nat.zero_mod, Option.some.injEq, Bool.xor_false]
  exact nearest_zero _
theorem div_form {m n P Q E : Nat} {u v : Nat} (e1 : D.read u = .number false m ((P : Int) - 1074)) (f1 : D.read v = .number false n ((Q : Int) - 1074)) (lm : m.log2 = 52) (ln : n.log2 = 52) (hn0 : n ≠ 0) (hE : P + 1019 = E + Q) :
    D.div u v = some (min (rnd ((2 * (m * 2 ^ 54 / n) + (m * 2 ^ 54 % n != 0).toNat) * 2 ^ E)) INF) := by
  unfold Format.div
  rw [e1, f1]
  simp only [Datum.quotient, if_neg hn0, Option.map_some, Format.write, Option.some.injEq, Bool.xor_false]
  rw [lm, ln, D_fb, show 52 + 2 + 52 - 52 = 54 from rfl, Nat.shiftLeft_eq]
  have hp : (P : Int) - 1074 - ((Q : Int) - 1074) - ((54 : Nat) : Int) - 1 = (E : Int) - 1074 := by omega
  rw [hp, nearest_eq, word_false]
theorem sand {x n y : Nat} (hn : 0 < n) : (y * n ≤ x → 2 * y ≤ 2 * (x / n) + (x % n != 0).toNat) ∧ (x ≤ y * n → 2 * (x / n) + (x % n != 0).toNat ≤ 2 * y) := by
  have hdm := Nat.div_add_mod x n
  have hlt := Nat.mod_lt x hn
  constructor
  · intro h2
    have h3 : y ≤ x / n := (Nat.le_div_iff_mul_le hn).2 h2
    omega
  · intro h2
    by_cases hr : x % n = 0
    · have h3 : x / n ≤ y := by
        have := Nat.div_le_div_right (c := n) h2
        rwa [Nat.mul_div_cancel _ hn] at this
      simp [hr]; omega
    · have h3 : x / n < y := by
        rw [Nat.div_lt_iff_lt_mul hn]
        rcases Nat.lt_or_eq_of_le h2 with h4 | h4
        · exact h4
        · rw [h4, Nat.mul_mod_left] at hr; omega
      have : (x % n != 0) = true := by simp [hr]
      rw [this]; simp; omega
theorem sand_scale {m n P Q E K J z : Nat} (hn : 0 < n) (hE : P + 1019 = E + Q) (hK : K = 1074) (hJ : J = 1060) (hE2 : E + 1 ≤ J) :
    (z * 2 ^ J * (n * 2 ^ Q) ≤ m * 2 ^ P * 2 ^ K → z * 2 ^ J ≤ (2 * (m * 2 ^ 54 / n) + (m * 2 ^ 54 % n != 0).toNat) * 2 ^ E) ∧ (m * 2 ^ P * 2 ^ K ≤ z * 2 ^ J * (n * 2 ^ Q) → (2 * (m * 2 ^ 54 / n) + (m * 2 ^ 54 % n != 0).toNat) * 2 ^ E ≤ z * 2 ^ J) := by
  obtain ⟨c, hc⟩ : ∃ c, J = c + (E + 1) := ⟨J - (E + 1), by omega⟩
  have hS : m * 2 ^ P * 2 ^ K = m * 2 ^ 54 * (2 ^ (E + 1) * 2 ^ Q) := by
    rw [Nat.mul_assoc, ← Nat.pow_add, Nat.mul_assoc, ← Nat.pow_add, ← Nat.pow_add]
    exact congrArg (fun x => m * 2 ^ x) (by omega)
  have hW : z * 2 ^ J * (n * 2 ^ Q) = z * 2 ^ c * n * (2 ^ (E + 1) * 2 ^ Q) := by
    rw [hc, Nat.pow_add]
    ac_rfl
  have hz : z * 2 ^ J = 2 * (z * 2 ^ c) * 2 ^ E := by
    rw [hc, Nat.pow_add, Nat.pow_succ]
    ac_rfl
  have hpos : 0 < 2 ^ (E + 1) * 2 ^ Q := Nat.mul_pos (Nat.two_pow_pos _) (Nat.two_pow_pos _)
  rw [hS, hW, hz]
  generalize z * 2 ^ c = y
  generalize m * 2 ^ 54 = x
  have hs := sand (x := x) (y := y) hn
  exact ⟨fun h => Nat.mul_le_mul_right _ (hs.1 (Nat.le_of_mul_le_mul_right h hpos)), fun h => Nat.mul_le_mul_right _ (hs.2 (Nat.le_of_mul_le_mul_right h hpos))⟩
theorem div_sand {u v K J B C F : Nat} (hK : K = 1074) (hJ : J = 1060) (hB : B = 900) (hC : C = 1040) (hF : F = 1010) (hu : u < INF) (hv : v < INF) (hu0 : 2 ^ (53 + B) ≤ val u) (hu1 : val u < 2 ^ (52 + C + 1)) (hv1 : val v < 2 ^ (52 + K + 1)) (hv2 : 2 ^ (53 + F) ≤ val v) :
    ∃ Q, D.div u v = some (min (rnd Q) INF) ∧ ∀ z, (z * 2 ^ J * val v ≤ val u * 2 ^ K → z * 2 ^ J ≤ Q) ∧ (val u * 2 ^ K ≤ z * 2 ^ J * val v → Q ≤ z * 2 ^ J) := by
  obtain ⟨a1, a2, a3, _⟩ := nn hu
  obtain ⟨b1, b2, b3, _⟩ := nn hv
  obtain ⟨m, P, e1, e2, e3, e4⟩ := read_fin a3
  obtain ⟨n, Q, f1, f2, f3, f4⟩ := read_fin b3
  rw [a1] at e2
  rw [b1] at f2
  rw [a2] at e1
  rw [b2] at f1
  have hP := place_ge e3 e2 hu0
  have hQ := place_ge f3 f2 hv2
  have hm : 2 ^ 52 ≤ m := by omega
  have hn : 2 ^ 52 ≤ n := by omega
  have hP2 := place_le hm e2 hu1
  have hQ2 := place_le hn f2 hv1
  have lm : m.log2 = 52 := (Nat.log2_eq_iff (by omega)).2 ⟨hm, e3⟩
  have ln : n.log2 = 52 := (Nat.log2_eq_iff (by omega)).2 ⟨hn, f3⟩
  obtain ⟨E, hE⟩ : ∃ E, P + 1019 = E + Q := ⟨P + 1019 - Q, by omega⟩
  refine ⟨_, div_form e1 f1 lm ln (by omega) hE, fun z => ?_⟩
  rw [← e2, ← f2]
  exact sand_scale (by omega) hE hK hJ (by omega)
end Fl
end Go.Proofs.Ytjkkojeamkpodaa
