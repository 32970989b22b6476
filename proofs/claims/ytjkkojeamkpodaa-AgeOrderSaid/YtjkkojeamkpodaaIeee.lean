/- What the operations of float64 give, by the units of their operands: order, nearest word, sum, difference, product, quotient, floor. No condition on the program. -/
import Derived.Test.YtjkkojeamkpodaaFloat
namespace Go.Proofs.Ytjkkojeamkpodaa
namespace Fl
set_option linter.unusedVariables false
open Ieee
abbrev D : Format := Ieee.double
def Fin (w : Nat) : Prop := w % 2 ^ 63 < INF
def sgn (w : Nat) : Bool := w / 2 ^ 63 % 2 == 1
def sval (w : Nat) : Int := if sgn w then -(val (w % 2 ^ 63) : Int) else (val (w % 2 ^ 63) : Int)
theorem D_sw : D.signWeight = 2 ^ 63 := rfl
theorem D_bin : D.binade = 2 ^ 52 := rfl
theorem D_inf : D.infRung = INF := rfl
theorem D_lp : D.leastPlace = -1074 := by decide +kernel
theorem D_fb : D.fractionBits = 52 := rfl
theorem read_fin {w : Nat} (h : Fin w) : ∃ m, ∃ P : Nat, D.read w = .number (sgn w) m ((P : Int) - 1074) ∧ m * 2 ^ P = val (w % 2 ^ 63) ∧ m < 2 ^ 53 ∧ (2 ^ 52 ≤ m ∨ P = 0) := by
  unfold Fin at h
  by_cases h1 : w % 2 ^ 63 < 2 ^ 52
  · refine ⟨w % 2 ^ 63, 0, ?_, by rw [val_small h1]; simp, by omega, .inr rfl⟩
    simp only [Format.read, D_sw, D_bin, D_lp, h1, if_true]
    rfl
  · refine ⟨2 ^ 52 + w % 2 ^ 63 % 2 ^ 52, w % 2 ^ 63 / 2 ^ 52 - 1, ?_, by rw [val, if_neg h1], ?_, .inl (by omega)⟩
    · simp only [Format.read, D_sw, D_bin, D_lp, D_inf, h1, h, if_true, if_false]
      congr 1
    · have := Nat.mod_lt (w % 2 ^ 63) (show 0 < 2 ^ 52 by decide); omega
theorem read_inf {w : Nat} (h : w % 2 ^ 63 = INF) : D.read w = .infinity (sgn w) := by
  have h1 : ¬ INF < 2 ^ 52 := by decide +kernel
  simp only [Format.read, D_sw, D_bin, D_inf, h, h1, Nat.lt_irrefl, if_true, if_false]
  rfl
theorem read_nan {w : Nat} (h : INF < w % 2 ^ 63) : ∃ t, D.read w = .nan (sgn w) t := by
  have h1 : ¬ w % 2 ^ 63 < 2 ^ 52 := by have : 2 ^ 52 < INF := by decide +kernel
                                        omega
  have h2 : ¬ w % 2 ^ 63 < INF := by omega
  have h3 : ¬ w % 2 ^ 63 = INF := by omega
  refine ⟨w % 2 ^ 63 - INF, ?_⟩
  simp only [Format.read, D_sw, D_bin, D_inf, h1, h2, h3, if_false]
  rfl
theorem signed_shift (s : Bool) (m P c : Nat) : signed s m (P + c) = signed s m P * (2 ^ c : Nat) := by
  unfold signed
  rw [Nat.shiftLeft_eq, Nat.shiftLeft_eq, Nat.pow_add, ← Nat.mul_assoc]
  split
  · rw [Int.natCast_mul, Int.neg_mul]
  · rw [Int.natCast_mul]
theorem signed_sval {w m P : Nat} (h : m * 2 ^ P = val (w % 2 ^ 63)) : signed (sgn w) m P = sval w := by
  unfold signed sval
  rw [Nat.shiftLeft_eq, h]
theorem cmp_mul (a b : Int) (c : Nat) (h : 0 < c) : compare (a * (c : Int)) (b * (c : Int)) = compare a b := by
  have hc : (0 : Int) < (c : Int) := by omega
  rcases Int.lt_trichotomy a b with h1 | h1 | h1
  · rw [Int.compare_eq_lt.2 h1, Int.compare_eq_lt]
    exact Int.mul_lt_mul_of_pos_right h1 hc
  · subst h1; simp
  · rw [Int.compare_eq_gt.2 h1, Int.compare_eq_gt]
    exact Int.mul_lt_mul_of_pos_right h1 hc
theorem order_fin {u v : Nat} (hu : Fin u) (hv : Fin v) : D.order u v = some (compare (sval u) (sval v)) := by
  obtain ⟨m, P, e1, h1, _⟩ := read_fin hu
  obtain ⟨n, Q, e2, h2, _⟩ := read_fin hv
  simp only [Format.order, e1, e2, Datum.order, Option.some.injEq]
  rw [← signed_sval h1, ← signed_sval h2]
  by_cases hPQ : P ≤ Q
  · rw [show (((P : Int) - 1074 - min ((P : Int) - 1074) ((Q : Int) - 1074)).toNat) = 0 by omega, show (((Q : Int) - 1074 - min ((P : Int) - 1074) ((Q : Int) - 1074)).toNat) = Q - P by omega]
    have a1 := signed_shift (sgn u) m 0 P
    have a2 := signed_shift (sgn v) n (Q - P) P
    rw [show Q - P + P = Q by omega] at a2
    rw [Nat.zero_add] at a1
    rw [a1, a2, cmp_mul _ _ _ (Nat.two_pow_pos P)]
  · rw [show (((P : Int) - 1074 - min ((P : Int) - 1074) ((Q : Int) - 1074)).toNat) = P - Q by omega, show (((Q : Int) - 1074 - min ((P : Int) - 1074) ((Q : Int) - 1074)).toNat) = 0 by omega]
    have a1 := signed_shift (sgn u) m (P - Q) Q
    have a2 := signed_shift (sgn v) n 0 Q
    rw [show P - Q + Q = P by omega] at a1
    rw [Nat.zero_add] at a2
    rw [a1, a2, cmp_mul _ _ _ (Nat.two_pow_pos Q)]
theorem order_nan {u v : Nat} (h : INF < u % 2 ^ 63 ∨ INF < v % 2 ^ 63) : D.order u v = none := by
  rcases h with h | h
  · obtain ⟨t, e⟩ := read_nan h
    simp [Format.order, e, Datum.order]
  · obtain ⟨t, e⟩ := read_nan h
    simp only [Format.order, e]
    cases D.read u <;> rfl
theorem rhe_scale (m d c : Nat) : rhe (m * 2 ^ c) (d + c) = rhe m d := by
  have hc := Nat.two_pow_pos c
  unfold rhe
  rw [Nat.pow_add, Nat.mul_div_mul_right _ _ hc, Nat.mul_mod_mul_right]
  congr 3
  · have : 2 * (m % 2 ^ d * 2 ^ c) = 2 * (m % 2 ^ d) * 2 ^ c := by rw [Nat.mul_assoc]
    rw [this, decide_eq_decide]
    exact Nat.mul_lt_mul_right hc
  · have : 2 * (m % 2 ^ d * 2 ^ c) = 2 * (m % 2 ^ d) * 2 ^ c := by rw [Nat.mul_assoc]
    rw [this]
    congr 1
    rw [Bool.eq_iff_iff, beq_iff_eq, beq_iff_eq]
    exact ⟨fun h => Nat.eq_of_mul_eq_mul_right hc h, fun h => congrArg (· * 2 ^ c) h⟩
theorem lt_gap (n k : Nat) : n < 2 ^ (n.log2 + 1 + k) := Nat.lt_of_lt_of_le Nat.lt_log2_self (Nat.pow_le_pow_right (by decide) (by omega))
theorem cut_even (neg : Bool) (n drop : Nat) : Toward.even.cut neg n drop = rhe n drop := by
  unfold Toward.cut
  simp only [Nat.one_shiftLeft]
  by_cases h : drop ≤ n.log2 + 2
  · rw [Nat.min_eq_left h]; rfl
  · rw [Nat.min_eq_right (by omega)]
    have g1 : 2 * n < 2 ^ (n.log2 + 2) := by
      have := lt_gap n 0
      rw [show n.log2 + 2 = n.log2 + 1 + 1 by omega, Nat.pow_succ]
      simp at this; omega
    have g2 : 2 * n < 2 ^ drop := Nat.lt_of_lt_of_le g1 (Nat.pow_le_pow_right (by decide) (by omega))
    unfold rhe
    rw [Nat.mod_eq_of_lt (show n < 2 ^ (n.log2 + 2) by omega), Nat.mod_eq_of_lt (show n < 2 ^ drop by omega), Nat.div_eq_of_lt (show n < 2 ^ (n.log2 + 2) by omega), Nat.div_eq_of_lt (show n < 2 ^ drop by omega)]
    simp [Nat.not_lt.2 (Nat.le_of_lt g1), Nat.not_lt.2 (Nat.le_of_lt g2)]
theorem cut_down (n drop : Nat) : Toward.down.cut false n drop = n / 2 ^ drop := by
  unfold Toward.cut
  simp only [Nat.one_shiftLeft, Bool.false_and, Bool.toNat_false, Nat.add_zero]
  by_cases h : drop ≤ n.log2 + 2
  · rw [Nat.min_eq_left h]
  · rw [Nat.min_eq_right (by omega)]
    have g1 := lt_gap n 1
    have g2 : n < 2 ^ drop := Nat.lt_of_lt_of_le g1 (Nat.pow_le_pow_right (by decide) (by omega))
    rw [Nat.div_eq_of_lt g2, Nat.div_eq_of_lt g1]
theorem log2_shift {m : Nat} (hm : m ≠ 0) (k : Nat) : (m * 2 ^ k).log2 = m.log2 + k := by
  have := Nat.two_pow_pos k
  rw [Nat.log2_eq_iff (Nat.mul_ne_zero hm (by omega))]
  have h1 := Nat.log2_self_le hm
  have h2 := Nat.lt_log2_self (n := m)
  constructor
  · rw [Nat.pow_add]; exact Nat.mul_le_mul_right _ h1
  · rw [show m.log2 + k + 1 = m.log2 + 1 + k by omega, Nat.pow_add]; exact Nat.mul_lt_mul_of_pos_right h2 (Nat.two_pow_pos k)
theorem nearest_eq (neg : Bool) (mag P : Nat) : D.nearest neg mag ((P : Int) - 1074) = D.word neg (min (rnd (mag * 2 ^ P)) INF) := by
  unfold Format.nearest
  by_cases h0 : mag = 0
  · subst h0; simp [rnd_small]
  · rw [if_neg h0]
    dsimp only
    rw [D_fb, D_lp, D_bin, D_inf, cut_even, Nat.shiftLeft_eq]
    refine congrArg (fun x => D.word neg (min x INF)) ?_
    unfold rnd
    rw [log2_shift h0]
    obtain ⟨L, hL⟩ : ∃ L, mag.log2 = L := ⟨_, rfl⟩
    rw [hL]
    have e1 : (max ((P : Int) - 1074 + (L : Int) - ((52 : Nat) : Int)) (-1074) - -1074).toNat = L + P - 52 := by omega
    rw [e1]
    congr 1
    by_cases hd : L + P - 52 ≤ P
    · have e2 : ((P : Int) - 1074 - max ((P : Int) - 1074 + (L : Int) - ((52 : Nat) : Int)) (-1074)).toNat = P - (L + P - 52) := by omega
      have e3 : (max ((P : Int) - 1074 + (L : Int) - ((52 : Nat) : Int)) (-1074) - ((P : Int) - 1074)).toNat = 0 := by omega
      rw [e2, e3, rhe_zero]
      obtain ⟨c, hc⟩ : ∃ c, P = c + (L + P - 52) := ⟨P - (L + P - 52), by omega⟩
      generalize L + P - 52 = d at hc ⊢
      subst hc
      rw [Nat.add_sub_cancel, Nat.pow_add, ← Nat.mul_assoc, rhe_exact]
    · have e2 : ((P : Int) - 1074 - max ((P : Int) - 1074 + (L : Int) - ((52 : Nat) : Int)) (-1074)).toNat = 0 := by omega
      have e3 : (max ((P : Int) - 1074 + (L : Int) - ((52 : Nat) : Int)) (-1074) - ((P : Int) - 1074)).toNat = L + P - 52 - P := by omega
      rw [e2, e3]
      obtain ⟨c, hc⟩ : ∃ c, L + P - 52 = c + P := ⟨L + P - 52 - P, by omega⟩
      rw [hc, Nat.add_sub_cancel, rhe_scale]
      simp
theorem word_false (r : Nat) : D.word false r = r := rfl
/-- A sum of two numbers, written. -/
theorem sum_number (s t : Bool) (m n P Q : Nat) : ((Datum.number s m ((P : Int) - 1074)).sum (Datum.number t n ((Q : Int) - 1074))).map D.write =
    some (D.word (if signed s m P + signed t n Q = 0 then s && t else decide (signed s m P + signed t n Q < 0)) (min (rnd (signed s m P + signed t n Q).natAbs) INF)) := by
  simp only [Datum.sum, Option.map_some, Format.write, Option.some.injEq]
  obtain ⟨R, hR⟩ : ∃ R : Nat, min P Q = R := ⟨_, rfl⟩
  have e0 : min ((P : Int) - 1074) ((Q : Int) - 1074) = (R : Int) - 1074 := by omega
  rw [e0, nearest_eq]
  have e1 : ((P : Int) - 1074 - ((R : Int) - 1074)).toNat = P - R := by omega
  have e2 : ((Q : Int) - 1074 - ((R : Int) - 1074)).toNat = Q - R := by omega
  rw [e1, e2]
  have a1 := signed_shift s m (P - R) R
  have a2 := signed_shift t n (Q - R) R
  rw [show P - R + R = P by omega] at a1
  rw [show Q - R + R = Q by omega] at a2
  rw [a1, a2, ← Int.add_mul]
  generalize signed s m (P - R) + signed t n (Q - R) = x
  have hp : (0 : Int) < ((2 ^ R : Nat) : Int) := by have := Nat.two_pow_pos R; omega
  generalize hc : (2 ^ R : Nat) = c at hp ⊢
  have z1 : (x * (c : Int) = 0) = (x = 0) := by
    rw [Int.mul_eq_zero]; simp; omega
  have z2 : (x * (c : Int) < 0) = (x < 0) := by
    apply propext
    constructor
    · intro h
      refine Decidable.byContradiction fun h2 => ?_
      have := Int.mul_nonneg (show 0 ≤ x by omega) (Int.le_of_lt hp)
      omega
    · intro h; exact Int.mul_neg_of_neg_of_pos h hp
  have z3 : (x * (c : Int)).natAbs = x.natAbs * c := by rw [Int.natAbs_mul]; rfl
  rw [z3]
  simp only [z1, z2]
theorem add_fin {u v : Nat} (hu : Fin u) (hv : Fin v) : D.add u v = some (D.word (if sval u + sval v = 0 then sgn u && sgn v else decide (sval u + sval v < 0)) (min (rnd (sval u + sval v).natAbs) INF)) := by
  obtain ⟨m, P, e1, h1, _⟩ := read_fin hu
  obtain ⟨n, Q, e2, h2, _⟩ := read_fin hv
  unfold Format.add
  rw [e1, e2, sum_number, signed_sval h1, signed_sval h2]
theorem signed_not (s : Bool) (m P : Nat) : signed (!s) m P = -signed s m P := by
  cases s <;> simp [signed]
theorem sub_fin {u v : Nat} (hu : Fin u) (hv : Fin v) : D.sub u v = some (D.word (if sval u - sval v = 0 then sgn u && !sgn v else decide (sval u - sval v < 0)) (min (rnd (sval u - sval v).natAbs) INF)) := by
  obtain ⟨m, P, e1, h1, _⟩ := read_fin hu
  obtain ⟨n, Q, e2, h2, _⟩ := read_fin hv
  unfold Format.sub
  rw [e1, e2, Datum.opposite, sum_number, signed_not, signed_sval h1, signed_sval h2, Int.add_neg_eq_sub]
/-- Not negative and finite. -/
theorem nn {w : Nat} (h : w < INF) : w % 2 ^ 63 = w ∧ sgn w = false ∧ Fin w ∧ sval w = (val w : Int) := by
  have h1 : INF < 2 ^ 63 := by decide +kernel
  have h2 : w % 2 ^ 63 = w := Nat.mod_eq_of_lt (by omega)
  have h3 : sgn w = false := by unfold sgn; rw [Nat.div_eq_of_lt (show w < 2 ^ 63 by omega)]; rfl
  exact ⟨h2, h3, by unfold Fin; rw [h2]; exact h, by simp [sval, h2, h3]⟩
theorem lt_INF {V : Nat} (h : V ≤ 2 ^ 2097) : rnd V < INF := by
  have h1 : 2 ^ 2097 ≤ val (INF - 1) := by decide +kernel
  have := rnd_le_iff (Nat.le_trans h h1)
  have : 0 < INF := by decide +kernel
  omega
theorem floor_fin {w : Nat} (h : w < INF) : D.write ((D.read w).integral .down) = min (rnd (val w / 2 ^ 1074 * 2 ^ 1074)) INF := by
  obtain ⟨h1, h2, h3, _⟩ := nn h
  obtain ⟨m, P, e1, e2, _⟩ := read_fin h3
  rw [h1] at e2
  rw [e1, h2]
  simp only [Datum.integral, Format.write, cut_down, Nat.shiftLeft_eq]
  have := nearest_eq false (m * 2 ^ ((P : Int) - 1074).toNat / 2 ^ (-((P : Int) - 1074)).toNat) 1074
  rw [show ((1074 : Nat) : Int) - 1074 = 0 by omega] at this
  rw [this, word_false, ← e2]
  congr 3
  by_cases hP : 1074 ≤ P
  · obtain ⟨c, rfl⟩ : ∃ c, P = c + 1074 := ⟨P - 1074, by omega⟩
    rw [show (((c + 1074 : Nat) : Int) - 1074).toNat = c by omega, show (-(((c + 1074 : Nat) : Int) - 1074)).toNat = 0 by omega, Nat.pow_add, ← Nat.mul_assoc, Nat.mul_div_cancel _ (Nat.two_pow_pos 1074)]
    simp
  · rw [show ((P : Int) - 1074).toNat = 0 by omega, show (-((P : Int) - 1074)).toNat = 1074 - P by omega]
    obtain ⟨c, hc⟩ : ∃ c, 1074 = c + P := ⟨1074 - P, by omega⟩
    rw [show 1074 - P = c by omega, hc, Nat.pow_add, Nat.mul_div_mul_right _ _ (Nat.two_pow_pos P)]
    simp
end Fl
end Go.Proofs.Ytjkkojeamkpodaa
