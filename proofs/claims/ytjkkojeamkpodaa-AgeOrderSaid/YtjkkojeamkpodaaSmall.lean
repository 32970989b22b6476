/- Small dyadic numbers as the program meets them: whole numbers, quarters, eighths; what sums, differences, products, quotients of them are, and the floor of a quotient. No condition on the program. -/
import Derived.Test.YtjkkojeamkpodaaAge
namespace Go.Proofs.Ytjkkojeamkpodaa
namespace Fl
set_option linter.unusedVariables false
/-- The float of m * 2^(k - 1074). -/
def fl (m k : Nat) : Nat := rnd (m * 2 ^ k)
theorem fl_val {m : Nat} (k : Nat) (h : m < 2 ^ 53) : val (fl m k) = m * 2 ^ k := rnd_exact h
theorem fl_zero (k : Nat) : fl 0 k = 0 := by unfold fl; rw [Nat.zero_mul]; exact rnd_zero
theorem fl_shift (m k j : Nat) : fl m (k + j) = fl (m * 2 ^ j) k := by
  unfold fl; rw [Nat.add_comm k j, Nat.pow_add, Nat.mul_assoc]
theorem fl_lt {m k L : Nat} (hL : L = 2044) (h : m < 2 ^ 53) (hk : k ≤ L) : fl m k < INF := by
  unfold fl
  refine lt_INF ?_
  have h1 : 2 ^ k ≤ 2 ^ L := Nat.pow_le_pow_right (by decide) hk
  have h2 := Nat.mul_le_mul (Nat.le_of_lt h) h1
  rw [← Nat.pow_add] at h2
  rw [show 2097 = 53 + L by omega]
  exact h2
theorem fl_nn {m k L : Nat} (hL : L = 2044) (h : m < 2 ^ 53) (hk : k ≤ L) : isTime (fl m k) = true ∧ mg (fl m k) = fl m k ∧ Fin (fl m k) ∧ sgn (fl m k) = false ∧ sval (fl m k) = ((m * 2 ^ k : Nat) : Int) := by
  have h1 := fl_lt hL h hk
  obtain ⟨h2, h3, h4, h5⟩ := nn h1
  have h6 : fl m k < 9218868437227405312 := by rw [← INF_eq]; exact h1
  exact ⟨decide_eq_true (.inl h6), Nat.mod_eq_of_lt (by omega), h4, h3, by rw [h5, fl_val k h]⟩
theorem fl_cmp {m n k L : Nat} (hL : L = 2044) (hm : m < 2 ^ 53) (hn : n < 2 ^ 53) (hk : k ≤ L) : F64.order (fl m k) (fl n k) = some (compare m n) := by
  obtain ⟨a1, a2, _⟩ := fl_nn hL hm hk
  obtain ⟨b1, b2, _⟩ := fl_nn hL hn hk
  rw [ord_time a1 b1, a2, b2, fl_val k hm, fl_val k hn]
  have hp := Nat.two_pow_pos k
  rcases Nat.lt_trichotomy m n with h | h | h
  · rw [Nat.compare_eq_lt.2 h, Nat.compare_eq_lt.2 (Nat.mul_lt_mul_of_pos_right h hp)]
  · subst h; rw [Nat.compare_eq_eq.2 rfl, Nat.compare_eq_eq.2 rfl]
  · rw [Nat.compare_eq_gt.2 h, Nat.compare_eq_gt.2 (Nat.mul_lt_mul_of_pos_right h hp)]
theorem fl_add {m n k L : Nat} (hL : L = 2044) (h : m + n < 2 ^ 53) (hk : k ≤ L) : F64.add (fl m k) (fl n k) = some (fl (m + n) k) := by
  obtain ⟨_, _, a3, a4, a5⟩ := fl_nn (m := m) hL (by omega) hk
  obtain ⟨_, _, b3, b4, b5⟩ := fl_nn (m := n) hL (by omega) hk
  have hlt := fl_lt (m := m + n) hL h hk
  rw [F64_D, add_fin a3 b3, a5, b5, a4, b4]
  rw [show (((m * 2 ^ k : Nat) : Int) + ((n * 2 ^ k : Nat) : Int)).natAbs = (m + n) * 2 ^ k by rw [Nat.add_mul]; omega]
  rw [show (if ((m * 2 ^ k : Nat) : Int) + ((n * 2 ^ k : Nat) : Int) = 0 then (false && false) else decide (((m * 2 ^ k : Nat) : Int) + ((n * 2 ^ k : Nat) : Int) < 0)) = false by split; rfl; exact decide_eq_false (by omega)]
  rw [word_false]
  change some (min (fl (m + n) k) INF) = _
  rw [Nat.min_eq_left (Nat.le_of_lt hlt)]
theorem fl_sub {m n k L : Nat} (hL : L = 2044) (h : m < 2 ^ 53) (hn : n ≤ m) (hk : k ≤ L) : F64.sub (fl m k) (fl n k) = some (fl (m - n) k) := by
  obtain ⟨_, _, a3, a4, a5⟩ := fl_nn (m := m) hL (by omega) hk
  obtain ⟨_, _, b3, b4, b5⟩ := fl_nn (m := n) hL (by omega) hk
  have hlt := fl_lt (m := m - n) hL (by omega) hk
  have hle := Nat.mul_le_mul_right (2 ^ k) hn
  rw [F64_D, sub_fin a3 b3, a5, b5, a4, b4]
  rw [show (((m * 2 ^ k : Nat) : Int) - ((n * 2 ^ k : Nat) : Int)).natAbs = (m - n) * 2 ^ k by rw [Nat.sub_mul]; omega]
  rw [show (if ((m * 2 ^ k : Nat) : Int) - ((n * 2 ^ k : Nat) : Int) = 0 then (false && !false) else decide (((m * 2 ^ k : Nat) : Int) - ((n * 2 ^ k : Nat) : Int) < 0)) = false by split; rfl; exact decide_eq_false (by omega)]
  rw [word_false]
  change some (min (fl (m - n) k) INF) = _
  rw [Nat.min_eq_left (Nat.le_of_lt hlt)]
/-- A difference below nought is below every number that is not. -/
theorem fl_sub_neg {m n k L : Nat} (hL : L = 2044) (h : n < 2 ^ 53) (hn : m < n) (hk : k ≤ L) : ∃ r, F64.sub (fl m k) (fl n k) = some r ∧ ∀ j, j < 2 ^ 53 → F64.order r (fl j k) = some .lt := by
  obtain ⟨_, _, a3, a4, a5⟩ := fl_nn (m := m) hL (by omega) hk
  obtain ⟨_, _, b3, b4, b5⟩ := fl_nn (m := n) hL (by omega) hk
  have hlt := fl_lt (m := n - m) hL (by omega) hk
  have hle := Nat.mul_lt_mul_of_pos_right hn (Nat.two_pow_pos k)
  rw [F64_D, sub_fin a3 b3, a5, b5, a4, b4]
  rw [show (((m * 2 ^ k : Nat) : Int) - ((n * 2 ^ k : Nat) : Int)).natAbs = (n - m) * 2 ^ k by rw [Nat.sub_mul]; omega]
  rw [if_neg (by omega), decide_eq_true (by omega)]
  change ∃ r, some (D.word true (min (fl (n - m) k) INF)) = some r ∧ _
  rw [Nat.min_eq_left (Nat.le_of_lt hlt), word_true]
  refine ⟨_, rfl, fun j hj => ?_⟩
  have hlt2 : fl (n - m) k < 9218868437227405312 := by rw [← INF_eq]; exact hlt
  obtain ⟨_, _, c3, c4, c5⟩ := fl_nn (m := j) hL hj hk
  have hv := fl_val (m := n - m) k (by omega)
  generalize fl (n - m) k = x at hlt hlt2 hv ⊢
  have hm : (9223372036854775808 + x) % 2 ^ 63 = x := by omega
  obtain ⟨s1, s2⟩ := sval_neg (b := 9223372036854775808 + x) (by omega) (by omega)
  have hF : Fin (9223372036854775808 + x) := by unfold Fin; rw [hm]; exact hlt
  rw [order_fin hF c3, s2, c5, hm, hv]
  have h7 : 0 < (n - m) * 2 ^ k := Nat.mul_pos (by omega) (Nat.two_pow_pos k)
  rw [Int.compare_eq_lt.2 (by omega)]
theorem of_nat {a K : Nat} (hK : K = 1074) (ha : a < 2 ^ 53) : floatOfInt .f64 (a : Int) = fl a K := by
  have e : floatOfInt .f64 (a : Int) = D.nearest (decide ((a : Int) < 0)) (a : Int).natAbs 0 := rfl
  have h := nearest_eq false a K
  rw [show (K : Int) - 1074 = 0 by omega] at h
  rw [e, decide_eq_false (by omega), show (a : Int).natAbs = a by omega, h, word_false, Nat.min_eq_left]
  · rfl
  · exact Nat.le_of_lt (fl_lt (L := 2044) rfl ha (by omega))
theorem pow_split (a b : Nat) (h : b ≤ a) : 2 ^ a = 2 ^ (a - b) * 2 ^ b := by rw [← Nat.pow_add]; congr 1; omega
/-- A small number by a power of two. -/
theorem div_pow2 {a v j K : Nat} (hK : K = 1074) (hj : j ≤ 10) (ha : a < 2 ^ 16) (hv : v < INF) (hvv : val v = 2 ^ (K + j)) : F64.div (fl a K) v = some (fl a (K - j)) := by
  by_cases h0 : a = 0
  · subst h0
    rw [fl_zero, fl_zero]
    refine div_zero hv ?_
    rintro rfl
    rw [val_zero] at hvv
    exact absurd hvv.symm (Nat.ne_of_gt (Nat.two_pow_pos _))
  · have hu := fl_val (m := a) K (by omega)
    obtain ⟨J, hJ⟩ : ∃ J, J = 1060 := ⟨_, rfl⟩
    obtain ⟨B, hB⟩ : ∃ B, B = 900 := ⟨_, rfl⟩
    obtain ⟨C, hC⟩ : ∃ C, C = 1040 := ⟨_, rfl⟩
    obtain ⟨F, hF⟩ : ∃ F, F = 1010 := ⟨_, rfl⟩
    have l1 : 2 ^ K ≤ a * 2 ^ K := Nat.le_mul_of_pos_left _ (by omega)
    have l2 : a * 2 ^ K < 2 ^ 16 * 2 ^ K := Nat.mul_lt_mul_of_pos_right ha (Nat.two_pow_pos K)
    rw [← Nat.pow_add] at l2
    obtain ⟨Q, hq, hs⟩ := div_sand (u := fl a K) (v := v) hK hJ hB hC hF (fl_lt (L := 2044) rfl (by omega) (by omega)) hv
      (by rw [hu]; exact Nat.le_trans (Nat.pow_le_pow_right (by decide) (by omega)) l1)
      (by rw [hu]; exact Nat.lt_of_lt_of_le l2 (Nat.pow_le_pow_right (by decide) (by omega)))
      (by rw [hvv]; exact Nat.pow_lt_pow_right (by decide) (by omega))
      (by rw [hvv]; exact Nat.pow_le_pow_right (by decide) (by omega))
    have hz : a * 2 ^ (14 - j) * 2 ^ J = a * 2 ^ (K - j) := by
      rw [Nat.mul_assoc, ← Nat.pow_add, show 14 - j + J = K - j by omega]
    have he : a * 2 ^ (14 - j) * 2 ^ J * val v = val (fl a K) * 2 ^ K := by
      rw [hz, hvv, hu, Nat.mul_assoc, Nat.mul_assoc, ← Nat.pow_add, ← Nat.pow_add, show K - j + (K + j) = K + K by omega]
    obtain ⟨h1, h2⟩ := hs (a * 2 ^ (14 - j))
    have hQ : Q = a * 2 ^ (K - j) := by
      have := h1 (Nat.le_of_eq he)
      have := h2 (Nat.le_of_eq he.symm)
      omega
    have hlt := fl_lt (m := a) (k := K - j) (L := 2044) rfl (by omega) (by omega)
    rw [F64_D, hq, hQ]
    change some (min (fl a (K - j)) INF) = _
    rw [Nat.min_eq_left (Nat.le_of_lt hlt)]
theorem near_below {a G x : Nat} (h : (a + 1) * 2 ^ 14 ≤ x) (hG : G ≤ 256) : a * 2 ^ 14 ≤ x - 2 * G * 2 ^ 4 := by
  have e : (2 : Nat) ^ 14 = 16384 := by decide
  have e4 : (2 : Nat) ^ 4 = 16 := by decide
  rw [e] at h ⊢
  rw [e4]
  rw [Nat.add_mul] at h
  clear e e4
  refine Nat.le_sub_of_add_le (Nat.le_trans (Nat.add_le_add_left ?_ _) h)
  omega
/-- The floor of a quotient of an eighth and a quarter. -/
theorem div_floor {a G K : Nat} (hK : K = 1074) (ha : a < 2 ^ 16) (hG : 1 ≤ G) (hG2 : G ≤ 256) : ∃ r, F64.div (fl a (K - 3)) (fl G (K - 2)) = some r ∧ r ≤ INF ∧ floorF r = fl (a / (2 * G)) K := by
  have hv := fl_val (m := G) (K - 2) (by omega)
  have hvl := fl_lt (m := G) (k := K - 2) (L := 2044) rfl (by omega) (by omega)
  by_cases h0 : a = 0
  · subst h0
    refine ⟨0, ?_, Nat.zero_le _, ?_⟩
    · rw [fl_zero]
      refine div_zero hvl ?_
      intro h
      rw [h, val_zero] at hv
      rcases Nat.mul_eq_zero.1 hv.symm with h1 | h1
      · omega
      · exact absurd h1 (Nat.ne_of_gt (Nat.two_pow_pos _))
    · rw [Nat.zero_div, fl_zero]; decide +kernel
  · have hu := fl_val (m := a) (K - 3) (by omega)
    obtain ⟨J, hJ⟩ : ∃ J, J = 1060 := ⟨_, rfl⟩
    obtain ⟨B, hB⟩ : ∃ B, B = 900 := ⟨_, rfl⟩
    obtain ⟨C, hC⟩ : ∃ C, C = 1040 := ⟨_, rfl⟩
    obtain ⟨F, hF⟩ : ∃ F, F = 1010 := ⟨_, rfl⟩
    have l1 : 2 ^ (K - 3) ≤ a * 2 ^ (K - 3) := Nat.le_mul_of_pos_left _ (by omega)
    have l2 : a * 2 ^ (K - 3) < 2 ^ 16 * 2 ^ (K - 3) := Nat.mul_lt_mul_of_pos_right ha (Nat.two_pow_pos _)
    have l3 : 2 ^ (K - 2) ≤ G * 2 ^ (K - 2) := Nat.le_mul_of_pos_left _ (by omega)
    have l4 : G * 2 ^ (K - 2) ≤ 2 ^ 8 * 2 ^ (K - 2) := Nat.mul_le_mul_right _ hG2
    rw [← Nat.pow_add] at l2 l4
    obtain ⟨Q, hq, hs⟩ := div_sand (u := fl a (K - 3)) (v := fl G (K - 2)) hK hJ hB hC hF (fl_lt (L := 2044) rfl (by omega) (by omega)) hvl
      (by rw [hu]; exact Nat.le_trans (Nat.pow_le_pow_right (by decide) (by omega)) l1)
      (by rw [hu]; exact Nat.lt_of_lt_of_le l2 (Nat.pow_le_pow_right (by decide) (by omega)))
      (by rw [hv]; exact Nat.lt_of_le_of_lt l4 (Nat.pow_lt_pow_right (by decide) (by omega)))
      (by rw [hv]; exact Nat.le_trans (Nat.pow_le_pow_right (by decide) (by omega)) l3)
    obtain ⟨N, hN⟩ : ∃ N, a / (2 * G) = N := ⟨_, rfl⟩
    have hdm := Nat.div_add_mod a (2 * G)
    have hml := Nat.mod_lt a (show 0 < 2 * G by omega)
    rw [hN] at hdm ⊢
    have hNa : N ≤ a := by rw [← hN]; exact Nat.div_le_self _ _
    -- all in units of 2^(J + (K - 3))
    have eS : val (fl a (K - 3)) * 2 ^ K = a * 2 ^ 14 * (2 ^ J * 2 ^ (K - 3)) := by
      rw [hu, show K = 14 + J by omega, Nat.pow_add 2 14 J]; ac_rfl
    have eZ : ∀ z, z * 2 ^ J * val (fl G (K - 2)) = z * (2 * G) * (2 ^ J * 2 ^ (K - 3)) := by
      intro z
      rw [hv, show K - 2 = 1 + (K - 3) by omega, Nat.pow_add 2 1 (K - 3), Nat.pow_one]; ac_rfl
    have hlo : N * 2 ^ 14 * 2 ^ J ≤ Q := by
      refine (hs (N * 2 ^ 14)).1 ?_
      rw [eS, eZ]
      refine Nat.mul_le_mul_right _ ?_
      rw [show N * 2 ^ 14 * (2 * G) = (2 * G * N) * 2 ^ 14 by ac_rfl]
      exact Nat.mul_le_mul_right _ (by omega)
    have hhi : Q ≤ ((N + 1) * 2 ^ 10 - 1) * 2 ^ 4 * 2 ^ J := by
      refine (hs _).2 ?_
      rw [eS, eZ]
      refine Nat.mul_le_mul_right _ ?_
      have e1 : ((N + 1) * 2 ^ 10 - 1) * 2 ^ 4 * (2 * G) = (2 * G * N + 2 * G) * 2 ^ 14 - 2 * G * 2 ^ 4 := by
        rw [Nat.sub_mul, Nat.sub_mul]
        have : (N + 1) * 2 ^ 10 * 2 ^ 4 * (2 * G) = (2 * G * N + 2 * G) * 2 ^ 14 := by
          rw [show 2 * G * N + 2 * G = (N + 1) * (2 * G) by rw [Nat.add_mul, Nat.one_mul, Nat.mul_comm], Nat.mul_assoc ((N + 1)), ← Nat.pow_add]; ac_rfl
        rw [this, Nat.one_mul, Nat.mul_comm (2 ^ 4)]
      rw [e1]
      have h5 : (a + 1) * 2 ^ 14 ≤ (2 * G * N + 2 * G) * 2 ^ 14 := Nat.mul_le_mul_right _ (by omega)
      exact near_below h5 hG2
    have eK : ∀ x, x * 2 ^ 14 * 2 ^ J = x * 2 ^ K := by intro x; rw [Nat.mul_assoc, ← Nat.pow_add, show 14 + J = K by omega]
    have b1 : fl N K ≤ rnd Q := by unfold fl; rw [← eK]; exact rnd_mono hlo
    have b2 : rnd Q ≤ fl (((N + 1) * 2 ^ 10 - 1) * 2 ^ 4) J := rnd_mono hhi
    have b3 := fl_val (m := ((N + 1) * 2 ^ 10 - 1) * 2 ^ 4) J (by omega)
    have b4 := fl_val (m := N) K (by omega)
    have b5 := fl_lt (m := ((N + 1) * 2 ^ 10 - 1) * 2 ^ 4) (k := J) (L := 2044) rfl (by omega) (by omega)
    have b6 : rnd Q < INF := by omega
    refine ⟨rnd Q, ?_, Nat.le_of_lt b6, ?_⟩
    · rw [F64_D, hq, Nat.min_eq_left (Nat.le_of_lt b6)]
    · have c1 := val_le b1
      have c2 := val_le b2
      rw [b4] at c1
      rw [b3] at c2
      have c3 : ((N + 1) * 2 ^ 10 - 1) * 2 ^ 4 * 2 ^ J < (N + 1) * 2 ^ K := by
        rw [← eK]
        exact Nat.mul_lt_mul_of_pos_right (by omega) (Nat.two_pow_pos J)
      have c4 : val (rnd Q) / 2 ^ K = N := by
        have c5 := Nat.lt_of_le_of_lt c2 c3
        exact Nat.div_eq_of_lt_le c1 c5
      unfold floorF
      have hf := floor_fin b6
      rw [← hK, c4] at hf
      rw [hf]
      change min (fl N K) INF = _
      exact Nat.min_eq_left (by omega)
/-- A product of a whole number and a quarter. -/
theorem fl_mul {N G K : Nat} (hK : K = 1074) (hN : N ≤ 2 ^ 17) (hG : 1 ≤ G) (hG2 : G ≤ 256) : F64.mul (fl N K) (fl G (K - 2)) = some (fl (N * G) (K - 2)) := by
  have hNG : N * G ≤ 2 ^ 17 * 256 := Nat.mul_le_mul hN hG2
  have hu := fl_val (m := N) K (by omega)
  have hv := fl_val (m := G) (K - 2) (by omega)
  have hlt := fl_lt (m := N * G) (k := K - 2) (L := 2044) rfl (by omega) (by omega)
  obtain ⟨E, hE⟩ : ∃ E, E = 53 + 600 := ⟨_, rfl⟩
  have h := mul_exact (u := fl N K) (v := fl G (K - 2)) (Z := N * G * 2 ^ (K - 2)) hK (fl_lt (L := 2044) rfl (by omega) (by omega)) (fl_lt (L := 2044) rfl (by omega) (by omega)) (by rw [hu, hv]; ac_rfl) (by
    rw [← hE]
    by_cases h0 : N = 0
    · left; rw [hu, h0, Nat.zero_mul]
    · right; right
      rw [hu, hv]
      exact ⟨Nat.le_trans (Nat.pow_le_pow_right (by decide) (by omega)) (Nat.le_mul_of_pos_left _ (by omega)), Nat.le_trans (Nat.pow_le_pow_right (by decide) (by omega)) (Nat.le_mul_of_pos_left (2 ^ (K - 2)) (by omega))⟩)
  rw [F64_D, h]
  change some (min (fl (N * G) (K - 2)) INF) = _
  rw [Nat.min_eq_left (Nat.le_of_lt hlt)]
end Fl
theorem arith {op : BinOp} {x y r : Nat} (h : floatBits op .f64 x y = some r) (w : World) : (binOp op 23 (.float .f64 x) (.float .f64 y)).run Try.prog w = .ok (.float .f64 r) w := run_float_arith w op 23 .f64 x y r h
namespace Fl
theorem v8 {K : Nat} (hK : K = 1074) : val 4620693217682128896 = 2 ^ (K + 3) ∧ 4620693217682128896 < INF := by subst hK; decide +kernel
theorem v4 {K : Nat} (hK : K = 1074) : val 4616189618054758400 = 2 ^ (K + 2) ∧ 4616189618054758400 < INF := by subst hK; decide +kernel
theorem v1 {K : Nat} (hK : K = 1074) : 4607182418800017408 = fl 1 K := by subst hK; decide +kernel
theorem cmp_le {m n k L : Nat} (hL : L = 2044) (hm : m < 2 ^ 53) (hn : n < 2 ^ 53) (hk : k ≤ L) : (F64.order (fl m k) (fl n k) == some .lt || F64.order (fl m k) (fl n k) == some .eq) = decide (m ≤ n) := by
  rw [fl_cmp hL hm hn hk]
  rcases Nat.lt_trichotomy m n with h | h | h
  · rw [Nat.compare_eq_lt.2 h, decide_eq_true (by omega)]; rfl
  · rw [Nat.compare_eq_eq.2 h, decide_eq_true (by omega)]; rfl
  · rw [Nat.compare_eq_gt.2 h, decide_eq_false (by omega)]; rfl
theorem cmp_ge {m n k L : Nat} (hL : L = 2044) (hm : m < 2 ^ 53) (hn : n < 2 ^ 53) (hk : k ≤ L) : (F64.order (fl m k) (fl n k) == some .gt || F64.order (fl m k) (fl n k) == some .eq) = decide (n ≤ m) := by
  rw [fl_cmp hL hm hn hk]
  rcases Nat.lt_trichotomy m n with h | h | h
  · rw [Nat.compare_eq_lt.2 h, decide_eq_false (by omega)]; rfl
  · rw [Nat.compare_eq_eq.2 h, decide_eq_true (by omega)]; rfl
  · rw [Nat.compare_eq_gt.2 h, decide_eq_true (by omega)]; rfl
theorem cmp_gt {m n k L : Nat} (hL : L = 2044) (hm : m < 2 ^ 53) (hn : n < 2 ^ 53) (hk : k ≤ L) : (F64.order (fl m k) (fl n k) == some .gt) = decide (n < m) := by
  rw [fl_cmp hL hm hn hk]
  rcases Nat.lt_trichotomy m n with h | h | h
  · rw [Nat.compare_eq_lt.2 h, decide_eq_false (by omega)]; rfl
  · rw [Nat.compare_eq_eq.2 h, decide_eq_false (by omega)]; rfl
  · rw [Nat.compare_eq_gt.2 h, decide_eq_true (by omega)]; rfl
theorem cmp_lt {m n k L : Nat} (hL : L = 2044) (hm : m < 2 ^ 53) (hn : n < 2 ^ 53) (hk : k ≤ L) : (F64.order (fl m k) (fl n k) == some .lt) = decide (m < n) := by
  rw [fl_cmp hL hm hn hk]
  rcases Nat.lt_trichotomy m n with h | h | h
  · rw [Nat.compare_eq_lt.2 h, decide_eq_true (by omega)]; rfl
  · rw [Nat.compare_eq_eq.2 h, decide_eq_false (by omega)]; rfl
  · rw [Nat.compare_eq_gt.2 h, decide_eq_false (by omega)]; rfl
theorem cmp_eq {m n k L : Nat} (hL : L = 2044) (hm : m < 2 ^ 53) (hn : n < 2 ^ 53) (hk : k ≤ L) : (F64.order (fl m k) (fl n k) == some .eq) = decide (m = n) := by
  rw [fl_cmp hL hm hn hk]
  rcases Nat.lt_trichotomy m n with h | h | h
  · rw [Nat.compare_eq_lt.2 h, decide_eq_false (by omega)]; rfl
  · rw [Nat.compare_eq_eq.2 h, decide_eq_true (by omega)]; rfl
  · rw [Nat.compare_eq_gt.2 h, decide_eq_false (by omega)]; rfl
end Fl
end Go.Proofs.Ytjkkojeamkpodaa
