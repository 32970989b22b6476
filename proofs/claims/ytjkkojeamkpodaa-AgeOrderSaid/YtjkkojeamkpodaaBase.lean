/- What Go's own small functions on float64 answer at every number: Float64bits, Float64frombits, NaN, Abs, IsNaN, IsInf, Signbit, Floor; and age.May: whether a number is a time. No condition but that the bits are a float64's. -/
import Derived.Test.YtjkkojeamkpodaaDyad
import Derived.Test.YtjkkojeamkpodaaRows
import Derived.WalkKit
import Derived.WalkSpells
import Derived.WalkLawsBesides
import Derived.Below
import Derived.Outline
import Derived.Laws.BitsAllLaws
import Derived.ProofKit
import Derived.OpenShut
import Derived.ChangeOld
namespace Go.Proofs.Ytjkkojeamkpodaa
open Go.RowKit Fl
set_option linter.unusedVariables false
abbrev F64 : Ieee.Format := FloatKind.f64.format
theorem F64_D : F64 = D := rfl
namespace Fl
theorem INF_eq : INF = 9218868437227405312 := by decide +kernel
theorem val_max : val 9218868437227405311 < val INF := val_lt (by decide +kernel)
def isTime (b : Nat) : Bool := decide (b < 9218868437227405312 ∨ b = 9223372036854775808)
theorem ord_self (b : Nat) : (F64.order b b != some .eq) = decide (9218868437227405312 < b % 9223372036854775808) := by
  have e63 : (9223372036854775808 : Nat) = 2 ^ 63 := by decide
  rw [F64_D, e63]
  rcases Nat.lt_trichotomy (b % 2 ^ 63) INF with h | h | h
  · rw [order_fin h h, Int.compare_eq_eq.2 rfl, decide_eq_false (by rw [INF_eq] at h; omega)]; rfl
  · have hr := read_inf h
    rw [decide_eq_false (by rw [INF_eq] at h; omega)]
    simp only [Ieee.Format.order, hr, Ieee.Datum.order]
    cases sgn b <;> rfl
  · rw [order_nan (.inl h), decide_eq_true (by rw [INF_eq] at h; omega)]; rfl
theorem sval_neg {b : Nat} (h1 : 9223372036854775808 ≤ b) (h2 : b < 18446744073709551616) : sgn b = true ∧ sval b = -(val (b % 2 ^ 63) : Int) := by
  have h3 : sgn b = true := by
    unfold sgn
    have : b / 2 ^ 63 = 1 := by omega
    rw [this]; rfl
  exact ⟨h3, by simp [sval, h3]⟩
theorem ord_max (b : Nat) (hb : b < 18446744073709551616) : (F64.order b 9218868437227405311 == some .gt) = decide (b = 9218868437227405312) := by
  rw [F64_D]
  have hM : (9218868437227405311 : Nat) < INF := by decide +kernel
  obtain ⟨_, _, h3, h4⟩ := nn hM
  by_cases hs : b < 9223372036854775808
  · have hm : b % 2 ^ 63 = b := Nat.mod_eq_of_lt (by omega)
    rcases Nat.lt_trichotomy b INF with h | h | h
    · obtain ⟨_, _, h1, h2⟩ := nn h
      rw [order_fin h1 h3, h2, h4, decide_eq_false (by rw [INF_eq] at h; omega)]
      have hle : val b ≤ val 9218868437227405311 := val_le (by rw [INF_eq] at h; omega)
      rcases Nat.lt_or_eq_of_le hle with h5 | h5
      · rw [Int.compare_eq_lt.2 (by omega)]; rfl
      · rw [h5, Int.compare_eq_eq.2 rfl]; rfl
    · rw [decide_eq_true (by rw [INF_eq] at h; exact h), h]; decide +kernel
    · rw [order_nan (.inl (by rw [hm]; exact h)), decide_eq_false (by rw [INF_eq] at h; omega)]; rfl
  · rw [decide_eq_false (by omega)]
    obtain ⟨hs1, hs2⟩ := sval_neg (b := b) (by omega) hb
    rcases Nat.lt_trichotomy (b % 2 ^ 63) INF with h | h | h
    · rw [order_fin h h3, hs2, h4]
      have : 0 < val 9218868437227405311 := by decide +kernel
      rw [Int.compare_eq_lt.2 (by omega)]; rfl
    · have hr := read_inf h
      obtain ⟨m, P, e, _⟩ := read_fin h3
      simp only [Ieee.Format.order, hr, hs1, e, Ieee.Datum.order]; rfl
    · rw [order_nan (.inl h)]; rfl
theorem sval_zero : sval 0 = 0 := by decide +kernel
theorem fin_zero : Fin 0 := by unfold Fin; decide +kernel
theorem ord_ge0 (b : Nat) (hb : b < 18446744073709551616) (hf : b % 9223372036854775808 < 9218868437227405312) : (F64.order b 0 == some .gt || F64.order b 0 == some .eq) = isTime b := by
  rw [F64_D]
  have hF : Fin b := by unfold Fin; rw [INF_eq]; exact hf
  rw [order_fin hF fin_zero, sval_zero]
  unfold isTime
  by_cases h : b < 9223372036854775808
  · have h1 : b % 9223372036854775808 = b := Nat.mod_eq_of_lt h
    rw [h1] at hf
    obtain ⟨_, _, _, h4⟩ := nn (w := b) (by rw [INF_eq]; exact hf)
    rw [h4, decide_eq_true (.inl hf)]
    rcases Nat.eq_zero_or_pos (val b) with h5 | h5
    · rw [h5]; rfl
    · rw [Int.compare_eq_gt.2 (by omega)]; rfl
  · obtain ⟨_, h4⟩ := sval_neg (b := b) (by omega) hb
    rw [h4]
    rcases Nat.eq_zero_or_pos (val (b % 2 ^ 63)) with h5 | h5
    · have h6 := val_eq_zero.1 h5
      rw [h5, decide_eq_true (.inr (by omega))]; rfl
    · have h6 : b ≠ 9223372036854775808 := by rintro rfl; exact absurd h5 (by decide +kernel)
      rw [Int.compare_eq_lt.2 (by omega), decide_eq_false (by omega)]; rfl
theorem and63 (b : Nat) : b &&& 9223372036854775807 = b % 9223372036854775808 := by
  have := Nat.and_two_pow_sub_one_eq_mod b 63
  simpa using this
end Fl
theorem frombits_any (w : World) (n : Nat) : (callFunc 19 #[.int .u64 (n : Int)]).run Try.prog w = .ok (.value (.float .f64 n)) w := by
  rw [run_callFunc_extern (fn := Try.f19) (e := Extern.MathFloatBits.float64frombits) Try.func19 (by kernel_rfl) (by kernel_rfl) (by kernel_rfl) (by kernel_rfl)]
  rfl
theorem bits_any (w : World) (n : Nat) : (callFunc 20 #[.float .f64 n]).run Try.prog w = .ok (.value (.int .u64 (n : Int))) w := by
  rw [run_callFunc_extern (fn := Try.f20) (e := Extern.MathFloatBits.float64bits) Try.func20 (by kernel_rfl) (by kernel_rfl) (by kernel_rfl) (by kernel_rfl)]
  rfl
theorem nan_any (w : World) : Calls Try.prog 8 #[] w fun e w' => e = .returned (.float .f64 9221120237041090561) ∧ w' = w := by
  have k : ∀ w, (callFunc 19 #[.int .u64 9221120237041090561]).run Try.prog w = .ok (.value (.float .f64 9221120237041090561)) w := fun w => frombits_any w 9221120237041090561
  go_enter Try.func8, Try.ntmps8
  go_wp2_with fail
  go_ret
  exact ⟨rfl, rfl⟩
theorem isnan_any (w : World) (b : Nat) : Calls Try.prog 14 #[.float .f64 b] w fun e w' => e = .returned (.bool (decide (9218868437227405312 < b % 9223372036854775808))) ∧ w' = w := by
  have k := ord_self b
  generalize decide (9218868437227405312 < b % 9223372036854775808) = t at k ⊢
  go_enter Try.func14, Try.ntmps14
  go_wp2_with fail
  go_ret
  exact ⟨by rw [← k]; rfl, rfl⟩
theorem abs_any (w : World) (b : Nat) (hb : b < 18446744073709551616) : Calls Try.prog 23 #[.float .f64 b] w fun e w' => e = .returned (.float .f64 (b % 9223372036854775808)) ∧ w' = w := by
  have k1 := fun w => bits_any w b
  have k2 := fun w => frombits_any w (b % 9223372036854775808)
  have k3 : bits .andNot .u64 (b : Int) 9223372036854775808 = ((b % 9223372036854775808 : Nat) : Int) := by
    have := u64_andNot_nat b 9223372036854775808 hb (by decide)
    rw [show 18446744073709551615 - 9223372036854775808 = 9223372036854775807 by decide, and63] at this
    exact this
  generalize b % 9223372036854775808 = r at k2 k3 ⊢
  go_enter Try.func23, Try.ntmps23
  go_wp2_with fail
  go_ret
  exact ⟨rfl, rfl⟩
theorem isinf0_any (w : World) (b : Nat) (hb : b < 18446744073709551616) : Calls Try.prog 17 #[.float .f64 b, .int .i64 0] w fun e w' => e = .returned (.bool (decide (b % 9223372036854775808 = 9218868437227405312))) ∧ w' = w := by
  have k := ord_max (b % 9223372036854775808) (by omega)
  have ka := fun w => abs_any w b hb
  generalize decide (b % 9223372036854775808 = 9218868437227405312) = t at k ⊢
  generalize b % 9223372036854775808 = r at k ka
  go_enter Try.func17, Try.ntmps17
  go_wp2_with fail
  refine (ka _).mono ?_
  rintro e w1 ⟨rfl, rfl⟩
  go_wp2_with fail
  go_ret
  exact ⟨by rw [← k]; rfl, rfl⟩
theorem isinf1_any (w : World) (b : Nat) (hb : b < 18446744073709551616) : Calls Try.prog 17 #[.float .f64 b, .int .i64 1] w fun e w' => e = .returned (.bool (decide (b = 9218868437227405312))) ∧ w' = w := by
  have k := ord_max b hb
  generalize decide (b = 9218868437227405312) = t at k ⊢
  go_enter Try.func17, Try.ntmps17
  go_wp2_with fail
  go_ret
  exact ⟨by rw [← k]; rfl, rfl⟩
theorem signbit_any (w : World) (b : Nat) (hb : b < 18446744073709551616) : Calls Try.prog 16 #[.float .f64 b] w fun e w' => e = .returned (.bool (decide (9223372036854775808 ≤ b))) ∧ w' = w := by
  have k1 := fun w => bits_any w b
  have k2 : decide (wrap64 (b : Int) < 0) = decide (9223372036854775808 ≤ b) := by
    rw [decide_eq_decide]; unfold wrap64; omega
  generalize decide (9223372036854775808 ≤ b) = t at k2 ⊢
  clear hb
  go_enter Try.func16, Try.ntmps16
  go_wp2_with fail
  go_ret
  exact ⟨by rw [← k2]; rfl, rfl⟩
theorem may_any (w : World) (b : Nat) (hb : b < 18446744073709551616) : Calls Try.prog 12 #[.float .f64 b] w fun e w' => e = .returned (.bool (isTime b)) ∧ w' = w := by
  have kn := fun w => isnan_any w b
  have ki := fun w => isinf0_any w b hb
  rcases Nat.lt_trichotomy (b % 9223372036854775808) 9218868437227405312 with h | h | h
  · have k := ord_ge0 b hb h
    rw [decide_eq_false (by omega)] at kn
    rw [decide_eq_false (by omega)] at ki
    generalize isTime b = t at k ⊢
    clear h hb
    go_enter Try.func12, Try.ntmps12
    go_wp2_with fail
    refine (kn _).mono ?_
    rintro e w1 ⟨rfl, rfl⟩
    go_wp2_with fail
    refine (ki _).mono ?_
    rintro e w1 ⟨rfl, rfl⟩
    go_wp2_with fail
    go_ret
    exact ⟨by rw [← k]; rfl, rfl⟩
  · have k : isTime b = false := by unfold isTime; exact decide_eq_false (by omega)
    rw [decide_eq_false (by omega)] at kn
    rw [decide_eq_true h] at ki
    rw [k]
    clear h hb k
    go_enter Try.func12, Try.ntmps12
    go_wp2_with fail
    refine (kn _).mono ?_
    rintro e w1 ⟨rfl, rfl⟩
    go_wp2_with fail
    refine (ki _).mono ?_
    rintro e w1 ⟨rfl, rfl⟩
    go_wp2_with fail
    go_ret
    exact ⟨rfl, rfl⟩
  · have k : isTime b = false := by unfold isTime; exact decide_eq_false (by omega)
    rw [decide_eq_true h] at kn
    rw [k]
    clear h hb k ki
    go_enter Try.func12, Try.ntmps12
    go_wp2_with fail
    refine (kn _).mono ?_
    rintro e w1 ⟨rfl, rfl⟩
    go_wp2_with fail
    go_ret
    exact ⟨rfl, rfl⟩
end Go.Proofs.Ytjkkojeamkpodaa
