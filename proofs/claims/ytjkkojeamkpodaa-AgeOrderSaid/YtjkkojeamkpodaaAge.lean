/- What the program's age answers at every two numbers: After, Of, Same, Bucket (and Go's Floor). No condition but that the bits are a float64's. -/
import Derived.Test.YtjkkojeamkpodaaBase
namespace Go.Proofs.Ytjkkojeamkpodaa
open Go.RowKit Fl
set_option linter.unusedVariables false
namespace Fl
abbrev mg (b : Nat) : Nat := b % 9223372036854775808
theorem time_fin {b : Nat} (h : isTime b = true) : Fin b ∧ sval b = (val (mg b) : Int) ∧ mg b < INF ∧ b < 18446744073709551616 := by
  have h := of_decide_eq_true h
  rcases h with h | rfl
  · have h1 : b < INF := by rw [INF_eq]; exact h
    obtain ⟨h2, h3, h4, h5⟩ := nn h1
    have h6 : mg b = b := Nat.mod_eq_of_lt (by omega)
    exact ⟨h4, by rw [h6]; exact h5, by rw [h6]; exact h1, by omega⟩
  · exact ⟨by unfold Fin; decide +kernel, by decide +kernel, by decide +kernel, by decide⟩
theorem sw : D.signWeight = 9223372036854775808 := by decide +kernel
theorem word_true (r : Nat) : D.word true r = 9223372036854775808 + r := by rw [← sw]; rfl
theorem word_lt (s : Bool) (V : Nat) : D.word s (min (rnd V) INF) < 18446744073709551616 := by
  have h : min (rnd V) INF ≤ 9218868437227405312 := by rw [← INF_eq]; exact Nat.min_le_right ..
  generalize min (rnd V) INF = x at h ⊢
  cases s
  · rw [word_false]; omega
  · rw [word_true]; omega
theorem rnd_zero : rnd 0 = 0 := rnd_small (by decide)
theorem word_sum {S : Nat} {s : Bool} (h : S ≠ 0 → s = false) : (D.word s (min (rnd S) INF) = 9223372036854775808 ∧ S = 0) ∨ D.word s (min (rnd S) INF) = min (rnd S) INF := by
  by_cases hS : S = 0
  · subst hS
    rw [rnd_zero, Nat.zero_min]
    cases s
    · exact .inr (word_false 0)
    · exact .inl ⟨word_true 0, rfl⟩
  · rw [h hS]; exact .inr (word_false _)
theorem add_time {u v : Nat} (hu : isTime u = true) (hv : isTime v = true) : ∃ r, F64.add u v = some r ∧ r < 18446744073709551616 ∧ ((r = 9223372036854775808 ∧ val (mg u) + val (mg v) = 0) ∨ r = min (rnd (val (mg u) + val (mg v))) INF) := by
  obtain ⟨h1, h2, _⟩ := time_fin hu
  obtain ⟨h3, h4, _⟩ := time_fin hv
  refine ⟨_, add_fin h1 h3, word_lt _ _, ?_⟩
  rw [h2, h4, show (((val (mg u) : Int)) + (val (mg v) : Int)).natAbs = val (mg u) + val (mg v) by omega]
  refine word_sum fun hS => ?_
  rw [if_neg (by omega), decide_eq_false (by omega)]
theorem sub_time {u v : Nat} (hu : isTime u = true) (hv : isTime v = true) (hle : val (mg v) ≤ val (mg u)) : ∃ r, F64.sub u v = some r ∧ r < 18446744073709551616 ∧ ((r = 9223372036854775808 ∧ val (mg u) - val (mg v) = 0) ∨ r = rnd (val (mg u) - val (mg v))) ∧ rnd (val (mg u) - val (mg v)) < INF := by
  obtain ⟨h1, h2, h5, _⟩ := time_fin hu
  obtain ⟨h3, h4, _⟩ := time_fin hv
  have hr : rnd (val (mg u) - val (mg v)) ≤ mg u := rnd_le_iff (by omega)
  refine ⟨_, sub_fin h1 h3, word_lt _ _, ?_, by omega⟩
  rw [h2, h4, show (((val (mg u) : Int)) - (val (mg v) : Int)).natAbs = val (mg u) - val (mg v) by omega]
  have := word_sum (S := val (mg u) - val (mg v)) (s := if (val (mg u) : Int) - (val (mg v) : Int) = 0 then sgn u && !sgn v else decide ((val (mg u) : Int) - (val (mg v) : Int) < 0)) (fun hS => by rw [if_neg (by omega), decide_eq_false (by omega)])
  rw [Nat.min_eq_left (by omega)] at this ⊢
  exact this
theorem ord_time {u v : Nat} (hu : isTime u = true) (hv : isTime v = true) : F64.order u v = some (compare (val (mg u)) (val (mg v))) := by
  obtain ⟨h1, h2, _⟩ := time_fin hu
  obtain ⟨h3, h4, _⟩ := time_fin hv
  rw [F64_D, order_fin h1 h3, h2, h4]
  rcases Nat.lt_trichotomy (val (mg u)) (val (mg v)) with h | h | h
  · rw [Nat.compare_eq_lt.2 h, Int.compare_eq_lt.2 (by omega)]
  · rw [Nat.compare_eq_eq.2 h, Int.compare_eq_eq.2 (by omega)]
  · rw [Nat.compare_eq_gt.2 h, Int.compare_eq_gt.2 (by omega)]
theorem ord_lt {u v : Nat} (hu : isTime u = true) (hv : isTime v = true) : (F64.order u v == some .lt) = decide (val (mg u) < val (mg v)) := by
  rw [ord_time hu hv]
  rcases Nat.lt_trichotomy (val (mg u)) (val (mg v)) with h | h | h
  · rw [Nat.compare_eq_lt.2 h, decide_eq_true h]; rfl
  · rw [Nat.compare_eq_eq.2 h, decide_eq_false (by omega)]; rfl
  · rw [Nat.compare_eq_gt.2 h, decide_eq_false (by omega)]; rfl
/-- What After gives. -/
def afterF (u v : Nat) : Nat × Int := if isTime u && isTime v && decide (rnd (val (mg u) + val (mg v)) < 9218868437227405312) then (rnd (val (mg u) + val (mg v)), 0) else (0, 1)
/-- What Of gives. -/
def ofF (u v : Nat) : Nat := if isTime u && isTime v && decide (val (mg v) ≤ val (mg u)) then rnd (val (mg u) - val (mg v)) else 0
/-- A word's whole part. -/
def floorF (r : Nat) : Nat := D.write ((D.read r).integral .down)
end Fl
theorem wosign_nn (w : World) (r : Nat) (hr : r < 9223372036854775808) : Calls Try.prog 21 #[.float .f64 r] w fun e w' => e = .returned (.float .f64 r) ∧ w' = w := by
  have ks := fun w => signbit_any w r (by omega)
  rw [decide_eq_false (by omega)] at ks
  obtain ⟨t, ht⟩ : ∃ t, (F64.order r 0 == some .eq) = t := ⟨_, rfl⟩
  clear hr
  cases t
  · go_enter Try.func21, Try.ntmps21
    go_wp2_with fail
    go_ret
    exact ⟨rfl, rfl⟩
  · go_enter Try.func21, Try.ntmps21
    go_wp2_with fail
    refine (ks _).mono ?_
    rintro e w1 ⟨rfl, rfl⟩
    go_wp2_with fail
    go_ret
    exact ⟨rfl, rfl⟩
theorem wosign_minus (w : World) : Calls Try.prog 21 #[.float .f64 9223372036854775808] w fun e w' => e = .returned (.float .f64 0) ∧ w' = w := by
  have ks : ∀ w, Calls Try.prog 16 #[.float .f64 9223372036854775808] w fun e w' => e = .returned (.bool true) ∧ w' = w := fun w => signbit_any w 9223372036854775808 (by decide)
  have ht : (F64.order 9223372036854775808 0 == some .eq) = true := by decide +kernel
  go_enter Try.func21, Try.ntmps21
  go_wp2_with fail
  refine (ks _).mono ?_
  rintro e w1 ⟨rfl, rfl⟩
  go_wp2_with fail
  go_ret
  exact ⟨rfl, rfl⟩
theorem wosign_any (w : World) (r S : Nat) (hS : rnd S < INF) (h : (r = 9223372036854775808 ∧ S = 0) ∨ r = rnd S) : Calls Try.prog 21 #[.float .f64 r] w fun e w' => e = .returned (.float .f64 (rnd S)) ∧ w' = w := by
  rcases h with ⟨rfl, rfl⟩ | rfl
  · rw [rnd_zero]; exact wosign_minus w
  · exact wosign_nn w _ (by rw [INF_eq] at hS; omega)
set_option maxHeartbeats 400000 in
theorem after_any (w : World) (u v : Nat) (hu : u < 18446744073709551616) (hv : v < 18446744073709551616) :
    Calls Try.prog 11 #[.float .f64 u, .float .f64 v] w fun e w' => e = .returned (.tuple #[.float .f64 (afterF u v).1, .int .i64 (afterF u v).2]) ∧ w' = w := by
  have k1 := fun w => may_any w u hu
  have k2 := fun w => may_any w v hv
  obtain ⟨t, ht⟩ : ∃ t, isTime u = t := ⟨_, rfl⟩
  obtain ⟨s, hs⟩ : ∃ s, isTime v = s := ⟨_, rfl⟩
  unfold afterF
  rw [ht] at k1
  rw [hs] at k2
  rw [ht, hs]
  cases t
  · clear ht hs hu hv
    go_enter Try.func11, Try.ntmps11
    go_wp2_with fail
    refine (k1 _).mono ?_
    rintro e w1 ⟨rfl, rfl⟩
    go_wp2_with fail
    go_ret2
    exact ⟨rfl, rfl⟩
  · cases s
    · clear ht hs hu hv
      go_enter Try.func11, Try.ntmps11
      go_wp2_with fail
      refine (k1 _).mono ?_
      rintro e w1 ⟨rfl, rfl⟩
      go_wp2_with fail
      refine (k2 _).mono ?_
      rintro e w1 ⟨rfl, rfl⟩
      go_wp2_with fail
      go_ret2
      exact ⟨rfl, rfl⟩
    · obtain ⟨r, hr, hr64, hrS⟩ := add_time ht hs
      have ka : ∀ w, (binOp .add 23 (.float .f64 u) (.float .f64 v)).run Try.prog w = .ok (.float .f64 r) w := fun w => run_float_arith w .add 23 .f64 u v r hr
      have ki := fun w => isinf1_any w r hr64
      generalize val (mg u) + val (mg v) = S at hrS ⊢
      by_cases hlt : rnd S < 9218868437227405312
      · have hi : r ≠ 9218868437227405312 := by
          rcases hrS with ⟨rfl, _⟩ | rfl
          · decide
          · rw [Nat.min_eq_left (by rw [INF_eq]; omega)]; omega
        have kw := fun w => wosign_any w r S (by rw [INF_eq]; exact hlt) (by rwa [Nat.min_eq_left (by rw [INF_eq]; omega)] at hrS)
        rw [decide_eq_false hi] at ki
        rw [decide_eq_true hlt]
        generalize rnd S = R at kw ⊢
        clear ht hs hu hv hi hlt hr hr64 hrS
        go_enter Try.func11, Try.ntmps11
        go_wp2_with fail
        refine (k1 _).mono ?_
        rintro e w1 ⟨rfl, rfl⟩
        go_wp2_with fail
        refine (k2 _).mono ?_
        rintro e w1 ⟨rfl, rfl⟩
        go_wp2_with fail
        refine (ki _).mono ?_
        rintro e w1 ⟨rfl, rfl⟩
        go_wp2_with fail
        refine (kw _).mono ?_
        rintro e w1 ⟨rfl, rfl⟩
        go_wp2_with fail
        go_ret2
        exact ⟨rfl, rfl⟩
      · have hi : r = 9218868437227405312 := by
          rcases hrS with ⟨rfl, rfl⟩ | rfl
          · rw [rnd_zero] at hlt; omega
          · rw [Nat.min_eq_right (by rw [INF_eq]; omega), INF_eq]
        rw [decide_eq_true hi] at ki
        rw [decide_eq_false hlt]
        clear ht hs hu hv hi hlt hr hr64 hrS
        go_enter Try.func11, Try.ntmps11
        go_wp2_with fail
        refine (k1 _).mono ?_
        rintro e w1 ⟨rfl, rfl⟩
        go_wp2_with fail
        refine (k2 _).mono ?_
        rintro e w1 ⟨rfl, rfl⟩
        go_wp2_with fail
        refine (ki _).mono ?_
        rintro e w1 ⟨rfl, rfl⟩
        go_wp2_with fail
        go_ret2
        exact ⟨rfl, rfl⟩
end Go.Proofs.Ytjkkojeamkpodaa
