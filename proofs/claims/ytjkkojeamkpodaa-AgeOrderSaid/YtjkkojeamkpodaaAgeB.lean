/- What the program's Of, Same and Bucket answer (and Go's Floor); and the document's example: 'awake' answers true in every world. No condition but that the bits are a float64's. -/
import Derived.Test.YtjkkojeamkpodaaAge
namespace Go.Proofs.Ytjkkojeamkpodaa
open Go.RowKit Fl
set_option linter.unusedVariables false
set_option maxHeartbeats 400000 in
theorem of_any (w : World) (u v : Nat) (hu : u < 18446744073709551616) (hv : v < 18446744073709551616) :
    Calls Try.prog 13 #[.float .f64 u, .float .f64 v] w fun e w' => e = .returned (.float .f64 (ofF u v)) ∧ w' = w := by
  have k1 := fun w => may_any w u hu
  have k2 := fun w => may_any w v hv
  obtain ⟨t, ht⟩ : ∃ t, isTime u = t := ⟨_, rfl⟩
  obtain ⟨s, hs⟩ : ∃ s, isTime v = s := ⟨_, rfl⟩
  unfold ofF
  rw [ht] at k1
  rw [hs] at k2
  rw [ht, hs]
  cases t
  · clear ht hs hu hv
    go_enter Try.func13, Try.ntmps13
    go_wp2_with fail
    refine (k1 _).mono ?_
    rintro e w1 ⟨rfl, rfl⟩
    go_wp2_with fail
    go_ret
    exact ⟨rfl, rfl⟩
  · cases s
    · clear ht hs hu hv
      go_enter Try.func13, Try.ntmps13
      go_wp2_with fail
      refine (k1 _).mono ?_
      rintro e w1 ⟨rfl, rfl⟩
      go_wp2_with fail
      refine (k2 _).mono ?_
      rintro e w1 ⟨rfl, rfl⟩
      go_wp2_with fail
      go_ret
      exact ⟨rfl, rfl⟩
    · have ko := ord_lt ht hs
      by_cases hle : val (mg v) ≤ val (mg u)
      · obtain ⟨r, hr, hr64, hrS, hlt⟩ := sub_time ht hs hle
        have ka : ∀ w, (binOp .sub 23 (.float .f64 u) (.float .f64 v)).run Try.prog w = .ok (.float .f64 r) w := fun w => run_float_arith w .sub 23 .f64 u v r hr
        have kw := fun w => wosign_any w r _ hlt hrS
        rw [decide_eq_false (by omega)] at ko
        rw [decide_eq_true hle]
        generalize rnd (val (mg u) - val (mg v)) = R at kw ⊢
        clear ht hs hu hv hle hr hr64 hrS hlt
        go_enter Try.func13, Try.ntmps13
        go_wp2_with fail
        refine (k1 _).mono ?_
        rintro e w1 ⟨rfl, rfl⟩
        go_wp2_with fail
        refine (k2 _).mono ?_
        rintro e w1 ⟨rfl, rfl⟩
        go_wp2_with fail
        refine (kw _).mono ?_
        rintro e w1 ⟨rfl, rfl⟩
        go_wp2_with fail
        go_ret
        exact ⟨rfl, rfl⟩
      · rw [decide_eq_true (by omega)] at ko
        rw [decide_eq_false hle]
        clear ht hs hu hv hle
        go_enter Try.func13, Try.ntmps13
        go_wp2_with fail
        refine (k1 _).mono ?_
        rintro e w1 ⟨rfl, rfl⟩
        go_wp2_with fail
        refine (k2 _).mono ?_
        rintro e w1 ⟨rfl, rfl⟩
        go_wp2_with fail
        go_ret
        exact ⟨rfl, rfl⟩
/-- What Same gives. -/
def sameF (u v : Nat) : Bool := F64.order u v == some .eq || (decide (9218868437227405312 < mg u) && decide (9218868437227405312 < mg v))
theorem same_any (w : World) (u v : Nat) : Calls Try.prog 18 #[.float .f64 u, .float .f64 v] w fun e w' => e = .returned (.bool (sameF u v)) ∧ w' = w := by
  have k1 := fun w => isnan_any w u
  have k2 := fun w => isnan_any w v
  obtain ⟨t, ht⟩ : ∃ t, (F64.order u v == some .eq) = t := ⟨_, rfl⟩
  unfold sameF
  rw [ht]
  unfold mg
  generalize decide (9218868437227405312 < u % 9223372036854775808) = a at k1 ⊢
  generalize decide (9218868437227405312 < v % 9223372036854775808) = b at k2 ⊢
  cases t
  · cases a
    · go_enter Try.func18, Try.ntmps18
      go_wp2_with fail
      refine (k1 _).mono ?_
      rintro e w1 ⟨rfl, rfl⟩
      go_wp2_with fail
      go_ret
      exact ⟨rfl, rfl⟩
    · go_enter Try.func18, Try.ntmps18
      go_wp2_with fail
      refine (k1 _).mono ?_
      rintro e w1 ⟨rfl, rfl⟩
      go_wp2_with fail
      refine (k2 _).mono ?_
      rintro e w1 ⟨rfl, rfl⟩
      go_wp2_with fail
      go_ret
      exact ⟨rfl, rfl⟩
  · go_enter Try.func18, Try.ntmps18
    go_wp2_with fail
    go_ret
    exact ⟨rfl, rfl⟩
theorem integral_form (x : Nat) : ∃ f : Bool → Nat → Sem Value, Extern.MathFloor.toIntegral "math.archFloor" .down #[.float .f64 x] = (match D.read x with | .nan s t => f s t | d => pure (.float .f64 (D.write (d.integral .down)))) := ⟨_, rfl⟩
theorem integral_number {x : Nat} (hr : x ≤ INF) : Extern.MathFloor.toIntegral "math.archFloor" .down #[.float .f64 x] = pure (.float .f64 (floorF x)) := by
  obtain ⟨f, hf⟩ := integral_form x
  have hm : x % 2 ^ 63 = x := Nat.mod_eq_of_lt (by rw [INF_eq] at hr; omega)
  rw [hf]
  unfold floorF
  rcases Nat.lt_or_eq_of_le hr with h | h
  · obtain ⟨m, P, e, _⟩ := read_fin (nn h).2.2.1
    rw [e]
  · have e := read_inf (w := x) (by rw [hm]; exact h)
    rw [e]
theorem archfloor_any (w : World) (r : Nat) (hr : r ≤ INF) : (callFunc 24 #[.float .f64 r]).run Try.prog w = .ok (.value (.float .f64 (floorF r))) w := by
  rw [run_callFunc_extern (fn := Try.f24) (e := Extern.MathFloor.toIntegral "math.archFloor" .down) Try.func24 (by kernel_rfl) (by kernel_rfl) (by kernel_rfl) (by kernel_rfl)]
  rw [integral_number hr]
  rfl
theorem floor_any (w : World) (r : Nat) (hr : r ≤ INF) : Calls Try.prog 22 #[.float .f64 r] w fun e w' => e = .returned (.float .f64 (floorF r)) ∧ w' = w := by
  have k := fun w => archfloor_any w r hr
  generalize floorF r = x at k ⊢
  clear hr
  go_enter Try.func22, Try.ntmps22
  go_wp2_with fail
  go_ret
  exact ⟨rfl, rfl⟩
namespace Fl
theorem ord_le0 {g : Nat} (h0 : 0 < g) (h : g ≤ INF) : (F64.order g 0 == some .lt || F64.order g 0 == some .eq) = false := by
  rcases Nat.lt_or_eq_of_le h with h | h
  · obtain ⟨_, _, h1, h2⟩ := nn h
    rw [F64_D, order_fin h1 fin_zero, h2, sval_zero]
    have : 0 < val g := Nat.pos_of_ne_zero fun h => by have := val_eq_zero.1 h; omega
    rw [Int.compare_eq_gt.2 (by omega)]; rfl
  · subst h; decide +kernel
end Fl
/-- Bucket of a time by a grain above nought. -/
theorem bucket_yes (w : World) (u g r : Nat) (hu : isTime u = true) (hg0 : 0 < g) (hg : g < INF) (hd : D.div u g = some r) (hr : r ≤ INF) :
    Calls Try.prog 15 #[.float .f64 u, .float .f64 g] w fun e w' => e = .returned (.float .f64 (floorF r)) ∧ w' = w := by
  have hgm : g % 9223372036854775808 = g := Nat.mod_eq_of_lt (by rw [INF_eq] at hg; omega)
  have k1 := fun w => may_any w u (time_fin hu).2.2.2
  have k2 := fun w => isnan_any w g
  have k3 := fun w => isinf1_any w g (by rw [INF_eq] at hg; omega)
  have k4 := fun w => floor_any w r hr
  have k5 := ord_le0 hg0 (Nat.le_of_lt hg)
  have k6 : ∀ w, (binOp .quo 23 (.float .f64 u) (.float .f64 g)).run Try.prog w = .ok (.float .f64 r) w := fun w => run_float_arith w .quo 23 .f64 u g r hd
  rw [hu] at k1
  rw [hgm, decide_eq_false (by rw [INF_eq] at hg; omega)] at k2
  rw [decide_eq_false (by rw [INF_eq] at hg; omega)] at k3
  generalize floorF r = x at k4 ⊢
  clear hu hg0 hg hd hr hgm
  go_enter Try.func15, Try.ntmps15
  go_wp2_with fail
  refine (k1 _).mono ?_
  rintro e w1 ⟨rfl, rfl⟩
  go_wp2_with fail
  refine (k2 _).mono ?_
  rintro e w1 ⟨rfl, rfl⟩
  go_wp2_with fail
  refine (k3 _).mono ?_
  rintro e w1 ⟨rfl, rfl⟩
  go_wp2_with fail
  refine (k4 _).mono ?_
  rintro e w1 ⟨rfl, rfl⟩
  go_wp2_with fail
  go_ret
  exact ⟨rfl, rfl⟩
theorem bucket_inf (w : World) (u : Nat) (hu : isTime u = true) :
    Calls Try.prog 15 #[.float .f64 u, .float .f64 9218868437227405312] w fun e w' => e = .returned (.float .f64 0) ∧ w' = w := by
  have k1 := fun w => may_any w u (time_fin hu).2.2.2
  have k2 : ∀ w, Calls Try.prog 14 #[.float .f64 9218868437227405312] w fun e w' => e = .returned (.bool false) ∧ w' = w := fun w => isnan_any w 9218868437227405312
  have k3 : ∀ w, Calls Try.prog 17 #[.float .f64 9218868437227405312, .int .i64 1] w fun e w' => e = .returned (.bool true) ∧ w' = w := fun w => isinf1_any w 9218868437227405312 (by decide)
  have k5 : (F64.order 9218868437227405312 0 == some .lt || F64.order 9218868437227405312 0 == some .eq) = false := by decide +kernel
  rw [hu] at k1
  clear hu
  go_enter Try.func15, Try.ntmps15
  go_wp2_with fail
  refine (k1 _).mono ?_
  rintro e w1 ⟨rfl, rfl⟩
  go_wp2_with fail
  refine (k2 _).mono ?_
  rintro e w1 ⟨rfl, rfl⟩
  go_wp2_with fail
  refine (k3 _).mono ?_
  rintro e w1 ⟨rfl, rfl⟩
  go_wp2_with fail
  go_ret
  exact ⟨rfl, rfl⟩
/-- Bucket of no time, or by a NaN, nought or less. -/
theorem bucket_no (w : World) (u g : Nat) (hu : u < 18446744073709551616) (h : isTime u = false ∨ 9218868437227405312 < mg g ∨ (F64.order g 0 == some .lt || F64.order g 0 == some .eq) = true) :
    Calls Try.prog 15 #[.float .f64 u, .float .f64 g] w fun e w' => e = .returned (.float .f64 9221120237041090561) ∧ w' = w := by
  have k1 := fun w => may_any w u hu
  have k2 := fun w => isnan_any w g
  have k3 := nan_any
  generalize hk : (F64.order g 0 == some .lt || F64.order g 0 == some .eq) = z at h
  generalize isTime u = t at k1 h
  generalize hn : decide (9218868437227405312 < g % 9223372036854775808) = n at k2
  clear hu
  cases t
  · clear h hn hk
    go_enter Try.func15, Try.ntmps15
    go_wp2_with fail
    refine (k1 _).mono ?_
    rintro e w1 ⟨rfl, rfl⟩
    go_wp2_with fail
    refine (k3 _).mono ?_
    rintro e w1 ⟨rfl, rfl⟩
    go_wp2_with fail
    go_ret
    exact ⟨rfl, rfl⟩
  · cases n
    · have hz : z = true := by
        rcases h with h | h | h
        · simp at h
        · simp at hn; unfold mg at h; omega
        · exact h
      subst hz
      clear h hn
      go_enter Try.func15, Try.ntmps15
      go_wp2_with fail
      refine (k1 _).mono ?_
      rintro e w1 ⟨rfl, rfl⟩
      go_wp2_with fail
      refine (k2 _).mono ?_
      rintro e w1 ⟨rfl, rfl⟩
      go_wp2_with fail
      refine (k3 _).mono ?_
      rintro e w1 ⟨rfl, rfl⟩
      go_wp2_with fail
      go_ret
      exact ⟨rfl, rfl⟩
    · clear h hn hk
      go_enter Try.func15, Try.ntmps15
      go_wp2_with fail
      refine (k1 _).mono ?_
      rintro e w1 ⟨rfl, rfl⟩
      go_wp2_with fail
      refine (k2 _).mono ?_
      rintro e w1 ⟨rfl, rfl⟩
      go_wp2_with fail
      refine (k3 _).mono ?_
      rintro e w1 ⟨rfl, rfl⟩
      go_wp2_with fail
      go_ret
      exact ⟨rfl, rfl⟩
end Go.Proofs.Ytjkkojeamkpodaa
