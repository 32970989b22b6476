/- The document's example: 'awake' answers true in every world. No condition. -/
import Derived.Test.YtjkkojeamkpodaaAgeB
namespace Go.Proofs.Ytjkkojeamkpodaa
open Go.RowKit Fl
set_option linter.unusedVariables false
theorem own : ownKnob Try.prog.godebug = none := by kernel_rfl
def Hid (p : Prop) : Prop := p
theorem hid {p : Prop} (h : p) : Hid p := h
theorem Hid.out {p : Prop} (h : Hid p) : p := h
theorem after_at (u v x : Nat) (z : Int) (hu : u < 18446744073709551616) (hv : v < 18446744073709551616) (h : afterF u v = (x, z)) (w : World) :
    Calls Try.prog 11 #[.float .f64 u, .float .f64 v] w fun e w' => e = .returned (.tuple #[.float .f64 x, .int .i64 z]) ∧ w' = w := by
  have := after_any w u v hu hv
  rw [h] at this
  exact this
theorem of_at (u v x : Nat) (hu : u < 18446744073709551616) (hv : v < 18446744073709551616) (h : ofF u v = x) (w : World) :
    Calls Try.prog 13 #[.float .f64 u, .float .f64 v] w fun e w' => e = .returned (.float .f64 x) ∧ w' = w := by
  have := of_any w u v hu hv
  rw [h] at this
  exact this
theorem may_at (u : Nat) (t : Bool) (hu : u < 18446744073709551616) (h : isTime u = t) (w : World) :
    Calls Try.prog 12 #[.float .f64 u] w fun e w' => e = .returned (.bool t) ∧ w' = w := by
  have := may_any w u hu
  rw [h] at this
  exact this
theorem bucket_at (u g r x : Nat) (hu : isTime u = true) (hg0 : 0 < g) (hg : g < INF) (hd : D.div u g = some r) (hr : r ≤ INF) (hf : floorF r = x) (w : World) :
    Calls Try.prog 15 #[.float .f64 u, .float .f64 g] w fun e w' => e = .returned (.float .f64 x) ∧ w' = w := by
  have := bucket_yes w u g r hu hg0 hg hd hr
  rw [hf] at this
  exact this
theorem same_at (u v : Nat) (t : Bool) (h : sameF u v = t) (w : World) : Calls Try.prog 18 #[.float .f64 u, .float .f64 v] w fun e w' => e = .returned (.bool t) ∧ w' = w := by
  have := same_any w u v
  rw [h] at this
  exact this
theorem isnan_at (u : Nat) (t : Bool) (h : decide (9218868437227405312 < u % 9223372036854775808) = t) (w : World) : Calls Try.prog 14 #[.float .f64 u] w fun e w' => e = .returned (.bool t) ∧ w' = w := by
  have := isnan_any w u
  rw [h] at this
  exact this
set_option maxHeartbeats 1000000 in
theorem awake_any (w : World) : Calls Try.prog 7 #[] w fun e w' => e = .returned (.bool true) ∧ w' = w := by
  have a1 := after_at 4607182418800017408 4602678819172646912 4609434218613702656 0 (by decide) (by decide) (by decide +kernel)
  have a2 := bucket_at 4620130267728707584 4611686018427387904 4615626668101337088 4613937818241073152 (by decide +kernel) (by decide) (by decide +kernel) (by decide +kernel) (by decide +kernel) (by decide +kernel)
  have a3 := may_at 0 true (by decide) (by decide +kernel)
  have a4 := nan_any
  have a5 := may_at 9221120237041090561 false (by decide) (by decide +kernel)
  have a6 := of_at 4617315517961601024 4611686018427387904 4613937818241073152 (by decide) (by decide) (by decide +kernel)
  have o1 : (F64.order 4613937818241073152 4613937818241073152 == some .eq) = true := by decide +kernel
  have o2 : (F64.order 4609434218613702656 4609434218613702656 == some .eq) = true := by decide +kernel
  go_enter Try.func7, Try.ntmps7
  go_wp2_with fail
  refine (a1 _).mono ?_
  rintro e w1 ⟨rfl, rfl⟩
  go_wp2_with fail
  refine (a2 _).mono ?_
  rintro e w1 ⟨rfl, rfl⟩
  go_wp2_with fail
  refine (a3 _).mono ?_
  rintro e w1 ⟨rfl, rfl⟩
  go_wp2_with fail
  refine (a4 _).mono ?_
  rintro e w1 ⟨rfl, rfl⟩
  go_wp2_with fail
  refine (a5 _).mono ?_
  rintro e w1 ⟨rfl, rfl⟩
  go_wp2_with fail
  refine (a6 _).mono ?_
  rintro e w1 ⟨rfl, rfl⟩
  go_wp2_with fail
  go_ret
  exact ⟨rfl, rfl⟩
end Go.Proofs.Ytjkkojeamkpodaa
