/- Proved: the law 'AgeSums' (one step behind another is as both at once, where numbers are small; how old a time is grows with now) answers true, whatever comes in. No condition. -/
import Derived.Test.YtjkkojeamkpodaaAwake
import Derived.Test.YtjkkojeamkpodaaSmall
import Derived.ShutString
namespace Go.Proofs.Ytjkkojeamkpodaa
open Go.ChangeShapes Go.WideShapes Go.ChangeAt Go.RowKit Fl
set_option linter.unusedVariables false
/-- The walk, every number a letter. -/
theorem ageSums_walk (a b c FA FB FC T X Y XY U V : Nat)
    (c1 : floatOfInt .f64 (a : Int) = FA) (c2 : floatOfInt .f64 (b : Int) = FB) (c3 : floatOfInt .f64 (c : Int) = FC)
    (d1 : ∀ w, (binOp .quo 23 (.float .f64 FA) (.float .f64 4616189618054758400)).run Try.prog w = .ok (.float .f64 T) w)
    (d2 : ∀ w, (binOp .quo 23 (.float .f64 FB) (.float .f64 4616189618054758400)).run Try.prog w = .ok (.float .f64 X) w)
    (d3 : ∀ w, (binOp .quo 23 (.float .f64 FC) (.float .f64 4616189618054758400)).run Try.prog w = .ok (.float .f64 Y) w)
    (p1 : ∀ w, (binOp .add 23 (.float .f64 X) (.float .f64 Y)).run Try.prog w = .ok (.float .f64 XY) w)
    (k1 : ∀ w, Calls Try.prog 11 #[.float .f64 T, .float .f64 X] w fun e w' => e = .returned (.tuple #[.float .f64 U, .int .i64 0]) ∧ w' = w)
    (k2 : ∀ w, Calls Try.prog 11 #[.float .f64 U, .float .f64 Y] w fun e w' => e = .returned (.tuple #[.float .f64 V, .int .i64 0]) ∧ w' = w)
    (k3 : ∀ w, Calls Try.prog 11 #[.float .f64 T, .float .f64 XY] w fun e w' => e = .returned (.tuple #[.float .f64 V, .int .i64 0]) ∧ w' = w)
    (k4 : ∀ w, Calls Try.prog 13 #[.float .f64 V, .float .f64 T] w fun e w' => e = .returned (.float .f64 XY) ∧ w' = w)
    (k5 : ∀ w, Calls Try.prog 13 #[.float .f64 U, .float .f64 T] w fun e w' => e = .returned (.float .f64 X) ∧ w' = w)
    (k6 : ∀ w, Calls Try.prog 13 #[.float .f64 T, .float .f64 V] w fun e w' => e = .returned (.float .f64 0) ∧ w' = w)
    (o1 : (F64.order V V == some .eq) = true) (o2 : (F64.order XY XY == some .eq) = true)
    (o3 : (F64.order X XY == some .lt || F64.order X XY == some .eq) = true) (o4 : (F64.order 0 0 == some .eq) = true) (w : World) :
    Calls Try.prog 5 #[.int .u16 (a : Int), .int .u16 (b : Int), .int .u16 (c : Int)] w fun e w' => e = .returned (.bool true) ∧ w' = w := by
  go_enter Try.func5, Try.ntmps5
  go_wp2_with fail
  refine (awake_any _).mono ?_
  rintro e w1 ⟨rfl, rfl⟩
  go_wp2_with fail
  refine (k1 _).mono ?_
  rintro e w1 ⟨rfl, rfl⟩
  go_wp2_with fail
  refine (k2 _).mono ?_
  rintro e w1 ⟨rfl, rfl⟩
  go_wp2_with fail
  refine (k3 _).mono ?_
  rintro e w1 ⟨rfl, rfl⟩
  go_wp2_with fail
  refine (k4 _).mono ?_
  rintro e w1 ⟨rfl, rfl⟩
  go_wp2_with fail
  refine (k5 _).mono ?_
  rintro e w1 ⟨rfl, rfl⟩
  go_wp2_with fail
  refine (k4 _).mono ?_
  rintro e w1 ⟨rfl, rfl⟩
  go_wp2_with fail
  refine (k6 _).mono ?_
  rintro e w1 ⟨rfl, rfl⟩
  go_wp2_with fail
  go_ret
  exact ⟨rfl, rfl⟩
namespace Fl
theorem fl_64 {m k L : Nat} (hL : L = 2044) (h : m < 2 ^ 53) (hk : k ≤ L) : fl m k < 18446744073709551616 := by
  have := fl_lt hL h hk
  rw [INF_eq] at this; omega
theorem fl_after {m n k L : Nat} (hL : L = 2044) (h : m + n < 2 ^ 53) (hk : k ≤ L) : afterF (fl m k) (fl n k) = (fl (m + n) k, 0) := by
  obtain ⟨a1, a2, _⟩ := fl_nn (m := m) hL (by omega) hk
  obtain ⟨b1, b2, _⟩ := fl_nn (m := n) hL (by omega) hk
  have hlt := fl_lt (m := m + n) hL h hk
  unfold afterF
  rw [a1, b1, a2, b2, fl_val k (by omega), fl_val k (by omega), ← Nat.add_mul]
  change (if (true && true && decide (fl (m + n) k < 9218868437227405312)) = true then (fl (m + n) k, (0 : Int)) else (0, 1)) = _
  rw [decide_eq_true (by rw [← INF_eq]; exact hlt)]
  rfl
theorem fl_of {m n k L : Nat} (hL : L = 2044) (h : m < 2 ^ 53) (hn : n ≤ m) (hk : k ≤ L) : ofF (fl m k) (fl n k) = fl (m - n) k := by
  obtain ⟨a1, a2, _⟩ := fl_nn (m := m) hL (by omega) hk
  obtain ⟨b1, b2, _⟩ := fl_nn (m := n) hL (by omega) hk
  unfold ofF
  rw [a1, b1, a2, b2, fl_val k (by omega), fl_val k (by omega), ← Nat.sub_mul, decide_eq_true (Nat.mul_le_mul_right _ hn)]
  rfl
theorem fl_of_not {m n k L : Nat} (hL : L = 2044) (h : n < 2 ^ 53) (hn : m ≤ n) (hk : k ≤ L) : ofF (fl m k) (fl n k) = 0 := by
  rcases Nat.lt_or_eq_of_le hn with h1 | rfl
  · obtain ⟨a1, a2, _⟩ := fl_nn (m := m) hL (by omega) hk
    obtain ⟨b1, b2, _⟩ := fl_nn (m := n) hL (by omega) hk
    unfold ofF
    rw [a1, b1, a2, b2, fl_val k (by omega), fl_val k (by omega), decide_eq_false (Nat.not_le.2 (Nat.mul_lt_mul_of_pos_right h1 (Nat.two_pow_pos k)))]
    rfl
  · rw [fl_of hL h (Nat.le_refl _) hk, Nat.sub_self, fl_zero]
end Fl
theorem ageSums_nat (a b c : Nat) (ha : a < 65536) (hb : b < 65536) (hc : c < 65536) (w : World) :
    Calls Try.prog 5 #[.int .u16 (a : Int), .int .u16 (b : Int), .int .u16 (c : Int)] w fun e w' => e = .returned (.bool true) ∧ w' = w := by
  obtain ⟨K, hK⟩ : ∃ K, K = 1074 := ⟨_, rfl⟩
  obtain ⟨L, hL⟩ : ∃ L, L = 2044 := ⟨_, rfl⟩
  have d1 := arith (op := .quo) (div_pow2 (a := a) (j := 2) hK (by omega) (by omega) (v4 hK).2 (v4 hK).1)
  have d2 := arith (op := .quo) (div_pow2 (a := b) (j := 2) hK (by omega) (by omega) (v4 hK).2 (v4 hK).1)
  have d3 := arith (op := .quo) (div_pow2 (a := c) (j := 2) hK (by omega) (by omega) (v4 hK).2 (v4 hK).1)
  obtain ⟨k, hk⟩ : ∃ k, k = K - 2 := ⟨_, rfl⟩
  have hkL : k ≤ L := by omega
  rw [← hk] at d1 d2 d3
  have p1 := arith (op := .add) (fl_add (m := b) (n := c) (k := k) hL (by omega) hkL)
  have k1 := after_at _ _ _ _ (fl_64 hL (by omega) hkL) (fl_64 hL (by omega) hkL) (fl_after (m := a) (n := b) hL (by omega) hkL)
  have k2 := after_at _ _ _ _ (fl_64 hL (by omega) hkL) (fl_64 hL (by omega) hkL) (fl_after (m := a + b) (n := c) hL (by omega) hkL)
  have k3 := after_at _ _ _ _ (fl_64 hL (by omega) hkL) (fl_64 hL (by omega) hkL) (fl_after (m := a) (n := b + c) hL (by omega) hkL)
  have k4 := of_at _ _ _ (fl_64 hL (by omega) hkL) (fl_64 hL (by omega) hkL) (fl_of (m := a + b + c) (n := a) hL (by omega) (by omega) hkL)
  have k5 := of_at _ _ _ (fl_64 hL (by omega) hkL) (fl_64 hL (by omega) hkL) (fl_of (m := a + b) (n := a) hL (by omega) (by omega) hkL)
  have k6 := of_at _ _ _ (fl_64 hL (by omega) hkL) (fl_64 hL (by omega) hkL) (fl_of_not (m := a) (n := a + b + c) hL (by omega) (by omega) hkL)
  rw [show a + (b + c) = a + b + c by omega] at k3
  rw [show a + b + c - a = b + c by omega] at k4
  rw [show a + b - a = b by omega] at k5
  have o1 := cmp_eq (m := a + b + c) (n := a + b + c) (k := k) hL (by omega) (by omega) hkL
  have o2 := cmp_eq (m := b + c) (n := b + c) (k := k) hL (by omega) (by omega) hkL
  have o3 := cmp_le (m := b) (n := b + c) (k := k) hL (by omega) (by omega) hkL
  rw [decide_eq_true (by omega)] at o1 o2 o3
  exact ageSums_walk a b c _ _ _ _ _ _ _ _ _ (of_nat hK (by omega)) (of_nat hK (by omega)) (of_nat hK (by omega)) d1 d2 d3 p1 k1 k2 k3 k4 k5 k6 o1 o2 o3 (by decide +kernel) w
set_option linter.unusedVariables false
theorem ageSums_all (a0 : Int) (a1 : Int) (a2 : Int) (w0 : (Lit.int .u16 a0).wf = true) (w1 : (Lit.int .u16 a1).wf = true) (w2 : (Lit.int .u16 a2).wf = true) (w : World) :
    Calls Try.prog 5 #[.int .u16 a0, .int .u16 a1, .int .u16 a2] w fun e w' => e = .returned (.bool true) ∧ Grown w w' := by
  have h0 := bounds_u16 w0
  have h1 := bounds_u16 w1
  have h2 := bounds_u16 w2
  obtain ⟨a, rfl⟩ := Int.eq_ofNat_of_zero_le (a := a0) (by omega)
  obtain ⟨b, rfl⟩ := Int.eq_ofNat_of_zero_le (a := a1) (by omega)
  obtain ⟨c, rfl⟩ := Int.eq_ofNat_of_zero_le (a := a2) (by omega)
  refine (ageSums_nat a b c (by omega) (by omega) (by omega) w).mono ?_
  rintro e w' ⟨rfl, rfl⟩
  exact ⟨rfl, Grown.refl _⟩

set_option maxRecDepth 100000 in
theorem ageSums_lifted (os : Os) (started : os.Started) (H : Type) (enc : TypeId × Value → H) :
    ReturnsInHanded {} Try.checked os 5 .any (Rows.ageSumsSpec.pre6 enc Try.prog Try.f5 Rows.ageSumsRow.domain false) (Rows.ageSumsSpec.post enc Try.prog Try.f5 false true false false) := by
  refine returnsInHanded_of_change (C := Try.checked) own started (by kernel_rfl) Try.func5
    (ChangeSpec.witness6 (enc := enc) (C := Try.checked) false ⟨#[], #[.int .u16 0, .int .u16 0, .int .u16 0], []⟩ 8 (by kernel_rfl) (by kernel_rfl) (by kernel_rfl) (by kernel_rfl)) ?_
  intro W base args ds gs before hval0 hW hcnd _
  have hval : ∀ (j : Nat) t v, Try.f5.params[j]? = some t → args[j]? = some v → Value.okWide Try.prog W .any base t v := hval0
  have hW' := hW
  obtain ⟨p, q, hA0, hV, rfl, hfz, hnd⟩ := hW
  have hA : DataW.TrodAll enc Try.prog W 0 (fun _ => true) true Try.f5.params.toList args.toList ds p := hA0
  rw [Try.params5] at hA hval
  obtain ⟨v0, vs0, d0, ds0, p0, q0, hargs, rfl, rfl, h0, r0⟩ := trodAll_cons hA
  obtain ⟨v1, vs1, d1, ds1, p1, q1, rfl, rfl, rfl, h1, r1⟩ := trodAll_cons r0
  obtain ⟨v2, vs2, d2, ds2, p2, q2, rfl, rfl, rfl, h2, r2⟩ := trodAll_cons r1
  obtain ⟨rfl, rfl, rfl⟩ := trodAll_nil r2
  obtain rfl : args = #[v0, v1, v2] := by cases args; simp_all
  obtain ⟨rfl, rfl⟩ := trodVars_none hV
  obtain ⟨a0, rfl, rfl, rfl, w0⟩ := open_int Try.underlying34 (hval 0 34 v0 rfl rfl) h0
  obtain ⟨a1, rfl, rfl, rfl, w1⟩ := open_int Try.underlying34 (hval 1 34 v1 rfl rfl) h1
  obtain ⟨a2, rfl, rfl, rfl, w2⟩ := open_int Try.underlying34 (hval 2 34 v2 rfl rfl) h2
  clear hA0 hval0
  simp only [List.append_nil] at hW'
  refine (ageSums_all a0 a1 a2 w0 w1 w2 W).mono fun e W' ⟨he, hg⟩ => ?_
  subst he
  exact ⟨_, rfl, post_of_same (pa := []) (pv := []) hW' (fun _ _ _ => (trodAll_cons_mk (shut_bool Try.underlying4 _) trodAll_mk0)) (fun sp _ => (trodAll_cons_mk (shut_int Try.underlying34 w0) (trodAll_cons_mk (shut_int Try.underlying34 w1) (trodAll_cons_mk (shut_int Try.underlying34 w2) trodAll_mk0)))) (fun _ _ => rfl) rfl
    (hg.frame _) hg.2.1 (ok_one (by kernel_rfl) rfl (okWide_bool_mk Try.underlying4 _))⟩

theorem ageSums_over : Rows.ageSumsRow.holds Try.pinned (OpenSpec.ofChange Rows.ageSumsSpec) :=
  OpenClaim.holds_of_wide 5 Try.f5 rfl rfl rfl rfl rfl rfl rfl ⟨rfl, rfl, rfl, rfl, rfl⟩ rfl rfl rfl rfl rfl (by kernel_rfl) Try.func5 (by kernel_rfl)
    (of_decide_eq_true (by kernel_rfl)) (by unfold Func.isWrapper; first | (rw [if_pos (by decide +kernel)]; kernel_rfl) | (rw [if_neg (by decide +kernel)]; exact ⟨rfl, rfl⟩))
    (fun os started H enc _ => ageSums_lifted os started H enc)

theorem ageSums_holds : Rows.AgeSumsSaid := ageSums_over
#print axioms ageSums_holds
end Go.Proofs.Ytjkkojeamkpodaa
