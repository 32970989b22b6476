/- Proved: the law 'AgeOrder' (of two times that are alike neither is elder; what is older by one now is by every later one) answers true, whatever comes in. No condition. -/
import Derived.Test.YtjkkojeamkpodaaAwake
import Derived.Test.YtjkkojeamkpodaaSmall
import Derived.ShutString
import Derived.Laws.Cover2
namespace Go.Proofs.Ytjkkojeamkpodaa
open Go.ChangeShapes Go.WideShapes Go.ChangeAt Go.RowKit Fl
set_option linter.unusedVariables false
theorem ageOrder_no1 (a b n : Nat) (k1 : ∀ w, Calls Try.prog 12 #[.float .f64 a] w fun e w' => e = .returned (.bool false) ∧ w' = w) (w : World) :
    Calls Try.prog 6 #[.float .f64 a, .float .f64 b, .int .u16 (n : Int)] w fun e w' => e = .returned (.bool true) ∧ w' = w := by
  go_enter Try.func6, Try.ntmps6
  go_wp2_with fail
  refine (awake_any _).mono ?_
  rintro e w1 ⟨rfl, rfl⟩
  go_wp2_with fail
  refine (k1 _).mono ?_
  rintro e w1 ⟨rfl, rfl⟩
  go_wp2_with fail
  go_ret
  exact ⟨rfl, rfl⟩
theorem ageOrder_no2 (a b n : Nat) (k1 : ∀ w, Calls Try.prog 12 #[.float .f64 a] w fun e w' => e = .returned (.bool true) ∧ w' = w)
    (k2 : ∀ w, Calls Try.prog 12 #[.float .f64 b] w fun e w' => e = .returned (.bool false) ∧ w' = w) (w : World) :
    Calls Try.prog 6 #[.float .f64 a, .float .f64 b, .int .u16 (n : Int)] w fun e w' => e = .returned (.bool true) ∧ w' = w := by
  go_enter Try.func6, Try.ntmps6
  go_wp2_with fail
  refine (awake_any _).mono ?_
  rintro e w1 ⟨rfl, rfl⟩
  go_wp2_with fail
  refine (k1 _).mono ?_
  rintro e w1 ⟨rfl, rfl⟩
  go_wp2_with fail
  refine (k2 _).mono ?_
  rintro e w1 ⟨rfl, rfl⟩
  go_wp2_with fail
  go_ret
  exact ⟨rfl, rfl⟩
theorem ageOrder_no3 (a b n : Nat) (t : Bool) (k1 : ∀ w, Calls Try.prog 12 #[.float .f64 a] w fun e w' => e = .returned (.bool true) ∧ w' = w)
    (k2 : ∀ w, Calls Try.prog 12 #[.float .f64 b] w fun e w' => e = .returned (.bool true) ∧ w' = w)
    (g1 : (F64.order a 4786511204640096256 == some .gt) = t) (g2 : t = false → (F64.order b 4786511204640096256 == some .gt) = true) (w : World) :
    Calls Try.prog 6 #[.float .f64 a, .float .f64 b, .int .u16 (n : Int)] w fun e w' => e = .returned (.bool true) ∧ w' = w := by
  cases t
  · have g3 := g2 rfl
    clear g2
    go_enter Try.func6, Try.ntmps6
    go_wp2_with fail
    refine (awake_any _).mono ?_
    rintro e w1 ⟨rfl, rfl⟩
    go_wp2_with fail
    refine (k1 _).mono ?_
    rintro e w1 ⟨rfl, rfl⟩
    go_wp2_with fail
    refine (k2 _).mono ?_
    rintro e w1 ⟨rfl, rfl⟩
    go_wp2_with fail
    go_ret
    exact ⟨rfl, rfl⟩
  · clear g2
    go_enter Try.func6, Try.ntmps6
    go_wp2_with fail
    refine (awake_any _).mono ?_
    rintro e w1 ⟨rfl, rfl⟩
    go_wp2_with fail
    refine (k1 _).mono ?_
    rintro e w1 ⟨rfl, rfl⟩
    go_wp2_with fail
    refine (k2 _).mono ?_
    rintro e w1 ⟨rfl, rfl⟩
    go_wp2_with fail
    go_ret
    exact ⟨rfl, rfl⟩
set_option maxHeartbeats 1000000 in
theorem ageOrder_yes (a b n NF N1 X Y Z : Nat) (t1 t2 t3 t4 : Bool)
    (k1 : ∀ w, Calls Try.prog 12 #[.float .f64 a] w fun e w' => e = .returned (.bool true) ∧ w' = w)
    (k2 : ∀ w, Calls Try.prog 12 #[.float .f64 b] w fun e w' => e = .returned (.bool true) ∧ w' = w)
    (g1 : (F64.order a 4786511204640096256 == some .gt) = false) (g2 : (F64.order b 4786511204640096256 == some .gt) = false)
    (c1 : floatOfInt .f64 (n : Int) = NF)
    (k3 : ∀ w, Calls Try.prog 13 #[.float .f64 NF, .float .f64 a] w fun e w' => e = .returned (.float .f64 X) ∧ w' = w)
    (k4 : ∀ w, Calls Try.prog 13 #[.float .f64 NF, .float .f64 b] w fun e w' => e = .returned (.float .f64 Y) ∧ w' = w)
    (o1 : (F64.order a b == some .lt || F64.order a b == some .eq) = t1) (o2 : (F64.order X Y == some .lt) = t2)
    (k5 : ∀ w, Calls Try.prog 18 #[.float .f64 a, .float .f64 b] w fun e w' => e = .returned (.bool t3) ∧ w' = w)
    (o4 : (F64.order X Y != some .eq) = t4) (o5 : (F64.order X 0 == some .lt) = false)
    (p1 : ∀ w, (binOp .add 23 (.float .f64 NF) (.float .f64 4607182418800017408)).run Try.prog w = .ok (.float .f64 N1) w)
    (k6 : ∀ w, Calls Try.prog 13 #[.float .f64 N1, .float .f64 a] w fun e w' => e = .returned (.float .f64 Z) ∧ w' = w)
    (o6 : (F64.order Z X == some .gt || F64.order Z X == some .eq) = true)
    (k7 : ∀ w, Calls Try.prog 13 #[.float .f64 a, .float .f64 a] w fun e w' => e = .returned (.float .f64 0) ∧ w' = w)
    (o7 : (F64.order 0 0 == some .eq) = true)
    (h1 : (t1 && t2) = false) (h2 : (t3 && t4) = false) (w : World) :
    Calls Try.prog 6 #[.float .f64 a, .float .f64 b, .int .u16 (n : Int)] w fun e w' => e = .returned (.bool true) ∧ w' = w := by
  cases t1 <;> cases t2 <;> first | (simp at h1; done) | skip
  all_goals cases t3 <;> cases t4 <;> first | (simp at h2; done) | skip
  all_goals clear h1 h2
  all_goals go_enter Try.func6, Try.ntmps6
  all_goals go_wp2_with fail
  all_goals refine (awake_any _).mono ?_
  all_goals rintro e w1 ⟨rfl, rfl⟩
  all_goals go_wp2_with fail
  all_goals refine (k1 _).mono ?_
  all_goals rintro e w1 ⟨rfl, rfl⟩
  all_goals go_wp2_with fail
  all_goals refine (k2 _).mono ?_
  all_goals rintro e w1 ⟨rfl, rfl⟩
  all_goals go_wp2_with fail
  all_goals refine (k3 _).mono ?_
  all_goals rintro e w1 ⟨rfl, rfl⟩
  all_goals go_wp2_with fail
  all_goals refine (k4 _).mono ?_
  all_goals rintro e w1 ⟨rfl, rfl⟩
  all_goals go_wp2_with fail
  all_goals refine (k5 _).mono ?_
  all_goals rintro e w1 ⟨rfl, rfl⟩
  all_goals go_wp2_with fail
  all_goals refine (k6 _).mono ?_
  all_goals rintro e w1 ⟨rfl, rfl⟩
  all_goals go_wp2_with fail
  all_goals refine (k7 _).mono ?_
  all_goals rintro e w1 ⟨rfl, rfl⟩
  all_goals go_wp2_with fail
  all_goals go_ret
  all_goals exact ⟨rfl, rfl⟩
namespace Fl
theorem of_eq {n a : Nat} (hn : isTime n = true) (ha : isTime a = true) : ofF n a = rnd (val (mg n) - val (mg a)) ∧ rnd (val (mg n) - val (mg a)) < INF := by
  have h5 := (time_fin hn).2.2.1
  have hr : rnd (val (mg n) - val (mg a)) ≤ mg n := rnd_le_iff (by omega)
  refine ⟨?_, by omega⟩
  unfold ofF
  rw [hn, ha]
  by_cases h : val (mg a) ≤ val (mg n)
  · rw [decide_eq_true h]; rfl
  · rw [decide_eq_false h, show val (mg n) - val (mg a) = 0 by omega, rnd_zero]; rfl
theorem nn_time {r : Nat} (h : r < INF) : isTime r = true ∧ mg r = r ∧ r < 18446744073709551616 := by
  have h1 : r < 9218868437227405312 := by rw [← INF_eq]; exact h
  exact ⟨decide_eq_true (.inl h1), Nat.mod_eq_of_lt (by omega), by omega⟩
theorem nn_lt {r s : Nat} (hr : r < INF) (hs : s < INF) : (F64.order r s == some .lt) = decide (r < s) := by
  obtain ⟨a1, a2, _⟩ := nn_time hr
  obtain ⟨b1, b2, _⟩ := nn_time hs
  rw [ord_time a1 b1, a2, b2]
  rcases Nat.lt_trichotomy r s with h | h | h
  · rw [Nat.compare_eq_lt.2 (val_lt h), decide_eq_true h]; rfl
  · rw [Nat.compare_eq_eq.2 (by rw [h]), decide_eq_false (by omega)]; rfl
  · rw [Nat.compare_eq_gt.2 (val_lt h), decide_eq_false (by omega)]; rfl
theorem nn_ge {r s : Nat} (hr : r < INF) (hs : s < INF) : (F64.order r s == some .gt || F64.order r s == some .eq) = decide (s ≤ r) := by
  obtain ⟨a1, a2, _⟩ := nn_time hr
  obtain ⟨b1, b2, _⟩ := nn_time hs
  rw [ord_time a1 b1, a2, b2]
  rcases Nat.lt_trichotomy r s with h | h | h
  · rw [Nat.compare_eq_lt.2 (val_lt h), decide_eq_false (by omega)]; rfl
  · rw [Nat.compare_eq_eq.2 (by rw [h]), decide_eq_true (by omega)]; rfl
  · rw [Nat.compare_eq_gt.2 (val_lt h), decide_eq_true (by omega)]; rfl
theorem nn_ne {r s : Nat} (hr : r < INF) (hs : s < INF) : (F64.order r s != some .eq) = decide (r ≠ s) := by
  obtain ⟨a1, a2, _⟩ := nn_time hr
  obtain ⟨b1, b2, _⟩ := nn_time hs
  rw [ord_time a1 b1, a2, b2]
  rcases Nat.lt_trichotomy r s with h | h | h
  · rw [Nat.compare_eq_lt.2 (val_lt h), decide_eq_true (by omega)]; rfl
  · rw [Nat.compare_eq_eq.2 (by rw [h]), decide_eq_false (by omega)]; rfl
  · rw [Nat.compare_eq_gt.2 (val_lt h), decide_eq_true (by omega)]; rfl
theorem ord_leq {u v : Nat} (hu : isTime u = true) (hv : isTime v = true) : (F64.order u v == some .lt || F64.order u v == some .eq) = decide (val (mg u) ≤ val (mg v)) := by
  rw [ord_time hu hv]
  rcases Nat.lt_trichotomy (val (mg u)) (val (mg v)) with h | h | h
  · rw [Nat.compare_eq_lt.2 h, decide_eq_true (by omega)]; rfl
  · rw [Nat.compare_eq_eq.2 h, decide_eq_true (by omega)]; rfl
  · rw [Nat.compare_eq_gt.2 h, decide_eq_false (by omega)]; rfl
end Fl
theorem same_time {u v : Nat} (hu : isTime u = true) (hv : isTime v = true) : sameF u v = decide (val (mg u) = val (mg v)) := by
  have h5 := (time_fin hu).2.2.1
  rw [INF_eq] at h5
  unfold sameF
  rw [decide_eq_false (by omega), Bool.false_and, Bool.or_false, ord_time hu hv]
  rcases Nat.lt_trichotomy (val (mg u)) (val (mg v)) with h | h | h
  · rw [Nat.compare_eq_lt.2 h, decide_eq_false (by omega)]; rfl
  · rw [Nat.compare_eq_eq.2 h, decide_eq_true (by omega)]; rfl
  · rw [Nat.compare_eq_gt.2 h, decide_eq_false (by omega)]; rfl
theorem ageOrder_nat (a b n : Nat) (ha : a < 18446744073709551616) (hb : b < 18446744073709551616) (hn : n < 65536) (w : World) :
    Calls Try.prog 6 #[.float .f64 a, .float .f64 b, .int .u16 (n : Int)] w fun e w' => e = .returned (.bool true) ∧ w' = w := by
  by_cases ta : isTime a = true
  case neg => exact ageOrder_no1 a b n (may_at a false ha (by simpa using ta)) w
  by_cases tb : isTime b = true
  case neg => exact ageOrder_no2 a b n (may_at a true ha ta) (may_at b false hb (by simpa using tb)) w
  by_cases g1 : (F64.order a 4786511204640096256 == some .gt) = true
  case pos => exact ageOrder_no3 a b n true (may_at a true ha ta) (may_at b true hb tb) g1 (by simp) w
  by_cases g2 : (F64.order b 4786511204640096256 == some .gt) = true
  case pos => exact ageOrder_no3 a b n _ (may_at a true ha ta) (may_at b true hb tb) rfl (fun _ => g2) w
  obtain ⟨K, hK⟩ : ∃ K, K = 1074 := ⟨_, rfl⟩
  obtain ⟨L, hL⟩ : ∃ L, L = 2044 := ⟨_, rfl⟩
  have c1 : floatOfInt .f64 (n : Int) = fl n K := of_nat hK (by omega)
  have p1 := arith (op := .add) (fl_add (m := n) (n := 1) (k := K) hL (by omega) (by omega))
  rw [← v1 hK] at p1
  have l0 := fl_lt (m := n) (k := K) hL (by omega) (by omega)
  have l1 := fl_lt (m := n + 1) (k := K) hL (by omega) (by omega)
  have hv : val (fl n K) ≤ val (fl (n + 1) K) := by
    rw [fl_val K (by omega), fl_val K (by omega)]
    exact Nat.mul_le_mul_right _ (by omega)
  generalize fl n K = NF at c1 p1 l0 hv
  generalize fl (n + 1) K = N1 at p1 l1 hv
  obtain ⟨tn, mn, n64⟩ := nn_time l0
  obtain ⟨tm, mm, m64⟩ := nn_time l1
  obtain ⟨x1, x2⟩ := of_eq tn ta
  obtain ⟨y1, y2⟩ := of_eq tn tb
  obtain ⟨z1, z2⟩ := of_eq tm ta
  obtain ⟨s1, _⟩ := of_eq ta ta
  rw [Nat.sub_self, rnd_zero] at s1
  rw [mn] at x1 x2 y1 y2
  rw [mm] at z1 z2
  have k3 := of_at NF a _ n64 ha x1
  have k4 := of_at NF b _ n64 hb y1
  have k6 := of_at N1 a _ m64 ha z1
  have k7 := of_at a a _ ha ha s1
  have k5 := same_at a b _ (same_time ta tb)
  have o1 := ord_leq ta tb
  have o2 := nn_lt x2 y2
  have o4 := nn_ne x2 y2
  have o5 := nn_lt x2 (show 0 < INF by decide +kernel)
  rw [decide_eq_false (by omega)] at o5
  have o6 := nn_ge z2 x2
  rw [decide_eq_true (rnd_mono (by omega))] at o6
  refine ageOrder_yes a b n NF N1 _ _ _ _ _ _ _ (may_at a true ha ta) (may_at b true hb tb) (by simpa using g1) (by simpa using g2) c1 k3 k4 o1 o2 k5 o4 o5 p1 k6 o6 k7 (by decide +kernel) ?_ ?_ w
  · by_cases h : val (mg a) ≤ val (mg b)
    · have : rnd (val NF - val (mg b)) ≤ rnd (val NF - val (mg a)) := rnd_mono (by omega)
      rw [decide_eq_false (show ¬ rnd (val NF - val (mg a)) < rnd (val NF - val (mg b)) by omega), Bool.and_false]
    · rw [decide_eq_false h, Bool.false_and]
  · by_cases h : val (mg a) = val (mg b)
    · rw [decide_eq_false (show ¬ rnd (val NF - val (mg a)) ≠ rnd (val NF - val (mg b)) by rw [h]; simp), Bool.and_false]
    · rw [decide_eq_false h, Bool.false_and]
set_option linter.unusedVariables false
theorem ageOrder_all (a0 : Nat) (a1 : Nat) (a2 : Int) (w0 : (Lit.float .f64 a0).wf = true) (w1 : (Lit.float .f64 a1).wf = true) (w2 : (Lit.int .u16 a2).wf = true) (w : World) :
    Calls Try.prog 6 #[.float .f64 a0, .float .f64 a1, .int .u16 a2] w fun e w' => e = .returned (.bool true) ∧ Grown w w' := by
  have h0 : a0 < 2 ^ 64 := by simpa [Lit.wf] using w0
  have h1 : a1 < 2 ^ 64 := by simpa [Lit.wf] using w1
  have h2 := bounds_u16 w2
  obtain ⟨n, rfl⟩ := Int.eq_ofNat_of_zero_le (a := a2) (by omega)
  refine (ageOrder_nat a0 a1 n (by omega) (by omega) (by omega) w).mono ?_
  rintro e w' ⟨rfl, rfl⟩
  exact ⟨rfl, Grown.refl _⟩

set_option maxRecDepth 100000 in
theorem ageOrder_lifted (os : Os) (started : os.Started) (H : Type) (enc : TypeId × Value → H) :
    ReturnsInHanded {} Try.checked os 6 .any (Rows.ageOrderSpec.pre6 enc Try.prog Try.f6 Rows.ageOrderRow.domain false) (Rows.ageOrderSpec.post enc Try.prog Try.f6 false true false false) := by
  refine returnsInHanded_of_change (C := Try.checked) own started (by kernel_rfl) Try.func6
    (ChangeSpec.witness6 (enc := enc) (C := Try.checked) false ⟨#[], #[.float .f64 0, .float .f64 0, .int .u16 0], []⟩ 8 (by kernel_rfl) (by kernel_rfl) (by kernel_rfl) (by kernel_rfl)) ?_
  intro W base args ds gs before hval0 hW hcnd _
  have hval : ∀ (j : Nat) t v, Try.f6.params[j]? = some t → args[j]? = some v → Value.okWide Try.prog W .any base t v := hval0
  have hW' := hW
  obtain ⟨p, q, hA0, hV, rfl, hfz, hnd⟩ := hW
  have hA : DataW.TrodAll enc Try.prog W 0 (fun _ => true) true Try.f6.params.toList args.toList ds p := hA0
  rw [Try.params6] at hA hval
  obtain ⟨v0, vs0, d0, ds0, p0, q0, hargs, rfl, rfl, h0, r0⟩ := trodAll_cons hA
  obtain ⟨v1, vs1, d1, ds1, p1, q1, rfl, rfl, rfl, h1, r1⟩ := trodAll_cons r0
  obtain ⟨v2, vs2, d2, ds2, p2, q2, rfl, rfl, rfl, h2, r2⟩ := trodAll_cons r1
  obtain ⟨rfl, rfl, rfl⟩ := trodAll_nil r2
  obtain rfl : args = #[v0, v1, v2] := by cases args; simp_all
  obtain ⟨rfl, rfl⟩ := trodVars_none hV
  obtain ⟨a0, rfl, rfl, rfl, w0⟩ := open_float Try.underlying23 (hval 0 23 v0 rfl rfl) h0
  obtain ⟨a1, rfl, rfl, rfl, w1⟩ := open_float Try.underlying23 (hval 1 23 v1 rfl rfl) h1
  obtain ⟨a2, rfl, rfl, rfl, w2⟩ := open_int Try.underlying34 (hval 2 34 v2 rfl rfl) h2
  clear hA0 hval0
  simp only [List.append_nil] at hW'
  refine (ageOrder_all a0 a1 a2 w0 w1 w2 W).mono fun e W' ⟨he, hg⟩ => ?_
  subst he
  exact ⟨_, rfl, post_of_same (pa := []) (pv := []) hW' (fun _ _ _ => (trodAll_cons_mk (shut_bool Try.underlying4 _) trodAll_mk0)) (fun sp _ => (trodAll_cons_mk (shut_float Try.underlying23 w0) (trodAll_cons_mk (shut_float Try.underlying23 w1) (trodAll_cons_mk (shut_int Try.underlying34 w2) trodAll_mk0)))) (fun _ _ => rfl) rfl
    (hg.frame _) hg.2.1 (ok_one (by kernel_rfl) rfl (okWide_bool_mk Try.underlying4 _))⟩

theorem ageOrder_over : Rows.ageOrderRow.holds Try.pinned (OpenSpec.ofChange Rows.ageOrderSpec) :=
  OpenClaim.holds_of_wide 6 Try.f6 rfl rfl rfl rfl rfl rfl rfl ⟨rfl, rfl, rfl, rfl, rfl⟩ rfl rfl rfl rfl rfl (by kernel_rfl) Try.func6 (by kernel_rfl)
    (of_decide_eq_true (by kernel_rfl)) (by unfold Func.isWrapper; first | (rw [if_pos (by decide +kernel)]; kernel_rfl) | (rw [if_neg (by decide +kernel)]; exact ⟨rfl, rfl⟩))
    (fun os started H enc _ => ageOrder_lifted os started H enc)

theorem ageOrder_holds : Rows.AgeOrderSaid := ageOrder_over
#print axioms ageOrder_holds
end Go.Proofs.Ytjkkojeamkpodaa
