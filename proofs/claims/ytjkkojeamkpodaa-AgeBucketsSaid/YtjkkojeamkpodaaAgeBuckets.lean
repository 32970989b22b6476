/- Proved: the law 'AgeBuckets' (later times are in no earlier bucket; two that are a grain apart or more are in unlike ones, where numbers are small) answers true, whatever comes in. No condition. -/
import Derived.Test.YtjkkojeamkpodaaAwake
import Derived.Test.YtjkkojeamkpodaaSmall
import Derived.ShutString
namespace Go.Proofs.Ytjkkojeamkpodaa
open Go.ChangeShapes Go.WideShapes Go.ChangeAt Go.RowKit Fl
set_option linter.unusedVariables false
/-- The walk, every number a letter. -/
theorem ageBuckets_walk (a b g FA FB FG GR X Y P Q Dd M1 P1 M2 : Nat) (t1 t2 t3 t4 : Bool) (hg : g < 256) (ha : a < 65536) (hb : b < 65536)
    (c1 : floatOfInt .f64 (a : Int) = FA) (c2 : floatOfInt .f64 (b : Int) = FB) (c3 : floatOfInt .f64 (1 + (g : Int)) = FG)
    (d1 : ∀ w, (binOp .quo 23 (.float .f64 FA) (.float .f64 4620693217682128896)).run Try.prog w = .ok (.float .f64 X) w)
    (d2 : ∀ w, (binOp .quo 23 (.float .f64 FB) (.float .f64 4620693217682128896)).run Try.prog w = .ok (.float .f64 Y) w)
    (d3 : ∀ w, (binOp .quo 23 (.float .f64 FG) (.float .f64 4616189618054758400)).run Try.prog w = .ok (.float .f64 GR) w)
    (b1 : ∀ w, Calls Try.prog 15 #[.float .f64 X, .float .f64 GR] w fun e w' => e = .returned (.float .f64 P) ∧ w' = w)
    (b2 : ∀ w, Calls Try.prog 15 #[.float .f64 Y, .float .f64 GR] w fun e w' => e = .returned (.float .f64 Q) ∧ w' = w)
    (o1 : (F64.order X Y == some .lt || F64.order X Y == some .eq) = t1) (o2 : (F64.order P Q == some .gt) = t2)
    (s1 : ∀ w, (binOp .sub 23 (.float .f64 Y) (.float .f64 X)).run Try.prog w = .ok (.float .f64 Dd) w)
    (o3 : (F64.order Dd GR == some .gt || F64.order Dd GR == some .eq) = t3) (o4 : (F64.order P Q == some .eq) = t4)
    (m1 : ∀ w, (binOp .mul 23 (.float .f64 P) (.float .f64 GR)).run Try.prog w = .ok (.float .f64 M1) w)
    (o5 : (F64.order M1 X == some .lt || F64.order M1 X == some .eq) = true)
    (p1 : ∀ w, (binOp .add 23 (.float .f64 P) (.float .f64 4607182418800017408)).run Try.prog w = .ok (.float .f64 P1) w)
    (m2 : ∀ w, (binOp .mul 23 (.float .f64 P1) (.float .f64 GR)).run Try.prog w = .ok (.float .f64 M2) w)
    (o6 : (F64.order X M2 == some .lt) = true)
    (h1 : (t1 && t2) = false) (h2 : (t3 && t4) = false) (w : World) :
    Calls Try.prog 4 #[.int .u16 (a : Int), .int .u16 (b : Int), .int .u8 (g : Int)] w fun e w' => e = .returned (.bool true) ∧ w' = w := by
  cases t1 <;> cases t2 <;> first | (simp at h1; done) | skip
  all_goals cases t3 <;> cases t4 <;> first | (simp at h2; done) | skip
  all_goals clear h1 h2
  all_goals go_enter Try.func4, Try.ntmps4
  all_goals go_wp2_with fail
  all_goals refine (awake_any _).mono ?_
  all_goals rintro e w1 ⟨rfl, rfl⟩
  all_goals go_wp2_with fail
  all_goals refine (b1 _).mono ?_
  all_goals rintro e w1 ⟨rfl, rfl⟩
  all_goals go_wp2_with fail
  all_goals refine (b2 _).mono ?_
  all_goals rintro e w1 ⟨rfl, rfl⟩
  all_goals go_wp2_with fail
  all_goals go_ret
  all_goals exact ⟨rfl, rfl⟩
theorem ageBuckets_nat (a b g : Nat) (ha : a < 65536) (hb : b < 65536) (hg : g < 256) (w : World) :
    Calls Try.prog 4 #[.int .u16 (a : Int), .int .u16 (b : Int), .int .u8 (g : Int)] w fun e w' => e = .returned (.bool true) ∧ w' = w := by
  obtain ⟨K, hK⟩ : ∃ K, K = 1074 := ⟨_, rfl⟩
  obtain ⟨L, hL⟩ : ∃ L, L = 2044 := ⟨_, rfl⟩
  obtain ⟨G, hG⟩ : ∃ G, G = g + 1 := ⟨_, rfl⟩
  have c3 : floatOfInt .f64 (1 + (g : Int)) = fl G K := by rw [show (1 + (g : Int)) = (G : Int) by omega]; exact of_nat hK (by omega)
  have d3 := arith (op := .quo) (div_pow2 (a := G) (j := 2) hK (by omega) (by omega) (v4 hK).2 (v4 hK).1)
  have d1 := arith (op := .quo) (div_pow2 (a := a) (j := 3) hK (by omega) (by omega) (v8 hK).2 (v8 hK).1)
  have d2 := arith (op := .quo) (div_pow2 (a := b) (j := 3) hK (by omega) (by omega) (v8 hK).2 (v8 hK).1)
  obtain ⟨r1, e1, l1, f1⟩ := div_floor (a := a) (G := G) hK (by omega) (by omega) (by omega)
  obtain ⟨r2, e2, l2, f2⟩ := div_floor (a := b) (G := G) hK (by omega) (by omega) (by omega)
  have hGlt := fl_lt (m := G) (k := K - 2) hL (by omega) (by omega)
  have hG0 : 0 < fl G (K - 2) := by
    refine Nat.pos_of_ne_zero fun h => ?_
    have hv := fl_val (m := G) (K - 2) (by omega)
    rw [h, val_zero] at hv
    rcases Nat.mul_eq_zero.1 hv.symm with h1 | h1
    · omega
    · exact absurd h1 (Nat.ne_of_gt (Nat.two_pow_pos _))
  have b1 := bucket_at _ _ r1 _ (fl_nn (m := a) (k := K - 3) hL (by omega) (by omega)).1 hG0 hGlt e1 l1 f1
  have b2 := bucket_at _ _ r2 _ (fl_nn (m := b) (k := K - 3) hL (by omega) (by omega)).1 hG0 hGlt e2 l2 f2
  have n1 := Nat.div_add_mod a (2 * G)
  have n2 := Nat.mod_lt a (show 0 < 2 * G by omega)
  have n3 := Nat.div_le_self a (2 * G)
  have n4 := Nat.div_le_self b (2 * G)
  have q0 : a ≤ b → a / (2 * G) ≤ b / (2 * G) := fun h => Nat.div_le_div_right h
  have q1 : 2 * G ≤ b - a → a / (2 * G) < b / (2 * G) := fun h => by
    have h1 : (a + 2 * G) / (2 * G) ≤ b / (2 * G) := Nat.div_le_div_right (by omega)
    rw [Nat.add_div_right _ (by omega)] at h1
    omega
  generalize a / (2 * G) = N at b1 n1 n3 q0 q1
  generalize b / (2 * G) = M at b2 n4 q0 q1
  have hNG : 2 * (N * G) = 2 * G * N := by ac_rfl
  have hNG2 : 2 * ((N + 1) * G) = 2 * G * N + 2 * G := by rw [Nat.add_mul, Nat.mul_add, hNG, Nat.one_mul]
  have m1 := arith (op := .mul) (fl_mul (N := N) (G := G) hK (by omega) (by omega) (by omega))
  have p1 := arith (op := .add) (fl_add (m := N) (n := 1) (k := K) hL (by omega) (by omega))
  have m2 := arith (op := .mul) (fl_mul (N := N + 1) (G := G) hK (by omega) (by omega) (by omega))
  rw [← v1 hK] at p1
  have sh : ∀ m, fl m (K - 2) = fl (m * 2) (K - 3) := fun m => by
    have := fl_shift m (K - 3) 1
    rw [show K - 3 + 1 = K - 2 by omega, Nat.pow_one] at this
    exact this
  have o1 := cmp_le (m := a) (n := b) (k := K - 3) hL (by omega) (by omega) (by omega)
  have o2 := cmp_gt (m := N) (n := M) (k := K) hL (by omega) (by omega) (by omega)
  have o4 := cmp_eq (m := N) (n := M) (k := K) hL (by omega) (by omega) (by omega)
  have o5 := cmp_le (m := N * G * 2) (n := a) (k := K - 3) hL (by omega) (by omega) (by omega)
  have o6 := cmp_lt (m := a) (n := (N + 1) * G * 2) (k := K - 3) hL (by omega) (by omega) (by omega)
  rw [← sh, decide_eq_true (by omega)] at o5
  rw [← sh, decide_eq_true (by omega)] at o6
  by_cases hab : a ≤ b
  · have s1 := arith (op := .sub) (fl_sub (m := b) (n := a) (k := K - 3) hL (by omega) hab (by omega))
    have o3 := cmp_ge (m := b - a) (n := G * 2) (k := K - 3) hL (by omega) (by omega) (by omega)
    rw [← sh] at o3
    refine ageBuckets_walk a b g _ _ _ _ _ _ _ _ _ _ _ _ _ _ _ _ hg ha hb (of_nat hK (by omega)) (of_nat hK (by omega)) c3 d1 d2 d3 b1 b2 o1 o2 s1 o3 o4 m1 o5 p1 m2 o6 ?_ ?_ w
    · rw [decide_eq_true hab, decide_eq_false (by have := q0 hab; omega)]; rfl
    · by_cases hgr : G * 2 ≤ b - a
      · rw [decide_eq_true hgr, decide_eq_false (by have := q1 (by omega); omega)]; rfl
      · rw [decide_eq_false hgr]; rfl
  · obtain ⟨r, hr, ho⟩ := fl_sub_neg (m := b) (n := a) (k := K - 3) hL (by omega) (by omega) (by omega)
    have s1 := arith (op := .sub) hr
    have o3 : (F64.order r (fl G (K - 2)) == some .gt || F64.order r (fl G (K - 2)) == some .eq) = false := by
      rw [sh, ho _ (by omega)]; rfl
    refine ageBuckets_walk a b g _ _ _ _ _ _ _ _ _ _ _ _ _ _ _ _ hg ha hb (of_nat hK (by omega)) (of_nat hK (by omega)) c3 d1 d2 d3 b1 b2 o1 o2 s1 o3 o4 m1 o5 p1 m2 o6 ?_ rfl w
    rw [decide_eq_false hab]; rfl
set_option linter.unusedVariables false
theorem ageBuckets_all (a0 : Int) (a1 : Int) (a2 : Int) (w0 : (Lit.int .u16 a0).wf = true) (w1 : (Lit.int .u16 a1).wf = true) (w2 : (Lit.int .u8 a2).wf = true) (w : World) :
    Calls Try.prog 4 #[.int .u16 a0, .int .u16 a1, .int .u8 a2] w fun e w' => e = .returned (.bool true) ∧ Grown w w' := by
  have h0 := bounds_u16 w0
  have h1 := bounds_u16 w1
  have h2 := bounds_u8 w2
  obtain ⟨a, rfl⟩ := Int.eq_ofNat_of_zero_le (a := a0) (by omega)
  obtain ⟨b, rfl⟩ := Int.eq_ofNat_of_zero_le (a := a1) (by omega)
  obtain ⟨g, rfl⟩ := Int.eq_ofNat_of_zero_le (a := a2) (by omega)
  refine (ageBuckets_nat a b g (by omega) (by omega) (by omega) w).mono ?_
  rintro e w' ⟨rfl, rfl⟩
  exact ⟨rfl, Grown.refl _⟩

set_option maxRecDepth 100000 in
theorem ageBuckets_lifted (os : Os) (started : os.Started) (H : Type) (enc : TypeId × Value → H) :
    ReturnsInHanded {} Try.checked os 4 .any (Rows.ageBucketsSpec.pre6 enc Try.prog Try.f4 Rows.ageBucketsRow.domain false) (Rows.ageBucketsSpec.post enc Try.prog Try.f4 false true false false) := by
  refine returnsInHanded_of_change (C := Try.checked) own started (by kernel_rfl) Try.func4
    (ChangeSpec.witness6 (enc := enc) (C := Try.checked) false ⟨#[], #[.int .u16 0, .int .u16 0, .int .u8 0], []⟩ 8 (by kernel_rfl) (by kernel_rfl) (by kernel_rfl) (by kernel_rfl)) ?_
  intro W base args ds gs before hval0 hW hcnd _
  have hval : ∀ (j : Nat) t v, Try.f4.params[j]? = some t → args[j]? = some v → Value.okWide Try.prog W .any base t v := hval0
  have hW' := hW
  obtain ⟨p, q, hA0, hV, rfl, hfz, hnd⟩ := hW
  have hA : DataW.TrodAll enc Try.prog W 0 (fun _ => true) true Try.f4.params.toList args.toList ds p := hA0
  rw [Try.params4] at hA hval
  obtain ⟨v0, vs0, d0, ds0, p0, q0, hargs, rfl, rfl, h0, r0⟩ := trodAll_cons hA
  obtain ⟨v1, vs1, d1, ds1, p1, q1, rfl, rfl, rfl, h1, r1⟩ := trodAll_cons r0
  obtain ⟨v2, vs2, d2, ds2, p2, q2, rfl, rfl, rfl, h2, r2⟩ := trodAll_cons r1
  obtain ⟨rfl, rfl, rfl⟩ := trodAll_nil r2
  obtain rfl : args = #[v0, v1, v2] := by cases args; simp_all
  obtain ⟨rfl, rfl⟩ := trodVars_none hV
  obtain ⟨a0, rfl, rfl, rfl, w0⟩ := open_int Try.underlying34 (hval 0 34 v0 rfl rfl) h0
  obtain ⟨a1, rfl, rfl, rfl, w1⟩ := open_int Try.underlying34 (hval 1 34 v1 rfl rfl) h1
  obtain ⟨a2, rfl, rfl, rfl, w2⟩ := open_int Try.underlying5 (hval 2 5 v2 rfl rfl) h2
  clear hA0 hval0
  simp only [List.append_nil] at hW'
  refine (ageBuckets_all a0 a1 a2 w0 w1 w2 W).mono fun e W' ⟨he, hg⟩ => ?_
  subst he
  exact ⟨_, rfl, post_of_same (pa := []) (pv := []) hW' (fun _ _ _ => (trodAll_cons_mk (shut_bool Try.underlying4 _) trodAll_mk0)) (fun sp _ => (trodAll_cons_mk (shut_int Try.underlying34 w0) (trodAll_cons_mk (shut_int Try.underlying34 w1) (trodAll_cons_mk (shut_int Try.underlying5 w2) trodAll_mk0)))) (fun _ _ => rfl) rfl
    (hg.frame _) hg.2.1 (ok_one (by kernel_rfl) rfl (okWide_bool_mk Try.underlying4 _))⟩

theorem ageBuckets_over : Rows.ageBucketsRow.holds Try.pinned (OpenSpec.ofChange Rows.ageBucketsSpec) :=
  OpenClaim.holds_of_wide 4 Try.f4 rfl rfl rfl rfl rfl rfl rfl ⟨rfl, rfl, rfl, rfl, rfl⟩ rfl rfl rfl rfl rfl (by kernel_rfl) Try.func4 (by kernel_rfl)
    (of_decide_eq_true (by kernel_rfl)) (by unfold Func.isWrapper; first | (rw [if_pos (by decide +kernel)]; kernel_rfl) | (rw [if_neg (by decide +kernel)]; exact ⟨rfl, rfl⟩))
    (fun os started H enc _ => ageBuckets_lifted os started H enc)

theorem ageBuckets_holds : Rows.AgeBucketsSaid := ageBuckets_over
#print axioms ageBuckets_holds
end Go.Proofs.Ytjkkojeamkpodaa
