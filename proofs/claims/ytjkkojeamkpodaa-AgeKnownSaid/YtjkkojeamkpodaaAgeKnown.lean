/- Proved: the law 'AgeKnown' (times by hand: NaN, infinities, -0, sums that are too great) answers true. It takes no argument; no condition. -/
import Derived.Test.YtjkkojeamkpodaaAwake
import Derived.Deep.LoopGhost
import Derived.ShutString
namespace Go.Proofs.Ytjkkojeamkpodaa
open Go.ChangeShapes Go.WideShapes Go.ChangeAt Go.RowKit Fl
set_option linter.unusedVariables false
theorem inf_any (w : World) : Calls Try.prog 9 #[.int .i64 1] w fun e w' => e = .returned (.float .f64 9218868437227405312) ∧ w' = w := by
  have k : ∀ w, (callFunc 19 #[.int .u64 9218868437227405312]).run Try.prog w = .ok (.value (.float .f64 9218868437227405312)) w := fun w => frombits_any w 9218868437227405312
  go_enter Try.func9, Try.ntmps9
  go_wp2_with fail
  go_ret
  exact ⟨rfl, rfl⟩
theorem copysign_any (w : World) : Calls Try.prog 10 #[.float .f64 0, .float .f64 13830554455654793216] w fun e w' => e = .returned (.float .f64 9223372036854775808) ∧ w' = w := by
  have k1 : ∀ w, (callFunc 20 #[.float .f64 0]).run Try.prog w = .ok (.value (.int .u64 0)) w := fun w => bits_any w 0
  have k2 : ∀ w, (callFunc 20 #[.float .f64 13830554455654793216]).run Try.prog w = .ok (.value (.int .u64 13830554455654793216)) w := fun w => bits_any w 13830554455654793216
  have k3 : ∀ w, (callFunc 19 #[.int .u64 9223372036854775808]).run Try.prog w = .ok (.value (.float .f64 9223372036854775808)) w := fun w => frombits_any w 9223372036854775808
  have z1 : bits .andNot .u64 0 9223372036854775808 = 0 := by kernel_rfl
  have z2 : bits .and .u64 13830554455654793216 9223372036854775808 = 9223372036854775808 := by kernel_rfl
  have z3 : bits .or .u64 0 9223372036854775808 = 9223372036854775808 := by kernel_rfl
  go_enter Try.func10, Try.ntmps10
  go_wp2_with fail
  go_ret
  exact ⟨rfl, rfl⟩
/-- The numbers that are no time. -/
def bads : List Nat := [9221120237041090561, 9218868437227405312, 18442240474082181120, 13830554455654793216, 9223372036854775809]
def badCells : Array Value := #[.float .f64 9221120237041090561, .float .f64 9218868437227405312, .float .f64 18442240474082181120, .float .f64 13830554455654793216, .float .f64 9223372036854775809]
theorem bads_no : ∀ i, i < 5 → isTime (bads.getD i 0) = false ∧ bads.getD i 0 < 18446744073709551616 := by decide +kernel
theorem bads_cells : ∀ i, i < 5 → badCells[i]? = some (.float .f64 (bads.getD i 0)) := by
  intro i hi
  rcases i with _ | _ | _ | _ | _ | i
  all_goals first | rfl | omega
structure Lies (w : World) (q : Nat) : Prop where
  at_ : ∀ i, i < 5 → w.cell? ⟨q, i, none⟩ = some (.float .f64 (bads.getD i 0))
theorem lies_new (w : World) : Lies (w.alloc (.cells badCells 23)) w.heap.size := ⟨fun i hi => by
  rw [cell_of_row _ _ i badCells 23 (0, 0) (heap_alloc_new _ _)]
  exact bads_cells i hi⟩
theorem no_after (b : Nat) (h : isTime b = false) : afterF b 4607182418800017408 = (0, 1) ∧ afterF 4607182418800017408 b = (0, 1) := by
  unfold afterF; rw [h]; simp
theorem no_of (b : Nat) (h : isTime b = false) : ofF b 4607182418800017408 = 0 ∧ ofF 4621256167635550208 b = 0 := by
  unfold ofF; rw [h]; simp
set_option maxRecDepth 20000 in
set_option maxHeartbeats 2000000 in
theorem ageKnown_walk (w : World) : Calls Try.prog 3 #[] w fun e w' => e = .returned (.bool true) ∧ Grown w w' := by
  have n1 : ∀ w, (Op.unary .neg (.float .f64 9218868437227405312)).run Try.prog w = .ok (.float .f64 18442240474082181120) w := by intro w; kernel_rfl
  have z0 : (F64.order 0 0 != some .eq) = false := by decide +kernel
  have z1 : (F64.order 0 0 == some .eq) = true := by decide +kernel
  have z2 : (F64.order 9218868437227405311 9218868437227405311 == some .eq) = true := by decide +kernel
  go_enter Try.func3, Try.ntmps3
  go_wp2_with fail
  refine (awake_any _).mono ?_
  rintro e w1 ⟨rfl, rfl⟩
  go_wp2_with fail
  refine (nan_any _).mono ?_
  rintro e w1 ⟨rfl, rfl⟩
  go_wp2_with fail
  refine (inf_any _).mono ?_
  rintro e w1 ⟨rfl, rfl⟩
  go_wp2_with fail
  refine (copysign_any _).mono ?_
  rintro e w1 ⟨rfl, rfl⟩
  go_wp2_with fail
  have HL := lies_new w1
  have HG : Hid (Grown w1 (w1.alloc (.cells badCells 23))) := (Grown.refl w1).alloc _ _
  unfold badCells at HL HG
  generalize w1.alloc (Obj.cells #[Value.float FloatKind.f64 9221120237041090561, Value.float FloatKind.f64 9218868437227405312, Value.float FloatKind.f64 18442240474082181120, Value.float FloatKind.f64 13830554455654793216, Value.float FloatKind.f64 9223372036854775809] 23) = W at HL HG ⊢
  generalize w1.heap.size = q at HL ⊢
  go_loopg [6] 5 (fun k v wr => ∃ i : Nat, i + k = 5 ∧ v = .int .i64 (i : Int) ∧ wr = W)
  case atStart => exact ⟨0, rfl, rfl, rfl⟩
  case round =>
    obtain ⟨i, hi, rfl, rfl⟩ := hrel
    have HI : Hid (i + gk = 5) := hi
    clear hi
    by_cases hlt : i < 5
    · have hc := HL.at_ i hlt
      obtain ⟨hb, hb64⟩ := bads_no i hlt
      have i1 : (i : Int) < 5 := by omega
      generalize bads.getD i 0 = b at hc hb hb64
      have k1 := after_at b 4607182418800017408 0 1 hb64 (by decide) (no_after b hb).1
      have k2 := after_at 4607182418800017408 b 0 1 (by decide) hb64 (no_after b hb).2
      have k3 := may_at b false hb64 hb
      have k4 := of_at b 4607182418800017408 0 hb64 (by decide) (no_of b hb).1
      have k5 := of_at 4621256167635550208 b 0 (by decide) hb64 (no_of b hb).2
      have k6 := fun w => bucket_no w b 4607182418800017408 hb64 (.inl hb)
      have k7 := isnan_at 9221120237041090561 true (by decide)
      clear hb hb64 HL
      go_wp2_with fail
      refine (k1 _).mono ?_
      rintro e w1 ⟨rfl, rfl⟩
      go_wp2_with fail
      refine (k2 _).mono ?_
      rintro e w1 ⟨rfl, rfl⟩
      go_wp2_with fail
      refine (k3 _).mono ?_
      rintro e w1 ⟨rfl, rfl⟩
      go_wp2_with fail
      refine (k4 _).mono ?_
      rintro e w1 ⟨rfl, rfl⟩
      go_wp2_with fail
      refine (k5 _).mono ?_
      rintro e w1 ⟨rfl, rfl⟩
      go_wp2_with fail
      refine (k6 _).mono ?_
      rintro e w1 ⟨rfl, rfl⟩
      go_wp2_with fail
      refine (k7 _).mono ?_
      rintro e w1 ⟨rfl, rfl⟩
      go_wp2_with fail
      go_roundg (gk - 1)
      case measure => have := HI.out; omega
      case rel =>
        have h1 := HI.out
        exact ⟨i + 1, by omega, by simp, rfl⟩
    · have i1 : ¬ (i : Int) < 5 := by omega
      clear HL hlt
      have a1 := after_at 9223372036854775808 9223372036854775808 0 0 (by decide) (by decide) (by decide +kernel)
      have a2 := after_at 9218868437227405311 9218868437227405311 0 1 (by decide) (by decide) (by decide +kernel)
      have a3 := after_at 9218868437227405311 4607182418800017408 9218868437227405311 0 (by decide) (by decide) (by decide +kernel)
      have a4 := may_at 9223372036854775808 true (by decide) (by decide +kernel)
      have a5 := may_at 9218868437227405311 true (by decide) (by decide +kernel)
      have a6 : ∀ w, Calls Try.prog 16 #[.float .f64 0] w fun e w' => e = .returned (.bool false) ∧ w' = w := fun w => signbit_any w 0 (by decide)
      have a7 := of_at 4607182418800017408 4617315517961601024 0 (by decide) (by decide) (by decide +kernel)
      have a8 := fun w => bucket_inf w 4619567317775286272 (by decide +kernel)
      have a9 := fun w => bucket_no w 4619567317775286272 9223372036854775808 (by decide) (.inr (.inr (by decide +kernel)))
      have b1 := fun w => bucket_no w 4619567317775286272 13830554455654793216 (by decide) (.inr (.inr (by decide +kernel)))
      have b2 := fun w => bucket_no w 4619567317775286272 9221120237041090561 (by decide) (.inr (.inl (by decide +kernel)))
      have b3 := bucket_at 9094988921128908188 1 9218868437227405312 9218868437227405312 (by decide +kernel) (by decide) (by decide +kernel) (by decide +kernel) (by decide +kernel) (by decide +kernel)
      have b4 : ∀ w, Calls Try.prog 17 #[.float .f64 9218868437227405312, .int .i64 1] w fun e w' => e = .returned (.bool true) ∧ w' = w := fun w => isinf1_any w 9218868437227405312 (by decide)
      have b5 := same_at 9221120237041090561 9221120237041090561 true (by decide +kernel)
      have b6 := same_at 0 9223372036854775808 true (by decide +kernel)
      have b7 := same_at 9221120237041090561 4607182418800017408 false (by decide +kernel)
      have b8 := same_at 9218868437227405312 18442240474082181120 false (by decide +kernel)
      have b9 := isnan_at 9221120237041090561 true (by decide)
      go_wp2_with fail
      refine (a1 _).mono ?_
      rintro e w1 ⟨rfl, rfl⟩
      go_wp2_with fail
      refine (a2 _).mono ?_
      rintro e w1 ⟨rfl, rfl⟩
      go_wp2_with fail
      refine (a3 _).mono ?_
      rintro e w1 ⟨rfl, rfl⟩
      go_wp2_with fail
      refine (a4 _).mono ?_
      rintro e w1 ⟨rfl, rfl⟩
      go_wp2_with fail
      refine (a5 _).mono ?_
      rintro e w1 ⟨rfl, rfl⟩
      go_wp2_with fail
      refine (a6 _).mono ?_
      rintro e w1 ⟨rfl, rfl⟩
      go_wp2_with fail
      refine (a7 _).mono ?_
      rintro e w1 ⟨rfl, rfl⟩
      go_wp2_with fail
      refine (a8 _).mono ?_
      rintro e w1 ⟨rfl, rfl⟩
      go_wp2_with fail
      refine (a9 _).mono ?_
      rintro e w1 ⟨rfl, rfl⟩
      go_wp2_with fail
      refine (b9 _).mono ?_
      rintro e w1 ⟨rfl, rfl⟩
      go_wp2_with fail
      refine (b1 _).mono ?_
      rintro e w1 ⟨rfl, rfl⟩
      go_wp2_with fail
      refine (b9 _).mono ?_
      rintro e w1 ⟨rfl, rfl⟩
      go_wp2_with fail
      refine (b2 _).mono ?_
      rintro e w1 ⟨rfl, rfl⟩
      go_wp2_with fail
      refine (b9 _).mono ?_
      rintro e w1 ⟨rfl, rfl⟩
      go_wp2_with fail
      refine (b3 _).mono ?_
      rintro e w1 ⟨rfl, rfl⟩
      go_wp2_with fail
      refine (b4 _).mono ?_
      rintro e w1 ⟨rfl, rfl⟩
      go_wp2_with fail
      refine (b5 _).mono ?_
      rintro e w1 ⟨rfl, rfl⟩
      go_wp2_with fail
      refine (b6 _).mono ?_
      rintro e w1 ⟨rfl, rfl⟩
      go_wp2_with fail
      refine (b7 _).mono ?_
      rintro e w1 ⟨rfl, rfl⟩
      go_wp2_with fail
      refine (b8 _).mono ?_
      rintro e w1 ⟨rfl, rfl⟩
      go_wp2_with fail
      go_ret
      exact ⟨rfl, HG.out⟩
set_option linter.unusedVariables false
theorem ageKnown_all  (w : World) :
    Calls Try.prog 3 #[] w fun e w' => e = .returned (.bool true) ∧ Grown w w' := by
  exact ageKnown_walk w

set_option maxRecDepth 100000 in
theorem ageKnown_lifted (os : Os) (started : os.Started) (H : Type) (enc : TypeId × Value → H) :
    ReturnsInHanded {} Try.checked os 3 .any (Rows.ageKnownSpec.pre6 enc Try.prog Try.f3 Rows.ageKnownRow.domain false) (Rows.ageKnownSpec.post enc Try.prog Try.f3 false true false false) := by
  refine returnsInHanded_of_change (C := Try.checked) own started (by kernel_rfl) Try.func3
    (ChangeSpec.witness6 (enc := enc) (C := Try.checked) false ⟨#[], #[], []⟩ 8 (by kernel_rfl) (by kernel_rfl) (by kernel_rfl) (by kernel_rfl)) ?_
  intro W base args ds gs before hval0 hW hcnd _
  have hval : ∀ (j : Nat) t v, Try.f3.params[j]? = some t → args[j]? = some v → Value.okWide Try.prog W .any base t v := hval0
  have hW' := hW
  obtain ⟨p, q, hA0, hV, rfl, hfz, hnd⟩ := hW
  have hA : DataW.TrodAll enc Try.prog W 0 (fun _ => true) true Try.f3.params.toList args.toList ds p := hA0
  rw [Try.params3] at hA hval
  obtain ⟨rfl, rfl, rfl⟩ := trodAll_none hA
  obtain ⟨rfl, rfl⟩ := trodVars_none hV
  clear hA0 hval0
  simp only [List.append_nil] at hW'
  refine (ageKnown_all  W).mono fun e W' ⟨he, hg⟩ => ?_
  subst he
  exact ⟨_, rfl, post_of_same (pa := []) (pv := []) hW' (fun _ _ _ => (trodAll_cons_mk (shut_bool Try.underlying4 _) trodAll_mk0)) (fun sp _ => rfl) (fun _ _ => rfl) rfl
    (hg.frame _) hg.2.1 (ok_one (by kernel_rfl) rfl (okWide_bool_mk Try.underlying4 _))⟩

theorem ageKnown_over : Rows.ageKnownRow.holds Try.pinned (OpenSpec.ofChange Rows.ageKnownSpec) :=
  OpenClaim.holds_of_wide 3 Try.f3 rfl rfl rfl rfl rfl rfl rfl ⟨rfl, rfl, rfl, rfl, rfl⟩ rfl rfl rfl rfl rfl (by kernel_rfl) Try.func3 (by kernel_rfl)
    (of_decide_eq_true (by kernel_rfl)) (by unfold Func.isWrapper; first | (rw [if_pos (by decide +kernel)]; kernel_rfl) | (rw [if_neg (by decide +kernel)]; exact ⟨rfl, rfl⟩))
    (fun os started H enc _ => ageKnown_lifted os started H enc)

theorem ageKnown_holds : Rows.AgeKnownSaid := ageKnown_over
#print axioms ageKnown_holds
end Go.Proofs.Ytjkkojeamkpodaa
