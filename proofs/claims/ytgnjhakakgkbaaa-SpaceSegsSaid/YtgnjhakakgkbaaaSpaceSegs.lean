/- SpaceSegs: how many whole segments so many sectors have, and where each begins, for every number of sectors and every segment. No condition. -/
import Derived.Test.YtgnjhakakgkbaaaFrame
namespace Go.Proofs.Ytgnjhakakgkbaaa
open Go.ChangeShapes Go.WideShapes Go.ChangeAt Go.RowKit
theorem i64_of {z : Int} (h : (Lit.int .i64 z).wf = true) : -9223372036854775808 ≤ z ∧ z < 9223372036854775808 := by
  have := bounds_i64 h
  omega
def segsOf (z : Int) : Int := if z < 8 then 0 else min ((z - 8) / 8) 96
theorem segsOf_bd (z : Int) : 0 ≤ segsOf z ∧ segsOf z ≤ 96 := by unfold segsOf; split <;> omega
theorem segsOf_iff (z : Int) (m : Int) (h0 : 0 ≤ m) : m < segsOf z ↔ (m < 96 ∧ 8 ≤ z ∧ (m + 1) * 8 ≤ z - 8) := by
  unfold segsOf
  split <;> constructor <;> intro h <;> omega
def firstOf (z : Int) : Int := if 0 ≤ z ∧ z < 96 then 8 + z * 8 else -1
theorem segs_at (w : World) (z : Int) (hz : z < 9223372036854775808) : Calls Try.prog 15 #[.int .i64 z] w fun e w' => e = .returned (.int .i64 (segsOf z)) ∧ w' = w := segs_any w z hz
theorem first_at (w : World) (z : Int) : Calls Try.prog 16 #[.int .i64 z] w fun e w' => e = .returned (.int .i64 (firstOf z)) ∧ w' = w := first_any w z
set_option maxHeartbeats 2000000 in
theorem spaceSegs_walk (w : World) (a0 : Int) (w0 : (Lit.int .i64 a0).wf = true) (a1 : Int) (_w1 : (Lit.int .i64 a1).wf = true) :
    Calls Try.prog 4 #[.int .i64 a0, .int .i64 a1] w fun e w' => e = .returned (.bool true) ∧ Below w.heap.size w w' := by
  have hb0 := i64_of w0
  clear w0 _w1
  have hS := segsOf_bd a0
  have HI : Hid (∀ m : Int, 0 ≤ m → (m < segsOf a0 ↔ (m < 96 ∧ 8 ≤ a0 ∧ (m + 1) * 8 ≤ a0 - 8))) := segsOf_iff a0
  have HSG := fun w => segs_at w a0 hb0.2
  go_enter Try.func4, Try.ntmps4
  go_wp2_with fail
  refine (awake_any _).mono ?_
  rintro e w1 ⟨rfl, hb⟩
  have HB := hid hb
  clear hb
  go_wp2_with fail
  refine (HSG _).mono ?_
  rintro e w2 ⟨rfl, rfl⟩
  clear HSG
  generalize segsOf a0 = K at *
  go_wp2_with fail
  go_loopg [6, 7] K.toNat (fun gk a b wr => ∃ m : Nat, (m : Int) + gk = K ∧ a = .int .i64 (m : Int) ∧ b = .int .i64 (m : Int) ∧ wr = w2)
  case atStart => exact ⟨0, by omega, rfl, rfl, rfl⟩
  case round =>
    obtain ⟨m, hm, rfl, rfl, rfl⟩ := hrel
    by_cases hlt : (m : Int) < K
    · obtain ⟨g1, g2, g3⟩ := (HI.out m (by omega)).1 hlt
      go_wp2_with fail
      go_roundg (gk - 1)
      case measure => omega
      case rel => exact ⟨m + 1, by omega, by go_num, by go_num, rfl⟩
    · have hmK : (m : Int) = K := by omega
      have hno := fun h => hlt ((HI.out m (by omega)).2 h)
      subst hmK
      by_cases g1 : (m : Int) < 96
      · by_cases g2 : 8 ≤ a0
        · have g3 : ¬ ((m : Int) + 1) * 8 ≤ a0 - 8 := fun h => hno ⟨g1, g2, h⟩
          clear hno hlt
          go_wp2_with fail
          refine (first_at _ a1).mono ?_
          rintro e w3 ⟨rfl, rfl⟩
          by_cases h0 : 0 ≤ a1
          · by_cases h1 : a1 < 96
            · rw [show firstOf a1 = 8 + a1 * 8 from if_pos ⟨h0, h1⟩]
              by_cases h2 : a1 < (m : Int)
              · have h3 := ((HI.out a1 h0).1 h2).2.2
                have h4 : 8 + a1 * 8 + 8 ≤ a0 := by omega
                clear HI
                all_goals first | (exfalso; omega) | (go_wp2_with fail; go_ret; exact ⟨rfl, HB.out⟩)
              · clear HI
                all_goals first | (exfalso; omega) | (go_wp2_with fail; go_ret; exact ⟨rfl, HB.out⟩)
            · rw [show firstOf a1 = -1 from if_neg (fun h => h1 h.2)]
              go_wp2_with fail
              go_ret
              exact ⟨rfl, HB.out⟩
          · rw [show firstOf a1 = -1 from if_neg (fun h => h0 h.1)]
            go_wp2_with fail
            go_ret
            exact ⟨rfl, HB.out⟩
        · clear hno hlt
          go_wp2_with fail
          refine (first_at _ a1).mono ?_
          rintro e w3 ⟨rfl, rfl⟩
          by_cases h0 : 0 ≤ a1
          · by_cases h1 : a1 < 96
            · rw [show firstOf a1 = 8 + a1 * 8 from if_pos ⟨h0, h1⟩]
              by_cases h2 : a1 < (m : Int)
              · have h3 := ((HI.out a1 h0).1 h2).2.2
                have h4 : 8 + a1 * 8 + 8 ≤ a0 := by omega
                clear HI
                all_goals first | (exfalso; omega) | (go_wp2_with fail; go_ret; exact ⟨rfl, HB.out⟩)
              · clear HI
                all_goals first | (exfalso; omega) | (go_wp2_with fail; go_ret; exact ⟨rfl, HB.out⟩)
            · rw [show firstOf a1 = -1 from if_neg (fun h => h1 h.2)]
              go_wp2_with fail
              go_ret
              exact ⟨rfl, HB.out⟩
          · rw [show firstOf a1 = -1 from if_neg (fun h => h0 h.1)]
            go_wp2_with fail
            go_ret
            exact ⟨rfl, HB.out⟩
      · clear hno hlt
        go_wp2_with fail
        refine (first_at _ a1).mono ?_
        rintro e w3 ⟨rfl, rfl⟩
        by_cases h0 : 0 ≤ a1
        · by_cases h1 : a1 < 96
          · rw [show firstOf a1 = 8 + a1 * 8 from if_pos ⟨h0, h1⟩]
            by_cases h2 : a1 < (m : Int)
            · have h3 := ((HI.out a1 h0).1 h2).2.2
              have h4 : 8 + a1 * 8 + 8 ≤ a0 := by omega
              clear HI
              all_goals first | (exfalso; omega) | (go_wp2_with fail; go_ret; exact ⟨rfl, HB.out⟩)
            · clear HI
              all_goals first | (exfalso; omega) | (go_wp2_with fail; go_ret; exact ⟨rfl, HB.out⟩)
          · rw [show firstOf a1 = -1 from if_neg (fun h => h1 h.2)]
            go_wp2_with fail
            go_ret
            exact ⟨rfl, HB.out⟩
        · rw [show firstOf a1 = -1 from if_neg (fun h => h0 h.1)]
          go_wp2_with fail
          go_ret
          exact ⟨rfl, HB.out⟩
set_option linter.unusedVariables false
set_option maxRecDepth 100000 in
theorem spaceSegs_lifted (os : Os) (started : os.Started) (H : Type) (enc : TypeId × Value → H) :
    ReturnsInHanded {} Try.checked os 4 .any (Rows.spaceSegsSpec.pre6 enc Try.prog Try.f4 Rows.spaceSegsRow.domain false) (Rows.spaceSegsSpec.post enc Try.prog Try.f4 false true false false) := by
  refine returnsInHanded_of_change (C := Try.checked) own started (by kernel_rfl) Try.func4
    (ChangeSpec.witness6 (enc := enc) (C := Try.checked) false ⟨#[], #[.int .i64 0, .int .i64 0], []⟩ 8 (by kernel_rfl) (by kernel_rfl) (by kernel_rfl) (by kernel_rfl)) ?_
  intro W base args ds gs before hval0 hW hcnd _
  have hval : ∀ (j : Nat) t v, Try.f4.params[j]? = some t → args[j]? = some v → Value.okWide Try.prog W .any base t v := hval0
  have hW' := hW
  obtain ⟨p, q, hA0, hV, rfl, hfz, hnd⟩ := hW
  have hA : DataW.TrodAll enc Try.prog W 0 (fun _ => true) true Try.f4.params.toList args.toList ds p := hA0
  rw [Try.params4] at hA hval
  obtain ⟨v0, vs0, d0, ds0, p0, q0, hargs, rfl, rfl, h0, r0⟩ := trodAll_cons hA
  obtain ⟨v1, vs1, d1, ds1, p1, q1, rfl, rfl, rfl, h1, r1⟩ := trodAll_cons r0
  obtain ⟨rfl, rfl, rfl⟩ := trodAll_nil r1
  obtain rfl : args = #[v0, v1] := by cases args; simp_all
  obtain ⟨rfl, rfl⟩ := trodVars_none hV
  obtain ⟨a0, rfl, rfl, rfl, w0⟩ := open_int Try.underlying3 (hval 0 3 v0 rfl rfl) h0
  obtain ⟨a1, rfl, rfl, rfl, w1⟩ := open_int Try.underlying3 (hval 1 3 v1 rfl rfl) h1
  clear hA0 hval0
  refine (spaceSegs_walk W a0 w0 a1 w1).mono fun e W' ⟨he, bel⟩ => ?_
  subst he
  simp only [List.append_nil] at hW'
  exact ⟨_, rfl, _, _, _, [], _, [], hW', trodAll_mk1 (shut_bool Try.underlying4 _), (trodAll_cons_mk (shut_int Try.underlying3 w0) (trodAll_cons_mk (shut_int Try.underlying3 w1) trodAll_mk0)), rfl, bel.frame _, fun h => by cases h⟩

theorem spaceSegs_over : Rows.spaceSegsRow.holds Try.pinned (OpenSpec.ofChange Rows.spaceSegsSpec) :=
  OpenClaim.holds_of_wide 4 Try.f4 rfl rfl rfl rfl rfl rfl rfl ⟨rfl, rfl, rfl, rfl, rfl⟩ rfl rfl rfl rfl rfl (by kernel_rfl) Try.func4 (by kernel_rfl)
    (of_decide_eq_true (by kernel_rfl)) (by unfold Func.isWrapper; first | (rw [if_pos (by decide +kernel)]; kernel_rfl) | (rw [if_neg (by decide +kernel)]; exact ⟨rfl, rfl⟩))
    (fun os started H enc _ => spaceSegs_lifted os started H enc)
theorem spaceSegs_holds : Rows.SpaceSegsSaid := spaceSegs_over
#print axioms spaceSegs_holds
end Go.Proofs.Ytgnjhakakgkbaaa
