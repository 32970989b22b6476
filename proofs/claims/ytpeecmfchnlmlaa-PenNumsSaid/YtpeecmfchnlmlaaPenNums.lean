/- Proved: the law 'PenNums' (a number is as short as may be, and no other bytes are it) answers true, whatever two numbers come in. No condition. -/
import Derived.Test.YtpeecmfchnlmlaaHeld
import Derived.Deep.RegionHeld
import Derived.Deep.DrawnRows
namespace Go.Proofs.Ytpeecmfchnlmlaa
open Go.ChangeShapes Go.WideShapes Go.ChangeAt Go.RowKit Pen
attribute [local go_sem ↓] Go.wp_at_zero Go.wp_at_succ
set_option linter.unusedVariables false
theorem penNums_out (n m : Int) (w : World) (h : n < 0 ∨ m < 0 ∨ 4611686018427387904 < n ∨ 4611686018427387904 < m) :
    Calls Try.prog 5 #[.int .i64 n, .int .i64 m] w fun e w' => e = .returned (.bool true) ∧ Below w.heap.size w w' := by
  have h2 : n < 0 ∨ (¬ n < 0 ∧ m < 0) ∨ (¬ n < 0 ∧ ¬ m < 0 ∧ 4611686018427387904 < n) ∨ (¬ n < 0 ∧ ¬ m < 0 ∧ ¬ 4611686018427387904 < n ∧ 4611686018427387904 < m) := by omega
  clear h
  rcases h2 with g1 | ⟨g1, g2⟩ | ⟨g1, g2, g3⟩ | ⟨g1, g2, g3, g4⟩
  all_goals
    go_enter Try.func5, Try.ntmps5
    go_wp2_with fail
    refine (awake_any _).mono ?_
    rintro e w0 ⟨rfl, hb0⟩
    go_wp2_with fail
    go_ret
    exact ⟨rfl, hb0⟩
set_option maxHeartbeats 2000000 in
theorem penNums_walk (n m : Nat) (hn : n ≤ 4611686018427387904) (hm : m ≤ 4611686018427387904) (w : World) :
    Calls Try.prog 5 #[.int .i64 (n : Int), .int .i64 (m : Int)] w fun e w' => e = .returned (.bool true) ∧ Below w.heap.size w w' := by
  have g1 : ¬ (n : Int) < 0 := by omega
  have g2 : ¬ (m : Int) < 0 := by omega
  have g3 : ¬ (4611686018427387904 : Int) < (n : Int) := by omega
  have g4 : ¬ (4611686018427387904 : Int) < (m : Int) := by omega
  go_enter Try.func5, Try.ntmps5
  go_wp2_with fail
  refine (awake_any _).mono ?_
  rintro e w0 ⟨rfl, hb0⟩
  have hp0 := PenAt.new w0.heap.size w0 (Nat.le_refl _)
  have hq0 := PenAt.new w0.heap.size (w0.alloc (.cells #[.slice none 0 0] 27)) (by simp)
  have hp1 := hp0.below ((Below.refl _ _).alloc (Nat.le_refl _) (.cells #[.slice none 0 0] 27))
  have hb1 : Below w.heap.size w ((w0.alloc (.cells #[.slice none 0 0] 27)).alloc (.cells #[.slice none 0 0] 27)) := (hb0.alloc hb0.size _).alloc (by have := hb0.size; simp; omega) _
  have hqs : (w0.alloc (.cells #[.slice none 0 0] 27)).heap.size = w0.heap.size + 1 := by simp
  have hss : ((w0.alloc (.cells #[.slice none 0 0] 27)).alloc (.cells #[.slice none 0 0] 27)).heap.size = w0.heap.size + 2 := by simp
  rw [hqs] at hq0
  clear hp0
  go_wp2_with fail
  have hbs := hb0.size
  generalize (w0.alloc (.cells #[.slice none 0 0] 27)).alloc (.cells #[.slice none 0 0] 27) = W1 at hp1 hq0 hb1 hss ⊢
  obtain ⟨q, hq⟩ : ∃ q, w0.heap.size + 1 = q := ⟨_, rfl⟩
  rw [hq] at hq0 ⊢
  obtain ⟨p, hp⟩ : ∃ p, w0.heap.size = p := ⟨_, rfl⟩
  rw [hp] at hq hp1 hq0 hss hbs ⊢
  refine (wnum_nat n (by omega) (by simp) hp1).mono ?_
  rintro e w2 ⟨rfl, o2, hp2, ho2, hw2⟩
  rw [List.nil_append] at hp2
  have hq2 := hq0.kept (w' := w2) (fun k hk hkk => ho2.block k hk (by have : k = q := by simpa using hkk
                                                                      omega) (by simp))
  have hb2 := hb1.trans (ho2.below hbs (by simp) hb1.size)
  clear hq0
  go_wp2_with fail
  refine (wnum_nat m (by omega) (by simp) hq2).mono ?_
  rintro e w3 ⟨rfl, o3, hq3, ho3, hw3⟩
  rw [List.nil_append] at hq3
  have hp3 := hp2.kept (w' := w3) (fun k hk hkk => ho3.block k hk (by
    rcases hkk with h | h
    · omega
    · rcases hw2 with h2 | ⟨g, h2, h3⟩
      · rw [h2] at h; simp at h
      · rw [h2] at h; simp at h; omega) (by simp))
  have hb3 := hb2.trans (ho3.below (by omega) (by simp) hb2.size)
  have HB3 : Hid (Below w.heap.size w w3) := hb3
  have hP : ∀ W, Below w3.heap.size w3 W → _ := fun W hW => bytes_at rfl (num_ne n) (by have := num_len10 n (by omega); omega) hp3 hW
  have hQ : ∀ W, Below w3.heap.size w3 W → _ := fun W hW => bytes_at rfl (num_ne m) (by have := num_len10 m (by omega); omega) hq3 hW
  clear hp2 hq2 hp3 hq3 ho2 ho3 hw2 hw3 hb0 hb1 hb2 hb3 hss hq hbs hqs hp hp1
  obtain ⟨N, hN⟩ : ∃ N, (num n).length = N := ⟨_, rfl⟩
  obtain ⟨M, hM⟩ : ∃ M, (num m).length = M := ⟨_, rfl⟩
  have HN : Hid ((num n).length = N) := hN
  have HM : Hid ((num m).length = M) := hM
  rw [hN] at hP
  rw [hM] at hQ
  clear hN hM
  have hN10 : N ≤ 10 := by rw [← HN.out]; exact num_len10 n (by omega)
  go_wp2_with fail
  go_loopg [7, 8] N (fun k u v wr => ∃ (s x : Nat), x < 9223372036854775808 ∧ (num x).length = k ∧ s + k = 1 + N ∧ u = .int .i64 (s : Int) ∧ v = .int .i64 (x : Int) ∧ wr = w3)
  case atStart => exact ⟨1, n, by omega, HN.out, rfl, rfl, rfl, rfl⟩
  case round =>
    obtain ⟨s, x, hx, hk, hs, rfl, rfl, rfl⟩ := hrel
    have HK : Hid ((num x).length = gk) := hk
    have HS : Hid (s + gk = 1 + N) := hs
    have hs10 : s ≤ 11 := by omega
    clear hk hs
    by_cases hbig : 128 ≤ x
    · have b1 : (128 : Int) ≤ (x : Int) := by omega
      go_wp2_with fail
      go_roundg (gk - 1)
      case measure => have := HK.out; have := num_len_pos x; omega
      case rel =>
        have e1 := HK.out
        rw [num_big hbig] at e1
        simp at e1
        have e2 := HS.out
        exact ⟨s + 1, x / 128, by omega, by omega, by omega, by go_num, by go_num, rfl⟩
    · have b1 : ¬ (128 : Int) ≤ (x : Int) := by omega
      have e1 := HK.out
      rw [num_small (by omega)] at e1
      simp at e1
      obtain rfl : s = N := by have := HS.out; omega
      clear e1
      have HT : Hid (((strOf (num n)).toList == (strOf (num m)).toList) = ((n : Int) == (m : Int))) := by
        show _ = _
        rw [strs_same _ _ (num_lt n) (num_lt m)]
        by_cases h : n = m
        · subst h; simp
        · have h3 : num n ≠ num m := fun e => h ((num_inj hn hm).1 e)
          have h4 : ((n : Int) == (m : Int)) = false := by simp; omega
          rw [h4]; simp [h3]
      have hSP : ∀ (w' : World) (g cap' : Nat), Row w' (some ⟨g, 0, none⟩) (num n) → ∀ W, Below w'.heap.size w' W → (convert 25 9 (.slice (some ⟨g, 0, none⟩) s cap')).run Try.prog W = .ok (.string (strOf (num n))) W := fun w' g cap' hr => str_at hr HN.out
      have hSQ : ∀ (w' : World) (g cap' : Nat), Row w' (some ⟨g, 0, none⟩) (num m) → ∀ W, Below w'.heap.size w' W → (convert 25 9 (.slice (some ⟨g, 0, none⟩) M cap')).run Try.prog W = .ok (.string (strOf (num m))) W := fun w' g cap' hr => str_at hr HM.out
      generalize strOf (num n) = S1 at hSP HT
      generalize strOf (num m) = S2 at hSQ HT
      go_wp2_with fail
      go_region_held (fun w' => Below wr.heap.size wr w') (first | assumption | (refine Below.drew ?_; assumption) | (refine Below.drew ?_; exact Below.refl _ _)) (first
        | (go_at_call_of 16 p; refine (hP _ ?_).mono ?_; assumption; rintro e w1 ⟨g1, cap1, rfl, hb1, hb2, hb3, hg1⟩; replace hg1 := hSP w1 g1 cap1 hg1)
        | (go_at_call_of 16 q; refine (hQ _ ?_).mono ?_; assumption; rintro e w1 ⟨g1, cap1, rfl, hb1, hb2, hb3, hg1⟩; replace hg1 := hSQ w1 g1 cap1 hg1))
      all_goals
        go_wp2_with fail
        go_ret
        exact ⟨by rw [HT.out]; simp, HB3.out.trans (Below.mono (by assumption) HB3.out.size)⟩
theorem penNums_all (a0 a1 : Int) (w : World) (w0 : (Lit.int .i64 a0).wf = true) (w1 : (Lit.int .i64 a1).wf = true) :
    Calls Try.prog 5 #[.int .i64 a0, .int .i64 a1] w fun e w' => e = .returned (.bool true) ∧ Below w.heap.size w w' := by
  by_cases h : a0 < 0 ∨ a1 < 0 ∨ 4611686018427387904 < a0 ∨ 4611686018427387904 < a1
  · exact penNums_out a0 a1 w h
  · have := penNums_walk a0.toNat a1.toNat (by omega) (by omega) w
    rw [show ((a0.toNat : Nat) : Int) = a0 by omega, show ((a1.toNat : Nat) : Int) = a1 by omega] at this
    exact this
set_option maxRecDepth 100000 in
theorem penNums_lifted (os : Os) (started : os.Started) (H : Type) (enc : TypeId × Value → H) :
    ReturnsInHanded {} Try.checked os 5 .any (Rows.penNumsSpec.pre6 enc Try.prog Try.f5 Rows.penNumsRow.domain false) (Rows.penNumsSpec.post enc Try.prog Try.f5 false true false false) := by
  refine returnsInHanded_of_change (C := Try.checked) own started (by kernel_rfl) Try.func5
    (ChangeSpec.witness6 (enc := enc) (C := Try.checked) false ⟨#[], #[.int .i64 0, .int .i64 0], []⟩ 8 (by kernel_rfl) (by kernel_rfl) (by kernel_rfl) (by kernel_rfl)) ?_
  intro W base args ds gs before hval0 hW hcnd _
  have hval : ∀ (j : Nat) t v, Try.f5.params[j]? = some t → args[j]? = some v → Value.okWide Try.prog W .any base t v := hval0
  have hW' := hW
  obtain ⟨p, q, hA0, hV, rfl, hfz, hnd⟩ := hW
  have hA : DataW.TrodAll enc Try.prog W 0 (fun _ => true) true Try.f5.params.toList args.toList ds p := hA0
  rw [Try.params5] at hA hval
  obtain ⟨v0, vs0, d0, ds0, p0, q0, hargs, rfl, rfl, h0, r0⟩ := trodAll_cons hA
  obtain ⟨v1, vs1, d1, ds1, p1, q1, rfl, rfl, rfl, h1, r1⟩ := trodAll_cons r0
  obtain ⟨rfl, rfl, rfl⟩ := trodAll_nil r1
  obtain rfl : args = #[v0, v1] := by cases args; simp_all
  obtain ⟨rfl, rfl⟩ := trodVars_none hV
  obtain ⟨a0, rfl, rfl, rfl, w0⟩ := open_int Try.underlying3 (hval 0 3 v0 rfl rfl) h0
  obtain ⟨a1, rfl, rfl, rfl, w1⟩ := open_int Try.underlying3 (hval 1 3 v1 rfl rfl) h1
  clear hA0 hval0
  refine (penNums_all a0 a1 W w0 w1).mono fun e W' ⟨he, bel⟩ => ?_
  subst he
  exact ⟨_, rfl, _, _, _, [], _, [], hW', trodAll_mk1 (shut_bool Try.underlying4 _), (trodAll_cons_mk (shut_int Try.underlying3 w0) (trodAll_cons_mk (shut_int Try.underlying3 w1) trodAll_mk0)), rfl, bel.frame _, fun h => by cases h⟩

theorem penNums_over : Rows.penNumsRow.holds Try.pinned (OpenSpec.ofChange Rows.penNumsSpec) :=
  OpenClaim.holds_of_wide 5 Try.f5 rfl rfl rfl rfl rfl rfl rfl ⟨rfl, rfl, rfl, rfl, rfl⟩ rfl rfl rfl rfl rfl (by kernel_rfl) Try.func5 (by kernel_rfl)
    (of_decide_eq_true (by kernel_rfl)) (by unfold Func.isWrapper; first | (rw [if_pos (by decide +kernel)]; kernel_rfl) | (rw [if_neg (by decide +kernel)]; exact ⟨rfl, rfl⟩))
    (fun os started H enc _ => penNums_lifted os started H enc)

theorem penNums_holds : Rows.PenNumsSaid := penNums_over
#print axioms penNums_holds
end Go.Proofs.Ytpeecmfchnlmlaa
