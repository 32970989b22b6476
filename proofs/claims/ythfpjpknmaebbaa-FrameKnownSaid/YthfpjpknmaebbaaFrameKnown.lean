/- FrameKnown: frames by hand: sizes, what is too short. No condition. -/
import Derived.Test.YthfpjpknmaebbaaAwake
namespace Go.Proofs.Ythfpjpknmaebbaa
open Go.ChangeShapes Go.WideShapes Go.ChangeAt Go.RowKit Pen
open Crc (four nx run)
set_option maxRecDepth 4000
theorem make16385 (w : World) : ∃ w', (Instr.makeSlice 23 (.int .i64 16385) (.int .i64 16385)).run Try.prog w = .ok (.slice (some ⟨w.heap.size, 0, none⟩) 16385 16385) w' ∧ Below w.heap.size w w' := by
  obtain ⟨i5, hi5, hz5, hs5, hy5⟩ := info5'
  obtain ⟨w', h1, h2, h3⟩ := run_makeSlice_full (P := Try.prog) w w.heap.size 23 5 i5 (.int .u8 0) 1 Try.underlying23 hi5 hz5 hs5 .i64 .i64 16385 (by decide) (by rw [hy5]; decide) (by decide) (Nat.le_refl _)
  exact ⟨w', h1, (Below.refl _ w).grown h3 (Nat.le_refl _) (fun k hk => by simp at hk)⟩
theorem mk01 : (mk 0 0 [1]).getD 0 0 = 1 ∧ (mk 0 0 [1]).getD 4 0 = 0 := by
  constructor <;> rfl
set_option maxRecDepth 10000 in
set_option maxHeartbeats 4000000 in
theorem frameKnown_walk (w : World) : Calls Try.prog 7 #[] w fun e w' => e = .returned (.bool true) ∧ Below w.heap.size w w' := by
  go_enter Try.func7, Try.ntmps7
  go_wp2_with fail
  refine (awake_any w).mono ?_
  rintro e w1 ⟨rfl, hb1⟩
  obtain ⟨w2, hw2⟩ : ∃ w2, w2 = w1.alloc (.cells #[.int .u8 1] 5) := ⟨_, rfl⟩
  have HB2 : Hid (Below w.heap.size w w2) := by rw [hw2]; exact hb1.alloc hb1.size _
  have HR2 : Hid (Row w2 (some ⟨w1.heap.size, 0, none⟩) [1]) := by rw [hw2]; exact row_new w1 [1] (by simp) 5 (0, 0)
  have HW2 := hid hw2
  clear hw2 hb1
  go_wp2_with fail
  rw [← HW2.out]
  refine (make_any 0 0 _ [1] 1 1 w2 (by decide) (by decide) rfl (by decide) (by decide) HR2.out).mono ?_
  rintro e w3 ⟨g, cap, rfl, hm3, hb3⟩
  have HM3 := hid (hm3.low HB2.out.size)
  have HB3 := hid (HB2.out.trans (hb3.mono HB2.out.size))
  clear hm3 hb3 HB2 HR2 HW2
  go_wp2_with fail
  refine (make_no 0 0 0 0 none w3 (by decide)).mono ?_
  rintro e w4 ⟨rfl, hw4⟩
  subst hw4
  obtain ⟨w5, hw5⟩ : ∃ w5, w5 = w4.alloc (.cells #[.int .u8 1] 5) := ⟨_, rfl⟩
  have hb5 : Below w4.heap.size w4 w5 := by rw [hw5]; exact (Below.refl _ _).alloc (Nat.le_refl _) _
  have HB5 := hid (HB3.out.trans (hb5.mono HB3.out.size))
  have HM5 := hid (HM3.out.below hb5)
  have HW5 := hid hw5
  clear hw5 hb5 HB3 HM3
  go_wp2_with fail
  rw [← HW5.out]
  refine (make_no 0 1 1 (-1) _ w5 (by decide)).mono ?_
  rintro e w6 ⟨rfl, hw6⟩
  subst hw6
  obtain ⟨w7, hmk, hb7⟩ := make16385 w6
  have HB7 := hid (HB5.out.trans (hb7.mono HB5.out.size))
  have HM7 := hid (HM5.out.below hb7)
  clear hb7 HB5 HM5 HW5
  go_wp2_with fail
  refine (make_no 0 16385 16385 0 _ w7 (by decide)).mono ?_
  rintro e w8 ⟨rfl, hw8⟩
  subst hw8
  clear hmk
  go_wp2_with fail
  go_loopg [13] 17 (fun gk v13 wr => ∃ k : Nat, k + gk = 17 ∧ v13 = .int .i64 (k : Int) ∧ Mine w.heap.size wr g 17 cap (mk 0 0 [1]) ∧ Below w.heap.size w wr)
  case atStart => exact ⟨0, rfl, rfl, HM7.out, HB7.out⟩
  case round =>
    obtain ⟨k, hk, rfl, hm, hb⟩ := hrel
    have HM := hid hm
    have HB := hid hb
    have HKK := hid hk
    clear hm hb hk HM7 HB7
    by_cases h17 : k < 17
    · have hi : (k : Int) < 17 := by omega
      have hst : ∀ w, (Instr.slice 23 (.slice (some ⟨g, 0, none⟩) 17 cap) none (some (.int .i64 (k : Int))) none).run Try.prog w = .ok (.slice (some ⟨g, 0, none⟩) k cap) w := fun w => slice_to w _ 17 cap k (by have := HM.out.row.1; omega)
      have HRD : Hid (rd 0 ((mk 0 0 [1]).take k) = none) := rd_cut (by decide) k h17
      go_wp2_with fail
      refine (read_any 0 _ ((mk 0 0 [1]).take k) k cap wr (by decide) (by rw [List.length_take, HM.out.1]; omega) (by have := HM.out.row.1; omega) (row_take HM.out.row.2 k)).mono ?_
      rintro e w9 ⟨hrd, hb9⟩
      rw [HRD.out] at hrd
      obtain rfl := readen_none hrd
      have HM9 := hid (HM.out.below hb9)
      have HB9 := hid (HB.out.trans (hb9.mono HB.out.size))
      clear hrd hb9 hst
      go_wp2_with fail
      go_roundg (gk - 1)
      case measure => have := HKK.out; omega
      case rel => exact ⟨k + 1, by have := HKK.out; omega, by go_num, HM9.out, HB9.out⟩
    · have hi : ¬ (k : Int) < 17 := by omega
      obtain ⟨hob, _, _⟩ := ownB_of HM.out.1 HM.out.2.2 HM.out.2.1
      have c0 := hob.cell 0 (by rw [HM.out.1]; decide)
      have c4 := hob.cell 4 (by rw [HM.out.1]; decide)
      rw [mk01.1] at c0
      rw [mk01.2] at c4
      have HK1 := hid (size_any 0 wr)
      have HK2 := hid (size_any (-1) wr)
      have HK3 := hid (size_any 16384 wr)
      have HK4 := hid (size_any 16385 wr)
      rw [show siz 0 = 0 from rfl] at HK1
      rw [show siz (-1) = 0 from rfl] at HK2
      rw [show siz 16384 = 16400 from rfl] at HK3
      rw [show siz 16385 = 0 from rfl] at HK4
      clear hob
      go_wp2_with fail
      refine HK1.out.mono ?_
      rintro e w9 ⟨rfl, rfl⟩
      go_wp2_with fail
      refine HK2.out.mono ?_
      rintro e w9 ⟨rfl, rfl⟩
      go_wp2_with fail
      refine HK3.out.mono ?_
      rintro e w9 ⟨rfl, rfl⟩
      go_wp2_with fail
      refine HK4.out.mono ?_
      rintro e w9 ⟨rfl, rfl⟩
      go_wp2_with fail
      go_ret
      exact ⟨rfl, HB.out⟩
set_option maxRecDepth 100000 in
theorem frameKnown_lifted (os : Os) (started : os.Started) (H : Type) (enc : TypeId × Value → H) :
    ReturnsInHanded {} Try.checked os 7 .any (Rows.frameKnownSpec.pre6 enc Try.prog Try.f7 Rows.frameKnownRow.domain false) (Rows.frameKnownSpec.post enc Try.prog Try.f7 false true false false) := by
  refine returnsInHanded_of_change (C := Try.checked) own started (by kernel_rfl) Try.func7
    (ChangeSpec.witness6 (enc := enc) (C := Try.checked) false ⟨#[], #[], []⟩ 8 (by kernel_rfl) (by kernel_rfl) (by kernel_rfl) (by kernel_rfl)) ?_
  intro W base args ds gs before hval0 hW _ _
  have hW' := hW
  obtain ⟨p, q, hA0, hV, rfl, hfz, hnd⟩ := hW
  have hA : DataW.TrodAll enc Try.prog W 0 (fun _ => true) true Try.f7.params.toList args.toList ds p := hA0
  rw [Try.params7] at hA
  obtain ⟨rfl, rfl, rfl⟩ := trodAll_none hA
  obtain ⟨rfl, rfl⟩ := trodVars_none hV
  clear hA0 hval0
  refine (frameKnown_walk W).mono fun e W' ⟨he, bel⟩ => ?_
  subst he
  exact ⟨_, rfl, _, _, _, [], _, [], hW', trodAll_mk1 (shut_bool Try.underlying4 _), trodAll_mk0, rfl, bel.frame _, fun h => by cases h⟩

theorem frameKnown_over : Rows.frameKnownRow.holds Try.pinned (OpenSpec.ofChange Rows.frameKnownSpec) :=
  OpenClaim.holds_of_wide 7 Try.f7 rfl rfl rfl rfl rfl rfl rfl ⟨rfl, rfl, rfl, rfl, rfl⟩ rfl rfl rfl rfl rfl (by kernel_rfl) Try.func7 (by kernel_rfl)
    (of_decide_eq_true (by kernel_rfl)) (by unfold Func.isWrapper; first | (rw [if_pos (by decide +kernel)]; kernel_rfl) | (rw [if_neg (by decide +kernel)]; exact ⟨rfl, rfl⟩))
    (fun os started H enc _ => frameKnown_lifted os started H enc)

theorem frameKnown_holds : Rows.FrameKnownSaid := frameKnown_over
#print axioms frameKnown_holds
end Go.Proofs.Ythfpjpknmaebbaa
