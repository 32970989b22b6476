/- The document's example: 'awake' answers true in every world. No condition. -/
import Derived.Test.YtenjhmlgimnnoaaCkR
import Derived.Lib.SlBytesConst
namespace Go.Proofs.Ytenjhmlgimnnoaa
open Go.ChangeShapes Go.WideShapes Go.ChangeAt Go.RowKit
set_option maxRecDepth 4000
set_option linter.unusedVariables false
theorem put_ab : put ⟨[], 0⟩ [97, 98] = ((1, true, 0), ⟨[(1, [97, 98])], 1⟩) := by rw [put_none (by decide) (by simp [byText])]; rfl
theorem put_ab2 : put ⟨[(1, [97, 98])], 1⟩ [97, 98] = ((1, false, 0), ⟨[(1, [97, 98])], 1⟩) := by rw [put_some (n := 1) (by decide) (by simp [byText])]
theorem row_ab (w : World) : Row (w.alloc (.cells #[.int .u8 97, .int .u8 98] 5 (2, 3))) (some ⟨w.heap.size, 0, none⟩) [97, 98] := row_new w [97, 98] (by decide) 5 (2, 3)
set_option maxHeartbeats 400000 in
theorem awake_any (w : World) : Calls Try.prog 8 #[] w fun e w' => e = .returned (.bool true) ∧ Below w.heap.size w w' := by
  have kc := fun (w : World) => Lib.run_convert_bytes_const (P := Try.prog) w 27 5 #[.int .u8 97, .int .u8 98] 2 2 Try.underlying27 Try.underlying5
  simp only [List.size_toArray, List.length_cons, List.length_nil] at kc
  have h0 := hid (CkAt.new w.heap.size w)
  have hb0 := hid ((Below.refl w.heap.size w).alloc (Nat.le_refl _) (.cells #[.map none, .map none, .int .i64 0] 55))
  go_enter Try.func8, Try.ntmps8
  go_wp2_with fail
  refine new_any.mono ?_
  rintro e w1 ⟨rfl, rfl⟩
  generalize w.alloc (.cells #[.map none, .map none, .int .i64 0] 55) = w1 at *
  go_wp2_with fail
  have hb1 : Below w1.heap.size w1 (w1.alloc (.cells #[.int .u8 97, .int .u8 98] 5 (2, 3))) := (Below.refl _ w1).alloc (Nat.le_refl _) _
  have k1 := put_any (h0.out.below hb1) _ [97, 98] 2 2 rfl (row_ab w1) (by decide) (by decide) (Nat.le_trans hb0.out.size hb1.size)
  rw [put_ab] at k1
  have HB1 := hid (hb0.out.trans (hb1.mono hb0.out.size))
  have K1 := hid k1
  clear k1 hb1
  refine K1.out.mono ?_
  rintro e w2 ⟨rfl, h2, hc2⟩
  have H2 := hid h2
  have HB2 := hid (HB1.out.trans (hc2.below (Nat.le_refl _) (Nat.le_refl _) HB1.out.size))
  clear h2 hc2 K1
  go_wp2_with fail
  have hb3 : Below w2.heap.size w2 (w2.alloc (.cells #[.int .u8 97, .int .u8 98] 5 (2, 3))) := (Below.refl _ w2).alloc (Nat.le_refl _) _
  have k3 := put_any (H2.out.below hb3) _ [97, 98] 2 2 rfl (row_ab w2) (by decide) (by decide) (Nat.le_trans HB2.out.size hb3.size)
  rw [put_ab2] at k3
  have HB3 := hid (HB2.out.trans (hb3.mono HB2.out.size))
  have K3 := hid k3
  clear k3 hb3
  refine K3.out.mono ?_
  rintro e w4 ⟨rfl, h4, hc4⟩
  have H4 := hid h4
  have HB4 := hid (HB3.out.trans (hc4.below (Nat.le_refl _) (Nat.le_refl _) HB3.out.size))
  clear h4 hc4 K3
  go_wp2_with fail
  refine (size_any H4.out (by decide)).mono ?_
  rintro e w5 ⟨rfl, hb5⟩
  have H5 := hid (H4.out.below hb5)
  have HB5 := hid (HB4.out.trans (hb5.mono HB4.out.size))
  clear hb5
  go_wp2_with fail
  refine (next_any H5.out (by decide)).mono ?_
  rintro e w6 ⟨rfl, rfl⟩
  go_wp2_with fail
  go_ret
  exact ⟨rfl, HB5.out⟩
end Go.Proofs.Ytenjhmlgimnnoaa
